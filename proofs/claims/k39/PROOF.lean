import PyProof.Rows.All
import Wide.All
import OpenK.AllK
import Wide.FinOn
import Lean
import PyProof.EqAt
import PyProof.EqKinds
import PyProof.TupleCall
import PySem.Challenge.RW_noteworth_k39_terms_of_canons
set_option Elab.async false
set_option linter.all false
set_option maxRecDepth 100000
open PySem.W (Frag OpenLaw WalkO callWith_K callWith_K0 codeIn emptyDict excIn exmOne exm_one findIn fnOf handedIn hasDictIn hideAll hideAll_get hideAll_none instObj isFn keepIn kia_one kitOne kitx_dict kitx_list lookIn makesIn methodCall_KW methodObj mg_none_of mg_of mroIn nsIn of_hideAll plainGet plainGet_of plainOver specialIn takerIn)
open List (length_map length_append length_take length_drop mem_append mem_singleton mem_cons_self mem_cons_of_mem mem_append_left mem_append_right mem_of_getElem? size_toArray take_length getElem?_map map_append map_cons length_cons take_succ getElem?_eq_getElem mem_map any_eq_true all_eq_true getElem?_drop append_nil nil_append getElem?_of_mem)
open PySem.F (args_dict_get_3 entry_dict_get entry_zip_next plainAttrs_dict plainAttrs_list slot_dict_get slot_dict_pop slot_enumerate_next slot_list_pop slot_zip_next type_dict_get type_list_pop)
local macro_rules | `(tactic| lk) => `(tactic| decide +kernel)
local macro_rules | `(tactic| z_go) => `(tactic| first | (exact fun _ _ _ _ _ _ us hl => match us, hl with | [_], _ => rfl) | (exact fun _ _ _ _ _ _ us hl => match us, hl with | [_, _], _ => rfl) | (exact fun _ _ _ _ _ _ us hl => match us, hl with | [_, _, _], _ => rfl) | (exact fun _ _ _ _ _ _ us hl => match us, hl with | [_, _, _, _], _ => rfl) | (exact fun _ _ _ _ _ _ us hl => match us, hl with | [_, _, _, _, _], _ => rfl) | (exact fun _ _ _ _ _ _ us hl => match us, hl with | [_, _, _, _, _, _], _ => rfl))
namespace L2
open PySem PySem.Spec PyProof.Rows
abbrev Key:=Sum Int Str
def Kk:Key->Value->Bool
 |.inl k,v=>Value.isInt k v
 |.inr x,v=>Value.isStrOf x v
def ajz (w:World):Key->Int
 |.inl k=>hashInt k
 |.inr x=>hashStr w x
theorem eF:∀{k:Key} {v:Value},Kk k v=true->(∃ i t,k=Sum.inl i/\v=Value.int i t)\/(∃ x t,k=Sum.inr x/\v=Value.str x t)
 |.inl i,v,h=>by
  obtain⟨t,e⟩:=Value.isInt_shape (k:=i) (v:=v) h;exact .inl ⟨i,t,rfl,e⟩
 |.inr x,v,h=>by
  obtain⟨t,e⟩:=Value.isStrOf_shape (x:=x) (v:=v) h;exact .inr ⟨x,t,rfl,e⟩
theorem YT (i:Int)(t:Tok):Kk (.inl i) (.int i t)=true:=by simp[Kk,Value.isInt]
theorem YU (x:Str)(t:Tok):Kk (.inr x) (.str x t)=true:=by simp[Kk,Value.isStrOf]
theorem afs (a b:Int):decide ((Sum.inl a:Key)=Sum.inl b)=(a==b):=by
 by_cases e:a=b
 ·subst e;simp
 ·have h:¬(Sum.inl a:Key)=Sum.inl b:=fun q=>e (Sum.inl.inj q);rw[decide_eq_false h];exact(beq_eq_false_iff_ne.mpr e).symm
theorem aft (a b:Str):decide ((Sum.inr a:Key)=Sum.inr b)=decide (a=b):=by
 by_cases e:a=b
 ·subst e;simp
 ·have h:¬(Sum.inr a:Key)=Sum.inr b:=fun q=>e (Sum.inr.inj q);rw[decide_eq_false h,decide_eq_false e]
theorem afu (a:Int)(b:Str):decide ((Sum.inl a:Key)=Sum.inr b)=false:=decide_eq_false (fun q=>nomatch q)
theorem afv (a:Str)(b:Int):decide ((Sum.inr a:Key)=Sum.inl b)=false:=decide_eq_false (fun q=>nomatch q)
def b8 (prog:Program)(w:World):PySem.KeyKind prog w Key where
 is:=Kk
 hash:=ajz w
 inj:=fun v a b ha hb=>by
  rcases eF ha with ⟨i,t,rfl,rfl⟩|⟨x,t,rfl,rfl⟩
  ·rcases eF hb with ⟨j,u,rfl,e⟩|⟨y,u,rfl,e⟩
   ·injection e with e1 _;rw[e1]
   ·exact nomatch e
  ·rcases eF hb with ⟨j,u,rfl,e⟩|⟨y,u,rfl,e⟩
   ·exact nomatch e
   ·injection e with e1 _;rw[e1]
 byValue:=fun k v h=>by
  rcases eF h with ⟨i,t,rfl,rfl⟩|⟨x,t,rfl,rfl⟩ <;> rfl
 pyHash:=fun hv h=>by
  rcases eF hv with ⟨i,t,rfl,rfl⟩|⟨x,t,rfl,rfl⟩
  ·exact wpAny_pyHash_int h
  ·exact wpAny_pyHash_str h
 eqBool:=fun hu hv h=>by
  rcases eF hu with ⟨i,t,rfl,rfl⟩|⟨x,t,rfl,rfl⟩
  ·rcases eF hv with ⟨j,u,rfl,rfl⟩|⟨y,u,rfl,rfl⟩
   ·rw[afs]at h;exact wpAny_eqBool_int h
   ·rw[afu]at h;exact SeqAt.EqAt.int_str i t y u _ _ _ _ h
  ·rcases eF hv with ⟨j,u,rfl,rfl⟩|⟨y,u,rfl,rfl⟩
   ·rw[afv]at h;exact SeqAt.EqAt.str_int x t j u _ _ _ _ h
   ·rw[aft]at h;exact wpAny_eqBool_str h
 «strs»:=fun k x t v h=>by
  rcases eF h with ⟨i,u,rfl,e⟩|⟨y,u,rfl,e⟩
  ·exact nomatch e
  ·injection e with e1 _
   subst e1;cases v <;> rfl
theorem R0 (prog:Program)(w:World)(i:Int)(t:Tok):(b8 prog w).is (.inl i) (.int i t)=true:=YT i t
theorem kI (prog:Program)(w:World)(x:Str)(t:Tok):(b8 prog w).is (.inr x) (.str x t)=true:=YU x t
end L2
namespace L2
open PySem PySem.Spec PyProof.Rows
inductive V where
 |non|bl (b:Bool)|int (i:Int)|str (x:Str)|byt (b:Array UInt8)|flt (b:UInt64)|ref (a:Addr)|ty (n:String)
 deriving DecidableEq
def RelV:V->Value->Prop
 |.non,u=>u=Value.none
 |.bl b,u=>u=Value.bool b
 |.int i,u=>∃ t,u=Value.int i t
 |.str x,u=>∃ t,u=Value.str x t
 |.byt b,u=>∃ t,u=Value.bytes b t
 |.flt b,u=>∃ t,u=Value.float b t
 |.ref a,u=>u=Value.ref a
 |.ty n,u=>u=Value.type n
abbrev Vals:List V->List Value->Prop:=Paired RelV
theorem Vals.length {xs:List V}{us:List Value}(r:Vals xs us):xs.length=us.length:=Paired.length r
theorem Vals.get:∀{xs:List V} {us:List Value} {i:Nat} {x:V},Vals xs us->xs[i]? = some x->∃ u,us[i]? = some u/\RelV x u
 |_,_,_,_,.nil,e=>by simp at e
 |_,_,0,_,.cons r _,e=>by simp at e;subst e;exact⟨_,rfl,r⟩
 |_,_,i+1,x,.cons _ t,e=>by
  obtain⟨u,h1,h2⟩:=Vals.get (i:=i) (x:=x) t (by simpa using e);exact⟨u,by simpa using h1,h2⟩
theorem Vals.set {x:V}{u:Value}(r:RelV x u):∀{xs:List V} {us:List Value} (i:Nat),Vals xs us->Vals (xs.set i x) (us.set i u)
 |_,_,_,.nil=>.nil
 |_,_,0,.cons _ t=>.cons r t
 |_,_,i+1,.cons q t=>.cons q (Vals.set r i t)
theorem Vals.append:∀{xs ys:List V} {us ws:List Value},Vals xs us->Vals ys ws->Vals (xs++ys) (us++ws)
 |_,_,_,_,.nil,s=>s
 |_,_,_,_,.cons r t,s=>.cons r (Vals.append t s)
theorem Vals.take:∀{xs:List V} {us:List Value} (n:Nat),Vals xs us->Vals (xs.take n) (us.take n)
 |_,_,0,_=>.nil
 |_,_,_+1,.nil=>.nil
 |_,_,n+1,.cons r t=>.cons r (Vals.take n t)
theorem Vals.drop:∀{xs:List V} {us:List Value} (n:Nat),Vals xs us->Vals (xs.drop n) (us.drop n)
 |_,_,0,r=>r
 |_,_,_+1,.nil=>.nil
 |_,_,n+1,.cons _ t=>Vals.drop n t
def o8:Option V->Option Value->Prop
 |some v,some u=>RelV v u
 |none,none=>True
 |_,_=>False
def KV {κ:Type}:List (κ×V)->List (κ×Value)->Prop:=Paired fun(p:κ×V)(q:κ×Value)=>p.1=q.1/\RelV p.2 q.2
def kV:Key->V
 |.inl i=>.int i
 |.inr x=>.str x
inductive HO where
 /-- a list -/
 |lst (xs:List V)
 /-- a tuple (never changes) -/
 |tup (xs:List V)
 /-- a dict whose keys are ints and texts;one whose keys are tuples of ints and texts (the empty one is both) -/
 |dK (kvs:List (Key×V))|dT (kvs:List (List Key×V))
 /-- a set of ints: its members,its size -/
 |set (S:Int->Bool) (n:Nat)
 /-- an instance of the class at C,its dict at dx,its attributes -/
 |ins (C dx:Addr) (fs:List (Str×V))
 /-- the dict of the instance at x -/
 |own (x:Addr)
 /-- the dict of an exception -/
 |xd (fs:List (Str×V))
 /-- a bound method,f of x -/
 |met (f x:Addr)
 /-- a range object lo,lo+1,.. below hi -/
 |rng (lo hi:Int)
 /-- a thing that is known to the object (the script;a dict while a loop walks it): read,never written while it is so -/
 |X8 (o:Obj) (u:HO)
 /-- a code object's table -/
 |tbl (ps:Array Value)
 /-- any other thing,by what is true of its one object (a def of one's own: ama a S n:=HO.ext fun h=>..) -/
 |ext (φ:Heap->Prop)
abbrev Hp:=Addr->Option HO
def upd (H:Hp)(a:Addr)(o:HO):Hp:=fun b=>if b=a then some o else H b
theorem af {H:Hp}{a:Addr}{o:HO}:upd H a o a=some o:=by unfold upd;rw[if_pos rfl]
theorem ak {H:Hp}{a b:Addr}{o:HO}(h:b≠a):upd H a o b=H b:=by unfold upd;rw[if_neg h]
theorem dP {H:Hp}{a:Addr}{o u:HO}:upd (upd H a o) a u=upd H a u:=by
 funext b;unfold upd;split <;> rfl
theorem jS {H:Hp}{a b:Addr}{o u:HO}(h:H a=some o)(h':H b=some u)(d:o≠u):a≠b:=by
 intro e;subst e;rw[h]at h';exact d (Option.some.inj h')
theorem ao {H:Hp}{a b:Addr}{o:HO}(h:H a=some o)(h':H b=none):a≠b:=by
 intro e;subst e;rw[h]at h';cases h'
section
variable (P:Program) (w:World)
def gO (H:Hp)(h:Heap)(a:Addr):HO->Prop
 |.lst xs=>xs.length<=sizeLine/\∃(its:List Value)(n:Nat),Vals xs its/\h.get? a=some { cls:=.type "list",data:=.seq its.toArray n }
 |.tup xs=>xs.length<=sizeLine/\∃ its:List Value,Vals xs its/\IsTup h a its.toArray
 |.dK kvs=>kvs.length<=sizeLine/\(a==sysModules)=false/\∃ vs,KV kvs vs/\h.DictOf (b8 P w) a vs
 |.dT kvs=>kvs.length<=sizeLine/\(a==sysModules)=false/\∃ xs:List (List Key×Addr×Value),
   Paired (fun(p:List Key×V)(q:List Key×Addr×Value)=>p.1=q.1/\H q.2.1=some (.tup (p.1.map kV))/\RelV p.2 q.2.2) kvs xs /\
   ∃ o es ep,h.get? a=some o/\o.ExactDict/\o.data=.dict es ep/\es.toList=xs.map (entryOfKey (tupleKind (b8 P w)))/\(xs.map (·.1)).Nodup
 |.set S n=>h.SetOf (intKind P w) a S n
 |.ins C dx fs=>H dx=some (.own a)/\fs.length<=1000/\dx≠a/\h.get? a=some (instObj C dx) /\
   ∃ mA,h.Ns1 dx mA/\(∀ f,o8 (fs.lookup f) (mA f))/\PySem.Within mA (fs.map (·.1))
 |.own _=>∃ o,h.get? a=some o
 |.xd fs=>∃ mA,h.Ns1 a mA/\∀ f,o8 (fs.lookup f) (mA f)
 |.rng lo hi=>∃ t u v,h.get? a=some { cls:=.type "range",data:=.fields #[.int lo t,.int hi u,.int 1 v] }
 |.X8 o u=>h.get? a=some o/\gO H h a u
 |.tbl ps=>h.get? a=some { cls:=.none,data:=.fields ps }
 |.met f x=>h.get? a=some (methodObj (.ref f) (.ref x))
 |.ext φ=>φ h/\(∃ o,h.get? a=some o)/\∀ h1 h2:Heap,φ h1->(∀ o,h1.get? a=some o->h2.get? a=some o)->φ h2
def xm (H:Hp)(h:Heap):Prop:=∀ a o,H a=some o->gO P w H h a o
end
section
variable {P:Program} {w:World} {H H':Hp} {h h':Heap} {a:Addr} {o:HO}
theorem gO.lt (x:gO P w H h a o):a<h.objs.size:=by
 cases o with
 |lst xs=>obtain⟨_,_,_,_,e⟩:=x;exact Heap.lt_size e
 |tup xs=>obtain⟨_,_,_,p⟩:=x;exact p.lt
 |dK kvs=>obtain⟨_,_,_,_,o,_,_,e,_⟩:=x;exact Heap.lt_size e
 |dT kvs=>obtain⟨_,_,_,_,o,_,_,e,_⟩:=x;exact Heap.lt_size e
 |set S n=>obtain⟨o,_,_,_,e,_⟩:=x;exact Heap.lt_size e
 |ins C dx fs=>obtain⟨_,_,_,e,_⟩:=x;exact Heap.lt_size e
 |own y=>obtain⟨_,e⟩:=x;exact Heap.lt_size e
 |xd fs=>obtain⟨_,⟨_,_,_,e,_⟩,_⟩:=x;exact Heap.lt_size e
 |rng lo hi=>obtain⟨_,_,_,e⟩:=x;exact Heap.lt_size e
 |X8 ob u=>obtain⟨e,_⟩:=x;exact Heap.lt_size e
 |tbl ps=>exact Heap.lt_size (show h.get? a=some _ from x)
 |met f y=>exact Heap.lt_size (show h.get? a=some _ from x)
 |ext φ=>obtain⟨_,⟨_,e⟩,_⟩:=x;exact Heap.lt_size e
theorem Paired.afx {α β:Type}{F G:α->β->Prop}:∀{l₁:List α} {l₂:List β},Paired F l₁ l₂->(∀ a b,F a b->G a b)->Paired G l₁ l₂
 |_,_,.nil,_=>.nil
 |_,_,.cons r t,f=>.cons (f _ _ r) (Paired.afx t f)
theorem gO.stay (x:gO P w H h a o)(k:∀ b u,(b=a\/H b=some (.own a))->h.get? b=some u->h'.get? b=some u)
  (ho:∀ b,H b=some (.own a)->H' b=some (.own a)) (ht:∀ b xs,H b=some (.tup xs)->H' b=some (.tup xs)):gO P w H' h' a o:=by
 induction o with
 |lst xs=>obtain⟨z,its,n,r,e⟩:=x;exact⟨z,its,n,r,k _ _ (.inl rfl) e⟩
 |tup xs=>obtain⟨z,its,r,ob,e,c⟩:=x;exact⟨z,its,r,ob,k _ _ (.inl rfl) e,c⟩
 |dK kvs=>obtain⟨z,y,vs,r,ob,es,ep,e,c⟩:=x;exact⟨z,y,vs,r,ob,es,ep,k _ _ (.inl rfl) e,c⟩
 |dT kvs =>
  obtain⟨z,y,xs,r,ob,es,ep,e,c⟩:=x;exact⟨z,y,xs,Paired.afx r fun p q z=>⟨z.1,ht _ _ z.2.1,z.2.2⟩,ob,es,ep,k _ _ (.inl rfl) e,c⟩
 |set S n=>obtain⟨ob,es,ep,t,e,c⟩:=x;exact⟨ob,es,ep,t,k _ _ (.inl rfl) e,c⟩
 |ins C dx fs =>
  obtain⟨d,z,ne,e,mA,⟨od,es,ep,e2,c⟩,r⟩:=x;exact⟨ho _ d,z,ne,k _ _ (.inl rfl) e,mA,⟨od,es,ep,k _ _ (.inr d) e2,c⟩,r⟩
 |own y=>obtain⟨ob,e⟩:=x;exact⟨ob,k _ _ (.inl rfl) e⟩
 |xd fs=>obtain⟨mA,⟨od,es,ep,e,c⟩,r⟩:=x;exact⟨mA,⟨od,es,ep,k _ _ (.inl rfl) e,c⟩,r⟩
 |rng lo hi=>obtain⟨t,u,v,e⟩:=x;exact⟨t,u,v,k _ _ (.inl rfl) e⟩
 |X8 ob u ih=>obtain⟨e,q⟩:=x;exact⟨k _ _ (.inl rfl) e,ih q⟩
 |tbl ps =>
  have e:h.get? a=some { cls:=.none,data:=.fields ps }:=x;show h'.get? a=some { cls:=.none,data:=.fields ps };exact k a _ (.inl rfl) e
 |met f y =>
  have e:h.get? a=some (methodObj (.ref f) (.ref y)):=x;show h'.get? a=some (methodObj (.ref f) (.ref y));exact k a _ (.inl rfl) e
 |ext φ=>obtain⟨p,⟨o,e⟩,st⟩:=x;exact⟨st _ _ p fun o q=>k _ _ (.inl rfl) q,⟨o,k _ _ (.inl rfl) e⟩,st⟩
theorem xm.lt (x:xm P w H h)(e:H a=some o):a<h.objs.size:=(x a o e).lt
theorem xm.fresh (x:xm P w H h)(e:h.objs.size<=a):H a=none:=by
 cases q:H a with
 |none=>rfl
 |some u=>exact absurd (Nat.lt_of_lt_of_le (x.lt q) e) (Nat.lt_irrefl _)
theorem xm.kept (x:xm P w H h)(k:∀ b u,h.get? b=some u->h'.get? b=some u):xm P w H h':=fun a o e =>
 (x a o e).stay (fun b u _ q=>k b u q) (fun _ q=>q) fun _ _ q=>q
theorem xm.laid (x:xm P w H h)(k:∀ b u,h.get? b=some u->h'.get? b=some u)(hp:h.objs.size<=a)(new:gO P w (upd H a o) h' a o):xm P w (upd H a o) h':=fun b u e=>by
 have hn:=x.fresh hp
 by_cases hb:b=a
 ·subst hb;rw[af]at e;cases e;exact new
 ·rw[ak hb]at e;exact(x b u e).stay (fun c v _ q=>k c v q) (fun c q=>by rw[ak (ao q hn)];exact q) fun c xs q=>by rw[ak (ao q hn)];exact q
end
def Rd (H:Hp)(a:Addr)(u:HO):Prop:=H a=some u\/∃ o,H a=some (.X8 o u)
theorem Rd.ok {P:Program}{w:World}{H:Hp}{h:Heap}{a:Addr}{u:HO}(r:Rd H a u)(x:xm P w H h):gO P w H h a u:=by
 rcases r with r|⟨o,r⟩
 ·exact x a u r
 ·obtain⟨_,q⟩:=x a _ r;exact q
def Mut:Option HO->Prop
 |some (.lst _)=>True
 |some (.dK _)=>True
 |some (.dT _)=>True
 |some (.set _ _)=>True
 |some (.ins _ _ _)=>True
 |some (.ext _)=>True
 |_=>False
section
variable {P:Program} {w:World} {H:Hp} {h h':Heap} {x e:Addr} {o':HO}
theorem xm.write (ok:xm P w H h)(mu:Mut (H x))(he:e=x\/H e=some (.own x))(k:∀ b u,b≠e->h.get? b=some u->h'.get? b=some u)(heo:∃ u,h'.get? e=some u)
  (new:gO P w (upd H x o') h' x o'):xm P w (upd H x o') h':=fun b u q=>by
 have aho:∀ c y,H c=some (.own y)->c≠x:=fun c y r z=>by subst z;rw[r]at mu;exact mu
 have ajB:∀ c xs,H c=some (.tup xs)->c≠x:=fun c xs r z=>by subst z;rw[r]at mu;exact mu
 by_cases hb:b=x
 ·subst hb;rw[af]at q;cases q;exact new
 ·rw[ak hb]at q
  by_cases hbe:b=e
  ·have q':H b=some (.own x):=by
    rcases he with z|z
    ·exact absurd (hbe.trans z) hb
    ·rw[hbe];exact z
   rw[q]at q';cases q';obtain⟨v,hv⟩:=heo;exact⟨v,by rw[hbe];exact hv⟩
  ·refine(ok b u q).stay (fun c v hc r=>k c v ?_ r) (fun c r=>by rw[ak (aho c b r)];exact r) fun c xs r=>by rw[ak (ajB c xs r)];exact r
   rcases hc with rfl|hc
   ·exact hbe
   ·rintro rfl;rcases he with z|z
    ·exact aho c b hc z
    ·rw[hc]at z;cases z;exact hb rfl
end
structure Un (fs ex:List Addr)(H H':Hp)(h h':Heap):Prop where
 keep:∀ b o,h.get? b=some o->H b=none->b ∉ fs->b ∉ ex->h'.get? b=some o
 slot:∀ b o,h.get? b=some o->H b=none->b∈fs->b ∉ ex->∃ sl,h'.get? b=some { o with slots:=sl }
 free:∀ b o,h.get? b=some o->H b=none->b ∉ ex->H' b=none
 there:∀ b o,h.get? b=some o->b ∉ ex->∃ o',h'.get? b=some o'
 tups:∀ b xs,H b=some (.tup xs)->H' b=some (.tup xs)
 Kl:∀ b o u,H b=some (.X8 o u)->H' b=some (.X8 o u)
 M9:∀ b ps,H b=some (.tbl ps)->∃ more,H' b=some (.tbl (ps++more))
section
variable {fs fs' ex ex':List Addr} {H H1 H2:Hp} {h h1 h2 h':Heap} {a x e:Addr} {o:HO}
theorem Un.any (u:Un fs ex H H1 h h1){b:Addr}{ob:Obj}(q:h.get? b=some ob)(n:H b=none)(hx:b ∉ ex):∃ sl,h1.get? b=some { ob with slots:=sl }:=by
 by_cases hb:b∈fs
 ·exact u.slot b ob q n hb hx
 ·exact⟨ob.slots,u.keep b ob q n hb hx⟩
theorem Un.kept (k:∀ b u,h.get? b=some u->h'.get? b=some u):Un fs ex H H h h' :=
 ⟨fun b ob q _ _ _=>k b ob q,fun b ob q _ _ _=>⟨ob.slots,k b ob q⟩,fun _ _ _ n _=>n,fun b ob q _=>⟨ob,k b ob q⟩,fun _ _ q=>q,fun _ _ _ q=>q,fun _ ps q=>⟨#[],by rw[q];simp⟩⟩
theorem Un.refl:Un fs ex H H h h:=Un.kept fun _ _ q=>q
theorem Un.laid (k:∀ b u,h.get? b=some u->h'.get? b=some u)(hp:h.objs.size<=a)(hn:H a=none):Un fs ex H (upd H a o) h h' where
 keep:=fun b u q _ _ _=>k b u q
 slot:=fun b u q _ _ _=>⟨u.slots,k b u q⟩
 free:=fun b u q n _=>by rw[ak (Nat.ne_of_lt (Nat.lt_of_lt_of_le (Heap.lt_size q) hp))];exact n
 there:=fun b u q _=>⟨u,k b u q⟩
 tups:=fun b xs q=>by rw[ak (ao q hn)];exact q
 Kl:=fun b u xs q=>by rw[ak (ao q hn)];exact q
 M9:=fun b ps q=>⟨#[],by rw[ak (ao q hn),q];simp⟩
theorem Un.write (mu:Mut (H x))(he:e=x\/H e=some (.own x))(k:∀ b u,b≠e->h.get? b=some u->h'.get? b=some u)(heo:∃ u,h'.get? e=some u):Un fs ex H (upd H x o) h h':=by
 have hx:∀ b,H b=none->b≠x:=fun b n z=>by subst z;rw[n]at mu;exact mu
 have hb:∀ b,H b=none->b≠e:=fun b n z=>by
  subst z;rcases he with r|r
  ·exact hx b n r
  ·rw[n]at r;cases r
 have hm:∀ b u,H b=some u->¬ Mut (some u)->b≠x:=fun b u q nm z=>by subst z;rw[q]at mu;exact nm mu
 refine⟨fun b u q n _ _=>k b u (hb b n) q,fun b u q n _ _=>⟨u.slots,k b u (hb b n) q⟩,fun b u q n _=>by rw[ak (hx b n)];exact n,fun b u q _=>?_,
  fun b xs q=>by rw[ak (hm b _ q fun z=>z)];exact q,fun b u xs q=>by rw[ak (hm b _ q fun z=>z)];exact q,fun b ps q=>⟨#[],by rw[ak (hm b _ q fun z=>z),q];simp⟩⟩
 by_cases hbe:b=e
 ·subst hbe;exact heo
 ·exact⟨u,k b u hbe q⟩
end
def trk (h:Heap)(H:Hp):List Addr:=(List.range h.objs.size).filter fun a=>(H a).isSome
def OH (h:Heap)(H:Hp):Heap:=hideAll h (trk h H)
theorem YV (h:Heap)(H:Hp):(OH h H).objs.size=h.objs.size:=PySem.W.hideAll_size _ _
theorem aaE {h:Heap}{H:Hp}{b:Addr}{o:Obj}(e:h.get? b=some o)(n:H b=none):(OH h H).get? b=some o :=
 hideAll_get _ e fun hm=>by
  have q:(H b).isSome=true:=(List.mem_filter.mp hm).2;rw[n]at q;simp at q
theorem adh {h:Heap}{H:Hp}{b:Addr}{o:Obj}(e:(OH h H).get? b=some o):h.get? b=some o/\H b=none:=by
 have e':h.get? b=some o:=of_hideAll (trk h H) e;refine⟨e',?_⟩;cases q:H b with
 |none=>rfl
 |some x =>
  have hm:b∈trk h H:=List.mem_filter.mpr ⟨List.mem_range.mpr (Heap.lt_size e'),by simp[q]⟩;have z:(OH h H).get? b=none:=hideAll_none (trk h H) hm;rw[z]at e;cases e
def adi (g h:Heap)(L:Addr):List (Addr×Obj):=(List.range h.objs.size).filterMap fun a=>if a=L\/(g.get? a).isSome=true then none else(h.get? a).map fun o=>(a,o)
def rest (g h:Heap)(L d:Addr):List (Addr×Obj):=(adi g h L).filter fun p=>decide (p.1≠d)
end L2
namespace L2
open PySem PySem.Spec PyProof.Rows
structure Mod (K:Frag)(mg:Str->Option Value)(base:Heap):Prop where
 kin:K.In base
 glob:base.Ns mainGlobals mg
 blt:∃ mb,base.Ns builtinsNs mb/\∀ x:Str,x ≠ "__name__"->mb x=bootBuiltins x
 nolimit:base.NoLimit
structure Cx where
 prog:Program
 w:World
 K:Frag
 mg:Str->Option Value
 base:Heap
 A:Around
 N:List Str
 s₀:Shared
 H₀:Hp
 env:Env
 outer:List Env
 stack:List Env
 ex:List Addr
 fn:Str->Bool
 calm:Bool
 pn:List (Addr×Obj)
 xe:Value->Shared->Prop
def frs (l:List Env):List Addr:=l.filterMap (·.frame)
abbrev Cx.fs (X:Cx):List Addr:=frs X.outer
def Vis (sc:Scope)(x:Str):Prop:=sc.names.lookup x=some .local\/sc.names.lookup x=some .cell\/sc.names.lookup x=some .free
def Loc (sc:Scope)(x:Str):Prop:=sc.names.lookup x=some .local\/sc.names.lookup x=some .cell
def Look (env:Env)(h:Heap)(m:Str->Option Value)(x:Str)(u:Value):Prop :=
 (env.kindOf x=some .local/\m x=some u)\/((env.kindOf x=some .cell\/env.kindOf x=some .free)/\∃ c,env.cells.lookup x=some c/\h.IsCell c (some u))
structure Cx.Ok (X:Cx):Prop where
 mod:Mod X.K X.mg X.base
 kind:X.env.scope.kind=.function
 glob:X.env.globals=mainGlobals
 blt:X.env.builtins=builtinsNs
 above:X.s₀.heap.objs.size<=X.env.locals
 inj:∀ x y c,X.env.cells.lookup x=some c->X.env.cells.lookup y=some c->x=y
 has:∀ x,(X.env.kindOf x=some .cell\/X.env.kindOf x=some .free)->∃ c,X.env.cells.lookup x=some c
 cab:∀ x c,X.fn x=true->X.env.cells.lookup x=some c->X.s₀.heap.objs.size<=c
 hd:X.calm=true->X.A.handled=none
 frames:X.A.frames=some X.stack
 stk:X.stack=X.outer\/(X.stack=X.env::X.outer/\X.env.frame=some X.env.locals)
 exf:∀ b∈X.ex,b≠X.env.locals/\∀ x c,X.env.cells.lookup x=some c->c≠b
 bs:∀ b o,X.base.get? b=some o->X.s₀.heap.get? b=some o/\X.H₀ b=none
 bsz:X.base.objs.size<=X.s₀.heap.objs.size
 UN:∀ b o,X.base.get? b=some o->b ∉ X.ex
 UO:∀ b∈X.ex,b ∉ X.fs
 C1:X.s₀.heap.FunFrames X.base X.outer
 frf:∀ b∈X.fs,X.H₀ b=none
structure Inv (X:Cx)(pins:List (Addr×Obj))(σ:List (Option V))(H:Hp)(s:Shared):Prop where
 ok:X.Ok
 os:s.os=X.s₀.os
 bare:AllBare s.gens
 base:Un X.fs X.ex X.H₀ H X.s₀.heap s.heap
 loc:∃ m,s.heap.Ns X.env.locals m/\∀(i:Nat)(x:Str)(v:V),X.N[i]? = some x->σ[i]? = some (some v)->Vis X.env.scope x->∃ u,RelV v u/\Look X.env s.heap m x u
 cell:∀ x c,X.env.cells.lookup x=some c->∃ v,s.heap.IsCell c v
 free:H X.env.locals=none
 si:∀ x c,X.env.cells.lookup x=some c->H c=none
 pin:∀ p∈X.pn++pins,s.heap.get? p.1=some p.2/\H p.1=none/\p.1≠X.env.locals/\p.1 ∉ X.fs/\∀ v,p.2.data≠.cell v
 hok:xm X.prog X.w H s.heap
 len:σ.length=X.N.length
section
variable {X:Cx} {pins:List (Addr×Obj)} {σ:List (Option V)} {H H':Hp} {s:Shared} {h':Heap}
theorem Cx.Ok.ajC (ok:X.Ok){b:Addr}{o:Obj}(e:X.base.get? b=some o):b ∉ X.fs:=fun hb=>by
 have:=(ok.C1.mem hb).1;rw[e]at this;cases this
theorem Inv.bs (I:Inv X pins σ H s):∀ b o,X.base.get? b=some o->s.heap.get? b=some o/\H b=none:=fun b o e =>
 ⟨I.base.keep b o (I.ok.bs b o e).1 (I.ok.bs b o e).2 (I.ok.ajC e) (I.ok.UN b o e),I.base.free b o (I.ok.bs b o e).1 (I.ok.bs b o e).2 (I.ok.UN b o e)⟩
theorem Inv.bk (I:Inv X pins σ H s):∀ b o,X.base.get? b=some o->s.heap.get? b=some o:=fun b o e=>(I.bs b o e).1
theorem Inv.mod (I:Inv X pins σ H s):Mod X.K X.mg X.base:=I.ok.mod
theorem Inv.xj (I:Inv X pins σ H s):X.K.In s.heap:=I.ok.mod.kin.keeps I.bk
theorem Inv.lt (I:Inv X pins σ H s):X.env.locals<s.heap.objs.size:=let ⟨_,hn,_⟩:=I.loc;hn.lt
theorem Inv.sz (I:Inv X pins σ H s):X.s₀.heap.objs.size<=s.heap.objs.size:=Nat.le_trans I.ok.above (Nat.le_of_lt I.lt)
theorem Inv.ajD (I:Inv X pins σ H s){a:Addr}(h:s.heap.objs.size<=a):a ∉ X.fs:=fun hb=>by
 obtain⟨_,o,ho,_⟩:=I.ok.C1.mem hb;exact absurd (Nat.lt_of_lt_of_le (Heap.lt_size ho) (Nat.le_trans I.sz h)) (Nat.lt_irrefl _)
theorem Inv.cne (I:Inv X pins σ H s):∀ x c,X.env.cells.lookup x=some c->c≠X.env.locals:=fun x c e z=>by
 obtain⟨v,o,ho,hd⟩:=I.cell x c e;obtain⟨m,⟨o',es,ep,ho',hd',_⟩,_⟩:=I.loc;rw[z,ho']at ho;cases ho;rw[hd']at hd;cases hd
theorem Inv.C1 (I:Inv X pins σ H s):s.heap.FunFrames X.base X.outer:=by
 have all:∀(l:List Env),(∀ b∈frs l,b∈X.fs)->X.s₀.heap.FunFrames X.base l->s.heap.FunFrames X.base l:=by
  intro l
  induction l with
  |nil=>intro _ _;trivial
  |cons env r ih =>
   intro hs hl;obtain⟨hk,⟨L,o,hf,hn,ho,hd⟩,hr⟩:=hl;have hL:L∈X.fs:=hs L (by unfold frs;rw[List.filterMap_cons,hf];exact mem_cons_self);obtain⟨sl,e⟩:=I.base.slot L o ho (I.ok.frf L hL) hL fun z=>I.ok.UO L z hL;exact⟨hk,⟨L,_,hf,hn,e,hd⟩,ih (fun b hb=>hs b (by unfold frs;rw[List.filterMap_cons,hf];exact mem_cons_of_mem _ hb)) hr⟩
 exact all X.outer (fun _ hb=>hb) I.ok.C1
theorem Inv.stack (I:Inv X pins σ H s):s.heap.FunFrames X.base X.stack:=by
 rcases I.ok.stk with e|⟨e,hf⟩
 ·rw[e];exact I.C1
 ·rw[e];obtain⟨m,hn,_⟩:=I.loc;refine .cons (by rw[I.ok.kind];decide) hf hn ?_ I.C1;exact Heap.get?_none_of_le (Nat.le_trans I.ok.bsz I.ok.above)
theorem Inv.UP (I:Inv X pins σ H s):∀ b∈frs X.stack,b∈X.env.locals::X.fs:=fun b hb=>by
 rcases I.ok.stk with e|⟨e,hf⟩
 ·rw[e]at hb;exact mem_cons_of_mem _ hb
 ·rw[e]at hb;unfold frs at hb;rw[List.filterMap_cons,hf]at hb;exact hb
theorem Inv.OI (I:Inv X pins σ H s):∀ b∈frs X.stack,H b=none:=fun b hb=>by
 rcases List.mem_cons.mp (I.UP b hb) with e|hb
 ·rw[e];exact I.free
 ·obtain⟨_,o,ho,_⟩:=I.ok.C1.mem hb;exact I.base.free b o ho (I.ok.frf b hb) fun z=>I.ok.UO b z hb
theorem Inv.step {g':Array GenState}{t':Nat}{d':Drawn}{ch:List Addr}(I:Inv X pins σ H s)
  (hch:∀ b∈ch,(b∈X.ex\/X.s₀.heap.objs.size<=b)/\b≠X.env.locals/\(∀ x c,X.env.cells.lookup x=some c->c≠b)/\∀ p∈X.pn++pins,p.1≠b)
  (keep:∀ b o,b≠X.env.locals->b ∉ X.fs->b ∉ ch->s.heap.get? b=some o->H b=none->h'.get? b=some o)
  (slot:∀ b o,b≠X.env.locals->b∈X.fs->b ∉ ch->s.heap.get? b=some o->H b=none->∃ sl,h'.get? b=some { o with slots:=sl }) (free:∀ b o,b ∉ ch->s.heap.get? b=some o->H b=none->H' b=none)
  (there:∀ b o,b ∉ ch->s.heap.get? b=some o->∃ o',h'.get? b=some o')
  (tups:∀ b xs,H b=some (.tup xs)->H' b=some (.tup xs)) (Kl:∀ b o u,H b=some (.X8 o u)->H' b=some (.X8 o u)) (M9:∀ b ps,H b=some (.tbl ps)->∃ more,H' b=some (.tbl (ps++more)))
  (ns:∀ m,s.heap.Ns X.env.locals m->h'.Ns X.env.locals m) (hok:xm X.prog X.w H' h') (hg:AllBare g') :
  Inv X pins σ H' { s with heap:=h',gens:=g',drawn:=d',toks:=t' }:=by
 have neL:∀ b o,X.s₀.heap.get? b=some o->b≠X.env.locals:=fun b o e=>Nat.ne_of_lt (Nat.lt_of_lt_of_le (Heap.lt_size e) I.ok.above);have neC:∀ b o,X.s₀.heap.get? b=some o->b ∉ X.ex->b ∉ ch:=fun b o e hx hb=>by
  rcases (hch b hb).1 with z|z
  ·exact hx z
  ·exact absurd (Nat.lt_of_lt_of_le (Heap.lt_size e) z) (Nat.lt_irrefl _)
 have cellK:∀ x c,X.env.cells.lookup x=some c->∀ v,s.heap.IsCell c v->h'.IsCell c v:=fun x c e v ⟨o,ho,hd⟩=>by
  have nch:c ∉ ch:=fun z=>(hch c z).2.2.1 x c e rfl
  by_cases hc:c∈X.fs
  ·obtain⟨sl,q⟩:=slot c o (I.cne x c e) hc nch ho (I.si x c e);exact⟨_,q,hd⟩
  ·exact⟨o,keep c o (I.cne x c e) hc nch ho (I.si x c e),hd⟩
 refine⟨I.ok,I.os,hg,⟨fun b o e n hb hx=>?_,fun b o e n hb hx=>?_,fun b o e n hx=>?_,fun b o e hx=>?_,fun b xs e=>tups b xs (I.base.tups b xs e),fun b o xs e=>Kl b o xs (I.base.Kl b o xs e),fun b ps e=>?_⟩,?_,fun x c e=>?_,?_,fun x c e=>?_,fun p hp=>?_,hok,I.len⟩
 ·exact keep b o (neL b o e) hb (neC b o e hx) (I.base.keep b o e n hb hx) (I.base.free b o e n hx)
 ·obtain⟨sl,e1⟩:=I.base.slot b o e n hb hx;obtain⟨sl',e2⟩:=slot b _ (neL b o e) hb (neC b o e hx) e1 (I.base.free b o e n hx);exact⟨sl',e2⟩
 ·obtain⟨o',e1⟩:=I.base.there b o e hx;exact free b o' (neC b o e hx) e1 (I.base.free b o e n hx)
 ·obtain⟨o',e1⟩:=I.base.there b o e hx;exact there b o' (neC b o e hx) e1
 ·obtain⟨m1,e1⟩:=I.base.M9 b ps e;obtain⟨m2,e2⟩:=M9 b _ e1;exact⟨m1++m2,by rw[e2,Array.append_assoc]⟩
 ·obtain⟨m,hn,hl⟩:=I.loc;refine⟨m,ns m hn,fun i x v e1 e2 e3=>?_⟩;obtain⟨u,r,l⟩:=hl i x v e1 e2 e3;refine⟨u,r,?_⟩;rcases l with l|⟨k,c,e,z⟩
  ·exact .inl l
  ·exact .inr ⟨k,c,e,cellK x c e _ z⟩
 ·obtain⟨v,z⟩:=I.cell x c e;exact⟨v,cellK x c e v z⟩
 ·obtain⟨m,⟨o,_,_,ho,_⟩,_⟩:=I.loc;exact free _ o (fun z=>(hch _ z).2.1 rfl) ho I.free
 ·obtain⟨v,o,ho,hd⟩:=I.cell x c e;exact free c o (fun z=>(hch c z).2.2.1 x c e rfl) ho (I.si x c e)
 ·obtain⟨e,n,ne,nf,d⟩:=I.pin p hp;have nch:p.1 ∉ ch:=fun z=>(hch p.1 z).2.2.2 p hp rfl;exact⟨keep p.1 p.2 ne nf nch e n,free p.1 p.2 nch e n,ne,nf,d⟩
theorem Inv.un {t':Nat}(I:Inv X pins σ H s)(u:Un X.fs [] H H' s.heap h')(hok:xm X.prog X.w H' h'):Inv X pins σ H' { s with heap:=h',toks:=t' }:=by
 obtain⟨m,⟨o,es,ep,ho,r⟩,_⟩:=id I.loc;obtain⟨sl,hL⟩:=u.any ho I.free (by simp);exact I.step (g':=s.gens) (d':=s.drawn) (ch:=[]) (fun _ z=>nomatch z) (fun b o _ hb _ e n=>u.keep b o e n hb (by simp)) (fun b o _ hb _ e n=>u.slot b o e n hb (by simp)) (fun b o _ e n=>u.free b o e n (by simp)) (fun b o _ e=>u.there b o e (by simp)) u.tups u.Kl u.M9 (fun m' hm=>by
  obtain⟨o',es',ep',ho',r'⟩:=hm;rw[ho]at ho';cases ho';exact⟨_,es',ep',hL,r'⟩) hok I.bare
theorem Inv.call {g':Array GenState}{t':Nat}{d':Drawn}{ch:List Addr}(I:Inv X pins σ H s)(u:Un (frs X.stack) ch H H' s.heap h')(hok:xm X.prog X.w H' h')(hg:AllBare g')
  (hch:∀ b∈ch,(b∈X.ex\/X.s₀.heap.objs.size<=b)/\b≠X.env.locals/\(∀ x c,X.env.cells.lookup x=some c->c≠b)/\∀ p∈X.pn++pins,p.1≠b) :
  Inv X pins σ H' { s with heap:=h',gens:=g',drawn:=d',toks:=t' }:=by
 obtain⟨m,⟨o,es,ep,ho,r⟩,_⟩:=id I.loc;obtain⟨sl,hL⟩:=u.any ho I.free fun z=>(hch _ z).2.1 rfl;exact I.step (ch:=ch) hch (fun b o hL hb hc e n=>u.keep b o e n (fun z=>(List.mem_cons.mp (I.UP b z)).elim hL hb) hc) (fun b o _ _ hc e n=>u.any e n hc) (fun b o hc e n=>u.free b o e n hc) (fun b o hc e=>u.there b o e hc) u.tups u.Kl u.M9 (fun m' hm=>by
  obtain⟨o',es',ep',ho',r'⟩:=hm;rw[ho]at ho';cases ho';exact⟨_,es',ep',hL,r'⟩) hok hg
theorem Inv.turned {t':Nat}{it:Addr}(I:Inv X pins σ H s)(k:∀ b o,b≠it->s.heap.get? b=some o->h'.get? b=some o)(hn:H it=none)(hL:it≠X.env.locals)
  (h1:it∈X.ex\/X.s₀.heap.objs.size<=it) (h2:∀ x c,X.env.cells.lookup x=some c->c≠it) (h3:∀ p∈X.pn++pins,p.1≠it):Inv X pins σ H { s with heap:=h',toks:=t' }:=by
 have nit:∀ b u,H b=some u->b≠it:=fun b u e z=>by rw[z,hn]at e;cases e
 refine I.step (g':=s.gens) (d':=s.drawn) (ch:=[it]) (fun b hb=>?_) (fun b o _ _ hc e _=>k b o (fun z=>hc (by simp[z])) e) (fun b o _ _ hc e _=>⟨o.slots,k b o (fun z=>hc (by simp[z])) e⟩) (fun _ _ _ _ n=>n)
  (fun b o hc e=>⟨o,k b o (fun z=>hc (by simp[z])) e⟩) (fun _ _ e=>e) (fun _ _ _ e=>e) (fun b ps e=>⟨#[],by rw[e];simp⟩) (fun m hm=>?_) (fun b u e=>?_) I.bare
 ·have e:b=it:=by simpa using hb
  subst e;exact⟨h1,hL,h2,h3⟩
 ·obtain⟨o,es,ep,ho,r⟩:=hm;exact⟨o,es,ep,k _ o (Ne.symm hL) ho,r⟩
 ·refine(I.hok b u e).stay (fun c v hc q=>k c v ?_ q) (fun _ q=>q) fun _ _ q=>q;rcases hc with z|z
  ·rw[z];exact nit b u e
  ·exact nit c _ z
theorem Inv.tok (I:Inv X pins σ H s)(t:Nat):Inv X pins σ H { s with toks:=t }:=I.un (h':=s.heap) (t':=t) Un.refl I.hok
theorem Inv.kept {t':Nat}(I:Inv X pins σ H s)(k:∀ b u,s.heap.get? b=some u->h'.get? b=some u):Inv X pins σ H { s with heap:=h',toks:=t' }:=I.un (Un.kept k) (I.hok.kept k)
theorem Inv.laid {a:Addr}{o:HO}{t':Nat}(I:Inv X pins σ H s)(k:∀ b u,s.heap.get? b=some u->h'.get? b=some u)(hp:s.heap.objs.size<=a)(new:gO X.prog X.w (upd H a o) h' a o) :
  Inv X pins σ (upd H a o) { s with heap:=h',toks:=t' }:=I.un (Un.laid k hp (I.hok.fresh hp)) (I.hok.laid k hp new)
theorem Inv.write {x e:Addr}{o:HO}{t':Nat}(I:Inv X pins σ H s)(mu:Mut (H x))(he:e=x\/H e=some (.own x))(k:∀ b u,b≠e->s.heap.get? b=some u->h'.get? b=some u)(heo:∃ u,h'.get? e=some u)
  (new:gO X.prog X.w (upd H x o) h' x o):Inv X pins σ (upd H x o) { s with heap:=h',toks:=t' }:=I.un (Un.write mu he k heo) (I.hok.write mu he k heo new)
theorem Inv.X9 {R1:List (Addr×Obj)}(I:Inv X pins σ H s)(h:∀ p∈R1,s.heap.get? p.1=some p.2/\H p.1=none/\p.1≠X.env.locals/\p.1 ∉ X.fs/\∀ v,p.2.data≠.cell v):Inv X R1 σ H s :=
 ⟨I.ok,I.os,I.bare,I.base,I.loc,I.cell,I.free,I.si,fun p hp=>(mem_append.mp hp).elim (fun z=>I.pin p (mem_append_left _ z)) (h p),I.hok,I.len⟩
theorem R3 {N:List Str}(hN:N.Nodup){i j:Nat}{x:Str}(a:N[i]? = some x)(b:N[j]? = some x):i=j:=by
 obtain⟨h1,e1⟩:=List.getElem?_eq_some_iff.mp a;obtain⟨h2,e2⟩:=List.getElem?_eq_some_iff.mp b;exact(List.getElem_inj hN).mp (e1.trans e2.symm)
theorem NS {M:Model}{A:Around}{E:Value->Shared->Prop}{i:Nat}{x:Str}{v:V}{u:Value}{Q:Unit->Shared->Prop}(I:Inv X pins σ H s)(hN:X.N.Nodup)(hi:X.N[i]? = some x)(hx:Loc X.env.scope x)(r:RelV v u)
  (h:∀ s',Inv X pins (σ.set i (some v)) H s'->(∃ a,Heap.SameBut a s.heap s'.heap/\(a=X.env.locals\/X.env.cells.lookup x=some a))->Q () s') (hf:X.fn x=true\/X.env.scope.names.lookup x=some .local:=by first|exact .inl rfl|exact .inr rfl|assumption):wpAny M A (storeName X.env x u) Q E s:=by
 obtain⟨m,hn,hl⟩:=id I.loc;have hcls:(X.env.scope.kind == .class||(X.env.scope.kind == .module&&X.env.locals != X.env.globals))=false:=by rw[I.ok.kind];rfl
 have alm:i<σ.length:=by rw[I.len];exact(List.getElem?_eq_some_iff.mp hi).1
 have cne:=I.cne;have tracked:∀{a:Addr} {h':Heap},(∃ o,s.heap.get? a=some o/\H a=none)->Heap.SameBut a s.heap h'->xm X.prog X.w H h':=fun {a h'} ha hs b ob e=>by
  obtain⟨_,_,hfree⟩:=ha;refine(I.hok b ob e).stay (fun c w' hc q=>(hs.2 c ?_).trans q) (fun _ q=>q) fun _ _ q=>q;rintro rfl;rcases hc with rfl|hc
  ·rw[hfree]at e;cases e
  ·rw[hfree]at hc;cases hc
 rcases hx with hk|hk
 ·refine wpAny_storeName_local hk hn (fun h' hn' hs=>?_) hcls;obtain⟨oL,_,_,hoL,_⟩:=id hn;refine h _ ⟨I.ok,I.os,I.bare,⟨fun b o e n hb hx=>?_,fun b o e n hb hx=>?_,I.base.free,fun b o e hx=>?_,I.base.tups,I.base.Kl,I.base.M9⟩,⟨_,hn',fun j y v' e1 e2 e3=>?_⟩,fun y c e=>?_,I.free,I.si,fun p hp=>?_,tracked ⟨oL,hoL,I.free⟩ hs,by simpa using I.len⟩ ⟨_,hs,.inl rfl⟩
  ·exact(hs.2 b (Nat.ne_of_lt (Nat.lt_of_lt_of_le (Heap.lt_size e) I.ok.above))).trans (I.base.keep b o e n hb hx)
  ·obtain⟨sl,e1⟩:=I.base.slot b o e n hb hx;exact⟨sl,(hs.2 b (Nat.ne_of_lt (Nat.lt_of_lt_of_le (Heap.lt_size e) I.ok.above))).trans e1⟩
  ·obtain⟨o',e1⟩:=I.base.there b o e hx;exact⟨o',(hs.2 b (Nat.ne_of_lt (Nat.lt_of_lt_of_le (Heap.lt_size e) I.ok.above))).trans e1⟩
  ·by_cases hj:j=i
   ·subst hj;rw[hi]at e1;cases e1;rw[List.getElem?_set_self alm]at e2;cases e2;exact⟨u,r,.inl ⟨hk,by simp⟩⟩
   ·rw[List.getElem?_set_ne (Ne.symm hj)]at e2;obtain⟨u',r',q⟩:=hl j y v' e1 e2 e3;refine⟨u',r',?_⟩;rcases q with ⟨k,e⟩|⟨k,c,e,z⟩
    ·refine .inl ⟨k,?_⟩;have:y≠x:=fun e=>hj (R3 hN e1 (e ▸ hi));simp[this,e]
    ·exact .inr ⟨k,c,e,z.sameBut hs (cne y c e)⟩
  ·obtain⟨w',z⟩:=I.cell y c e;exact⟨w',z.sameBut hs (cne y c e)⟩
  ·obtain⟨e,n,ne,nf,d⟩:=I.pin p hp;exact⟨(hs.2 p.1 ne).trans e,n,ne,nf,d⟩
 ·have hfn:X.fn x=true:=by
   rcases hf with z|z
   ·exact z
   ·rw[z]at hk;cases hk
  obtain⟨c,hc⟩:=I.ok.has x (.inl hk);obtain⟨w',z⟩:=I.cell x c hc;refine wpAny_storeName_cell I.ok.kind hk hc z (fun h' hc' hs=>?_);obtain⟨oc,hoc,ajE⟩:=id z;refine h { s with heap:=h' } ⟨I.ok,I.os,I.bare,⟨fun b o e n hb hx=>?_,fun b o e n hb hx=>?_,I.base.free,fun b o e hx=>?_,I.base.tups,I.base.Kl,I.base.M9⟩,⟨m,hn.sameBut hs (Ne.symm (cne x c hc)),fun j y v' e1 e2 e3=>?_⟩,fun y c' e=>?_,I.free,I.si,fun p hp=>?_,tracked ⟨oc,hoc,I.si x c hc⟩ hs,by simpa using I.len⟩ ⟨c,hs,.inr hc⟩
  ·exact(hs.2 b (Nat.ne_of_lt (Nat.lt_of_lt_of_le (Heap.lt_size e) (I.ok.cab x c hfn hc)))).trans (I.base.keep b o e n hb hx)
  ·obtain⟨sl,e1⟩:=I.base.slot b o e n hb hx;exact⟨sl,(hs.2 b (Nat.ne_of_lt (Nat.lt_of_lt_of_le (Heap.lt_size e) (I.ok.cab x c hfn hc)))).trans e1⟩
  ·obtain⟨o',e1⟩:=I.base.there b o e hx;exact⟨o',(hs.2 b (Nat.ne_of_lt (Nat.lt_of_lt_of_le (Heap.lt_size e) (I.ok.cab x c hfn hc)))).trans e1⟩
  ·by_cases hj:j=i
   ·subst hj;rw[hi]at e1;cases e1;rw[List.getElem?_set_self alm]at e2;cases e2;exact⟨u,r,.inr ⟨.inl hk,c,hc,hc'⟩⟩
   ·rw[List.getElem?_set_ne (Ne.symm hj)]at e2;obtain⟨u',r',q⟩:=hl j y v' e1 e2 e3;refine⟨u',r',?_⟩;rcases q with q|⟨k,c',e,z'⟩
    ·exact .inl q
    ·refine .inr ⟨k,c',e,z'.sameBut hs ?_⟩;rintro rfl;exact hj (R3 hN e1 (I.ok.inj _ _ _ e hc ▸ hi))
  ·by_cases hcc:c'=c
   ·subst hcc;exact⟨_,hc'⟩
   ·obtain⟨w2,z2⟩:=I.cell y c' e;exact⟨w2,z2.sameBut hs hcc⟩
  ·obtain⟨e,n,ne,nf,d⟩:=I.pin p hp;refine⟨(hs.2 p.1 ?_).trans e,n,ne,nf,d⟩;intro q;rw[q,hoc]at e;have q':oc=p.2:=Option.some.inj e;exact d w' (by rw[<-q'];exact ajE)
theorem oK {M:Model}{A:Around}{E:Value->Shared->Prop}{i:Nat}{x:Str}{v:V}{u:Value}{Q:Unit->Shared->Prop}(I:Inv X pins σ H s)(hN:X.N.Nodup)(hi:X.N[i]? = some x)(hx:Loc X.env.scope x)(r:RelV v u)
  (h:∀ s',Inv X pins (σ.set i (some v)) H s'->Q () s') (hf:X.fn x=true\/X.env.scope.names.lookup x=some .local:=by first|exact .inl rfl|exact .inr rfl|assumption):wpAny M A (storeName X.env x u) Q E s :=
 NS I hN hi hx r (fun s' I' _=>h s' I') hf
theorem Inv.call' {s':Shared}{ch:List Addr}(I:Inv X pins σ H s)(ho:s'.os=s.os)(u:Un (frs X.stack) ch H H' s.heap s'.heap)(hok:xm X.prog X.w H' s'.heap)(hg:AllBare s'.gens)
  (hch:∀ b∈ch,(b∈X.ex\/X.s₀.heap.objs.size<=b)/\b≠X.env.locals/\(∀ x c,X.env.cells.lookup x=some c->c≠b)/\∀ p∈X.pn++pins,p.1≠b):Inv X pins σ H' s':=by
 obtain⟨h',g',d',t',o'⟩:=s';have e:o'=s.os:=ho;subst e;exact I.call (g':=g') (t':=t') (d':=d') u hok hg hch
end
abbrev XK:=Value->Option Addr->Hp->Prop
abbrev St:=List (Option V)
abbrev VK:=V->Hp->Prop
abbrev TE:=St->Hp->VK->Prop
abbrev TT:=St->Hp->(Bool->Hp->Prop)->Prop
abbrev TA:=St->Hp->(List V->Hp->Prop)->Prop
structure Ends where
 nx:St->Hp->Prop
 rt:VK
 bk:St->Hp->Prop:=fun _ _=>False
 ct:St->Hp->Prop:=fun _ _=>False
abbrev TS:=Ends->St->Hp->Prop
def EP (X:Cx)(pins:List (Addr×Obj))(σ:St)(Q:VK)(u:Value)(s':Shared):Prop:=∃ v H',Inv X pins σ H' s'/\RelV v u/\Q v H'
def TP (X:Cx)(pins:List (Addr×Obj))(σ:St)(Q:Bool->Hp->Prop)(b:Bool)(s':Shared):Prop:=∃ H',Inv X pins σ H' s'/\Q b H'
def AP (X:Cx)(pins:List (Addr×Obj))(σ:St)(Q:List V->Hp->Prop)(us:List Value)(s':Shared):Prop:=∃ vs H',Inv X pins σ H' s'/\Vals vs us/\Q vs H'
def SP (X:Cx)(pins:List (Addr×Obj))(D:Ends)(f:Flow)(s':Shared):Prop :=
 match f with
 |.next=>∃ σ' H',Inv X pins σ' H' s'/\D.nx σ' H'
 |.brk=>∃ σ' H',Inv X pins σ' H' s'/\D.bk σ' H'
 |.cont=>∃ σ' H',Inv X pins σ' H' s'/\D.ct σ' H'
 |.ret u=>∃ v σ' H',Inv X pins σ' H' s'/\RelV v u/\D.rt v H'
def PE (X:Cx)(e:Expr)(t:TE):Prop :=
 ∀(pins:List (Addr×Obj)) (s:Shared) (σ:St) (H:Hp) (Q:VK),Inv X pins σ H s->t σ H Q->wpAny (model X.prog X.w) X.A (eval e X.env) (EP X pins σ Q) X.xe s
def PT (X:Cx)(e:Expr)(t:TT):Prop :=
 ∀(pins:List (Addr×Obj)) (s:Shared) (σ:St) (H:Hp) (Q:Bool->Hp->Prop),Inv X pins σ H s->t σ H Q->wpAny (model X.prog X.w) X.A (isTrue e X.env (eval e X.env)) (TP X pins σ Q) X.xe s
def PW (X:Cx)(e:Expr)(t:TT):Prop :=
 ∀(whole:Sem Value)(pins:List (Addr×Obj)) (s:Shared) (σ:St) (H:Hp) (Q:Bool->Hp->Prop),Inv X pins σ H s->t σ H Q->wpAny (model X.prog X.w) X.A (isTrue e X.env whole) (TP X pins σ Q) X.xe s
theorem PW.pt {X:Cx}{e:Expr}{t:TT}(h:PW X e t):PT X e t:=h _
def PA (X:Cx)(es:List Expr)(t:TA):Prop :=
 ∀(pos:Pos)(pins:List (Addr×Obj)) (s:Shared) (σ:St) (H:Hp) (Q:List V->Hp->Prop),Inv X pins σ H s->t σ H Q->wpAny (model X.prog X.w) X.A (spliced (backTo pos (starEach es X.env))) (AP X pins σ Q) X.xe s
def PS (X:Cx)(st:Stmt)(t:TS):Prop :=
 ∀(pins:List (Addr×Obj)) (s:Shared) (σ:St) (H:Hp) (D:Ends),Inv X pins σ H s->t D σ H->wpAny (model X.prog X.w) X.A (exec st X.env) (SP X pins D) X.xe s
def J7 (X:Cx)(st:List Stmt)(t:TS):Prop :=
 ∀(pins:List (Addr×Obj)) (s:Shared) (σ:St) (H:Hp) (D:Ends),Inv X pins σ H s->t D σ H->wpAny (model X.prog X.w) X.A (execs st X.env) (SP X pins D) X.xe s
theorem cD {α:Type}{t:Sem α}{Q Q':α->Shared->Prop}{M:Model}{A:Around}{E:Value->Shared->Prop}{s:Shared}(h:wpAny M A t Q E s)(hQ:∀ a s,Q a s->Q' a s):wpAny M A t Q' E s:=wpAny_mono h hQ fun _ _ x=>x
end L2
namespace L2
open PySem PySem.Spec PyProof.Rows
section
variable {X:Cx}
inductive aeL (i:Nat)(σ:St)(H:Hp)(Q:VK):Prop
 |mk (v:_) (fI:σ[i]? = some (some v)) (fJ:Q v H):aeL i σ H Q
def ahr (i:Nat):TE:=fun σ H Q=>aeL i σ H Q
def tC (v:V):TE:=fun _ H Q=>Q v H
theorem afz {i:Nat}{x:Str}{pos:Pos}(hN:X.N[i]? = some x)(hv:Vis X.env.scope x)(hd:(x==("__debug__":Str))=false:=by decide)(hcd:(x==("__classdict__":Str))=false:=by decide):PE X (.Name x pos) (ahr i):=by
 intro pins s σ H Q I h;obtain⟨v,e,h⟩:=h;obtain⟨m,hn,hl⟩:=I.loc;obtain⟨u,r,l⟩:=hl i x v hN e hv;have fin:EP X pins σ Q u s:=⟨v,H,I,r,h⟩;rcases l with ⟨hk,hm⟩|⟨hk,c,hc,hcell⟩
 ·exact wpAny_Name (wpAny_loadName_local I.ok.kind hk hn hm fin) hd
 ·rcases hk with hk|hk
  ·exact wpAny_Name (wpAny_loadName_cell I.ok.kind hk hc hcell fin) hd
  ·exact wpAny_Name (wpAny_loadName_free I.ok.kind hk hc hcell fin hcd) hd
theorem ai {i j pos}:PE X (.Constant (.int i) j pos) (tC (.int i)):=fun _ _ _ H _ I h=>wpAny_Constant_int ⟨.int i,H,I.tok _,⟨_,rfl⟩,h⟩
theorem gP {b j pos}:PE X (.Constant (.bool b) j pos) (tC (.bl b)):=fun _ _ _ H _ I h=>Constant_bool ⟨.bl b,H,I,rfl,h⟩
theorem jg {j pos}:PE X (.Constant .none j pos) (tC .non):=fun _ _ _ H _ I h=>Constant_none ⟨.non,H,I,rfl,h⟩
theorem ax {x j pos}:PE X (.Constant (.str x) j pos) (tC (.str x)):=fun _ _ _ H _ I h=>Calls.Constant_str ⟨.str x,H,I.tok _,⟨_,rfl⟩,h⟩
def Gl (X:Cx)(x:Str):Prop:=X.env.kindOf x=some .globalImplicit
theorem vj {E:Value->Shared->Prop}{pins:List (Addr×Obj)}{s:Shared}{σ:St}{H:Hp}{x:Str}{u:Value}{pos:Pos}{Q:Value->Shared->Prop}(I:Inv X pins σ H s)(hg:Gl X x)(hm:X.mg x=some u)(h:Q u s)
  (hd:(x==("__debug__":Str))=false:=by decide):wpAny (model X.prog X.w) X.A (eval (.Name x pos) X.env) Q E s :=
 Calls.Name_function_global I.ok.kind hg (Calls.loadGlobal_global (by rw[I.ok.glob];exact I.mod.glob.keeps I.bk) hm h) hd
theorem tU {E:Value->Shared->Prop}{pins:List (Addr×Obj)}{s:Shared}{σ:St}{H:Hp}{x:Str}{u:Value}{pos:Pos}{Q:Value->Shared->Prop}(I:Inv X pins σ H s)(hg:Gl X x)(hm:X.mg x=none)(hv:bootBuiltins x=some u)(h:Q u s)
  (hn:x ≠ "__name__":=by decide) (hd:(x==("__debug__":Str))=false:=by decide):wpAny (model X.prog X.w) X.A (eval (.Name x pos) X.env) Q E s:=by
 obtain⟨mb,h1,h2⟩:=I.mod.blt;exact Calls.Name_function_global I.ok.kind hg (Calls.loadGlobal_builtin (by rw[I.ok.glob];exact I.mod.glob.keeps I.bk) hm (by rw[I.ok.blt];exact h1.keeps I.bk) ((h2 x hn).trans hv) h) hd
theorem cv {x:Str}{v:V}{u:Value}{pos:Pos}(hg:Gl X x)(hm:X.mg x=some u)(r:RelV v u)(hd:(x==("__debug__":Str))=false:=by decide):PE X (.Name x pos) (tC v) :=
 fun _ _ _ H _ I h=>vj I hg hm ⟨v,H,I,r,h⟩ hd
theorem gJ {x:Str}{v:V}{u:Value}{pos:Pos}(hg:Gl X x)(hm:X.mg x=none)(hv:bootBuiltins x=some u)(r:RelV v u)(hn:x ≠ "__name__":=by decide)(hd:(x==("__debug__":Str))=false:=by decide):PE X (.Name x pos) (tC v) :=
 fun _ _ _ H _ I h=>tU I hg hm hv ⟨v,H,I,r,h⟩ hn hd
def t2I (ta tb:TE)(k:Int->Int->Hp->Prop):St->Hp->Prop:=fun σ H=>ta σ H fun x H1=>tb σ H1 fun y H2=>∃ i j,x=.int i/\y=.int j/\k i j H2
variable {a b:Expr} {ta tb:TE} {pos:Pos}
def PC (X:Cx)(op:CmpOp)(a b:Expr)(t:TE):Prop :=
 ∀(pins:List (Addr×Obj)) (s:Shared) (σ:St) (H:Hp) (Q:VK),Inv X pins σ H s->t σ H Q ->
  wpAny (model X.prog X.w) X.A (eval a X.env) (fun v s₁=>wpAny (model X.prog X.w) X.A (eval b X.env) (fun u s₂=>wpAny (model X.prog X.w) X.A (compareOp op v u) (EP X pins σ Q) X.xe s₂) X.xe s₁) X.xe s
def YW (p:Int->Int->Bool)(ta tb:TE):TE:=fun σ H Q=>t2I ta tb (fun i j H2=>Q (.bl (p i j)) H2) σ H
abbrev tLt:TE->TE->TE:=YW fun i j=>decide (i<j)
abbrev tLe:TE->TE->TE:=YW fun i j=>decide (i<=j)
abbrev tGt:TE->TE->TE:=YW fun i j=>decide (j<i)
abbrev tGe:TE->TE->TE:=YW fun i j=>decide (j<=i)
abbrev amc:TE->TE->TE:=YW fun i j=>decide (i=j)
abbrev amd:TE->TE->TE:=YW fun i j=>!decide (i=j)
def tB (t:TE):TT:=fun σ H Q=>t σ H fun x H1=>∃ c,x=.bl c/\Q c H1
theorem OJ {op:CmpOp}{t:TE}(h:PC X op a b t)(h1:behindInMarks op b=false:=by first|exact ahs _ (by decide) (by decide)|rfl):PT X (.Compare a [op] [b] pos) (tB t):=by
 intro pins s σ H Q I hw;refine wpAny_isTrue_Compare1 (cD (h pins s σ H _ I hw) fun v s1 h1=>cD h1 fun u s2 h2=>cD h2 fun c s3 ⟨x,H1,I1,r1,q1⟩=>?_) h1;obtain⟨d,rfl,q⟩:=q1;cases r1;exact wpAny_truthy_bool ⟨H1,I1,q⟩
theorem bg {e:Expr}{t:TE}(h:PE X e t)(he:∀ whole,isTrue e X.env whole=(do let v <-whole;standAt e.pos;holding [v] (truthy v)):=by intro _;rfl):PT X e (tB t):=by
 intro pins s σ H Q I hw;refine isTrue_plain (cD (h pins s σ H _ I hw) fun v s1 ⟨x,H1,I1,r1,q1⟩=>?_) (he _);obtain⟨d,rfl,q⟩:=q1;cases r1;exact wpAny_truthy_bool ⟨H1,I1,q⟩
variable {tA tB':TT} {rest:List Expr}
def ajF (t u:TT):TT:=fun σ H Q=>t σ H fun c H1=>if c=true then u σ H1 Q else Q false H1
def tOr (t u:TT):TT:=fun σ H Q=>t σ H fun c H1=>if c=true then Q true H1 else u σ H1 Q
def ajG (t:TT):TT:=fun σ H Q=>t σ H fun c H1=>Q (!c) H1
theorem fG (ha:PT X a tA):PW X (.BoolOp .And [a] pos) tA:=by
 intro wh pins s σ H Q I h;refine isTrue_and (cD (ha pins s σ H Q I h) fun c s1 e=>?_);cases c with
 |true=>exact isTrue_and_nil e
 |false=>exact e
theorem jh (ha:PT X a tA):PW X (.BoolOp .Or [a] pos) tA:=by
 intro wh pins s σ H Q I h;refine isTrue_or (cD (ha pins s σ H Q I h) fun c s1 e=>?_);cases c with
 |false=>exact isTrue_or_nil e
 |true=>exact e
theorem c8 (ha:PT X a tA)(hb:PW X (.BoolOp .And (b::rest) pos) tB'):PW X (.BoolOp .And (a::b::rest) pos) (ajF tA tB'):=by
 intro wh pins s σ H Q I h;refine isTrue_and (cD (ha pins s σ H _ I h) fun c s1 ⟨H1,I1,q1⟩=>?_);cases c with
 |true=>exact hb wh pins s1 σ H1 Q I1 q1
 |false=>exact⟨H1,I1,q1⟩
theorem kJ (ha:PT X a tA)(hb:PW X (.BoolOp .Or (b::rest) pos) tB'):PW X (.BoolOp .Or (a::b::rest) pos) (tOr tA tB'):=by
 intro wh pins s σ H Q I h;refine isTrue_or (cD (ha pins s σ H _ I h) fun c s1 ⟨H1,I1,q1⟩=>?_);cases c with
 |true=>exact⟨H1,I1,q1⟩
 |false=>exact hb wh pins s1 σ H1 Q I1 q1
theorem cX (ha:PT X a tA):PT X (.UnaryOp .Not a pos) (ajG tA):=by
 intro pins s σ H Q I h;exact isTrue_not (ha pins s σ H (fun c H1=>Q (!c) H1) I h)
def aht (ta tb:TE):TE:=fun σ H Q=>ta σ H fun x H1=>∃ c,x=.bl c/\if c=true then tb σ H1 Q else Q (.bl false) H1
def ajH (ta tb:TE):TE:=fun σ H Q=>ta σ H fun x H1=>∃ c,x=.bl c/\if c=true then Q (.bl true) H1 else tb σ H1 Q
def ahu (ta:TE):TE:=fun σ H Q=>ta σ H fun x H1=>∃ c,x=.bl c/\Q (.bl (!c)) H1
theorem k7 {op}{t:TE}(h:PE X a t):PE X (.BoolOp op [a] pos) t:=fun pins s σ H Q I hw=>BoolOp_one (h pins s σ H Q I hw)
theorem iP (ha:PE X a ta)(hb:PE X (.BoolOp .And (b::rest) pos) tb):PE X (.BoolOp .And (a::b::rest) pos) (aht ta tb):=by
 intro pins s σ H Q I h;refine BoolOp_and (cD (ha pins s σ H _ I h) fun v s1 ⟨x,H1,I1,r1,q1⟩=>?_);obtain⟨c,rfl,q1⟩:=q1;cases r1;refine wpAny_truthy_bool ?_;cases c with
 |true=>exact hb pins s1 σ H1 Q I1 q1
 |false=>exact⟨.bl false,H1,I1,rfl,q1⟩
theorem aaF (ha:PE X a ta)(hb:PE X (.BoolOp .Or (b::rest) pos) tb):PE X (.BoolOp .Or (a::b::rest) pos) (ajH ta tb):=by
 intro pins s σ H Q I h;refine BoolOp_or (cD (ha pins s σ H _ I h) fun v s1 ⟨x,H1,I1,r1,q1⟩=>?_);obtain⟨c,rfl,q1⟩:=q1;cases r1;refine wpAny_truthy_bool ?_;cases c with
 |false=>exact hb pins s1 σ H1 Q I1 q1
 |true=>exact⟨.bl true,H1,I1,rfl,q1⟩
theorem afA (ha:PE X a ta):PE X (.UnaryOp .Not a pos) (ahu ta):=by
 intro pins s σ H Q I h;refine UnaryOp_ (cD (ha pins s σ H _ I h) fun v s1 ⟨x,H1,I1,r1,q1⟩=>?_);obtain⟨c,rfl,q1⟩:=q1;cases r1;exact not_of (wpAny_truthy_bool ⟨.bl (!c),H1,I1,rfl,q1⟩)
def tIf (t:TT)(ta tb:TE):TE:=fun σ H Q=>t σ H fun c H1=>if c=true then ta σ H1 Q else tb σ H1 Q
theorem d5 {c:Expr}(hc:PT X c tA)(ha:PE X a ta)(hb:PE X b tb):PE X (.IfExp c a b pos) (tIf tA ta tb):=by
 intro pins s σ H Q I h;refine wpAny_IfExp (cD (hc pins s σ H _ I h) fun d s1 ⟨H1,I1,q1⟩=>?_);cases d with
 |true=>exact ha pins s1 σ H1 Q I1 q1
 |false=>exact hb pins s1 σ H1 Q I1 q1
end
end L2
namespace L2
open PySem PySem.Spec PyProof.Rows
def a7 (K:Frag)(H:Hp)(a:Addr)(xs:List V):Prop :=
 Rd H a (.lst xs) \/
  ∃(o:Obj)(its:Array Value)(n:Nat),K.lookup a=some o/\o.cls=.type "list"/\o.dict=none/\o.data=.seq its n/\its.size<=sizeLine/\Vals xs its.toList
def tV (K:Frag)(H:Hp)(a:Addr)(xs:List V):Prop :=
 Rd H a (.tup xs) \/
  ∃(o:Obj)(its:Array Value)(n:Nat),K.lookup a=some o/\o.cls=.type "tuple"/\o.data=.seq its n/\its.size<=sizeLine/\Vals xs its.toList
def ajI:Value->Option V
 |.none=>some .non
 |.bool b=>some (.bl b)
 |.int i _=>some (.int i)
 |.str x _=>some (.str x)
 |.bytes b _=>some (.byt b)
 |.float b _=>some (.flt b)
 |.ref a=>some (.ref a)
 |.type n=>some (.ty n)
 |_=>none
theorem RelV.abs {x:V}{u:Value}(r:RelV x u):ajI u=some x:=by
 cases x with
 |non=>cases r;rfl
 |bl _=>cases r;rfl
 |int _=>obtain⟨t,rfl⟩:=r;rfl
 |str _=>obtain⟨t,rfl⟩:=r;rfl
 |byt _=>obtain⟨t,rfl⟩:=r;rfl
 |flt _=>obtain⟨t,rfl⟩:=r;rfl
 |ref _=>cases r;rfl
 |ty _=>cases r;rfl
theorem RelV.inj {x y:V}{u:Value}(r:RelV x u)(q:RelV y u):x=y:=Option.some.inj (r.abs.symm.trans q.abs)
theorem Vals.inj:∀{xs ys:List V} {us:List Value},Vals xs us->Vals ys us->xs=ys
 |_,_,_,.nil,.nil=>rfl
 |_,_,_,.cons r t,.cons r' t'=>by rw[r.inj r',Vals.inj t t']
section
variable {X:Cx} {pins:List (Addr×Obj)} {σ:St} {H:Hp} {s:Shared} {a:Addr} {xs ys:List V}
theorem a7.of {K:Frag}(h:H a=some (.lst xs)):a7 K H a xs:=.inl (.inl h)
theorem tV.of {K:Frag}(h:H a=some (.tup xs)):tV K H a xs:=.inl (.inl h)
theorem Inv.list (I:Inv X pins σ H s)(h:a7 X.K H a xs):∃ its:List Value,Vals xs its/\PlainL s.heap a its.toArray/\xs.length<=sizeLine:=by
 rcases h with h|⟨o,its,n,hk,hc,hd,hs,hz,r⟩
 ·obtain⟨z,its,n,r,e⟩:=h.ok I.hok;exact⟨its,r,⟨_,n,e,rfl,rfl,rfl⟩,z⟩
 ·refine⟨its.toList,r,⟨o,n,I.xj a o hk,hc,hd,by simpa using hs⟩,?_⟩;have e:=r.length;simp only [Array.length_toList]at e;omega
theorem Inv.tuple (I:Inv X pins σ H s)(h:tV X.K H a xs):∃ its:List Value,Vals xs its/\IsTup s.heap a its.toArray/\xs.length<=sizeLine:=by
 rcases h with h|⟨o,its,n,hk,hc,hs,hz,r⟩
 ·obtain⟨z,its,r,p⟩:=h.ok I.hok;exact⟨its,r,p,z⟩
 ·refine⟨its.toList,r,⟨o,I.xj a o hk,hc,n,by simpa using hs⟩,?_⟩;have e:=r.length;simp only [Array.length_toList]at e;omega
theorem Inv.R4 (I:Inv X pins σ H s)(h:a7 X.K H a xs)(h':a7 X.K H a ys):xs=ys:=by
 obtain⟨its,r,⟨o,n,e,_,_,d⟩,_⟩:=I.list h;obtain⟨its',r',⟨o',n',e',_,_,d'⟩,_⟩:=I.list h';rw[e]at e';cases e';rw[d]at d'
 injection d' with d1 _
 have:its=its':=by simpa using congrArg Array.toList d1
 subst this;exact r.inj r'
end
abbrev Cx.wish (X:Cx)(E:Value->Shared->Prop):Cx:={ X with xe:=E }
abbrev Cx.nox (X:Cx):Cx:=X.wish fun _ _=>False
theorem Cx.Ok.wish {X:Cx}(ok:X.Ok)(E:Value->Shared->Prop):(X.wish E).Ok :=
 ⟨ok.mod,ok.kind,ok.glob,ok.blt,ok.above,ok.inj,ok.has,ok.cab,ok.hd,ok.frames,ok.stk,ok.exf,ok.bs,ok.bsz,ok.UN,ok.UO,ok.C1,ok.frf⟩
theorem Cx.Ok.mL {X:Cx}{E:Value->Shared->Prop}(ok:(X.wish E).Ok):X.Ok :=
 ⟨ok.mod,ok.kind,ok.glob,ok.blt,ok.above,ok.inj,ok.has,ok.cab,ok.hd,ok.frames,ok.stk,ok.exf,ok.bs,ok.bsz,ok.UN,ok.UO,ok.C1,ok.frf⟩
section
variable {X:Cx} {pins:List (Addr×Obj)} {σ:St} {H:Hp} {s:Shared} {E:Value->Shared->Prop}
theorem Inv.wish (I:Inv X pins σ H s)(E:Value->Shared->Prop):Inv (X.wish E) pins σ H s:=⟨I.ok.wish E,I.os,I.bare,I.base,I.loc,I.cell,I.free,I.si,I.pin,I.hok,I.len⟩
theorem Inv.mL (I:Inv (X.wish E) pins σ H s):Inv X pins σ H s:=⟨I.ok.mL,I.os,I.bare,I.base,I.loc,I.cell,I.free,I.si,I.pin,I.hok,I.len⟩
theorem SP.mL {D:Ends}{f:Flow}{s':Shared}(h:SP (X.wish E) pins D f s'):SP X pins D f s':=by
 cases f with
 |next=>obtain⟨σ',H',I,q⟩:=h;exact⟨σ',H',I.mL,q⟩
 |brk=>obtain⟨σ',H',I,q⟩:=h;exact⟨σ',H',I.mL,q⟩
 |cont=>obtain⟨σ',H',I,q⟩:=h;exact⟨σ',H',I.mL,q⟩
 |ret u=>obtain⟨v,σ',H',I,r,q⟩:=h;exact⟨v,σ',H',I.mL,r,q⟩
theorem J7.nox {st:List Stmt}{t:TS}(h:J7 X.nox st t):J7 X st t:=fun pins s σ H D I hw =>
 wpAny_mono (h pins s σ H D (I.wish _) hw) (fun _ _ q=>q.mL) fun _ _ z=>False.elim z
end
section
variable {X:Cx} {st:Stmt} {rest:List Stmt} {t u:TS} {e:Expr} {te:TE} {pos:Pos}
def ahv:TS:=fun D σ H=>D.nx σ H
def adk (t u:TS):TS:=fun D σ H=>t { D with nx:=u D } σ H
theorem az:J7 X [] ahv:=fun _ _ σ H _ I h=>wpAny_execs_nil ⟨σ,H,I,h⟩
theorem ag (h1:PS X st t)(h2:J7 X rest u):J7 X (st::rest) (adk t u):=by
 intro pins s σ H D I h;refine wpAny_execs_cons (cD (h1 pins s σ H { D with nx:=u D } I h) fun f s1 q=>?_);cases f with
 |next =>
  obtain⟨σ',H',I',q⟩:=q;exact h2 pins s1 σ' H' D I' q
 |ret v=>exact q
 |brk=>exact q
 |cont=>exact q
theorem aj (h1:PS X st t):J7 X [st] t:=by
 intro pins s σ H D I h;refine wpAny_execs_cons (cD (h1 pins s σ H D I h) fun f s1 q=>?_);cases f with
 |next=>exact wpAny_execs_nil q
 |ret v=>exact q
 |brk=>exact q
 |cont=>exact q
theorem Inv.quiet {pins:List (Addr×Obj)}{σ:St}{H:Hp}{s:Shared}(I:Inv X pins σ H s):interactive X.env=false:=by simp[interactive,I.ok.kind]
def ahw (te:TE):TS:=fun D σ H=>te σ H fun _ H1=>D.nx σ H1
theorem a9 (he:PE X e te)(hs:swapsWith e none pos.line X.env=pure false:=by rfl):PS X (.Expr e pos) (ahw te):=by
 intro pins s σ H D I h;exact wpAny_Expr_any (cD (he pins s σ H _ I h) fun v s1 ⟨x,H1,I1,r1,q1⟩=>⟨σ,H1,I1,q1⟩) I.quiet hs
def ajJ (te:TE):TS:=fun D σ H=>te σ H D.rt
theorem av (he:PE X e te):PS X (.Return (some e) pos) (ajJ te):=by
 intro pins s σ H D I h;exact wpAny_Return_some (cD (he pins s σ H _ I h) fun v s1 ⟨x,H1,I1,r1,q1⟩=>⟨x,σ,H1,I1,r1,q1⟩)
def ajK (c:TT)(t u:TS):TS:=fun D σ H=>c σ H fun b H1=>if b=true then t D σ H1 else u D σ H1
theorem aM {c:Expr}{a b:List Stmt}{tc:TT}(hc:PT X c tc)(ha:J7 X a t)(hb:J7 X b u):PS X (.If c a b pos) (ajK tc t u):=by
 intro pins s σ H D I h;refine wpAny_If (cD (hc pins s σ H _ I h) fun d s1 ⟨H1,I1,q1⟩=>?_);cases d with
 |true=>exact ha pins s1 σ H1 D I1 q1
 |false=>exact hb pins s1 σ H1 D I1 q1
end
abbrev TG:=V->St->Hp->(St->Hp->Prop)->Prop
abbrev TGs:=List V->St->Hp->(St->Hp->Prop)->Prop
def PG (X:Cx)(target:Expr)(t:TG):Prop :=
 ∀(pins:List (Addr×Obj)) (s:Shared) (σ:St) (H:Hp) (v:V) (u:Value) (Q:St->Hp->Prop),Inv X pins σ H s->RelV v u->t v σ H Q ->
  wpAny (model X.prog X.w) X.A (assign target X.env u) (fun _ s'=>∃ σ' H',Inv X pins σ' H' s'/\Q σ' H') X.xe s
def PGs (X:Cx)(ts:List Expr)(t:TGs):Prop :=
 ∀(pins:List (Addr×Obj)) (s:Shared) (σ:St) (H:Hp) (vs:List V) (us:List Value) (Q:St->Hp->Prop),Inv X pins σ H s->Vals vs us->t vs σ H Q ->
  wpAny (model X.prog X.w) X.A (assignInOrder ((assignEach ts X.env).map (·.2)) us) (fun _ s'=>∃ σ' H',Inv X pins σ' H' s'/\Q σ' H') X.xe s
abbrev afB:=V->V->V->Hp->(Hp->Prop)->Prop
def ahx (X:Cx)(t:afB):Prop :=
 ∀(pins:List (Addr×Obj)) (s:Shared) (σ:St) (H:Hp) (o i v:V) (ov iv u:Value) (Q:Hp->Prop),Inv X pins σ H s->RelV o ov->RelV i iv->RelV v u->t o i v H Q ->
  wpAny (model X.prog X.w) X.A (setItem ov iv u) (fun _ s'=>∃ H',Inv X pins σ H' s'/\Q H') X.xe s
abbrev TIp:=V->V->Hp->VK->Prop
def PIp (X:Cx)(op:Operator)(t:TIp):Prop :=
 ∀(pins:List (Addr×Obj)) (s:Shared) (σ:St) (H:Hp) (x y:V) (v u:Value) (Q:VK),Inv X pins σ H s->RelV x v->RelV y u->t x y H Q ->
  wpAny (model X.prog X.w) X.A (inplaceOp op v u) (EP X pins σ Q) X.xe s
section
variable {X:Cx} {pos:Pos}
def NT (i:Nat):TG:=fun v σ H Q=>Q (σ.set i (some v)) H
theorem aZ {i:Nat}{x:Str}(hN:X.N.Nodup)(hi:X.N[i]? = some x)(hx:Loc X.env.scope x)(hf:X.fn x=true\/X.env.scope.names.lookup x=some .local:=by first|exact .inl rfl|exact .inr rfl|assumption):PG X (.Name x pos) (NT i):=by
 intro pins s σ H v u Q I r h;exact wpAny_assign_Name (oK I hN hi hx r (fun s' I'=>⟨_,H,I',h⟩) hf)
def ajL:TGs:=fun vs σ H Q=>vs=[]/\Q σ H
inductive aaG (t:TG)(u:TGs)(vs:List V)(σ:St)(H:Hp)(Q:(St->Hp->Prop)):Prop
 |mk (v:_) (r:_) (fI:vs=v::r) (fJ:t v σ H fun σ' H'=>u r σ' H' Q):aaG t u vs σ H Q
def ahy (t:TG)(u:TGs):TGs:=fun vs σ H Q=>aaG t u vs σ H Q
theorem k8:PGs X [] ajL:=by
 intro pins s σ H vs us Q I r h;obtain⟨e,h⟩:=h;subst e;cases r;exact assignInOrder_nil ⟨σ,H,I,h⟩
theorem bB {e:Expr}{es:List Expr}{t:TG}{u:TGs}(h1:PG X e t)(h2:PGs X es u)
  (hs:(assignEach (e::es) X.env).map (·.2)=assign e X.env::(assignEach es X.env).map (·.2):=by rfl):PGs X (e::es) (ahy t u):=by
 intro pins s σ H vs us Q I r h;obtain⟨v,vr,e1,h⟩:=h;subst e1;cases r with
 |cons r rr =>
  rw[hs];refine assignInOrder_cons (cD (h1 pins s σ H _ _ _ I r h) fun _ s1 ⟨σ1,H1,I1,q1⟩=>?_);exact h2 pins s1 σ1 H1 _ _ Q I1 rr q1
inductive aeN (K:Frag)(n:Nat)(t:TGs)(v:V)(σ:St)(H:Hp)(Q:(St->Hp->Prop)):Prop
 |mk (a:_) (xs:_) (fI:v=.ref a) (fJ:tV K H a xs) (hI:xs.length=n) (kK:t xs σ H Q):aeN K n t v σ H Q
def ajM (K:Frag)(n:Nat)(t:TGs):TG:=fun v σ H Q=>aeN K n t v σ H Q
theorem qH {es:List Expr}{k:Nat}{t:TGs}{n:Nat}(hc:X.calm=true)(h:PGs X es t)
  (hn:(assignEach es X.env).length=n:=by rfl) (hst:(assignEach es X.env).findIdx? (·.1)=none:=by rfl):PG X (.Tuple es k pos) (ajM X.K n t):=by
 intro pins s σ H v u Q I r hw;obtain⟨a,xs,e1,hq,hl,hw⟩:=hw;subst e1;cases r;obtain⟨its,rv,ht,hz⟩:=I.tuple hq;refine assign_Tuple_tuple (I.ok.hd hc) ht (by simp[hn,<-hl,rv.length]) hst fun h' hx=>?_;have I1:Inv X pins σ H { s with heap:=h' }:=I.kept (t':=s.toks) fun b o e=>hx b o (Nat.ne_of_lt (Heap.lt_size e)) e;exact h pins _ σ H xs _ Q I1 (by simpa using rv) hw
def ajN (to ti:TE)(t:afB):TG:=fun v σ H Q=>to σ H fun o H1=>ti σ H1 fun i H2=>t o i v H2 fun H3=>Q σ H3
theorem xn {o i:Expr}{to ti:TE}{t:afB}(ho:PE X o to)(hi:PE X i ti)(hs:ahx X t)
  (ha:∀ v,assign (.Subscript o i pos) X.env v=(do
   let ov <-holding [v] (eval o X.env)
   let iv <-holding [v,ov] (eval i X.env)
   standAt pos
   holding [v,ov,iv] (setItem ov iv v)
   release [v,ov,iv] []):=by intro _;rfl):PG X (.Subscript o i pos) (ajN to ti t):=by
 intro pins s σ H v u Q I r h;rw[ha];refine wpAny_bind (wpAny_holding (cD (ho pins s σ H _ I h) fun ov s1 ⟨x,H1,I1,r1,q1⟩=>?_));refine wpAny_bind (wpAny_holding (cD (hi pins s1 σ H1 _ I1 q1) fun iv s2 ⟨y,H2,I2,r2,q2⟩=>?_));refine wpAny_bind (wpAny_standAt (wpAny_bind (wpAny_holding (cD (hs pins s2 σ H2 x y v ov iv u _ I2 r1 r2 r q2) fun _ s3 ⟨H3,I3,q3⟩=>?_))));exact wpAny_release ⟨σ,H3,I3,q3⟩
def adm (te:TE)(g:TG):TS:=fun D σ H=>te σ H fun x H1=>g x σ H1 D.nx
theorem kg {tg e:Expr}{te:TE}{g:TG}(he:PE X e te)(hg:PG X tg g)(hs:swapsWithSole [tg] e pos.line X.env=pure false:=by rfl)(hw:swappedStores [tg] e X.env=pure none:=by rfl)
  (h1:(assignEach [tg] X.env).map (·.2)=[assign tg X.env]:=by rfl):PS X (.Assign [tg] e pos) (adm te g):=by
 intro pins s σ H D I h;refine wpAny_Assign_stores (cD (he pins s σ H _ I h) fun v s1 ⟨x,H1,I1,r1,q1⟩=>?_) hs hw;rw[h1];exact cD (hg pins s1 σ H1 x v _ I1 r1 q1) fun _ s2 q=>q
theorem aL {i:Nat}{x:Str}{e:Expr}{te:TE}{pos':Pos}(hN:X.N.Nodup)(hi:X.N[i]? = some x)(hx:Loc X.env.scope x)(he:PE X e te)(hs:swapsWith e (some (.Name x pos')) pos.line X.env=pure false:=by rfl)(hf:X.fn x=true\/X.env.scope.names.lookup x=some .local:=by first|exact .inl rfl|exact .inr rfl|assumption) :
  PS X (.Assign [.Name x pos'] e pos) (adm te (NT i)):=by
 intro pins s σ H D I h;refine wpAny_Assign_Name (cD (he pins s σ H _ I h) fun v s1 ⟨y,H1,I1,r1,q1⟩=>?_) hs;exact oK I1 hN hi hx r1 (fun s2 I2=>⟨_,H1,I2,q1⟩) hf
def ajO (i j:Nat)(ta:TA):TS:=fun D σ H=>ta σ H fun vs H1=>∃ v w,vs=[v,w]/\D.nx ((σ.set i (some v)).set j (some w)) H1
theorem afC {i j:Nat}{x y:Str}{a b:Expr}{ta:TA}{px py pt:Pos}{kt k2 pt2}(hc:X.calm=true)(hN:X.N.Nodup)(hi:X.N[i]? = some x)(hj:X.N[j]? = some y)(hij:i≠j)
  (hx:X.env.scope.names.lookup x=some .local) (hy:X.env.scope.names.lookup y=some .local) (ha:PA X [a,b] ta)
  (hw:swappedStores [.Tuple [.Name x px,.Name y py] kt pt] (.Tuple [a,b] k2 pt2) X.env=pure (some [x,y]))
  (hs:swapsWithSole [.Tuple [.Name x px,.Name y py] kt pt] (.Tuple [a,b] k2 pt2) pos.line X.env=pure false:=by rfl) :
  PS X (.Assign [.Tuple [.Name x px,.Name y py] kt pt] (.Tuple [a,b] k2 pt2) pos) (ajO i j ta):=by
 intro pins s σ H D I h;rw[exec_Assign_arm];refine wpAny_bind (wpAny_standAt ?_);rw[hs];refine wpAny_bind (wpAny_pure ?_);rw[if_neg (by decide)];refine wpAny_bind (Tuple_ (cD (ha _ pins s σ H _ I h) fun us s1 ⟨vs,H1,I1,r1,q1⟩=>?_));obtain⟨v,w,e1,q1⟩:=q1;subst e1;obtain⟨u1,u2,rfl,rv,R5⟩:∃ u1 u2,us=[u1,u2]/\RelV v u1/\RelV w u2:=by
  cases r1 with
  |cons p q =>
   cases q with
   |cons p' q' =>
    cases q';exact⟨_,_,rfl,p,p'⟩
 refine wpAny_newObj_type ?_ (by show 2<=sizeLine;decide);have I2:Inv X pins σ H1 { s1 with heap:=s1.heap.push { cls:=.type "tuple",data:=.seq [u1,u2].toArray } }:=I1.kept (t':=s1.toks) fun b o e=>Heap.get?_push_of_some _ e;rw[hw];refine wpAny_bind (wpAny_pure ?_);show wpAny (model X.prog X.w) X.A (do rule "assign.swapped-stores";let items <-unpackItems (.ref s1.heap.objs.size) 2 none;assignInOrder [fun v=>bindName X.env y v,fun v=>bindName X.env x v] items.reverse;pure Flow.next) _ _ _;refine wpAny_bind (wpAny_rule (wpAny_bind (unpackItems_tuple (items:=#[u1,u2]) (I.ok.hd hc) (IsTup.new s1.heap _) fun h' hx'=>?_)));have I3:=I2.kept (h':=h') (t':=s1.toks) fun b o e=>hx' b o (Nat.ne_of_lt (Heap.lt_size e)) e;show wpAny _ _ (assignInOrder [fun v=>bindName X.env y v,fun v=>bindName X.env x v] [u2,u1] >>= fun _=>pure Flow.next) _ _ _;refine wpAny_bind (assignInOrder_cons (wpAny_bindName (oK I3 hN hj (.inl hy) R5 (fun s2 I4=>?_) (.inr hy))));refine assignInOrder_cons (wpAny_bindName (oK I4 hN hi (.inl hx) rv (fun s3 I5=>assignInOrder_nil (wpAny_pure ?_)) (.inr hx)));rw[List.set_comm _ _ (Ne.symm hij)]at I5;exact⟨_,H1,I5,q1⟩
def ajP (i:Nat)(te:TE)(ti:TIp):TS:=fun D σ H=>∃ x,σ[i]? = some (some x)/\te σ H fun y H1=>ti x y H1 fun z H2=>D.nx (σ.set i (some z)) H2
theorem afE {i:Nat}{x:Str}{e:Expr}{te:TE}{op:Operator}{ti:TIp}{pos':Pos}(hN:X.N.Nodup)(hi:X.N[i]? = some x)(hx:Loc X.env.scope x)(he:PE X e te)(ho:PIp X op ti)(hf:X.fn x=true\/X.env.scope.names.lookup x=some .local:=by first|exact .inl rfl|exact .inr rfl|assumption) :
  PS X (.AugAssign (.Name x pos') op e pos) (ajP i te ti):=by
 intro pins s σ H D I h;obtain⟨v,e1,h⟩:=h;obtain⟨m,hn,hl⟩:=I.loc;have vis:Vis X.env.scope x:=by rcases hx with k|k;exact .inl k;exact .inr (.inl k)
 obtain⟨u,r,l⟩:=hl i x v hi e1 vis;refine wpAny_AugAssign_Name ?_;have go:wpAny (model X.prog X.w) X.A (eval e X.env) (fun w s₂=>wpAny (model X.prog X.w) X.A (inplaceOp op u w) (fun r s₃=>wpAny (model X.prog X.w) X.A (storeName X.env x r) (fun _=>SP X pins D .next) X.xe s₃) X.xe s₂) X.xe s:=by
  refine cD (he pins s σ H _ I h) fun w s1 ⟨y,H1,I1,r1,q1⟩=>?_;refine cD (ho pins s1 σ H1 v y u w _ I1 r r1 q1) fun z s2 ⟨zv,H2,I2,r2,q2⟩=>?_;exact oK I2 hN hi hx r2 (fun s3 I3=>⟨_,H2,I3,q2⟩) hf
 rcases l with ⟨hk,hm⟩|⟨hk,c,hc,hcell⟩
 ·exact wpAny_loadName_local I.ok.kind hk hn hm go
 ·rcases hk with hk|hk
  ·exact wpAny_loadName_cell I.ok.kind hk hc hcell go
  ·rcases hx with k|k
   ·have:X.env.scope.names.lookup x=some .free:=hk;rw[k]at this;cases this
   ·have:X.env.scope.names.lookup x=some .free:=hk;rw[k]at this;cases this
def ipI (f:Int->Int->Int):TIp:=fun x y H Q=>∃ i j,x=.int i/\y=.int j/\Q (.int (f i j)) H
theorem afF:PIp X .Add (ipI fun i j=>i+j):=by
 intro pins s σ H x y v u Q I r1 r2 h;obtain⟨i,j,e1,e2,q⟩:=h;subst e1;subst e2;obtain⟨t,rfl⟩:=r1;obtain⟨t',rfl⟩:=r2;exact iadd_int ⟨.int _,H,I.tok _,⟨_,rfl⟩,q⟩
end
section
variable {X:Cx} {pos:Pos}
def afG (c:TT)(tb:TS):TS:=fun D σ H=>∃ W:Nat->St->Hp->Prop,(∃ m,W m σ H)/\∀ m σ H,W m σ H ->
 c σ H fun b H1=>if b=true then ∃ N:St->Hp->Prop,(∀ σ' H',N σ' H'->∃ m',m'<m/\W m' σ' H')/\tb { D with nx:=N,ct:=N,bk:=D.nx } σ H1 else D.nx σ H1
theorem R6 {c:Expr}{body:List Stmt}{tc:TT}{tb:TS}(hp:PassesOwn (model X.prog X.w) X.A X.env X.xe)(hc:PT X c tc)(hb:J7 X body tb):PS X (.While c body [] pos) (afG tc tb):=by
 intro pins s σ H D I h;obtain⟨W,⟨m0,w0⟩,turn⟩:=h;refine wpAny_While (codeAny_whileLoop (fun n s'=>∃ σ' H',Inv X pins σ' H' s'/\W n σ' H') ?_ m0 ⟨σ,H,I,w0⟩);rintro n s1 ⟨σ1,H1,I1,w1⟩;refine wpAny_passesOwn hp (cD (hc pins s1 σ1 H1 _ I1 (turn n σ1 H1 w1)) fun b s2 ⟨H2,I2,q2⟩=>?_);cases b with
 |true =>
  obtain⟨N,hN,q2⟩:=q2;rw[if_pos rfl];refine wpAny_passesOwn hp (cD (hb pins s2 σ1 H2 _ I2 q2) fun f s3 q3=>?_);cases f with
  |next =>
   obtain⟨σ3,H3,I3,n3⟩:=q3;obtain⟨m',hm,w3⟩:=hN σ3 H3 n3;exact⟨m',hm,σ3,H3,I3,w3⟩
  |cont =>
   obtain⟨σ3,H3,I3,n3⟩:=q3;obtain⟨m',hm,w3⟩:=hN σ3 H3 n3;exact⟨m',hm,σ3,H3,I3,w3⟩
  |brk=>exact q3
  |ret v=>exact q3
 |false =>
  rw[if_neg Bool.false_ne_true];exact wpAny_execs_nil ⟨σ1,H2,I2,q2⟩
end
structure It where
 go:Nat->Hp->Prop
 YX:Nat->Hp->V->Hp->Prop
 stop:Nat->Hp->Prop
def o9 (X:Cx)(pins:List (Addr×Obj))(H:Hp)(b:Addr):Prop :=
 H b=none/\b≠X.env.locals/\b ∉ X.fs/\(b∈X.ex\/X.s₀.heap.objs.size<=b)/\(∀ x c,X.env.cells.lookup x=some c->c≠b)/\∀ p∈X.pn++pins,p.1≠b
theorem Inv.OK {X:Cx}{pins:List (Addr×Obj)}{σ:St}{H H':Hp}{s:Shared}{b:Addr}(I:Inv X pins σ H s)(hb:s.heap.objs.size<=b)(hn:H' b=none):o9 X pins H' b:=by
 refine⟨hn,Nat.ne_of_gt (Nat.lt_of_lt_of_le I.lt hb),I.ajD hb,.inr (Nat.le_trans I.sz hb),fun x c e z=>?_,fun p hp z=>?_⟩
 ·obtain⟨v,q⟩:=I.cell x c e;exact absurd (Nat.lt_of_lt_of_le q.lt (by rw[z];exact hb)) (Nat.lt_irrefl _)
 ·exact absurd (Nat.lt_of_lt_of_le (Heap.lt_size (I.pin p hp).1) (by rw[z];exact hb)) (Nat.lt_irrefl _)
structure Turn (P:Program)(w:World)(K:Frag)(tg:Expr)(J:It)(fp:List Addr)(it:Addr)(tn:Nat->Heap->Prop):Prop where
 mem:it∈fp
 obj:∀ i h,tn i h->∀ b∈fp,∃ o,h.get? b=some o/\∀ v,o.data≠.cell v
 keep:∀ i h h',tn i h->(∀ b∈fp,∀ o,h.get? b=some o->h'.get? b=some o)->tn i h'
 item:∀(X:Cx),X.prog=P->X.w=w->X.K=K->X.calm=true->∀(i:Nat)(pins:List (Addr×Obj)) (s:Shared) (σ:St) (H:Hp) (E:Value->Shared->Prop),Inv X pins σ H s->(∀ b∈fp,o9 X pins H b)->tn i s.heap->J.go i H ->
  wpAny (model P w) X.A (pyNext (.ref it)) (fun r s1=>∃ u,r=some u /\
   wpAny (model P w) X.A (letOwnedTupleGo tg (.ref it) u) (fun _ s2=>∃ x H',Inv X pins σ H' s2/\RelV x u/\J.YX i H x H'/\tn (i+1) s2.heap/\∀ b∈fp,H' b=none) E s1) E s
 done:∀(X:Cx),X.prog=P->X.w=w->X.K=K->X.calm=true->∀(i:Nat)(pins:List (Addr×Obj)) (s:Shared) (σ:St) (H:Hp) (E:Value->Shared->Prop),Inv X pins σ H s->(∀ b∈fp,o9 X pins H b)->tn i s.heap->J.stop i H ->
  wpAny (model P w) X.A (pyNext (.ref it)) (fun r s1=>r=none/\Inv X pins σ H s1) E s
 self:∀(A:Around)(i:Nat)(s:Shared)(Q:Value->Shared->Prop)(E:Value->Shared->Prop),tn i s.heap->Q (.ref it) s->wpAny (model P w) A (pyIter (.ref it)) Q E s
abbrev TI:=St->Hp->(It->Hp->Prop)->Prop
def PIE (X:Cx)(pins:List (Addr×Obj))(σ:St)(tg:Expr)(R:It->Hp->Prop)(itv:Value)(s2:Shared):Prop :=
 ∃(it:Addr)(fp:List Addr)(tn:Nat->Heap->Prop)(J:It)(H':Hp),itv=.ref it/\Inv X pins σ H' s2/\Turn X.prog X.w X.K tg J fp it tn/\tn 0 s2.heap/\(∀ b∈fp,o9 X pins H' b)/\R J H'
def PI (X:Cx)(tg iter:Expr)(wi:TI):Prop :=
 ∀(pins:List (Addr×Obj)) (s:Shared) (σ:St) (H:Hp) (R:It->Hp->Prop),Inv X pins σ H s->wi σ H R ->
  wpAny (model X.prog X.w) X.A (eval iter X.env) (fun v s1=>wpAny (model X.prog X.w) X.A (pyIter v) (PIE X pins σ tg R) X.xe s1) X.xe s
theorem Ya {M:Model}{A:Around}{E:Value->Shared->Prop}{s:Shared}{tg:Expr}{it:Addr}{u:Value}{o:Obj}{n:String}{vs:Array Value}{Q:Unit->Shared->Prop}(ho:s.heap.get? it=some o)(hc:o.cls=.type n)(hd:o.data=.fields vs)
  (hn:["enumerate","zip","dict_itemiterator","dict_reverseitemiterator","odict_iterator","itertools.zip_longest","itertools.pairwise"].contains n=false) (hQ:Q () s):wpAny M A (letOwnedTupleGo tg (.ref it) u) Q E s:=by
 unfold letOwnedTupleGo;cases tg <;> first
  |exact wpAny_pure hQ
  |(cases u <;> first
    |exact wpAny_pure hQ
    |(refine wpAny_bind (wpAny_load ho ?_);rw[hc,hd];show wpAny M A (if(["enumerate","zip","dict_itemiterator","dict_reverseitemiterator","odict_iterator","itertools.zip_longest","itertools.pairwise"].contains n&&vs[0]? == some (rawInt _))=true then _ else _) Q E s;rw[if_neg (by intro h;rw[hn,Bool.false_and]at h;cases h)];exact wpAny_pure hQ))
def Itl (K:Frag)(a:Addr):It :=
 ⟨fun i H=>∃ xs x,a7 K H a xs/\xs[i]? = some x,fun i H x H'=>H'=H/\∀ xs,a7 K H a xs->xs[i]? = some x,fun i H=>∃ xs,a7 K H a xs/\xs.length<=i⟩
def Itt (K:Frag)(a:Addr):It :=
 ⟨fun i H=>∃ xs x,tV K H a xs/\xs[i]? = some x,fun i H x H'=>H'=H/\∀ xs,tV K H a xs->xs[i]? = some x,fun i H=>∃ xs,tV K H a xs/\xs.length<=i⟩
def Itr (lo:Int)(n:Nat):It:=⟨fun i _=>i<n,fun i H x H'=>H'=H/\x=.int (lo+i),fun i _=>n<=i⟩
theorem YY {P:Program}{w:World}{K:Frag}{tg:Expr}(a it:Addr):Turn P w K tg (Itl K a) [it] it (fun i h=>h.IsListIter it a i) where
 mem:=by simp
 obj:=fun i h st b hb=>by
  have e:b=it:=by simpa using hb
  subst e;obtain⟨o,e,c,d⟩:=st;exact⟨o,e,fun v z=>by rw[d]at z;cases z⟩
 keep:=fun i h h' st k=>st.at fun o e=>k it (by simp) o e
 item:=by
  intro X hP hw hK hc i pins s σ H E I hf st hg;subst hP hw hK;obtain⟨xs,x,hq,hx⟩:=hg;obtain⟨its,rv,p,hz⟩:=I.list hq;obtain⟨u,hu,ru⟩:=rv.get hx;obtain⟨f0,f1,f2,f3,f4,f5⟩:=hf it (by simp);refine wpAny_pyNext_list_item st p.isList (x:=u) (by simpa using hu) fun h' st' sb=>?_;have I1:Inv X pins σ H { s with heap:=h' }:=I.turned (t':=s.toks) (fun b o hb e=>(sb.2 b hb).trans e) f0 f1 f3 f4 f5;obtain⟨o,e,c,d⟩:=id st';exact⟨u,rfl,Ya (s:={ s with heap:=h' }) e c d (by decide) ⟨x,H,I1,ru,⟨rfl,fun ys hy=>by rw[I.R4 hy hq];exact hx⟩,st',fun b hb=>(hf b hb).1⟩⟩
 done:=by
  intro X hP hw hK hc i pins s σ H E I hf st hg;subst hP hw hK;obtain⟨xs,hq,hx⟩:=hg;obtain⟨its,rv,p,hz⟩:=I.list hq;obtain⟨f0,f1,f2,f3,f4,f5⟩:=hf it (by simp);have hl:=rv.length;exact wpAny_pyNext_list_end (I.ok.hd hc) st p.isList (by simp;omega) fun h' eb=>⟨rfl,I.turned (t':=s.toks) (fun b o hb e=>eb b o hb e) f0 f1 f3 f4 f5⟩
 self:=fun _ _ _ _ _ st h=>wpAny_pyIter_listiter st h
theorem UQ {P:Program}{w:World}{K:Frag}{tg:Expr}(it:Addr)(lo:Int)(n:Nat):Turn P w K tg (Itr lo n) [it] it (fun i h=>IsRangeIter h it (lo+(i:Nat) * 1) ((n:Int)-(i:Nat)) 1) where
 mem:=by simp
 obj:=fun i h st b hb=>by
  have e:b=it:=by simpa using hb
  subst e;exact⟨_,st,fun v z=>by
   have z':Data.fields _=Data.cell v:=z;cases z'⟩
 keep:=fun i h h' st k=>k it (by simp) _ st
 item:=by
  intro X hP hw hK hc i pins s σ H E I hf st hg;subst hP hw hK;obtain⟨f0,f1,f2,f3,f4,f5⟩:=hf it (by simp);have W:=Walks.range (prog:=X.prog) (w:=X.w) (I.ok.hd hc) it lo 1 n;refine W.item i s _ _ hg st fun v h' tk hv st' kk=>?_;obtain⟨t,rfl⟩:=hv;have I1:Inv X pins σ H { s with heap:=h',toks:=tk }:=I.turned (fun b o hb e=>kk b o (by simpa using hb) e) f0 f1 f3 f4 f5;refine⟨_,rfl,Ya (s:={ s with heap:=h',toks:=tk }) (n:="range_iterator") st' rfl rfl (by decide) ⟨.int (lo+i),H,I1,⟨t,?_⟩,⟨rfl,rfl⟩,st',fun b hb=>(hf b hb).1⟩⟩;rw[Int.mul_one]
 done:=by
  intro X hP hw hK hc i pins s σ H E I hf st hg;subst hP hw hK;obtain⟨f0,f1,f2,f3,f4,f5⟩:=hf it (by simp);exact wpAny_pyNext_range_end (I.ok.hd hc) st (by have:n<=i:=hg;omega) fun h' eb=>⟨rfl,I.turned (t':=s.toks) (fun b o hb e=>eb b o hb e) f0 f1 f3 f4 f5⟩
 self:=fun _ _ _ _ _ st h=>wpAny_pyIter_rangeiter st h
end L2
namespace L2
open PySem PySem.Spec PyProof.Rows
section
variable {X:Cx} {tg:Expr}
inductive aaH (K:Frag)(R:(It->Hp->Prop))(x:V)(H1:Hp):Prop
 |mk (a:_) (fI:x=.ref a) (fJ:(∃ xs,a7 K H1 a xs)/\R (Itl K a) H1):aaH K R x H1
def ahz (K:Frag)(tl:TE):TI:=fun σ H R=>tl σ H fun x H1=>aaH K R x H1
inductive ahA (K:Frag)(R:(It->Hp->Prop))(x:V)(H1:Hp):Prop
 |mk (a:_) (fI:x=.ref a) (fJ:(∃ xs,tV K H1 a xs)/\R (Itt K a) H1):ahA K R x H1
theorem jA {l:Expr}{tl:TE}(hl:PE X l tl):PI X tg l (ahz X.K tl):=by
 intro pins s σ H R I h;refine cD (hl pins s σ H _ I h) fun v s1 ⟨x,H1,I1,r1,q1⟩=>?_;obtain⟨a,e,⟨xs,hq⟩,q⟩:=q1;subst e;cases r1;obtain⟨its,rv,p,hz⟩:=I1.list hq;refine wpAny_pyIter_list p.isList ?_;refine⟨s1.heap.objs.size,[s1.heap.objs.size],_,_,H1,rfl,I1.kept (t':=s1.toks) fun b o e=>Heap.get?_push_of_some _ e,YY a _,⟨_,Heap.get?_push_size _ rfl,rfl,rfl⟩,fun b hb=>?_,q⟩;have e:b=s1.heap.objs.size:=by simpa using hb
 subst e;exact I1.OK (Nat.le_refl _) (I1.hok.fresh (Nat.le_refl _))
theorem R7 {pins:List (Addr×Obj)}{σ:St}{H:Hp}{s:Shared}{R:It->Hp->Prop}{E:Value->Shared->Prop}{lo hi:Int}{t u v:Tok}{tk:Nat}(I:Inv X pins σ H s)(h1:-(2 ^ 62)<=lo)(h2:lo<2 ^ 62)(h3:-(2 ^ 62)<=hi)(h4:hi<2 ^ 62)
  (q:R (Itr lo (hi-lo).toNat) H):wpAny (model X.prog X.w) X.A (pyIter (.ref s.heap.objs.size)) (PIE X pins σ tg R) E { s with heap:=s.heap.push { cls:=.type "range",data:=.fields #[.int lo t,.int hi u,.int 1 v] },toks:=tk }:=by
 refine wpAny_pyIter_range (IsRange.new ..) (small_one h1 h2 h3 h4) ?_;have I1:Inv X pins σ H { s with heap:=s.heap.push { cls:=.type "range",data:=.fields #[.int lo t,.int hi u,.int 1 v] },toks:=tk }:=I.kept fun b o e=>Heap.get?_push_of_some _ e;refine⟨(s.heap.push { cls:=.type "range",data:=.fields #[.int lo t,.int hi u,.int 1 v] }).objs.size,[(s.heap.push { cls:=.type "range",data:=.fields #[.int lo t,.int hi u,.int 1 v] }).objs.size],_,_,H,rfl,
  I1.kept (t':=tk) fun b o e=>Heap.get?_push_of_some _ e,UQ _ lo (hi-lo).toNat,?_,fun b hb=>?_,q⟩
 ·have e1:lo+((0:Nat):Int) * 1=lo:=by simp
  have e2:(((hi-lo).toNat:Nat):Int)-((0:Nat):Int)=Builtin.Range.rangeSize lo hi 1:=by rw[rangeSize_one];split <;> omega
  show IsRangeIter _ _ (lo+((0:Nat):Int) * 1) ((((hi-lo).toNat:Nat):Int)-((0:Nat):Int)) 1;rw[e1,e2];exact Heap.get?_push_size _ rfl
 ·have e:b=(s.heap.push { cls:=.type "range",data:=.fields #[.int lo t,.int hi u,.int 1 v] }).objs.size:=by simpa using hb
  subst e;exact I1.OK (Nat.le_refl _) (I1.hok.fresh (Nat.le_refl _))
inductive aaI (R:(It->Hp->Prop))(vs:List V)(H1:Hp):Prop
 |mk (j:Int) (fI:vs=[.int j]) (fJ:-(2 ^ 62)<=j/\j<2 ^ 62/\R (Itr 0 j.toNat) H1):aaI R vs H1
def ahB (ta:TA):TI:=fun σ H R=>ta σ H fun vs H1=>aaI R vs H1
inductive aaJ (R:(It->Hp->Prop))(vs:List V)(H1:Hp):Prop
 |mk (i j:Int) (fI:vs=[.int i,.int j]) (fJ:(-(2 ^ 62)<=i/\i<2 ^ 62/\-(2 ^ 62)<=j/\j<2 ^ 62)) (hI:R (Itr i (j-i).toNat) H1):aaJ R vs H1
def ahC (ta:TA):TI:=fun σ H R=>ta σ H fun vs H1=>aaJ R vs H1
theorem Fo {a:Expr}{ta:TA}{p pos:Pos}(hg:Gl X "range")(hm:X.mg "range"=none)(ha:PA X [a] ta)(hs:starEach [a] X.env=[(false,eval a X.env)]:=by rfl):PI X tg (.Call (.Name "range" p) [a] [] pos) (ahB ta):=by
 intro pins s σ H R I h;refine Call_ (tU I hg hm boot_range (PyProof.Rows.callWith_type1 (cD (ha pos pins s σ H _ I h) fun us s1 ⟨vs,H1,I1,r1,q1⟩=>?_) hs rfl));obtain⟨j,e,q1,q2,q⟩:=q1;subst e;cases r1 with
 |cons r rr =>
  cases rr;obtain⟨t,rfl⟩:=r;exact call_range_1 (R7 I1 (by omega) (by omega) q1 q2 (by simpa using q))
theorem YZ {a b:Expr}{ta:TA}{p pos:Pos}(hg:Gl X "range")(hm:X.mg "range"=none)(ha:PA X [a,b] ta)(hs:starEach [a,b] X.env=[(false,eval a X.env),(false,eval b X.env)]:=by rfl)(hs2:starEach [b] X.env=[(false,eval b X.env)]:=by rfl) :
  PI X tg (.Call (.Name "range" p) [a,b] [] pos) (ahC ta):=by
 intro pins s σ H R I h;refine Call_ (tU I hg hm boot_range (PyProof.Rows.callWith_type1 (cD (ha pos pins s σ H _ I h) fun us s1 ⟨vs,H1,I1,r1,q1⟩=>?_) (by rw[hs,hs2]) (by rw[hs2];rfl)));obtain⟨i,j,e,⟨q1,q2,q3,q4⟩,q⟩:=q1;subst e;cases r1 with
 |cons r rr =>
  cases rr with
  |cons r' rr =>
   cases rr;obtain⟨t,rfl⟩:=r;obtain⟨t',rfl⟩:=r';exact call_range_2 (R7 I1 q1 q2 q3 q4 q)
def ajR (wi:TI)(g:TG)(tb:TS):TS:=fun D σ H=>wi σ H fun J H1=>∃ W:Nat->Nat->St->Hp->Prop,(∃ m,W 0 m σ H1)/\∀ i m σ H,W i m σ H ->
 (J.stop i H/\D.nx σ H)\/(J.go i H/\∃ N:St->Hp->Prop,(∀ σ' H',N σ' H'->∃ m',m'<m/\W (i+1) m' σ' H')/\∀ x H',J.YX i H x H'->g x σ H' fun σ2 H2=>tb { D with nx:=N,ct:=N,bk:=D.nx } σ2 H2)
def Km (fp:List Addr)(h:Heap):List (Addr×Obj):=fp.filterMap fun b=>(h.get? b).map fun o=>(b,o)
theorem vk {fp:List Addr}{h:Heap}{b:Addr}{o:Obj}(hb:b∈fp)(e:h.get? b=some o):(b,o)∈Km fp h:=List.mem_filterMap.mpr ⟨b,hb,by rw[e];rfl⟩
theorem Y0 {fp:List Addr}{h:Heap}{p:Addr×Obj}(hp:p∈Km fp h):p.1∈fp/\h.get? p.1=some p.2:=by
 obtain⟨b,hb,e⟩:=List.mem_filterMap.mp hp;cases q:h.get? b with
 |none=>rw[q]at e;cases e
 |some o =>
  rw[q]at e;have e':(b,o)=p:=Option.some.inj e;subst e';exact⟨hb,q⟩
theorem Inv.pinned {pins:List (Addr×Obj)}{σ:St}{H:Hp}{s:Shared}{fp:List Addr}(I:Inv X pins σ H s)(hf:∀ b∈fp,o9 X pins H b)(ho:∀ b∈fp,∃ o,s.heap.get? b=some o/\∀ v,o.data≠.cell v):Inv X (pins++Km fp s.heap) σ H s :=
 I.X9 fun p hp=>(mem_append.mp hp).elim (fun z=>I.pin p (mem_append_right _ z)) fun z=>by
  obtain⟨hb,e⟩:=Y0 z;obtain⟨f0,f1,f2,_⟩:=hf p.1 hb;obtain⟨o,e',d⟩:=ho p.1 hb;rw[e]at e';cases e';exact⟨e,f0,f1,f2,d⟩
theorem Inv.xo {pins pl:List (Addr×Obj)}{σ:St}{H:Hp}{s:Shared}(I:Inv X (pins++pl) σ H s):Inv X pins σ H s:=I.X9 fun p hp=>I.pin p (mem_append_right _ (mem_append_left _ hp))
theorem kh {iter:Expr}{body:List Stmt}{wi:TI}{g:TG}{tb:TS}{pos:Pos}(hp:PassesOwn (model X.prog X.w) X.A X.env X.xe)(hc:X.calm=true)(hi:PI X tg iter wi)(hg:PG X tg g)(hb:J7 X body tb)
  (hs:∀ x,foldedSetIterable iter X.env x=pure x:=by intro _;rfl):PS X (.For tg iter body [] pos) (ajR wi g tb):=by
 intro pins s σ H D I h;refine wpAny_For (cD (hi pins s σ H _ I h) fun v s1 h1=>cD h1 fun itv s2 h2=>?_) hs;obtain⟨it,fp,tn,J,H2,e,I2,T,st2,f2,W,⟨m0,w0⟩,turn⟩:=h2;subst e;have stat:∀{H':Hp},(∀ b∈fp,H' b=none)->∀ b∈fp,o9 X pins H' b:=fun hn b hb=>⟨hn b hb,(f2 b hb).2⟩;refine codeAny_forLoop_any (fun n s'=>∃ i σ' H',Inv X pins σ' H' s'/\tn i s'.heap/\(∀ b∈fp,H' b=none)/\W i n σ' H') ?_ m0 ⟨0,σ,H2,I2,st2,fun b hb=>(f2 b hb).1,w0⟩;rintro n s3 ⟨i,σ3,H3,I3,st3,fr3,w3⟩;rcases turn i n σ3 H3 w3 with ⟨stop,qn⟩|⟨go,N,hN,step⟩
 ·refine wpAny_passesOwn hp (cD (T.done X rfl rfl rfl hc i pins s3 σ3 H3 X.xe I3 (stat fr3) st3 stop) fun r s4 ⟨hr,I4⟩=>?_);subst hr;exact wpAny_execs_nil ⟨σ3,H3,I4,qn⟩
 ·refine wpAny_passesOwn hp (cD (T.item X rfl rfl rfl hc i pins s3 σ3 H3 X.xe I3 (stat fr3) st3 go) fun r s4 ⟨u,hr,h4⟩=>?_);subst hr;refine wpAny_passesOwn hp (cD h4 fun _ s5 ⟨x,H5,I5,r5,y5,st5,fr5⟩=>?_);have I5':=I5.pinned (stat fr5) (T.obj _ _ st5);refine wpAny_passesOwn hp (cD (hg _ s5 σ3 H5 x u _ I5' r5 (step x H5 y5)) fun _ s6 ⟨σ6,H6,I6,q6⟩=>?_);refine wpAny_passesOwn hp (cD (hb _ s6 σ6 H6 _ I6 q6) fun f s7 q7=>?_);have again:∀{σ7:St} {H7:Hp},Inv X (pins++Km fp s5.heap) σ7 H7 s7->N σ7 H7->∃ m,m<n/\∃ i σ' H',Inv X pins σ' H' s7/\tn i s7.heap/\(∀ b∈fp,H' b=none)/\W i m σ' H':=fun {σ7 H7} I7 n7=>by
   obtain⟨m',hm,w7⟩:=hN σ7 H7 n7;refine⟨m',hm,i+1,σ7,H7,I7.xo,T.keep _ _ _ st5 fun b hb o e=>(I7.pin (b,o) (mem_append_right _ (mem_append_right _ (vk hb e)))).1,fun b hb=>?_,w7⟩;obtain⟨o,e,d⟩:=T.obj _ _ st5 b hb;exact(I7.pin (b,o) (mem_append_right _ (mem_append_right _ (vk hb e)))).2.1
  cases f with
  |next=>obtain⟨σ7,H7,I7,n7⟩:=q7;exact again I7 n7
  |cont=>obtain⟨σ7,H7,I7,n7⟩:=q7;exact again I7 n7
  |brk=>obtain⟨σ7,H7,I7,q7⟩:=q7;exact⟨σ7,H7,I7.xo,q7⟩
  |ret v=>obtain⟨x7,σ7,H7,I7,r7,q7⟩:=q7;exact⟨x7,σ7,H7,I7.xo,r7,q7⟩
end
theorem ur {K:Frag}{a:Addr}{xs:List V}{g:TG}{tb:TS}{D:Ends}{σ:St}{H:Hp}(Pv:Nat->St->Hp->Prop)(h0:Pv 0 σ H)(hl:∀ i σ H,i<=xs.length->Pv i σ H->a7 K H a xs)
  (hs:∀ i x σ H,xs[i]? = some x->Pv i σ H->g x σ H fun σ2 H2=>tb { D with nx:=Pv (i+1),ct:=Pv (i+1),bk:=D.nx } σ2 H2) (hd:∀ σ H,Pv xs.length σ H->D.nx σ H) :
  ∃ W:Nat->Nat->St->Hp->Prop,(∃ m,W 0 m σ H)/\∀ i m σ H,W i m σ H ->
   ((Itl K a).stop i H/\D.nx σ H)\/((Itl K a).go i H/\∃ N:St->Hp->Prop,(∀ σ' H',N σ' H'->∃ m',m'<m/\W (i+1) m' σ' H')/\∀ x H',(Itl K a).YX i H x H'->g x σ H' fun σ2 H2=>tb { D with nx:=N,ct:=N,bk:=D.nx } σ2 H2):=by
 refine⟨fun i m σ H=>m=xs.length-i/\i<=xs.length/\Pv i σ H,⟨xs.length,by simp,Nat.zero_le _,h0⟩,?_⟩;rintro i m σ H ⟨rfl,hi,p⟩;have q:=hl i σ H hi p
 by_cases hlt:i<xs.length
 ·refine .inr ⟨⟨xs,xs[i],q,by simp[hlt]⟩,Pv (i+1),fun σ' H' p'=>⟨xs.length-(i+1),by omega,rfl,hlt,p'⟩,fun x H' y=>?_⟩;obtain⟨e,y⟩:=y;subst e;exact hs i x σ _ (y xs q) p
 ·have e:i=xs.length:=by omega
  subst e;exact .inl ⟨⟨xs,q,Nat.le_refl _⟩,hd σ H p⟩
theorem zq {lo:Int}{n:Nat}{g:TG}{tb:TS}{D:Ends}{σ:St}{H:Hp}(Pv:Nat->St->Hp->Prop)(h0:Pv 0 σ H)
  (hs:∀ i σ H,i<n->Pv i σ H->g (.int (lo+i)) σ H fun σ2 H2=>tb { D with nx:=Pv (i+1),ct:=Pv (i+1),bk:=D.nx } σ2 H2) (hd:∀ σ H,Pv n σ H->D.nx σ H) :
  ∃ W:Nat->Nat->St->Hp->Prop,(∃ m,W 0 m σ H)/\∀ i m σ H,W i m σ H ->
   ((Itr lo n).stop i H/\D.nx σ H)\/((Itr lo n).go i H/\∃ N:St->Hp->Prop,(∀ σ' H',N σ' H'->∃ m',m'<m/\W (i+1) m' σ' H')/\∀ x H',(Itr lo n).YX i H x H'->g x σ H' fun σ2 H2=>tb { D with nx:=N,ct:=N,bk:=D.nx } σ2 H2):=by
 refine⟨fun i m σ H=>m=n-i/\i<=n/\Pv i σ H,⟨n,by simp,Nat.zero_le _,h0⟩,?_⟩;rintro i m σ H ⟨rfl,hi,p⟩
 by_cases hlt:i<n
 ·refine .inr ⟨hlt,Pv (i+1),fun σ' H' p'=>⟨n-(i+1),by omega,rfl,hlt,p'⟩,fun x H' y=>?_⟩;obtain⟨e,y⟩:=y;subst e y;exact hs i σ _ hlt p
 ·have e:i=n:=by omega
  subst e;exact .inl ⟨Nat.le_refl _,hd σ H p⟩
end L2
namespace L2
open PySem PySem.Spec PyProof.Rows
abbrev R2:=V->V->Hp->VK->Prop
def vm (X:Cx)(f:Value->Value->Sem Value)(r:R2):Prop :=
 ∀(pins:List (Addr×Obj)) (s:Shared) (σ:St) (H:Hp) (x y:V) (v u:Value) (Q:VK),Inv X pins σ H s->RelV x v->RelV y u->r x y H Q ->
  wpAny (model X.prog X.w) X.A (f v u) (EP X pins σ Q) X.xe s
def UnR (X:Cx)(f:Value->Sem Value)(r:V->Hp->VK->Prop):Prop :=
 ∀(pins:List (Addr×Obj)) (s:Shared) (σ:St) (H:Hp) (x:V) (v:Value) (Q:VK),Inv X pins σ H s->RelV x v->r x H Q ->
  wpAny (model X.prog X.w) X.A (f v) (EP X pins σ Q) X.xe s
def k9 (X:Cx)(f:Value)(r:List V->Hp->VK->Prop):Prop :=
 ∀(pins:List (Addr×Obj)) (s:Shared) (σ:St) (H:Hp) (xs:List V) (us:List Value) (Q:VK),Inv X pins σ H s->Vals xs us->r xs H Q ->
  wpAny (model X.prog X.w) X.A (call f us) (EP X pins σ Q) X.xe s
def tOp (r:R2)(ta tb:TE):TE:=fun σ H Q=>ta σ H fun x H1=>tb σ H1 fun y H2=>r x y H2 Q
def tUn (r:V->Hp->VK->Prop)(ta:TE):TE:=fun σ H Q=>ta σ H fun x H1=>r x H1 Q
inductive rII (C:Int->Int->Prop)(g:Int->Int->V)(x:V)(y:V)(H:Hp)(Q:VK):Prop
 |mk (i:_) (j:_) (fI:x=.int i) (fJ:y=.int j) (hI:C i j/\Q (g i j) H):rII C g x y H Q
def rI (C:Int->Int->Prop)(g:Int->Int->V):R2:=fun x y H Q=>rII C g x y H Q
inductive ahD (g:Int->Int->V)(x:V)(y:V)(H:Hp)(Q:VK):Prop
 |mk (i:_) (j:_) (fI:x=.int i) (fJ:y=.int j) (hI:Q (g i j) H):ahD g x y H Q
def rI0 (g:Int->Int->V):R2:=fun x y H Q=>ahD g x y H Q
def rU (g:Int->V):V->Hp->VK->Prop:=fun x H Q=>∃ i,x=.int i/\Q (g i) H
section
variable {X:Cx} {a b c:Expr} {ta tb tc:TE} {pos:Pos}
theorem afI (ha:PE X a ta)(hb:PE X b tb){pins:List (Addr×Obj)}{s:Shared}{σ:St}{H:Hp}{R:V->V->Hp->Prop}(I:Inv X pins σ H s)
  (h:ta σ H fun x H1=>tb σ H1 fun y H2=>R x y H2) {Q:Value->Shared->Prop} {f:Value->Value->Sem Value}
  (hf:∀ v u s2 x y H2,Inv X pins σ H2 s2->RelV x v->RelV y u->R x y H2->wpAny (model X.prog X.w) X.A (f v u) Q X.xe s2) :
  wpAny (model X.prog X.w) X.A (eval a X.env) (fun v s₁=>wpAny (model X.prog X.w) X.A (eval b X.env) (fun u s₂=>wpAny (model X.prog X.w) X.A (f v u) Q X.xe s₂) X.xe s₁) X.xe s:=by
 refine cD (ha pins s σ H _ I h) fun v s1 ⟨x,H1,I1,r1,q1⟩=>?_;refine cD (hb pins s1 σ H1 _ I1 q1) fun u s2 ⟨y,H2,I2,r2,q2⟩=>?_;exact hf v u s2 x y H2 I2 r1 r2 q2
theorem bh {op:Operator}{r:R2}(ho:vm X (binaryOp op) r)(ha:PE X a ta)(hb:PE X b tb):PE X (.BinOp a op b pos) (tOp r ta tb):=by
 intro pins s σ H Q I h;exact wpAny_BinOp (afI ha hb I h fun v u s2 x y H2 I2 rx ry q=>ho pins s2 σ H2 x y v u Q I2 rx ry q)
theorem z9 {op:UnaryOp}{r:V->Hp->VK->Prop}(ho:UnR X (unaryOp op) r)(ha:PE X a ta):PE X (.UnaryOp op a pos) (tUn r ta):=by
 intro pins s σ H Q I h;exact UnaryOp_ (cD (ha pins s σ H _ I h) fun v s1 ⟨x,H1,I1,r1,q1⟩=>ho pins s1 σ H1 x v Q I1 r1 q1)
theorem opI {f:Value->Value->Sem Value}{C:Int->Int->Prop}{g:Int->Int->Int}
  (rule:∀(i j:Int)(t u:Tok)(s:Shared)(Q:Value->Shared->Prop)(E:Value->Shared->Prop),C i j->Q (.int (g i j) s.toks) { s with toks:=s.toks+1 }->wpAny (model X.prog X.w) X.A (f (.int i t) (.int j u)) Q E s) :
  vm X f (rI C fun i j=>.int (g i j)):=by
 intro pins s σ H x y v u Q I rx ry h;obtain⟨i,j,rfl,rfl,hc,q⟩:=h;obtain⟨t,rfl⟩:=rx;obtain⟨t',rfl⟩:=ry;exact rule i j t t' s _ _ hc ⟨.int (g i j),H,I.tok _,⟨_,rfl⟩,q⟩
theorem ahE {f:Value->Value->Sem Value}{g:Int->Int->Int}
  (rule:∀(i j:Int)(t u:Tok)(s:Shared)(Q:Value->Shared->Prop)(E:Value->Shared->Prop),Q (.int (g i j) s.toks) { s with toks:=s.toks+1 }->wpAny (model X.prog X.w) X.A (f (.int i t) (.int j u)) Q E s) :
  vm X f (rI0 fun i j=>.int (g i j)):=by
 intro pins s σ H x y v u Q I rx ry h;obtain⟨i,j,rfl,rfl,q⟩:=h;obtain⟨t,rfl⟩:=rx;obtain⟨t',rfl⟩:=ry;exact rule i j t t' s _ _ ⟨.int (g i j),H,I.tok _,⟨_,rfl⟩,q⟩
theorem adn {f:Value->Value->Sem Value}{g:Int->Int->Bool}
  (rule:∀(i j:Int)(t u:Tok)(s:Shared)(Q:Value->Shared->Prop)(E:Value->Shared->Prop),Q (.bool (g i j)) s->wpAny (model X.prog X.w) X.A (f (.int i t) (.int j u)) Q E s) :
  vm X f (rI0 fun i j=>.bl (g i j)):=by
 intro pins s σ H x y v u Q I rx ry h;obtain⟨i,j,rfl,rfl,q⟩:=h;obtain⟨t,rfl⟩:=rx;obtain⟨t',rfl⟩:=ry;exact rule i j t t' s _ _ ⟨.bl (g i j),H,I,rfl,q⟩
def ajU (i j:Int):Prop:=0<j/\j<1073741824
def ajV (i j:Int):Prop:=0<=j/\j<=1000000/\i.natAbs<2 ^ 64
def afJ (i j:Int):Prop:=(-(2 ^ 64)<i/\i<2 ^ 64)\/(-(2 ^ 64)<j/\j<2 ^ 64)
theorem afJ.ok {i j:Int}(h:afJ i j):IntMulOk i j:=by
 rcases h with ⟨h1,h2⟩|⟨h1,h2⟩
 ·exact .of_left (intBits_le_64 h1 h2)
 ·exact .of_right (intBits_le_64 h1 h2)
theorem du:vm X (binaryOp .Add) (rI0 fun i j=>.int (i+j)):=ahE fun _ _ _ _ _ _ _ q=>add_int q
theorem ji:vm X (binaryOp .Sub) (rI0 fun i j=>.int (i-j)):=ahE fun _ _ _ _ _ _ _ q=>sub_int q
theorem aaK:vm X (binaryOp .Mult) (rI afJ fun i j=>.int (i * j)):=opI fun _ _ _ _ _ _ _ hc q=>mul_int q hc.ok
theorem C2:vm X (binaryOp .FloorDiv) (rI ajU fun i j=>.int (i / j)):=opI fun i j _ _ _ _ _ hc q=>by
 have h1:(0:Int)<j:=hc.1;have h2:j<1073741824:=hc.2;exact floordiv_int (by omega) (by rw[Int.fdiv_eq_ediv_of_nonneg i (by omega)];exact q) (.inl (PyProof.noPylong_small (by omega)))
theorem ki:vm X (binaryOp .Mod) (rI (fun _ j=>0<j) fun i j=>.int (i % j)):=opI fun i j _ _ _ _ _ hc q=>by
 have h1:(0:Int)<j:=hc;exact mod_int' (by omega) (by rw[Int.fmod_eq_emod_of_nonneg i (by omega)];exact q)
theorem aaL:vm X (binaryOp .Pow) (rI ajV fun i j=>.int (i ^ j.toNat)):=opI fun _ _ _ _ _ _ _ hc q=>pow_int_small hc.1 hc.2.1 hc.2.2 q
theorem unI {f:Value->Sem Value}{g:Int->Int}
  (rule:∀(i:Int)(t:Tok)(s:Shared)(Q:Value->Shared->Prop)(E:Value->Shared->Prop),Q (.int (g i) s.toks) { s with toks:=s.toks+1 }->wpAny (model X.prog X.w) X.A (f (.int i t)) Q E s) :
  UnR X f (rU fun i=>.int (g i)):=by
 intro pins s σ H x v Q I rx h;obtain⟨i,rfl,q⟩:=h;obtain⟨t,rfl⟩:=rx;exact rule i t s _ _ ⟨.int (g i),H,I.tok _,⟨_,rfl⟩,q⟩
theorem tW:UnR X (unaryOp .USub) (rU fun i=>.int (-i)):=unI fun _ _ _ _ _ q=>neg_int q
end
def ahF:V->V->Bool
 |.non,.non=>true|.non,.int _=>true|.int _,.non=>true|.non,.bl _=>true|.bl _,.non=>true|.non,.str _=>true|.str _,.non=>true
 |.int _,.int _=>true|.bl _,.bl _=>true|.str _,.str _=>true|.byt _,.byt _=>true
 |.int _,.str _=>true|.str _,.int _=>true|.bl _,.str _=>true|.str _,.bl _=>true
 |_,_=>false
def rEq:R2:=fun x y H Q=>ahF x y=true/\Q (.bl (decide (x=y))) H
def rNe:R2:=fun x y H Q=>ahF x y=true/\Q (.bl (!decide (x=y))) H
theorem Yb {i j:Int}:decide (V.int i=V.int j)=(i==j):=by
 rw[Bool.eq_iff_iff];simp
theorem aaM {i j:Bool}:decide (V.bl i=V.bl j)=(i==j):=by
 rw[Bool.eq_iff_iff];simp
theorem Yc {i j:Str}:decide (V.str i=V.str j)=(i==j):=by
 rw[Bool.eq_iff_iff];simp
theorem Yd {i j:Array UInt8}:decide (V.byt i=V.byt j)=(i.toList==j.toList):=by
 rw[Bool.eq_iff_iff];cases i;cases j;simp
section
variable {X:Cx} {a b c:Expr} {ta tb tc:TE} {pos:Pos}
theorem ck {pins:List (Addr×Obj)}{σ:St}{H:Hp}{s:Shared}{Q:VK}{k k':Bool}(I:Inv X pins σ H s)(q:Q (.bl k) H)(e:k=k'):EP X pins σ Q (.bool k') s:=by
 subst e;exact⟨.bl k,H,I,rfl,q⟩
theorem bc:vm X (compareOp .Eq) rEq:=by
 intro pins s σ H x y v u Q I rx ry h;obtain⟨hs,q⟩:=h;cases x with
 |non =>
  cases rx;cases y with
  |non=>cases ry;exact PySem.EqNone.eq_none_none (ck I q (by simp))
  |bl j=>cases ry;exact PySem.EqNone.eq_none_bool (ck I q (by simp))
  |int j=>obtain⟨t',rfl⟩:=ry;exact PySem.EqNone.eq_none_int (ck I q (by simp))
  |str j=>obtain⟨t',rfl⟩:=ry;exact PySem.EqNone.eq_none_str (ck I q (by simp))
  |_=>exact absurd (show false=true from hs) Bool.false_ne_true
 |bl i =>
  cases rx;cases y with
  |non=>cases ry;exact PySem.EqNone.eq_bool_none (ck I q (by simp))
  |bl j=>cases ry;exact eq_bool (ck I q aaM)
  |str j=>obtain⟨t',rfl⟩:=ry;exact PySem.EqMixed.eq_bool_str (ck I q (by simp))
  |_=>exact absurd (show false=true from hs) Bool.false_ne_true
 |int i =>
  obtain⟨t,rfl⟩:=rx;cases y with
  |non=>cases ry;exact PySem.EqNone.eq_int_none (ck I q (by simp))
  |int j=>obtain⟨t',rfl⟩:=ry;exact eq_int (ck I q Yb)
  |str j=>obtain⟨t',rfl⟩:=ry;exact PySem.EqMixed.eq_int_str (ck I q (by simp))
  |_=>exact absurd (show false=true from hs) Bool.false_ne_true
 |str i =>
  obtain⟨t,rfl⟩:=rx;cases y with
  |non=>cases ry;exact PySem.EqNone.eq_str_none (ck I q (by simp))
  |bl j=>cases ry;exact PySem.EqMixed.eq_str_bool (ck I q (by simp))
  |int j=>obtain⟨t',rfl⟩:=ry;exact PySem.EqMixed.eq_str_int (ck I q (by simp))
  |str j=>obtain⟨t',rfl⟩:=ry;exact eq_str (ck I q Yc)
  |_=>exact absurd (show false=true from hs) Bool.false_ne_true
 |byt i =>
  obtain⟨t,rfl⟩:=rx;cases y with
  |byt j=>obtain⟨t',rfl⟩:=ry;exact PySem.W.eq_bytes (ck I q Yd)
  |_=>exact absurd (show false=true from hs) Bool.false_ne_true
 |_=>cases y <;> exact absurd (show false=true from hs) Bool.false_ne_true
theorem uv:vm X (compareOp .NotEq) rNe:=by
 intro pins s σ H x y v u Q I rx ry h;obtain⟨hs,q⟩:=h;cases x with
 |non =>
  cases rx;cases y with
  |non=>cases ry;exact PySem.EqNone.ne_none_none (ck I q (by simp))
  |bl j=>cases ry;exact PySem.EqNone.ne_none_bool (ck I q (by simp))
  |int j=>obtain⟨t',rfl⟩:=ry;exact PySem.EqNone.ne_none_int (ck I q (by simp))
  |str j=>obtain⟨t',rfl⟩:=ry;exact PySem.EqNone.ne_none_str (ck I q (by simp))
  |_=>exact absurd (show false=true from hs) Bool.false_ne_true
 |bl i =>
  cases rx;cases y with
  |non=>cases ry;exact PySem.EqNone.ne_bool_none (ck I q (by simp))
  |bl j=>cases ry;exact ne_bool (ck I q (congrArg not aaM))
  |str j=>obtain⟨t',rfl⟩:=ry;exact PySem.EqMixed.ne_bool_str (ck I q (by simp))
  |_=>exact absurd (show false=true from hs) Bool.false_ne_true
 |int i =>
  obtain⟨t,rfl⟩:=rx;cases y with
  |non=>cases ry;exact PySem.EqNone.ne_int_none (ck I q (by simp))
  |int j=>obtain⟨t',rfl⟩:=ry;exact ne_int (ck I q (congrArg not Yb))
  |str j=>obtain⟨t',rfl⟩:=ry;exact PySem.EqMixed.ne_int_str (ck I q (by simp))
  |_=>exact absurd (show false=true from hs) Bool.false_ne_true
 |str i =>
  obtain⟨t,rfl⟩:=rx;cases y with
  |non=>cases ry;exact PySem.EqNone.ne_str_none (ck I q (by simp))
  |bl j=>cases ry;exact PySem.EqMixed.ne_str_bool (ck I q (by simp))
  |int j=>obtain⟨t',rfl⟩:=ry;exact PySem.EqMixed.ne_str_int (ck I q (by simp))
  |str j=>obtain⟨t',rfl⟩:=ry;exact ne_str (ck I q (congrArg not Yc))
  |_=>exact absurd (show false=true from hs) Bool.false_ne_true
 |byt i =>
  obtain⟨t,rfl⟩:=rx;cases y with
  |byt j=>obtain⟨t',rfl⟩:=ry;exact PySem.W.ne_bytes (ck I q (congrArg not Yd))
  |_=>exact absurd (show false=true from hs) Bool.false_ne_true
 |_=>cases y <;> exact absurd (show false=true from hs) Bool.false_ne_true
theorem qI:vm X (compareOp .Lt) (rI0 fun i j=>.bl (decide (i<j))):=adn fun _ _ _ _ _ _ _ q=>lt_int q
theorem uw:vm X (compareOp .LtE) (rI0 fun i j=>.bl (decide (i<=j))):=adn fun _ _ _ _ _ _ _ q=>le_int q
theorem aaN:vm X (compareOp .Gt) (rI0 fun i j=>.bl (decide (j<i))):=adn fun _ _ _ _ _ _ _ q=>gt_int q
theorem aaO:vm X (compareOp .GtE) (rI0 fun i j=>.bl (decide (j<=i))):=adn fun _ _ _ _ _ _ _ q=>ge_int q
theorem c9:vm X (compareOp .In) (fun x y H Q=>∃ i j,x=.str i/\y=.str j/\Q (.bl (!(Builtin.Str.occurrences j i 0 j.length 1).isEmpty)) H):=by
 intro pins s σ H x y v u Q I rx ry h;obtain⟨i,j,rfl,rfl,q⟩:=h;obtain⟨t,rfl⟩:=rx;obtain⟨t',rfl⟩:=ry;exact in_str (ck I q rfl)
theorem UR:vm X (compareOp .Is) (fun x y H Q=>y=.non/\Q (.bl (decide (x=.non))) H):=by
 intro pins s σ H x y v u Q I rx ry h;obtain⟨rfl,q⟩:=h;cases ry;refine is_none_gen (ck I q ?_);cases x <;> first
  |(cases rx;rfl)
  |(obtain⟨t,rfl⟩:=rx;rfl)
theorem OL:vm X (compareOp .IsNot) (fun x y H Q=>y=.non/\Q (.bl (!decide (x=.non))) H):=by
 intro pins s σ H x y v u Q I rx ry h;obtain⟨rfl,q⟩:=h;cases ry;refine isnot_none_gen (ck I q ?_);cases x <;> first
  |(cases rx;rfl)
  |(obtain⟨t,rfl⟩:=rx;rfl)
theorem vm.or {f:Value->Value->Sem Value}{r r':R2}(h:vm X f r)(h':vm X f r'):vm X f (fun x y H Q=>r x y H Q\/r' x y H Q):=by
 intro pins s σ H x y v u Q I rx ry q;rcases q with q|q
 ·exact h pins s σ H x y v u Q I rx ry q
 ·exact h' pins s σ H x y v u Q I rx ry q
theorem aw (b:Expr){op:CmpOp}(h:op≠.In:=by decide)(h2:op≠.NotIn:=by decide):behindInMarks op b=false:=by
 have e1:(op==CmpOp.In)=false:=by cases op <;> first|rfl|exact absurd rfl h
 have e2:(op==CmpOp.NotIn)=false:=by cases op <;> first|rfl|exact absurd rfl h2
 cases b <;> simp[behindInMarks,e1,e2]
theorem bK {op:CmpOp}{r:R2}(ho:vm X (compareOp op) r)(ha:PE X a ta)(hb:PE X b tb)(hm:behindInMarks op b=false):PE X (.Compare a [op] [b] pos) (tOp r ta tb):=by
 intro pins s σ H Q I h;exact wpAny_Compare1 (afI ha hb I h fun v u s2 x y H2 I2 rx ry q=>ho pins s2 σ H2 x y v u Q I2 rx ry q) hm
inductive aaP (Q:(Bool->Hp->Prop))(x:V)(H':Hp):Prop
 |mk (k:_) (fI:x=.bl k) (fJ:Q k H'):aaP Q x H'
def aeP (t:TE):TT:=fun σ H Q=>t σ H fun x H'=>aaP Q x H'
theorem ar {op:CmpOp}{r:R2}(ho:vm X (compareOp op) r)(ha:PE X a ta)(hb:PE X b tb)(hm:behindInMarks op b=false):PT X (.Compare a [op] [b] pos) (aeP (tOp r ta tb)):=by
 intro pins s σ H Q I h;refine wpAny_isTrue_Compare1 (cD (ha pins s σ H _ I h) fun v s1 ⟨x,H1,I1,r1,q1⟩=>cD (hb pins s1 σ H1 _ I1 q1) fun u s2 ⟨y,H2,I2,r2,q2⟩ =>
  cD (ho pins s2 σ H2 x y v u _ I2 r1 r2 q2) fun c s3 ⟨z,H3,I3,r3,k,e,q3⟩=>?_) hm
 subst e;cases r3;exact wpAny_truthy_bool ⟨H3,I3,q3⟩
def aaQ (r r':R2)(ta tb tc:TE):TE:=fun σ H Q=>ta σ H fun x H1=>tb σ H1 fun y H2=>r x y H2 fun z H3=>∃ k,z=.bl k /\
 (if k=true then tc σ H3 fun w' H4=>r' y w' H4 Q else Q (.bl false) H3)
theorem R8 {op op':CmpOp}{r r':R2}(ho:vm X (compareOp op) r)(ho':vm X (compareOp op') r')(ha:PE X a ta)(hb:PE X b tb)(hc:PE X c tc)
  (hm:lastMarks [op,op'] [b,c]=false:=by with_unfolding_all rfl):PE X (.Compare a [op,op'] [b,c] pos) (aaQ r r' ta tb tc):=by
 intro pins s σ H Q I h;refine Compare_chain (cD (ha pins s σ H _ I h) fun v s1 ⟨x,H1,I1,r1,q1⟩=>chain_link (cD (hb pins s1 σ H1 _ I1 q1) fun u s2 ⟨y,H2,I2,r2,q2⟩ =>
  cD (ho pins s2 σ H2 x y v u _ I2 r1 r2 q2) fun d s3 ⟨z,H3,I3,r3,k,e,q3⟩=>?_)) hm
 subst e;cases r3;refine wpAny_truthy_bool ?_;cases k with
 |false=>exact ite_ff ⟨.bl false,H3,I3,rfl,q3⟩
 |true=>exact ite_tt (chain_last (cD (hc pins s3 σ H3 _ I3 q3) fun w' s4 ⟨z',H4,I4,r4,q4⟩=>ho' pins s4 σ H4 y z' u w' Q I4 r2 r4 q4))
theorem C3 {op op':CmpOp}{r r':R2}(ho:vm X (compareOp op) r)(ho':vm X (compareOp op') r')(ha:PE X a ta)(hb:PE X b tb)(hc:PE X c tc)
  (hm:lastMarks [op,op'] [b,c]=false:=by with_unfolding_all rfl):PT X (.Compare a [op,op'] [b,c] pos) (aeP (aaQ r r' ta tb tc)):=by
 intro pins s σ H Q I h;refine isTrue_chain (cD (ha pins s σ H _ I h) fun v s1 ⟨x,H1,I1,r1,q1⟩=>test_link (cD (hb pins s1 σ H1 _ I1 q1) fun u s2 ⟨y,H2,I2,r2,q2⟩ =>
  cD (ho pins s2 σ H2 x y v u _ I2 r1 r2 q2) fun d s3 ⟨z,H3,I3,r3,k,e,q3⟩=>?_)) hm
 subst e;cases r3;refine wpAny_truthy_bool ?_;cases k with
 |false =>
  obtain⟨k',e',q'⟩:=q3;cases e';exact ite_ff ⟨H3,I3,q'⟩
 |true =>
  refine ite_tt (test_last (cD (hc pins s3 σ H3 _ I3 q3) fun w' s4 ⟨z',H4,I4,r4,q4⟩=>cD (ho' pins s4 σ H4 y z' u w' _ I4 r2 r4 q4) fun d' s5 ⟨z2,H5,I5,r5,k2,e2,q5⟩=>?_));subst e2;cases r5;exact wpAny_truthy_bool ⟨H5,I5,q5⟩
theorem Fp:(sizeLine:Nat)<2 ^ 63:=by rw[sizeLine_eq];decide
theorem ba:vm X (binaryOp .Add) (fun x y H Q=>∃ i j,x=.str i/\y=.str j/\i.length+j.length<=sizeLine/\Q (.str (i++j)) H):=by
 intro pins s σ H x y v u Q I rx ry h;obtain⟨i,j,rfl,rfl,hz,q⟩:=h;obtain⟨t,rfl⟩:=rx;obtain⟨t',rfl⟩:=ry;exact add_str (fun t' tk=>⟨.str (i++j),H,I.tok _,⟨_,rfl⟩,q⟩) hz
theorem vals1 {x:V}{us:List Value}(r:Vals [x] us):∃ u,us=[u]/\RelV x u:=by
 cases r with
 |cons r1 r2=>cases r2;exact⟨_,rfl,r1⟩
theorem vals2 {x y:V}{us:List Value}(r:Vals [x,y] us):∃ u w',us=[u,w']/\RelV x u/\RelV y w':=by
 cases r with
 |cons r1 r2 =>
  cases r2 with
  |cons r3 r4=>cases r4;exact⟨_,_,rfl,r1,r3⟩
theorem Y1 (hc:X.calm=true):k9 X (.builtin "max") (fun xs H Q=>∃ i j,xs=[.int i,.int j]/\Q (.int (if j > i then j else i)) H):=by
 intro pins s σ H xs us Q I r h;obtain⟨i,j,rfl,q⟩:=h;obtain⟨u,w',rfl,⟨t,rfl⟩,⟨t',rfl⟩⟩:=vals2 r;refine max_two_ints (I.ok.hd hc) fun h' tk k=>⟨_,H,I.kept k,?_,q⟩
 by_cases hj:j > i
 ·rw[if_pos hj,if_pos hj];exact⟨_,rfl⟩
 ·rw[if_neg hj,if_neg hj];exact⟨_,rfl⟩
theorem Y2 (hc:X.calm=true):k9 X (.builtin "min") (fun xs H Q=>∃ i j,xs=[.int i,.int j]/\Q (.int (if j<i then j else i)) H):=by
 intro pins s σ H xs us Q I r h;obtain⟨i,j,rfl,q⟩:=h;obtain⟨u,w',rfl,⟨t,rfl⟩,⟨t',rfl⟩⟩:=vals2 r;refine min_two_ints (I.ok.hd hc) fun h' tk k=>⟨_,H,I.kept k,?_,q⟩
 by_cases hj:j<i
 ·rw[if_pos hj,if_pos hj];exact⟨_,rfl⟩
 ·rw[if_neg hj,if_neg hj];exact⟨_,rfl⟩
theorem uy:k9 X (.type "int") (fun xs H Q=>(∃ i,xs=[.int i]/\Q (.int i) H)\/∃ k,xs=[.bl k]/\Q (.int (if k then 1 else 0)) H):=by
 intro pins s σ H xs us Q I r h;rcases h with ⟨i,rfl,q⟩|⟨k,rfl,q⟩
 ·obtain⟨u,rfl,t,rfl⟩:=vals1 r;exact call_int_int ⟨.int i,H,I,⟨_,rfl⟩,q⟩
 ·obtain⟨u,rfl,r1⟩:=vals1 r;cases r1;exact call_int_bool ⟨.int (if k then 1 else 0),H,I.tok _,⟨_,rfl⟩,q⟩
end
end L2
namespace L2
open PySem PySem.Spec PyProof.Rows
structure US (h:Heap)(x dx C:Addr)(mA:Str->Option Value):Prop where
 obj:h.get? x=some (instObj C dx)
 ns:h.Ns1 dx mA
 ne:dx≠x
theorem Y3 {h:Heap}{dx:Addr}{mA:Str->Option Value}(n:h.Ns1 dx mA):∃ od,h.get? dx=some od/\∀ name,lookIn name od=some (mA name):=by
 obtain⟨o,es,ep,ho,hd,hk,_,hm⟩:=n;refine⟨o,ho,fun name=>?_⟩;have e:=hm name;unfold nsFind findBy at e;rw[<-Array.find?_toList]at e;unfold lookIn;rw[hd];dsimp only;split
 ·rename_i y q
  rw[q]at e;exact congrArg some e
 ·rename_i q
  rw[q]at e;have a:es.toList.any (·.refKey)=false:=by
   rw[List.any_eq_false];intro y hy;obtain⟨z,t,hkey⟩:=hk y (Array.mem_toList_iff.mp hy);simp[DictEntry.refKey,hkey]
  have a':¬ es.toList.any (·.refKey)=true:=by rw[a];exact Bool.false_ne_true
  rw[if_neg a'];exact congrArg some e
theorem US.look {h:Heap}{x dx C:Addr}{mA:Str->Option Value}(I:US h x dx C mA):∃ od,PySem.W.InstAt h x (instObj C dx) C (some od)/\∀ name,lookIn name od=some (mA name) :=
 let ⟨od,ho,hl⟩:=Y3 I.ns
 ⟨od,⟨I.obj,rfl,rfl,ho⟩,hl⟩
section
variable {prog:Program} {w:World} {A:Around} {E:Value->Shared->Prop} {s:Shared} {K:Frag} {x dx C f:Addr} {mA:Str->Option Value} {name:Str} {v:Value}
theorem get_map {expr:Bool}{Q:Value->Shared->Prop}(X:K.In s.heap)(I:US s.heap x dx C mA)(hg:plainGet K C name=true)(hh:hasDictIn K C=true)
  (ha:findIn K (.ref C) name=some none) (hv:mA name=some v) (hv':handedIn v=true) (h:Q v { s with toks:=s.toks+1 }) :
  wpAny (model prog w) A (getAttr (.ref x) name expr) Q E s:=by
 obtain⟨od,J,hl⟩:=I.look;exact PySem.W.get_value X J (plainGet_of hg).1 (PySem.W.findObj_own hh ha rfl (by rw[hl,hv])) hv' h
theorem aaR {pl:Sem Bool}{Q:Value×List Value->Shared->Prop}(X:K.In s.heap)(I:US s.heap x dx C mA)(hg:plainGet K C name=true)
  (hf:findIn K (.ref C) name=some (some (.ref f))) (ht:isFn K (.ref f)=true) (hv:mA name=none) (h:Q (.ref f,[.ref x]) s) :
  wpAny (model prog w) A (getMethod (.ref x) name pl) Q E s:=by
 obtain⟨od,J,hl⟩:=I.look;exact PySem.W.method_fn X J (plainGet_of hg).1 (plainGet_of hg).2 hf (beq_iff_eq.mp ht) (by show(lookIn name od).map (·.isSome)=some false;rw[hl,hv];rfl) h
theorem oy {ns:List Str}{Q:Unit->Shared->Prop}(X:K.In s.heap)(I:US s.heap x dx C mA)
  (hs:findIn K (.ref C) "__setattr__"=some (some (.builtin "object.__setattr__"))) (hp:plainOver K C=true) (ht:takerIn K C name=some none) (hh:hasDictIn K C=true)
  (hw:PySem.Within mA ns) (hsz:ns.length<=sizeLine)
  (h:∀ h',US h' x dx C (fun y=>if y=name then some v else mA y)->Heap.SameBut dx s.heap h'->Q () { s with heap:=h',toks:=s.toks+2 }) :
  wpAny (model prog w) A (setAttr (.ref x) name v) Q E s:=by
 obtain⟨od,J,hl⟩:=I.look;refine PySem.W.set_plain X J hs (PySem.W.osa_open (s:={ s with toks:=s.toks+1 }) (r:=none) X J hp ht fun b=>?_);obtain⟨cd,hc,hd'⟩:=PySem.W.any_some hh;have hx:s.heap.get? x=some ⟨.ref C,some dx,.plain,#[]⟩:=I.obj;refine wpAny_bind (wpAny_pure (wpAny_bind (wpAny_bind (wpAny_loadPart hx (wpAny_bind (PySem.W.Looks.here (s:={ s with toks:=s.toks+1 }) (PySem.W.looks_clsIn X hc) ?_))))));rw[hd'];refine wpAny_pure (a:=some dx) (wpAny_bind (wpAny_pure (wpAny_bind ?_)));refine wpAny_nsSet1 (s:={ s with toks:=s.toks+1 }) I.ns fun h' hn2 hs2=>?_;obtain⟨oD,esD,epD,hoD,hdD,hcD⟩:=hn2.count (PySem.Within.cons name v hw);refine wpAny_bind (wpAny_lookBehind hoD (by rw[hdD];exact pastItsLine_dict (Nat.le_trans hcD (by rw[length_cons];omega))) ?_);exact wpAny_pure (h _ ⟨(hs2.2 _ (Ne.symm I.ne)).trans I.obj,hn2,I.ne⟩ hs2)
theorem aaS {R:Result->Shared->Prop}{vs:List Value}{kw:List (Str×Value)}(X:K.In s.heap)(hm:makesIn K C=true)
  (hi:findIn K (.ref C) "__init__"=some (some (.ref f))) (hf:PySem.W.typeIn K (.ref f)=some (.type "function"))
  (h:codeAny (model prog w) (A.under (.builtin "type.__call__" ⟨.ref C::vs,kw⟩)) (.call (.ref f) ⟨.ref (s.heap.objs.size+1)::vs,kw⟩) (PySem.W.InitBack (s.heap.objs.size+1) R)
   { s with heap:=(s.heap.push emptyDict).push (instObj C s.heap.objs.size) }) :
  codeAny (model prog w) A (.call (.ref C) ⟨vs,kw⟩) R s:=by
 obtain⟨hh,g,d,t,os⟩:=s;exact PySem.W.make_core (PySem.W.makes_of X hm) (PySem.W.looks_findIn X hi) (fun self=>PySem.W.bind_fn X self hf) (.inl rfl) h
end
def mI (f:Str)(v:V):List (Str×V)->List (Str×V)
 |[]=>[(f,v)]
 |(g,x)::r=>if g=f then(g,v)::r else(g,x)::mI f v r
theorem IL (f g:Str)(v:V):∀ fs:List (Str×V),(mI f v fs).lookup g=if g=f then some v else fs.lookup g
 |[]=>by
  show List.lookup g [(f,v)]=_
  by_cases h:g=f
  ·have hb:(g==f)=true:=beq_iff_eq.mpr h;simp only [List.lookup,hb,if_pos h]
  ·have hb:(g==f)=false:=beq_eq_false_iff_ne.mpr h;simp only [List.lookup,hb,if_neg h]
 |(k,x)::r=>by
  have ih:=IL f g v r;rw[show mI f v ((k,x)::r)=(if k=f then(k,v)::r else(k,x)::mI f v r) from rfl]
  by_cases hk:k=f
  ·rw[if_pos hk]
   by_cases h:g=k
   ·have hb:(g==k)=true:=beq_iff_eq.mpr h;simp only [List.lookup,hb,if_pos (h.trans hk)]
   ·have hb:(g==k)=false:=beq_eq_false_iff_ne.mpr h;simp only [List.lookup,hb,if_neg (fun e:g=f=>h (e.trans hk.symm))]
  ·rw[if_neg hk]
   by_cases h:g=k
   ·have hb:(g==k)=true:=beq_iff_eq.mpr h;simp only [List.lookup,hb,if_neg (fun e:g=f=>hk (h.symm.trans e))]
   ·have hb:(g==k)=false:=beq_eq_false_iff_ne.mpr h;simp only [List.lookup,hb];exact ih
theorem Fq (f:Str)(v:V):∀ fs:List (Str×V),f∈(mI f v fs).map (·.1)/\∀ g,g∈fs.map (·.1)->g∈(mI f v fs).map (·.1)
 |[]=>⟨by simp[mI],fun g h=>by simp at h⟩
 |(k,x)::r=>by
  obtain⟨i1,i2⟩:=Fq f v r;rw[show mI f v ((k,x)::r)=(if k=f then(k,v)::r else(k,x)::mI f v r) from rfl]
  by_cases hk:k=f
  ·rw[if_pos hk];subst hk;exact⟨by simp,fun g h=>by simpa using h⟩
  ·rw[if_neg hk];refine⟨?_,fun g h=>?_⟩
   ·rw[map_cons];exact mem_cons_of_mem _ i1
   ·rw[map_cons]at h ⊢;rcases List.mem_cons.mp h with e|e
    ·exact List.mem_cons.mpr (.inl e)
    ·exact mem_cons_of_mem _ (i2 g e)
theorem IM (f:Str)(v:V):∀ fs:List (Str×V),(mI f v fs).length<=fs.length+1
 |[]=>by simp[mI]
 |(k,x)::r=>by
  have ih:=IM f v r;rw[show mI f v ((k,x)::r)=(if k=f then(k,v)::r else(k,x)::mI f v r) from rfl]
  by_cases hk:k=f
  ·rw[if_pos hk,length_cons,length_cons];omega
  ·rw[if_neg hk,length_cons,length_cons];omega
theorem o8.some_of {v:V}{o:Option Value}(r:o8 (some v) o):∃ u,o=some u/\RelV v u:=by
 cases o with
 |none=>exact(show False from r).elim
 |some u=>exact⟨u,rfl,r⟩
theorem o8.none_of {o:Option Value}(r:o8 none o):o=none:=by
 cases o with
 |none=>rfl
 |some u=>exact(show False from r).elim
theorem Y4 {v:V}{u:Value}(r:RelV v u):handedIn u=true:=by
 cases v with
 |non=>cases (show u=Value.none from r);rfl
 |bl b=>cases (show u=Value.bool b from r);rfl
 |int i=>obtain⟨t,e⟩:=(show ∃ t,u=Value.int i t from r);cases e;rfl
 |str x=>obtain⟨t,e⟩:=(show ∃ t,u=Value.str x t from r);cases e;rfl
 |byt b=>obtain⟨t,e⟩:=(show ∃ t,u=Value.bytes b t from r);cases e;rfl
 |flt b=>obtain⟨t,e⟩:=(show ∃ t,u=Value.float b t from r);cases e;rfl
 |ref a=>cases (show u=Value.ref a from r);rfl
 |ty n=>cases (show u=Value.type n from r);rfl
section
variable {P:Program} {w:World} {H H':Hp} {h h':Heap} {a C dx:Addr} {fs fs':List (Str×V)}
theorem J8 (hok:xm P w H h)(e:H a=some (.ins C dx fs)):∃ mA,US h a dx C mA/\(∀ f,o8 (fs.lookup f) (mA f))/\PySem.Within mA (fs.map (·.1))/\fs.length<=1000/\H dx=some (.own a):=by
 obtain⟨d,z,ne,ob,mA,n,r,q⟩:=(show gO P w H h a (.ins C dx fs) from hok a _ e);exact⟨mA,⟨ob,n,ne⟩,r,q,z,d⟩
end
structure UT (K:Frag)(C:Addr):Prop where
 pg:plainGet K C Str.empty=true
 hd:hasDictIn K C=true
 po:plainOver K C=true
 sa:findIn K (.ref C) "__setattr__"=some (some (.builtin "object.__setattr__"))
theorem UT.get {K:Frag}{C:Addr}(c:UT K C)(f:Str):plainGet K C f=true:=c.pg
def jU (K:Frag)(C:Addr)(f:Str):Prop:=findIn K (.ref C) f=some none
theorem jU.taker {K:Frag}{C:Addr}{f:Str}(n:jU K C f):takerIn K C f=some none:=by
 unfold takerIn;rw[show findIn K (.ref C) f=some none from n];rfl
structure Con (K:Frag)(C:Addr)(f:Str)(v:V)(u:Value):Prop where
 at_:findIn K (.ref C) f=some (some u)
 rel:RelV v u
 get:specialIn K u "__get__"=some none
 cp:PySem.W.copiedNames.contains f=false
structure Meth (K:Frag)(C:Addr)(m:Str)(f:Addr):Prop where
 at_:findIn K (.ref C) m=some (some (.ref f))
 fn:isFn K (.ref f)=true
 kp:keepIn K (.ref f)=true
section
variable {X:Cx} {pins:List (Addr×Obj)} {σ:St} {H:Hp} {s:Shared} {a C dx:Addr} {fs:List (Str×V)} {f:Str} {v:V} {A:Around} {E:Value->Shared->Prop}
theorem UU {b:Bool}{Q:Value->Shared->Prop}(I:Inv X pins σ H s)(e:H a=some (.ins C dx fs))(c:UT X.K C)(n:jU X.K C f)(l:fs.lookup f=some v)
  (h:∀ u s',Inv X pins σ H s'->RelV v u->Q u s'):wpAny (model X.prog X.w) A (getAttr (.ref a) f b) Q E s:=by
 obtain⟨mA,O,r,_,_,_⟩:=J8 I.hok e;obtain⟨u,hu,ru⟩:=o8.some_of (v:=v) (o:=mA f) (by rw[<-l];exact r f);exact get_map I.xj O (c.get f) c.hd n hu (Y4 ru) (h u _ (I.tok _) ru)
theorem vn {m:Str}{g:Addr}{pl:Sem Bool}{Q:Value×List Value->Shared->Prop}(I:Inv X pins σ H s)(e:H a=some (.ins C dx fs))(c:UT X.K C)(k:Meth X.K C m g)(l:fs.lookup m=none)
  (h:Q (.ref g,[.ref a]) s):wpAny (model X.prog X.w) A (getMethod (.ref a) m pl) Q E s:=by
 obtain⟨mA,O,r,_,_,_⟩:=J8 I.hok e;have hn:mA m=none:=o8.none_of (by rw[<-l];exact r m);exact aaR I.xj O (c.get m) k.at_ k.fn hn h
theorem UW {y:V}{u:Value}{Q:Unit->Shared->Prop}(I:Inv X pins σ H s)(e:H a=some (.ins C dx fs))(c:UT X.K C)(n:jU X.K C f)(hl:fs.length<1000)(ry:RelV y u)
  (h:∀ s',Inv X pins σ (upd H a (.ins C dx (mI f y fs))) s'->Q () s'):wpAny (model X.prog X.w) A (setAttr (.ref a) f u) Q E s:=by
 obtain⟨mA,O,r,wi,_,ho⟩:=J8 I.hok e;have hz:(fs.map (·.1)).length<=sizeLine:=by rw[length_map,sizeLine_eq];omega
 refine oy I.xj O c.sa c.po n.taker c.hd wi hz fun h' O' sb=>h _ ?_;have hd:∃ o,h'.get? dx=some o:=let ⟨o,_,_,e',_⟩:=O'.ns;⟨o,e'⟩;refine I.write (x:=a) (e:=dx) (by rw[e];exact True.intro) (.inr ho) (fun b q hb z=>(sb.2 b hb).trans z) hd ?_;refine⟨by rw[ak O.ne];exact ho,?_,O.ne,O'.obj,_,O'.ns,fun g=>?_,fun g hg=>?_⟩
 ·have:=IM f y fs;omega
 ·show o8 ((mI f y fs).lookup g) (if g=f then some u else mA g);rw[IL]
  by_cases q:g=f
  ·rw[if_pos q,if_pos q];exact ry
  ·rw[if_neg q,if_neg q];exact r g
 ·by_cases q:g=f
  ·rw[q];exact(Fq f y fs).1
  ·refine(Fq f y fs).2 g (wi g fun z=>hg ?_);show(if g=f then some u else mA g)=none;rw[if_neg q];exact z
theorem Inv.made (I:Inv X pins σ H s):Inv X pins σ (upd (upd H s.heap.objs.size (.own (s.heap.objs.size+1))) (s.heap.objs.size+1) (.ins C s.heap.objs.size []))
  { s with heap:=(s.heap.push emptyDict).push (instObj C s.heap.objs.size) }:=by
 have e1:(s.heap.push emptyDict).get? s.heap.objs.size=some emptyDict:=Heap.get?_push_size s.heap rfl;have e2:((s.heap.push emptyDict).push (instObj C s.heap.objs.size)).get? (s.heap.objs.size+1)=some (instObj C s.heap.objs.size):=by
  have:=Heap.get?_push_size (s.heap.push emptyDict) (o:=instObj C s.heap.objs.size) rfl
  rwa [Heap.size_push]at this
 have e3:(s.heap.push emptyDict).Ns s.heap.objs.size (fun _=>none):=⟨emptyDict,#[],_,e1,rfl,(fun e he=>absurd he (by simp)),fun _=>rfl⟩;have I1:=I.laid (a:=s.heap.objs.size) (o:=.own (s.heap.objs.size+1)) (h':=s.heap.push emptyDict) (t':=s.toks) (fun b u q=>Heap.get?_push_of_some _ q) (Nat.le_refl _) ⟨_,e1⟩;refine I1.laid (a:=s.heap.objs.size+1) (o:=.ins C s.heap.objs.size []) (t':=s.toks) (fun b u q=>Heap.get?_push_of_some _ q) (Nat.le_of_eq (Heap.size_push _ _)) ?_;have ne:s.heap.objs.size≠s.heap.objs.size+1:=Nat.ne_of_lt (Nat.lt_succ_self _);refine⟨by rw[ak ne,af],Nat.zero_le _,ne,e2,fun _=>none,(Heap.Ns1.of_empty e3).at fun o q=>Heap.get?_push_of_some _ q,fun _=>True.intro,fun y hy=>absurd rfl hy⟩
theorem ado {prog:Program}{w:World}{env:Env}{e:Expr}{f:Str}{pos:Pos}{s:Shared}{Q:Value->Shared->Prop}(hb:attributeBase e f env (eval e env)=eval e env)
  (h:wpAny (model prog w) A (eval e env) (fun o s₁=>wpAny (model prog w) A (getAttr o f true) Q E s₁) E s):wpAny (model prog w) A (eval (.Attribute e f pos) env) Q E s :=
 Attribute_any_ h (by rw[arm_eval_Attribute,hb])
end
inductive aeQ (K:Frag)(f:Str)(Q:VK)(x:V)(H1:Hp):Prop
 |mk (a:_) (C:_) (dx:_) (fs:_) (v:_) (fI:x=.ref a) (fJ:H1 a=some (.ins C dx fs)) (hI:UT K C) (kK:jU K C f) (sd:fs.lookup f=some v) (OM:Q v H1):aeQ K f Q x H1
def ajW (K:Frag)(ta:TE)(f:Str):TE:=fun σ H Q=>ta σ H fun x H1=>aeQ K f Q x H1
inductive aeR (K:Frag)(f:Str)(D:Ends)(σ:St)(y:V)(x:V)(H2:Hp):Prop
 |mk (a:_) (C:_) (dx:_) (fs:_) (fI:x=.ref a) (fJ:H2 a=some (.ins C dx fs)) (hI:UT K C) (kK:jU K C f) (sd:fs.length<1000) (OM:D.nx σ (upd H2 a (.ins C dx (mI f y fs)))):aeR K f D σ y x H2
def ajX (K:Frag)(ta tv:TE)(f:Str):TS:=fun D σ H=>tv σ H fun y H1=>ta σ H1 fun x H2=>aeR K f D σ y x H2
section
variable {X:Cx} {o e value:Expr} {f:Str} {pos pos' tpos:Pos} {ta tv:TE}
theorem bT (he:PE X e ta)(hb:attributeBase e f X.env (eval e X.env)=eval e X.env):PE X (.Attribute e f pos) (ajW X.K ta f):=by
 intro pins s σ H Q I h;refine ado hb (cD (he pins s σ H _ I h) fun u s1 ⟨x,H1,I1,rx,a,C,dx,fs,v,ex,ea,c,n,l,q⟩=>?_);subst ex;obtain rfl:u=Value.ref a:=rx;exact UU I1 ea c n l fun u' s2 I2 ru=>⟨v,H1,I2,ru,q⟩
theorem tX (ha:PE X o ta)(hv:PE X value tv)(hs:swapsWith value (some (.Attribute o f pos')) pos.line X.env=pure false):PS X (.Assign [.Attribute o f pos'] value pos) (ajX X.K ta tv f):=by
 intro pins s σ H D I h;refine plainObj_wpAny_Assign_Attribute (cD (hv pins s σ H _ I h) fun u s1 ⟨y,H1,I1,ry,q⟩=>cD (ha pins s1 σ H1 _ I1 q) fun ov s2 ⟨x,H2,I2,rx,a,C,dx,fs,ex,ea,c,n,l,q2⟩=>?_) hs;subst ex;obtain rfl:ov=Value.ref a:=rx;exact UW I2 ea c n l ry fun s3 I3=>⟨σ,_,I3,q2⟩
end
section
variable {X:Cx} {pins:List (Addr×Obj)} {σ:St} {H:Hp} {s:Shared} {A:Around} {E:Value->Shared->Prop} {Q:Value->Shared->Prop} {c:Value} {b:Bool}
inductive iQ (K:Frag)(H:Hp):V->Value->Prop where
 |non:iQ K H .non (.type "NoneType")
 |bl (x:Bool):iQ K H (.bl x) (.type "bool")
 |int (i:Int):iQ K H (.int i) (.type "int")
 |str (x:Str):iQ K H (.str x) (.type "str")
 |flt (x:UInt64):iQ K H (.flt x) (.type "float")
 |lst {a:Addr} {xs:List V} (e:H a=some (.lst xs)):iQ K H (.ref a) (.type "list")
 |X8 {a:Addr} {o:Obj} {xs:List V} (e:H a=some (.X8 o (.lst xs))):iQ K H (.ref a) (.type "list")
 |tup {a:Addr} {xs:List V} (e:H a=some (.tup xs)):iQ K H (.ref a) (.type "tuple")
 |dK {a:Addr} {kvs:List (Key×V)} (e:H a=some (.dK kvs)):iQ K H (.ref a) (.type "dict")
 |dT {a:Addr} {kvs:List (List Key×V)} (e:H a=some (.dT kvs)):iQ K H (.ref a) (.type "dict")
 |ins {a C dx:Addr} {fs:List (Str×V)} (e:H a=some (.ins C dx fs)) (cl:UT K C) (ha:findIn K (.ref C) "__class__"=some (some (.builtin "object.__class__")))
   (hn:specialIn K (.builtin "object.__class__") "__get__"=some (some (.builtin "getset_descriptor.__get__"))) (htk:PySem.W.takesIn K (.builtin "object.__class__")=some true)
   (hm:mroIn K C (.type "object")=some true):iQ K H (.ref a) (.ref C)
theorem Y5 {x:V}{u t:Value}(I:Inv X pins σ H s)(rx:RelV x u)(ty:iQ X.K H x t)(e:kitOne X.K t c=some b)(h:∀ tk,Q (.bool b) { s with toks:=tk }) :
  wpAny (model X.prog X.w) A (call (.builtin "isinstance") [u,c]) Q E s:=by
 cases ty with
 |non=>cases (show u=Value.none from rx);exact kia_one PySem.W.kitx_none I.xj True.intro e (fun z=>nomatch z) h
 |bl y=>cases (show u=Value.bool y from rx);exact kia_one PySem.W.kitx_bool I.xj True.intro e (fun z=>nomatch z) h
 |int i=>obtain⟨t,q⟩:=(show ∃ t,u=Value.int i t from rx);cases q;exact kia_one PySem.W.kitx_int I.xj True.intro e (fun z=>nomatch z) h
 |str y=>obtain⟨t,q⟩:=(show ∃ t,u=Value.str y t from rx);cases q;exact kia_one PySem.W.kitx_str I.xj True.intro e (fun z=>nomatch z) h
 |flt y=>obtain⟨t,q⟩:=(show ∃ t,u=Value.float y t from rx);cases q;exact kia_one PySem.W.kitx_float I.xj True.intro e (fun z=>nomatch z) h
 | @lst a xs ea =>
  cases (show u=Value.ref a from rx);obtain⟨_,_,n,_,h1⟩:=(show gO X.prog X.w H s.heap a (.lst xs) from I.hok a _ ea);exact kia_one kitx_list I.xj ⟨_,h1,rfl⟩ e (fun z=>nomatch z) h
 | @X8 a ob xs ea =>
  cases (show u=Value.ref a from rx);obtain⟨_,_,_,n,_,h1⟩:=(show gO X.prog X.w H s.heap a (.X8 ob (.lst xs)) from I.hok a _ ea);exact kia_one kitx_list I.xj ⟨_,h1,rfl⟩ e (fun z=>nomatch z) h
 | @tup a xs ea =>
  cases (show u=Value.ref a from rx);obtain⟨_,_,_,p⟩:=(show gO X.prog X.w H s.heap a (.tup xs) from I.hok a _ ea);obtain⟨o,h1,h2,_⟩:=p;exact kia_one PySem.W.kitx_tuple I.xj ⟨o,h1,h2⟩ e (fun z=>nomatch z) h
 | @dK a kvs ea =>
  cases (show u=Value.ref a from rx);obtain⟨_,_,vs,_,p⟩:=(show gO X.prog X.w H s.heap a (.dK kvs) from I.hok a _ ea);obtain⟨o,es,ep,h1,h2,_⟩:=p;exact kia_one kitx_dict I.xj ⟨o,h1,h2.1⟩ e (fun z=>nomatch z) h
 | @dT a kvs ea =>
  cases (show u=Value.ref a from rx);obtain⟨_,_,xs,_,o,es,ep,h1,h2,_⟩:=(show gO X.prog X.w H s.heap a (.dT kvs) from I.hok a _ ea);exact kia_one kitx_dict I.xj ⟨o,h1,h2.1⟩ e (fun z=>nomatch z) h
 | @ins a C dx fs ea cl ha hn htk hm =>
  cases (show u=Value.ref a from rx);obtain⟨mA,O,_⟩:=J8 I.hok ea;obtain⟨od,J,_⟩:=O.look;exact kia_one (PySem.W.kitx_own (cl.get _) cl.hd ha hn htk hm) I.xj J e (fun z=>nomatch z) h
end
end L2
namespace L2
open PySem PySem.Spec PyProof.Rows
structure jB (k:Nat)(A:Around):Prop where
 hd:A.handled=none
 dp:A.depth+3 * k+5<recursionLimit
 un:A.units+16 * k+200<cLine
theorem jB.mono {j k:Nat}{A:Around}(r:jB k A)(h:j<=k):jB j A:=⟨r.hd,by have:=r.dp;omega,by have:=r.un;omega⟩
theorem jB.deeper {k:Nat}{A:Around}(r:jB (k+1) A)(env:Env):jB k (A.deeper env) :=
 ⟨r.hd,by have:=r.dp;show A.depth+1+3 * k+5<_;omega,by have:=r.un;show A.units+3+16 * k+200<_;omega⟩
theorem UX {A:Around}{C:Addr}{us:List Value}{kw:List (Str×Value)}:(A.under (.builtin "type.__call__" ⟨.ref C::us,kw⟩)).depth=A.depth+1:=by
 first|rfl|simp[Around.under,Code.weight,Code.isCreation,Code.isGuard,Code.isCaller,Code.frames,Code.isFrame,guardIds]
theorem UY {A:Around}{C:Addr}{us:List Value}{kw:List (Str×Value)}:(A.under (.builtin "type.__call__" ⟨.ref C::us,kw⟩)).units=A.units+1:=by
 first|rfl|simp[Around.under,Code.cUnits,Code.frames,Code.isFrame]
theorem jB.make {k:Nat}{A:Around}(r:jB (k+1) A)(C:Addr)(us:List Value)(kw:List (Str×Value)):jB k (A.under (.builtin "type.__call__" ⟨.ref C::us,kw⟩)) :=
 ⟨r.hd,by have:=r.dp;rw[UX];omega,by have:=r.un;rw[UY];omega⟩
theorem jB.depth {k:Nat}{A:Around}(r:jB k A):A.depth<recursionLimit:=by have:=r.dp;omega
theorem jB.units {k:Nat}{A:Around}(r:jB k A):A.units+64<cLine:=by have:=r.un;omega
def eM:TA:=fun _ H Q=>Q [] H
def bf (ta:TE)(tr:TA):TA:=fun σ H Q=>ta σ H fun x H1=>tr σ H1 fun xs H2=>Q (x::xs) H2
section
variable {X:Cx} {e:Expr} {es:List Expr} {te:TE} {t:TA} {pos:Pos}
theorem ae:PA X [] eM:=fun _ _ _ _ H Q I h=>Calls.spliced_nil ⟨[],H,I,.nil,h⟩
theorem aa (ha:PE X e te)(hr:PA X es t)(hs:starEach (e::es) X.env=(false,eval e X.env)::starEach es X.env:=by rfl):PA X (e::es) (bf te t):=by
 intro pos pins s σ H Q I h;rw[hs];show wpAny _ _ (spliced ((false,eval e X.env)::backTo pos (starEach es X.env))) _ _ s;refine Calls.spliced_cons (cD (ha pins s σ H _ I h) fun u s1 ⟨x,H1,I1,r1,q1⟩=>?_);exact cD (hr pos pins s1 σ H1 _ I1 q1) fun us s2 ⟨xs,H2,I2,r2,q2⟩=>⟨x::xs,H2,I2,.cons r1 r2,q2⟩
def Ap (t:TA):TE:=fun σ H Q=>t σ H fun xs H1=>xs.length<=sizeLine/\∀ p,H1 p=none->Q (.ref p) (upd H1 p (.tup xs))
def oM (t:TA):TE:=fun σ H Q=>t σ H fun xs H1=>xs.length<=sizeLine/\∀ p,H1 p=none->Q (.ref p) (upd H1 p (.lst xs))
theorem cH {x1}(h:PA X es t):PE X (.Tuple es x1 pos) (Ap t):=by
 intro pins s σ H Q I hq;refine wpAny_Tuple_spliced (cD (h pos pins s σ H _ I hq) fun us s1 ⟨xs,H1,I1,r,z,q⟩=>⟨by rw[<-r.length];exact z,?_⟩);have hf:H1 s1.heap.objs.size=none:=I1.hok.fresh (Nat.le_refl _);refine⟨.ref s1.heap.objs.size,upd H1 s1.heap.objs.size (.tup xs),I1.laid (t':=s1.toks) (fun b u e=>Heap.get?_push_of_some _ e) (Nat.le_refl _) ?_,rfl,q _ hf⟩;exact⟨z,us,r,⟨_,Heap.get?_push_size _ rfl,rfl,_,rfl⟩⟩
theorem bx (h:PA X es t):PE X (.List es pos) (oM t):=by
 intro pins s σ H Q I hq;refine wpAny_List_spliced (cD (h pos pins s σ H _ I hq) fun us s1 ⟨xs,H1,I1,r,z,q⟩=>⟨by rw[<-r.length];exact z,?_⟩);have hf:H1 s1.heap.objs.size=none:=I1.hok.fresh (Nat.le_refl _);refine⟨.ref s1.heap.objs.size,upd H1 s1.heap.objs.size (.lst xs),I1.laid (t':=s1.toks) (fun b u e=>Heap.get?_push_of_some _ e) (Nat.le_refl _) ?_,rfl,q _ hf⟩;exact⟨z,us,0,r,Heap.get?_push_size _ rfl⟩
end
abbrev Sp:=List V->Hp->VK->XK->Prop
abbrev CXT:=List Env->Hp->Shared->XK->Value->Shared->Prop
structure UZ (P:Program)(w:World)(K:Frag)(mg:Str->Option Value)(base:Heap)(A:Around)(outer:List Env)(s:Shared)(H:Hp):Prop where
 frames:A.frames=some outer
 mod:Mod K mg base
 bs:∀ b o,base.get? b=some o->s.heap.get? b=some o/\H b=none
 bsz:base.objs.size<=s.heap.objs.size
 C1:s.heap.FunFrames base outer
 frf:∀ b∈frs outer,H b=none
 hok:xm P w H s.heap
 bare:AllBare s.gens
def CE (outer:List Env)(P:Program)(w:World)(H:Hp)(s:Shared)(Q:VK)(u:Value)(s':Shared):Prop :=
 ∃ v H',s'.os=s.os/\AllBare s'.gens/\Un (frs outer) [] H H' s.heap s'.heap/\xm P w H' s'.heap/\RelV v u/\Q v H'
def CR (CX:CXT)(outer:List Env)(P:Program)(w:World)(H:Hp)(s:Shared)(Q:VK)(E:XK)(r:Result)(s':Shared):Prop :=
 match r with
 |.ok (.ret u)=>CE outer P w H s Q u s'
 |.ok _=>False
 |.error e=>CX outer H s E e s'
structure bE (P:Program)(w:World)(K:Frag)(mg:Str->Option Value)(base:Heap)(CX:CXT)(k:Nat)(f:Addr)(fd:FuncData)(ps:List Str)(sp:Sp):Prop where
 len:∀ vs H Q E,sp vs H Q E->vs.length=ps.length
 run:∀(A:Around)(outer:List Env)(s:Shared)(H:Hp)(args:Args)(us:List Value)(vs:List V)(Q:VK)(E:XK),jB k A->UZ P w K mg base A outer s H->BindsTo s fd args (ps.zip us)->Vals vs us->sp vs H Q E ->
  codeAny (model P w) A (.call (.ref f) args) (CR CX outer P w H s Q E) s
theorem UZ.make {P:Program}{w:World}{K:Frag}{mg:Str->Option Value}{base:Heap}{A:Around}{outer:List Env}{s:Shared}{H:Hp}(e:UZ P w K mg base A outer s H)(C:Addr)(us:List Value)(kw:List (Str×Value)) :
  UZ P w K mg base (A.under (.builtin "type.__call__" ⟨.ref C::us,kw⟩)) outer s H:=⟨by first|exact e.frames|(simpa [Around.under,Code.envs,Code.isFrame,pushEnvs] using e.frames),e.mod,e.bs,e.bsz,e.C1,e.frf,e.hok,e.bare⟩
section
variable {X:Cx} {pins:List (Addr×Obj)} {σ:St} {H:Hp} {s s':Shared}
theorem Inv.env0 (I:Inv X pins σ H s):UZ X.prog X.w X.K X.mg X.base X.A X.stack s H :=
 ⟨I.ok.frames,I.ok.mod,I.bs,Nat.le_trans I.ok.bsz I.sz,I.stack,I.OI,I.hok,I.bare⟩
theorem Inv.after {Q:VK}{u:Value}(I:Inv X pins σ H s)(h:CE X.stack X.prog X.w H s Q u s'):EP X pins σ Q u s':=by
 obtain⟨v,H',os,bare,un,hok,r,q⟩:=h;obtain⟨hh,g,d,t,os'⟩:=s';obtain rfl:os'=s.os:=os;exact⟨v,H',I.call (h':=hh) (g':=g) (d':=d) (t':=t) (ch:=[]) un hok bare (fun b z=>absurd z (by simp)),r,q⟩
end
def ahG (sp:Sp)(se:List V)(E:XK)(t:TA):TE:=fun σ H Q=>t σ H fun vs H1=>sp (vs++se) H1 Q E
inductive aaT (C:Addr)(m:Str)(sp:Sp)(se:List V)(E:XK)(t:TA)(σ:St)(Q:VK)(x:V)(H1:Hp):Prop
 |mk (a:_) (dx:_) (fs:_) (fI:x=.ref a) (fJ:H1 a=some (.ins C dx fs)) (hI:fs.lookup m=none) (kK:t σ H1 fun vs H2=>sp (x::(vs++se)) H2 Q E):aaT C m sp se E t σ Q x H1
def aeS (C:Addr)(m:Str)(sp:Sp)(se:List V)(E:XK)(ta:TE)(t:TA):TE:=fun σ H Q=>ta σ H fun x H1=>aaT C m sp se E t σ Q x H1
def aeT (C:Addr)(sp:Sp)(se:List V)(E:XK)(t:TA):TE:=fun σ H Q=>t σ H fun vs H1=>∀ x dx,H1 x=none->H1 dx=none->dx≠x ->
 sp (.ref x::(vs++se)) (upd (upd H1 dx (.own x)) x (.ins C dx [])) (fun v H2=>v=.non/\Q (.ref x) H2) E
def Binds (K:Frag)(fd:FuncData)(ps:List Str)(ds:List Value):Prop :=
 ∀(s:Shared)(us:List Value),K.In s.heap->(us++ds).length=ps.length->BindsTo s fd ⟨us,[]⟩ (ps.zip (us++ds))
theorem Binds.all {K:Frag}{fd:FuncData}{ps:List Str}(h:∀ us:List Value,us.length=ps.length->bindArgs fd ⟨us,[]⟩=pure (ps.zip us)):Binds K fd ps []:=fun s us _ hl=>by
 rw[append_nil]at hl ⊢;exact .of_eq (h us hl)
def Passes (CX:CXT)(X:Cx)(E:XK):Prop:=∀(pins:List (Addr×Obj)) (σ:St) (H:Hp) (s:Shared) (e:Value) (s':Shared),Inv X pins σ H s->CX X.stack H s E e s'->X.xe e s'
section
variable {X:Cx} {CX:CXT} {k:Nat} {f C:Addr} {fd:FuncData} {ps:List Str} {sp:Sp} {se:List V} {ds:List Value} {E:XK} {x m:Str} {p pos apos:Pos} {e o:Expr} {es:List Expr} {ta:TE} {t:TA}
theorem U0 {pins:List (Addr×Obj)}{σ:St}{H:Hp}{s:Shared}{Q:VK}{us:List Value}{vs:List V}(F:bE X.prog X.w X.K X.mg X.base CX k f fd ps sp)(hr:jB k X.A)(hb:Binds X.K fd ps ds)(hd:Vals se ds)(hx:Passes CX X E)
  (I:Inv X pins σ H s) (r:Vals vs us) (h:sp (vs++se) H Q E):wpAny (model X.prog X.w) X.A (call (.ref f) us) (EP X pins σ Q) X.xe s:=by
 have r2:Vals (vs++se) (us++ds):=r.append hd;have hl:(us++ds).length=ps.length:=by rw[<-r2.length];exact F.len _ _ _ _ h
 refine wpAny_call (codeAny_mono (F.run X.A X.stack s H ⟨us,[]⟩ (us++ds) (vs++se) Q E hr I.env0 (hb s us I.xj hl) r2 h) fun r s' hq=>?_);cases r with
 |error e=>exact hx pins σ H s e s' I hq
 |ok fl =>
  cases fl with
  |ret u=>exact I.after hq
  |next=>exact False.elim hq
  |brk=>exact False.elim hq
  |cont=>exact False.elim hq
theorem aF (F:bE X.prog X.w X.K X.mg X.base CX k f fd ps sp)(hr:jB k X.A)(hg:Gl X x)(hm:X.mg x=some (.ref f))(hk:keepIn X.K (.ref f)=true)(hb:Binds X.K fd ps ds)(hd:Vals se ds)(hx:Passes CX X E)
  (ha:PA X (e::es) t) (hdb:(x==("__debug__":Str))=false:=by decide) (he:starEach (e::es) X.env=(false,eval e X.env)::starEach es X.env:=by rfl) (hpl:(backTo pos (starEach es X.env)).any (·.1)=false:=by rfl) :
  PE X (.Call (.Name x p) (e::es) [] pos) (ahG sp se E t):=by
 intro pins s σ H Q I h;refine wpAny_Call_Name_kw (vj I hg hm ?_ hdb);refine callWith_K (h₀:=X.base) I.ok.mod.kin hk (cD (ha pos pins s σ H _ I h) fun us s1 ⟨vs,H1,I1,r,q⟩=>⟨I1.xj,?_⟩) he hpl;exact U0 F hr hb hd hx I1 r q
theorem hZ {pl:Sem Bool}(he:PE X o ta)(c:UT X.K C)(hm:Meth X.K C m f)(F:bE X.prog X.w X.K X.mg X.base CX k f fd ps sp)(hr:jB k X.A)(hb:Binds X.K fd ps ds)(hd:Vals se ds)(hx:Passes CX X E)(ha:PA X (e::es) t)
  (hst:starEach (e::es) X.env=(false,eval e X.env)::starEach es X.env:=by rfl) (hpl:(backTo pos (starEach es X.env)).any (·.1)=false:=by rfl)
  (ht:eval (.Call (.Attribute o m apos) (e::es) [] pos) X.env=(do
   let ov <-eval o X.env
   standAt apos.atName
   let (f,first) <-holding [ov] (getMethod ov m pl)
   callWith pos f first (backTo pos (starEach (e::es) X.env)) (backToKw pos (keywordEach [] X.env))):=by rfl) :
  PE X (.Call (.Attribute o m apos) (e::es) [] pos) (aeS C m sp se E ta t):=by
 intro pins s σ H Q I h;refine methodCall_KW (pl:=pl) (cD (he pins s σ H _ I h) fun u s1 ⟨x,H1,I1,rx,a,dx,fs,ex,ea,l,q⟩=>?_) ht;subst ex;obtain rfl:u=Value.ref a:=rx;refine vn I1 ea c hm l ?_;refine callWith_K (first:=[.ref a]) (h₀:=X.base) I.ok.mod.kin hm.kp (cD (ha pos pins s1 σ H1 _ I1 q) fun us s2 ⟨vs,H2,I2,r,q2⟩=>⟨I2.xj,?_⟩) hst hpl;exact U0 (us:=.ref a::us) (vs:=.ref a::vs) F hr hb hd hx I2 (.cons rfl r) q2
theorem qJ {pl:Sem Bool}(he:PE X o ta)(c:UT X.K C)(hm:Meth X.K C m f)(F:bE X.prog X.w X.K X.mg X.base CX k f fd ps sp)(hr:jB k X.A)(hb:Binds X.K fd ps ds)(hd:Vals se ds)(hx:Passes CX X E)
  (ht:eval (.Call (.Attribute o m apos) [] [] pos) X.env=(do
   let ov <-eval o X.env
   standAt apos.atName
   let (f,first) <-holding [ov] (getMethod ov m pl)
   callWith pos f first (backTo pos (starEach [] X.env)) (backToKw pos (keywordEach [] X.env))):=by rfl) :
  PE X (.Call (.Attribute o m apos) [] [] pos) (aeS C m sp se E ta eM):=by
 intro pins s σ H Q I h;refine methodCall_KW (pl:=pl) (cD (he pins s σ H _ I h) fun u s1 ⟨x,H1,I1,rx,a,dx,fs,ex,ea,l,q⟩=>?_) ht;subst ex;obtain rfl:u=Value.ref a:=rx;refine vn I1 ea c hm l ?_;exact callWith_K0 (first:=[.ref a]) I1.xj hm.kp (U0 (us:=[.ref a]) (vs:=[.ref a]) F hr hb hd hx I1 (.cons rfl .nil) q)
structure Mk (K:Frag)(C f:Addr):Prop where
 makes:makesIn K C=true
 init:findIn K (.ref C) "__init__"=some (some (.ref f))
 fn:isFn K (.ref f)=true
 kp:keepIn K (.ref C)=true
theorem R9 {pins:List (Addr×Obj)}{σ:St}{H:Hp}{s:Shared}{Q:VK}{us:List Value}{vs:List V}(M:Mk X.K C f)(F:bE X.prog X.w X.K X.mg X.base CX k f fd ps sp)(hr:jB (k+1) X.A)(hb:Binds X.K fd ps ds)(hd:Vals se ds)
  (hx:Passes CX X E) (I:Inv X pins σ H s) (r:Vals vs us)
  (h:∀ x dx,H x=none->H dx=none->dx≠x->sp (.ref x::(vs++se)) (upd (upd H dx (.own x)) x (.ins C dx [])) (fun v H2=>v=.non/\Q (.ref x) H2) E) :
  wpAny (model X.prog X.w) X.A (call (.ref C) us) (EP X pins σ Q) X.xe s:=by
 have hq:=h (s.heap.objs.size+1) s.heap.objs.size (I.hok.fresh (Nat.le_succ _)) (I.hok.fresh (Nat.le_refl _)) (Nat.ne_of_lt (Nat.lt_succ_self _));have I2:=Inv.made (C:=C) I;have r2:Vals (V.ref (s.heap.objs.size+1)::(vs++se)) (Value.ref (s.heap.objs.size+1)::(us++ds)):=.cons rfl (r.append hd);have hl:(Value.ref (s.heap.objs.size+1)::us++ds).length=ps.length:=by
  have e:=r2.length;rw[F.len _ _ _ _ hq]at e;exact e.symm
 refine wpAny_call (aaS (f:=f) I.xj M.makes M.init (beq_iff_eq.mp M.fn) (codeAny_mono (F.run _ X.stack _ _ ⟨Value.ref (s.heap.objs.size+1)::us,[]⟩ (Value.ref (s.heap.objs.size+1)::(us++ds)) _ _ E (hr.make C us [])
  (I2.env0.make C us []) (hb _ (Value.ref (s.heap.objs.size+1)::us) I2.xj hl) r2 hq) fun r s' hq'=>?_))
 cases r with
 |error e=>exact hx pins σ _ _ e s' I2 hq'
 |ok fl =>
  cases fl with
  |ret u =>
   obtain⟨v,H',I3,rv,ev,q3⟩:=I2.after hq';subst ev;exact⟨rv,⟨V.ref (s.heap.objs.size+1),H',I3,rfl,q3⟩⟩
  |next=>exact False.elim hq'
  |brk=>exact False.elim hq'
  |cont=>exact False.elim hq'
theorem vo (M:Mk X.K C f)(F:bE X.prog X.w X.K X.mg X.base CX k f fd ps sp)(hr:jB (k+1) X.A)(hg:Gl X x)(hm:X.mg x=some (.ref C))(hb:Binds X.K fd ps ds)(hd:Vals se ds)(hx:Passes CX X E)
  (ha:PA X (e::es) t) (hdb:(x==("__debug__":Str))=false:=by decide) (he:starEach (e::es) X.env=(false,eval e X.env)::starEach es X.env:=by rfl) (hpl:(backTo pos (starEach es X.env)).any (·.1)=false:=by rfl) :
  PE X (.Call (.Name x p) (e::es) [] pos) (aeT C sp se E t):=by
 intro pins s σ H Q I h;refine wpAny_Call_Name_kw (vj I hg hm ?_ hdb);refine callWith_K (h₀:=X.base) I.ok.mod.kin M.kp (cD (ha pos pins s σ H _ I h) fun us s1 ⟨vs,H1,I1,r,q⟩=>⟨I1.xj,?_⟩) he hpl;exact R9 M F hr hb hd hx I1 r q
theorem aaU (M:Mk X.K C f)(F:bE X.prog X.w X.K X.mg X.base CX k f fd ps sp)(hr:jB (k+1) X.A)(hg:Gl X x)(hm:X.mg x=some (.ref C))(hb:Binds X.K fd ps ds)(hd:Vals se ds)(hx:Passes CX X E)
  (hdb:(x==("__debug__":Str))=false:=by decide):PE X (.Call (.Name x p) [] [] pos) (aeT C sp se E eM):=by
 intro pins s σ H Q I h;refine wpAny_Call_Name_kw (vj I hg hm ?_ hdb);exact callWith_K0 I.xj M.kp (R9 (us:=[]) M F hr hb hd hx I .nil h)
end
section
variable {X:Cx} {CX:CXT} {k:Nat} {f C:Addr} {fd:FuncData} {ps ks:List Str} {sp:Sp} {E:XK} {x m:Str} {p pos apos amm:Pos} {e o:Expr} {es:List Expr} {kws:List Keyword} {te ta:TE} {t tk:TA} {nm:Option Str}
structure ajY (K:Frag)(fd:FuncData)(ps ks:List Str)(g:List Value->List Value->List Value)(gV:List V->List V->List V):Prop where
 to:∀(s:Shared)(us ws:List Value),K.In s.heap->(g us ws).length=ps.length->BindsTo s fd ⟨us,ks.zip ws⟩ (ps.zip (g us ws))
 rel:∀{vs:List V} {us:List Value} {zs:List V} {ws:List Value},Vals vs us->Vals zs ws->Vals (gV vs zs) (g us ws)
variable {g:List Value->List Value->List Value} {gV:List V->List V->List V}
end
structure aD (N P:List Str)(sc:Scope):Prop where
 kind:sc.kind=.function
 co:sc.isCoroutine=false
 gen:sc.isGenerator=false
 nd:N.Nodup
 pre:N.take P.length=P
 par:∀ x∈P,sc.names.lookup x=some .local\/sc.names.lookup x=some .cell
 afK:∀ y∈sc.names,y.2≠.free
theorem NU {kindOf:Str->Option NameKind}{x:Str}:∀{binds:List (Str×Value)} {m:Str->Option Value},(∀ v,(x,v) ∉ binds)->bindL kindOf binds m x=m x
 |[],_,_=>rfl
 |(n,v)::r,m,h=>by
  unfold bindL;rw[NU fun w hw=>h w (mem_cons_of_mem _ hw)];split
  ·have:x≠n:=by rintro rfl;exact h v mem_cons_self
   simp[this]
  ·rfl
theorem NV {kindOf:Str->Option NameKind}{x:Str}:∀{binds:List (Str×Value)} {m:Str->Option Value},(∀ v,(x,v) ∉ binds)->bindC kindOf binds m x=m x
 |[],_,_=>rfl
 |(n,v)::r,m,h=>by
  unfold bindC;rw[NV fun w hw=>h w (mem_cons_of_mem _ hw)];split
  ·rfl
  ·have:x≠n:=by rintro rfl;exact h v mem_cons_self
   simp[this]
theorem NW {kindOf:Str->Option NameKind}{x:Str}{v:Value}:∀{P:List Str} {vs:List Value} {i:Nat} {m:Str->Option Value},P.Nodup->P[i]? = some x->vs[i]? = some v->kindOf x=some .local ->
  bindL kindOf (P.zip vs) m x=some v
 |[],_,_,_,_,h,_,_=>by simp at h
 |_::_,[],_,_,_,_,h,_=>by simp at h
 |p::P,w::vs,0,m,nd,h1,h2,hk=>by
  simp at h1 h2;subst h1;subst h2;show bindL kindOf ((p,w)::P.zip vs) m p=_;unfold bindL;rw[NU fun v hv=>(List.nodup_cons.mp nd).1 (List.of_mem_zip hv).1,if_pos hk];simp
 |p::P,w::vs,i+1,m,nd,h1,h2,hk=>by
  show bindL kindOf ((p,w)::P.zip vs) m x=_;unfold bindL;exact NW (i:=i) (List.nodup_cons.mp nd).2 (by simpa using h1) (by simpa using h2) hk
theorem NX {kindOf:Str->Option NameKind}{x:Str}{v:Value}:∀{P:List Str} {vs:List Value} {i:Nat} {m:Str->Option Value},P.Nodup->P[i]? = some x->vs[i]? = some v->kindOf x≠some .local ->
  bindC kindOf (P.zip vs) m x=some v
 |[],_,_,_,_,h,_,_=>by simp at h
 |_::_,[],_,_,_,_,h,_=>by simp at h
 |p::P,w::vs,0,m,nd,h1,h2,hk=>by
  simp at h1 h2;subst h1;subst h2;show bindC kindOf ((p,w)::P.zip vs) m p=_;unfold bindC;rw[NV fun v hv=>(List.nodup_cons.mp nd).1 (List.of_mem_zip hv).1,if_neg hk];simp
 |p::P,w::vs,i+1,m,nd,h1,h2,hk=>by
  show bindC kindOf ((p,w)::P.zip vs) m x=_;unfold bindC;exact NX (i:=i) (List.nodup_cons.mp nd).2 (by simpa using h1) (by simpa using h2) hk
def start (N:List Str)(vs:List V):St:=vs.map some++List.replicate (N.length-vs.length) none
def cJ (CX:CXT)(P:Program)(w:World)(K:Frag)(mg:Str->Option Value)(base:Heap)(N:List Str)(qual:Str)(scope:Scope)(f:Addr)(cd:Value)(A:Around)(outer:List Env)(s:Shared)(H:Hp)(E:XK):Cx where
 prog:=P
 w:=w
 K:=K
 mg:=mg
 base:=base
 A:=A.deeper (envOfC qual scope s.heap.objs.size f cd)
 N:=N
 s₀:=s
 H₀:=H
 env:=envOfC qual scope s.heap.objs.size f cd
 outer:=outer
 stack:=envOfC qual scope s.heap.objs.size f cd::outer
 ex:=[]
 calm:=true
 fn:=fun _=>true
 pn:=[]
 xe:=fun e s'=>wpAny (model P w) (A.deeper (envOfC qual scope s.heap.objs.size f cd)) (leaving (envOfC qual scope s.heap.objs.size f cd) e) (fun _ s''=>CX outer H s E e s'') (fun e' s''=>CX outer H s E e' s'') s'
theorem Sa {sc:Scope}{n:Nat}{x:Str}(h:sc.names.lookup x=some .cell):∃ c,(cellsFrom n sc.names []).lookup x=some c:=by
 have q:=PySem.W.cellsFrom_some sc.names n [] (.inl h);exact Option.isSome_iff_exists.mp q
theorem Y6 {CX:CXT}{P:Program}{w:World}{K:Frag}{mg:Str->Option Value}{base:Heap}{N ps:List Str}{qual:Str}{scope:Scope}{f:Addr}{cd:Value}{A:Around}{outer:List Env}{s s1:Shared}{H:Hp}{E:XK}{us:List Value}{vs:List V}
  (S:aD N ps scope) (hd:A.handled=none) (e0:UZ P w K mg base A outer s H) (hl:vs.length=ps.length) (r:Vals vs us)
  (x:InCallC s s.heap.objs.size (bindL (envOfC qual scope s.heap.objs.size f cd).kindOf (ps.zip us) fun _=>none) (cellsFrom (s.heap.objs.size+1) scope.names []) (bindC (envOfC qual scope s.heap.objs.size f cd).kindOf (ps.zip us) fun _=>none) s1) :
  Inv (cJ CX P w K mg base N qual scope f cd A outer s H E) [] (start N vs) H s1:=by
 have hpl:ps.length<=N.length:=by have:=congrArg List.length S.pre;rw[length_take]at this;omega
 obtain⟨h1,tk,rfl,hk⟩:=x.done;have noA:∀ b:Addr,b ∉ (cJ CX P w K mg base N qual scope f cd A outer s H E).ex:=fun b z=>absurd (show b∈([]:List Addr) from z) (by simp);refine⟨⟨e0.mod,S.kind,rfl,rfl,Nat.le_refl _,fun y z c h1 h2=>?_,fun y hy=>?_,fun y c _ h=>?_,fun _=>hd,Around.frames_deeper e0.frames,.inr ⟨rfl,rfl⟩,fun b z=>absurd z (noA b),e0.bs,e0.bsz,fun b _ _=>noA b,fun b z=>absurd z (noA b),e0.C1,e0.frf⟩,
  rfl,e0.bare,Un.kept hk,⟨_,x.toInCall.ns,fun i y v h1 h2 h3=>?_⟩,fun y c h=>⟨_,x.cell y c h⟩,e0.hok.fresh (Nat.le_refl _),fun y c h=>?_,fun p hp=>absurd (show p∈([]:List (Addr×Obj)) from hp) (by simp),e0.hok.kept hk,?_⟩
 ·exact name_of_addr x.apart (PySem.mem_of_lookup h1) (PySem.mem_of_lookup h2)
 ·have hy:scope.names.lookup y=some .cell\/scope.names.lookup y=some .free:=hy;rcases hy with hy|hy
  ·exact Sa hy
  ·exact absurd rfl (S.afK _ (PySem.mem_of_lookup hy))
 ·exact Nat.le_of_lt (x.above y c (PySem.mem_of_lookup h))
 ·have hi:i<vs.length:=by
   unfold start at h2
   by_cases hi:i<vs.length
   ·exact hi
   ·rw[List.getElem?_append_right (by simpa using hi)]at h2;rw[List.getElem?_replicate]at h2;split at h2 <;> cases h2
  have ha:vs[i]? = some v:=by
   unfold start at h2;rw[List.getElem?_append_left (by simpa using hi),getElem?_map]at h2;cases e:vs[i]? with
   |none=>rw[e]at h2;cases h2
   |some a=>rw[e]at h2;cases h2;rfl
  obtain⟨u,hu,rv⟩:=r.get ha;have hp:ps[i]? = some y:=by
   rw[<-S.pre,List.getElem?_take_of_lt (by omega)];exact h1
  have ndP:ps.Nodup:=by rw[<-S.pre];exact S.nd.sublist (List.take_sublist _ _)
  refine⟨u,rv,?_⟩;rcases S.par y (mem_of_getElem? hp) with k|k
  ·exact .inl ⟨k,NW ndP hp hu k⟩
  ·obtain⟨c,e⟩:=Sa (n:=s.heap.objs.size+1) k;refine .inr ⟨.inl k,c,e,?_⟩;have q:=x.cell y c e;rw[NX ndP hp hu (by show scope.names.lookup y≠_;rw[k];decide)]at q;exact q
 ·exact e0.hok.fresh (Nat.le_of_lt (x.above y c (PySem.mem_of_lookup h)))
 ·unfold start;show _=N.length;rw[length_append,length_map,List.length_replicate];omega
theorem Ye {CX:CXT}{P:Program}{w:World}{K:Frag}{mg:Str->Option Value}{base:Heap}{k:Nat}{f:Addr}{name qual:Str}{params:Arguments}{body:List Stmt}{scope:Scope}{dV kV doc pm cdv ct oc:Value}{an od:Option Addr}
  {osl:Array (Option Value)} {N ps:List Str} {sp:Sp} (lk:K.lookup f=some ⟨oc,od,.func (fnOf name qual params body scope dV kV doc pm an cdv ct),osl⟩) (hcd:codeIn K cdv qual=true) (S:aD N ps scope)
  (len:∀ vs H Q E,sp vs H Q E->vs.length=ps.length)
  (hbody:∀(A:Around)(outer:List Env)(s:Shared)(H:Hp)(vs:List V)(Q:VK)(E:XK),jB k (A.deeper (envOfC qual scope s.heap.objs.size f cdv))->sp vs H Q E ->
   ∃ t,J7 (cJ CX P w K mg base N qual scope f cdv A outer s H E) body t/\t { nx:=fun _ H'=>Q .non H',rt:=Q } (start N vs) H) :
  bE P w K mg base CX (k+1) f (fnOf name qual params body scope dV kV doc pm an cdv ct) ps sp:=by
 refine⟨len,fun A outer s H args us vs Q E hr e0 hb r hsp=>?_⟩;have hl:=len _ _ _ _ hsp;have KX:K.In s.heap:=e0.mod.kin.keeps fun b o e=>(e0.bs b o e).1;have lim:s.heap.NoLimit:=e0.mod.nolimit.keeps fun b o e=>(e0.bs b o e).1;have hkind:∀ y∈ps.zip us,scope.names.lookup y.1=some .local\/(scope.names.lookup y.1=some .cell/\((cellsFrom (s.heap.objs.size+1) scope.names []).lookup y.1).isSome=true):=fun⟨n,v⟩ hy=>by
  rcases S.par n (List.of_mem_zip hy).1 with q|q
  ·exact .inl q
  ·exact .inr ⟨q,PySem.W.cellsFrom_some _ _ _ (.inl q)⟩
 refine codeAny_call_function hr.depth (KX _ _ lk) rfl S.co S.gen rfl (PySem.W.codeRec_of KX hcd) (hb _ _ _ _ ?_);refine wpAny_newFunctionEnv_cells S.kind hkind fun env he s1 x=>?_;subst he;refine⟨lim.keeps x.toInCall.keep,codeAny_func ?_⟩;obtain⟨t,ht,hq⟩:=hbody A outer s H vs Q E (hr.deeper _) hsp;have I:Inv (cJ CX P w K mg base N qual scope f cdv A outer s H E) [] (start N vs) H s1:=Y6 S hr.hd e0 hl r x;refine wpAny_mono (ht [] s1 (start N vs) H _ I hq) (fun fl s' hs=>?_) fun e s' hs=>hs;have fin:∀{σ':St} {H':Hp} {v:V} {u:Value},Inv (cJ CX P w K mg base N qual scope f cdv A outer s H E) [] σ' H' s'->RelV v u->Q v H'->CE outer P w H s Q u s' :=
  fun {σ' H' v u} J rv q=>⟨v,H',J.os,J.bare,J.base,J.hok,rv,q⟩
 cases fl with
 |ret u =>
  obtain⟨v,σ',H',J,rv,q⟩:=hs;exact fin J rv q
 |next =>
  obtain⟨σ',H',J,q⟩:=hs;exact fin (v:=V.non) (u:=Value.none) J rfl q
 |brk =>
  obtain⟨_,_,_,q⟩:=hs;exact False.elim q
 |cont =>
  obtain⟨_,_,_,q⟩:=hs;exact False.elim q
end L2
namespace L2
open PySem PySem.Spec PyProof.Rows
section
variable {X:Cx} {x:Str} {p pos:Pos} {e:Expr} {es:List Expr} {t:TA} {id T:String} {r:List V->Hp->VK->Prop}
def tCB (r:List V->Hp->VK->Prop)(t:TA):TE:=fun σ H Q=>t σ H fun vs H1=>r vs H1 Q
theorem aI (hc:k9 X (.builtin id) r)(hg:Gl X x)(hm:X.mg x=none)(hv:bootBuiltins x=some (.builtin id))(ha:PA X (e::es) t)(hn:x ≠ "__name__":=by decide)(hdb:(x==("__debug__":Str))=false:=by decide)
  (he:starEach (e::es) X.env=(false,eval e X.env)::starEach es X.env:=by rfl) (hpl:(backTo pos (starEach es X.env)).any (·.1)=false:=by rfl):PE X (.Call (.Name x p) (e::es) [] pos) (tCB r t):=by
 intro pins s σ H Q I h;refine wpAny_Call_Name_kw (tU I hg hm hv ?_ hn hdb);exact PyProof.Rows.callWith_builtin1 (cD (ha pos pins s σ H _ I h) fun us s1 ⟨vs,H1,I1,r1,q1⟩=>hc pins s1 σ H1 vs us Q I1 r1 q1) he hpl
theorem fL (hc:k9 X (.type T) r)(hg:Gl X x)(hm:X.mg x=none)(hv:bootBuiltins x=some (.type T))(ha:PA X (e::es) t)(hn:x ≠ "__name__":=by decide)(hdb:(x==("__debug__":Str))=false:=by decide)
  (he:starEach (e::es) X.env=(false,eval e X.env)::starEach es X.env:=by rfl) (hpl:(backTo pos (starEach es X.env)).any (·.1)=false:=by rfl):PE X (.Call (.Name x p) (e::es) [] pos) (tCB r t):=by
 intro pins s σ H Q I h;refine wpAny_Call_Name_kw (tU I hg hm hv ?_ hn hdb);exact PyProof.Rows.callWith_type1 (cD (ha pos pins s σ H _ I h) fun us s1 ⟨vs,H1,I1,r1,q1⟩=>hc pins s1 σ H1 vs us Q I1 r1 q1) he hpl
end
end L2
namespace HT
open PySem PyProof.Rows
section
open PySem.SeqAt
open PySem.AutoSeq1 (wpAny_loadPart')
open PySem.MeetsSeq PySem.MeetsSeq2 PySem.MeetsSeq3
end
section
variable {prog:Program} {w:World} {A:Around} {E:Value->Shared->Prop} {s:Shared}
def mH (n d:Nat):Option Int->Nat
 |none=>d
 |some v=>if v<0 then(v+(n:Int)).toNat else min v.toNat n
theorem Kn (n d:Nat):mH n d none=d:=rfl
theorem Yf (n d k:Nat):mH n d (some (k:Int))=min k n:=by
 show(if(k:Int)<0 then((k:Int)+(n:Int)).toNat else min (k:Int).toNat n)=min k n;rw[if_neg (by omega),Int.toNat_natCast]
theorem afL (n d:Nat)(hd:d<=n)(o:Option Int):mH n d o<=n:=by
 cases o with
 |none=>exact hd
 |some v =>
  show(if v<0 then(v+(n:Int)).toNat else min v.toNat n)<=n
  by_cases hv:v<0
  ·rw[if_pos hv];omega
  ·rw[if_neg hv];exact Nat.min_le_right _ _
theorem Yg (v:Int)(n d:Nat):(if v<0 then max (v+(n:Int)) 0 else min v (n:Int))=((mH n d (some v):Nat):Int):=by
 show(if v<0 then max (v+(n:Int)) 0 else min v (n:Int))=(((if v<0 then(v+(n:Int)).toNat else min v.toNat n):Nat):Int)
 by_cases hv:v<0
 ·simp only [if_pos hv];omega
 ·simp only [if_neg hv];omega
theorem U1 (lo hi:Option Int)(n:Nat):Builtin.Slice.sliceAdjust lo hi 1 (n:Int)=(((mH n 0 lo:Nat):Int),((mH n n hi:Nat):Int)):=by
 have h1:¬((1:Int)<0):=by omega
 unfold Builtin.Slice.sliceAdjust;simp only [h1,if_false];refine Prod.ext ?_ ?_
 ·cases lo with
  |none=>rfl
  |some v=>exact Yg v n 0
 ·cases hi with
  |none=>rfl
  |some v=>exact Yg v n n
theorem U2 (i j:Nat):Builtin.Slice.slicePlaces (i:Int) (j:Int) 1=j-i:=by
 unfold Builtin.Slice.slicePlaces;have h1:(1:Int) > 0:=by omega
 simp only [h1,if_true,Int.ediv_one];split <;> omega
theorem Ko {v:Value}{o:Option Int}{Q:Option Int->Shared->Prop}(p:IsPart v o)(h:Q o s):wpAny (model prog w) A (Builtin.Slice.slicePartIndex v) Q E s:=by
 cases p with
 |none=>exact slicePart_none h
 |int i t=>exact slicePart_int h
theorem Ft {sl:Addr}{vl vu:Value}{lo hi:Option Int}{n:Nat}{Q:Int×Int×Nat->Shared->Prop}(hs:s.heap.IsSliceOf sl vl vu .none)(pl:IsPart vl lo)(pu:IsPart vu hi)
  (h:Q (((mH n 0 lo:Nat):Int),1,mH n n hi-mH n 0 lo) s):wpAny (model prog w) A (Builtin.Slice.sliceApplied (.ref sl) (pure (n:Int))) Q E s:=by
 obtain⟨os,hos,hcs,hds⟩:=id hs;unfold Builtin.Slice.sliceApplied Builtin.Slice.sliceFields;refine wpAny_bind (wpAny_bind (wpAny_field hos hds (x:=vl) rfl (wpAny_bind (wpAny_field hos hds (x:=vu) rfl (wpAny_bind (wpAny_field hos hds (x:=.none) rfl (wpAny_pure ?_)))))));refine wpAny_bind (slicePart_none ?_);show wpAny _ _ (if((1:Int)==0)=true then _ else _) _ _ s;rw[if_neg (by decide)];refine wpAny_bind (Ko pl (wpAny_bind (Ko pu (wpAny_bind (wpAny_pure ?_)))));show wpAny _ _ (match Builtin.Slice.sliceAdjust lo hi 1 (n:Int) with|(lo,hi)=>pure (lo,(1:Int),Builtin.Slice.slicePlaces lo hi 1)) _ _ s;rw[U1 lo hi n];show wpAny _ _ (pure (((mH n 0 lo:Nat):Int),(1:Int),Builtin.Slice.slicePlaces ((mH n 0 lo:Nat):Int) ((mH n n hi:Nat):Int) 1)) _ _ s;rw[U2];exact wpAny_pure h
theorem aaV (xs:Array Value)(i k:Nat):((List.range k).filterMap fun(m:Nat)=>xs[((i:Int)+(m:Int) * 1).toNat]?).toArray=((xs.toList.drop i).take k).toArray:=by
 have e:(fun(m:Nat)=>xs[((i:Int)+(m:Int) * 1).toNat]?)=fun m=>xs[i+m]?:=by
  funext m
  have:((i:Int)+(m:Int) * 1).toNat=i+m:=by omega
  rw[this]
 rw[e];have:=pick_run xs i k;rw[List.filterMap_map]at this;have e2:((fun x=>xs[x]?) ∘ fun x=>i+x)=fun m=>xs[i+m]?:=rfl;rw[e2]at this;rw[this]
theorem C4 {t sl:Addr}{items:Array Value}{vl vu:Value}{lo hi:Option Int}{Q:Value->Shared->Prop}(ht:IsTup s.heap t items)(hs:s.heap.IsSliceOf sl vl vu .none)(pl:IsPart vl lo)(pu:IsPart vu hi)
  (hw:¬(mH items.size 0 lo=0/\mH items.size items.size hi=items.size))
  (h:Q (.ref s.heap.objs.size) { s with heap:=s.heap.push { cls:=.type "tuple",data:=.seq ((items.toList.drop (mH items.size 0 lo)).take (mH items.size items.size hi-mH items.size 0 lo)).toArray } })
  (hsz:items.size<=sizeLine):wpAny (model prog w) A (getItem (.ref t) (.ref sl)) Q E s:=by
 have Yh:sizeOk (.seq ((items.toList.drop (mH items.size 0 lo)).take (mH items.size items.size hi-mH items.size 0 lo)).toArray):=by
  show((items.toList.drop (mH items.size 0 lo)).take (mH items.size items.size hi-mH items.size 0 lo)).toArray.size<=sizeLine;rw[size_toArray,length_take,length_drop,Array.length_toList];omega
 have hj:mH items.size items.size hi<=items.size:=afL _ _ (Nat.le_refl _) hi;obtain⟨os,hos,hcs,hds⟩:=id hs;have hTs:s.TypeIs (.ref sl) "slice":=⟨os,hos,hcs⟩;unfold getItem
 try with_reducible refine wpAny_holding ?_
 first|refine wpAny_bind (wpAny_pure ?_)|skip
 refine wpAny_bind (wpAny_sequenceKey ht.typeIs (by decide) ?_);refine wpAny_bind (wpAny_callSpecial?_slot (name:=Str.ofString "__getitem__") ht.typeIs PyProof.Rows.slot_tuple_getitem
  (wpAny_call_entry PyProof.Rows.slot_tuple_getitem ht.typeIs entry_tuple_getitem ?_ (args_tuple_getitem _ _)))
 show wpAny _ _ (Builtin.Tuple.tupleItemsOf (.ref t) >>= _) _ _ s;refine wpAny_bind (tupleItemsOf_ ht ?_);refine wpAny_bind (wpAny_typeOf hTs ?_);rw[if_pos (by decide)];refine wpAny_bind (Ft hs pl pu ?_);have hno:¬((((mH items.size 0 lo:Nat):Int)==0&&(1:Int)==1&&(mH items.size items.size hi-mH items.size 0 lo)==items.size)=true):=by
  intro q;rw[Bool.and_eq_true,Bool.and_eq_true]at q;have q1:((mH items.size 0 lo:Nat):Int)=0:=eq_of_beq q.1.1;have q2:mH items.size items.size hi-mH items.size 0 lo=items.size:=eq_of_beq q.2;exact hw ⟨by omega,by omega⟩
 show wpAny _ _ (if(((mH items.size 0 lo:Nat):Int)==0&&(1:Int)==1&&(mH items.size items.size hi-mH items.size 0 lo)==items.size)=true then _ else _) _ _ s;rw[if_neg hno,aaV]
 first
  |exact wpAny_bind (m:=Builtin.Tuple.tupleExact _) (wpAny_newObj_type (wpAny_pure ⟨_,rfl,wpAny_pure h⟩) Yh)
  |exact wpAny_bind (m:=Builtin.Tuple.tupleExact _) (wpAny_newObj_type (wpAny_bind (wpAny_pure (wpAny_pure ⟨_,rfl,wpAny_pure h⟩))) Yh)
  |exact wpAny_bind (wpAny_bind (m:=Builtin.Tuple.tupleExact _) (wpAny_newObj_type (wpAny_pure (wpAny_pure ⟨_,rfl,wpAny_pure h⟩)) Yh))
  |exact wpAny_bind (wpAny_bind (m:=Builtin.Tuple.tupleExact _) (wpAny_newObj_type (wpAny_pure ⟨_,rfl,wpAny_pure h⟩) Yh))
end
end HT
namespace L2
open PySem PySem.Spec PyProof.Rows
abbrev TO:=St->Hp->(Option Int->Hp->Prop)->Prop
def PO (X:Cx)(e:Option Expr)(t:TO):Prop :=
 ∀(pins:List (Addr×Obj)) (s:Shared) (σ:St) (H:Hp) (Q:Option Int->Hp->Prop),Inv X pins σ H s->t σ H Q ->
  wpAny (model X.prog X.w) X.A (evalPart e X.env) (fun u s'=>∃ o H',Inv X pins σ H' s'/\IsPart u o/\Q o H') X.xe s
def adp:TO:=fun _ H Q=>Q none H
inductive aaW (Q:(Option Int->Hp->Prop))(x:V)(H1:Hp):Prop
 |mk (i:_) (fI:x=.int i) (fJ:Q (some i) H1):aaW Q x H1
def ahI (t:TE):TO:=fun σ H Q=>t σ H fun x H1=>aaW Q x H1
section
variable {X:Cx} {e:Expr} {te:TE} {lo hi:Option Expr} {tl th:TO} {pos p2:Pos}
theorem zr:PO X none adp:=by
 intro pins s σ H Q I h;rw[evalPart_none];exact wpAny_pure ⟨none,H,I,.none,h⟩
theorem oz (h:PE X e te):PO X (some e) (ahI te):=by
 intro pins s σ H Q I hw;rw[evalPart_some];refine cD (h pins s σ H _ I hw) fun u s1 ⟨x,H1,I1,r1,q1⟩=>?_;obtain⟨i,rfl,q⟩:=q1;obtain⟨t,rfl⟩:=r1;exact⟨some i,H1,I1,.int i t,q⟩
def SlR (X:Cx)(r:V->Option Int->Option Int->Hp->VK->Prop):Prop :=
 ∀(pins:List (Addr×Obj)) (s:Shared) (σ:St) (H:Hp) (x:V) (v vl vu:Value) (lo hi:Option Int) (sl:Addr) (Q:VK),Inv X pins σ H s->RelV x v->s.heap.IsSliceOf sl vl vu .none->IsPart vl lo->IsPart vu hi->r x lo hi H Q ->
  ∃ T id,typeLookup (.type T) "__getitem__"=pure (some (.builtin id))/\s.TypeIs v T/\wpAny (model X.prog X.w) X.A (getItem v (.ref sl)) (EP X pins σ Q) X.xe s
theorem SlR.or {r r':V->Option Int->Option Int->Hp->VK->Prop}(h:SlR X r)(h':SlR X r'):SlR X (fun x lo hi H Q=>r x lo hi H Q\/r' x lo hi H Q):=by
 intro pins s σ H x v vl vu lo hi sl Q I rx hs pl pu q;rcases q with q|q
 ·exact h pins s σ H x v vl vu lo hi sl Q I rx hs pl pu q
 ·exact h' pins s σ H x v vl vu lo hi sl Q I rx hs pl pu q
def tSl (r:V->Option Int->Option Int->Hp->VK->Prop)(te:TE)(tl th:TO):TE:=fun σ H Q=>te σ H fun x H1=>tl σ H1 fun l H2=>th σ H2 fun u H3=>r x l u H3 Q
theorem uz {r:V->Option Int->Option Int->Hp->VK->Prop}(hr:SlR X r)(he:PE X e te)(hl:PO X lo tl)(hu:PO X hi th):PE X (.Subscript e (.Slice lo hi none p2) pos) (tSl r te tl th):=by
 intro pins s σ H Q I h;refine Subscript_ (cD (he pins s σ H _ I h) fun v s1 ⟨x,H1,I1,r1,q1⟩=>?_);refine wpAny_Slice (cD (hl pins s1 σ H1 _ I1 q1) fun vl s2 ⟨l,H2,I2,pl,q2⟩=>cD (hu pins s2 σ H2 _ I2 q2) fun vu s3 ⟨u,H3,I3,pu,q3⟩=>?_);rw[evalPart_none];refine wpAny_pure ?_;have I4:Inv X pins σ H3 { s3 with heap:=s3.heap.push { cls:=.type "slice",data:=.fields #[vl,vu,.none] } }:=I3.kept (t':=s3.toks) fun b ob q=>Heap.get?_push_of_some _ q;obtain⟨T,id,hT,ht,hg⟩:=hr pins { s3 with heap:=s3.heap.push { cls:=.type "slice",data:=.fields #[vl,vu,.none] } } σ H3 x v vl vu l u s3.heap.objs.size Q I4 r1 (Heap.IsSliceOf.new ..) pl pu q3;show wpAny (model X.prog X.w) X.A (subscriptTail e (.Slice lo hi none p2) v (.ref s3.heap.objs.size)) (EP X pins σ Q) X.xe { s3 with heap:=s3.heap.push { cls:=.type "slice",data:=.fields #[vl,vu,.none] } };exact tail_any (ops:=[.ref s3.heap.objs.size,v]) ht hT hg (by with_unfolding_all rfl)
def C5 (xs:List V)(lo hi:Option Int):List V:=(xs.drop (HT.mH xs.length 0 lo)).take (HT.mH xs.length xs.length hi-HT.mH xs.length 0 lo)
theorem IP (xs:List V)(lo hi:Option Int):(C5 xs lo hi).length<=xs.length:=by
 unfold C5;rw[length_take,length_drop];omega
inductive aeV (K:Frag)(x:V)(lo:Option Int)(hi:Option Int)(H:Hp)(Q:VK):Prop
 |mk (a:_) (xs:_) (fI:x=.ref a) (fJ:tV K H a xs) (hI:¬(HT.mH xs.length 0 lo=0/\HT.mH xs.length xs.length hi=xs.length)) (kK:∀ p,H p=none->Q (.ref p) (upd H p (.tup (C5 xs lo hi)))):aeV K x lo hi H Q
def ajZ (K:Frag):V->Option Int->Option Int->Hp->VK->Prop:=fun x lo hi H Q=>aeV K x lo hi H Q
theorem Fu:SlR X (ajZ X.K):=by
 intro pins s σ H x v vl vu lo hi sl Q I rx hs pl pu h;obtain⟨a,xs,rfl,hx,hw,q⟩:=h;cases rx;obtain⟨its,r,ht,hz⟩:=I.tuple hx;have hlen:its.toArray.size=xs.length:=by rw[size_toArray];exact r.length.symm
 refine⟨"tuple",_,PyProof.Rows.slot_tuple_getitem.lookup,ht.typeIs,?_⟩;refine HT.C4 ht hs pl pu (by rw[hlen];exact hw) ?_ (by rw[hlen];exact hz);rw[hlen];refine⟨.ref s.heap.objs.size,_,I.laid (t':=s.toks) (o:=.tup (C5 xs lo hi)) (fun b ob q=>Heap.get?_push_of_some _ q) (Nat.le_refl _) ?_,rfl,q _ (I.hok.fresh (Nat.le_refl _))⟩;exact⟨Nat.le_trans (IP xs lo hi) hz,_,(r.drop (HT.mH xs.length 0 lo)).take (HT.mH xs.length xs.length hi-HT.mH xs.length 0 lo),IsTup.new _ _⟩
end
end L2
namespace L2
open PySem PySem.Spec PyProof.Rows
def ixN (n:Nat)(i:Int):Option Nat:=if 0<=i then(if i<n then some i.toNat else none) else if -(n:Int)<=i then some (i+n).toNat else none
def atI {α:Type}(xs:List α)(i:Int):Option α:=(ixN xs.length i).bind fun j=>xs[j]?
theorem Yi {n:Nat}{i:Int}{j:Nat}(h:ixN n i=some j):seqIndex? i n=some j/\j<n/\-(n:Int)<=i/\i<n:=by
 unfold ixN at h
 by_cases h0:0<=i
 ·rw[if_pos h0]at h
  by_cases h1:i<n
  ·rw[if_pos h1]at h;have e:i.toNat=j:=Option.some.inj h;exact⟨by rw[seqIndex_of h0 h1,e],by omega,by omega,h1⟩
  ·rw[if_neg h1]at h;cases h
 ·rw[if_neg h0]at h
  by_cases h1:-(n:Int)<=i
  ·rw[if_pos h1]at h;have e:(i+n).toNat=j:=Option.some.inj h;exact⟨by rw[seqIndex_neg (by omega) h1,e],by omega,h1,by omega⟩
  ·rw[if_neg h1]at h;cases h
theorem ON {α:Type}{xs:List α}{i:Int}{v:α}(h:atI xs i=some v):∃ j,seqIndex? i xs.length=some j/\xs[j]? = some v/\j<xs.length/\-(xs.length:Int)<=i/\i<xs.length:=by
 unfold atI at h;cases e:ixN xs.length i with
 |none=>rw[e]at h;cases h
 |some j =>
  rw[e]at h;obtain⟨h1,h2,h3,h4⟩:=Yi e;exact⟨j,h1,h,h2,h3,h4⟩
theorem J9 {α:Type}{xs:List α}{j:Nat}{v:α}(h:xs[j]? = some v):atI xs (j:Int)=some v:=by
 have hj:j<xs.length:=(List.getElem?_eq_some_iff.mp h).1;have e:ixN xs.length (j:Int)=some j:=by
  unfold ixN;rw[if_pos (by omega),if_pos (by omega)];simp
 unfold atI;rw[e];exact h
theorem Sb {α:Type}(xs:List α)(v:α):atI (xs++[v]) (-1)=some v:=by
 have hl:(xs++[v]).length=xs.length+1:=by simp
 have e:ixN (xs++[v]).length (-1)=some xs.length:=by
  unfold ixN;rw[hl,if_neg (by decide),if_pos (by omega)]
  congr 1
  omega
 unfold atI;rw[e];show(xs++[v])[xs.length]? = some v;simp
def ads (b:Expr):Prop:=∀ o i,subscripted b false o i=operate [o,i] (getItem o i)
def IxR (X:Cx)(r:R2):Prop :=
 ∀(value slice:Expr)(pins:List (Addr×Obj)) (s:Shared) (σ:St) (H:Hp) (x y:V) (v u:Value) (Q:VK),Inv X pins σ H s->RelV x v->RelV y u->r x y H Q ->
  subscripted slice false v u=operate [v,u] (getItem v u)->wpAny (model X.prog X.w) X.A (subscriptTail value slice v u) (EP X pins σ Q) X.xe s
def MtR (X:Cx)(id:String)(r:V->List V->Hp->VK->Prop):Prop :=
 ∀(pins:List (Addr×Obj)) (s:Shared) (σ:St) (H:Hp) (x:V) (xs:List V) (v:Value) (us:List Value) (Q:VK),Inv X pins σ H s->RelV x v->Vals xs us->r x xs H Q ->
  wpAny (model X.prog X.w) X.A (call (.builtin id) (v::us)) (EP X pins σ Q) X.xe s
section
variable {X:Cx} {a b:Expr} {ta tb:TE} {pos:Pos}
theorem IxR.or {r r':R2}(h:IxR X r)(h':IxR X r'):IxR X (fun x y H Q=>r x y H Q\/r' x y H Q):=by
 intro value slice pins s σ H x y v u Q I rx ry q hs;rcases q with q|q
 ·exact h value slice pins s σ H x y v u Q I rx ry q hs
 ·exact h' value slice pins s σ H x y v u Q I rx ry q hs
theorem aB {r:R2}(hr:IxR X r)(ha:PE X a ta)(hb:PE X b tb)(hs:ads b):PE X (.Subscript a b pos) (tOp r ta tb):=by
 intro pins s σ H Q I h;exact Subscript_ (afI ha hb I h fun v u s2 x y H2 I2 rx ry q=>hr a b pins s2 σ H2 x y v u Q I2 rx ry q (hs _ _))
inductive aeW (K:Frag)(x:V)(y:V)(H:Hp)(Q:VK):Prop
 |mk (p:_) (xs:_) (i:_) (v:_) (fI:x=.ref p) (fJ:y=.int i) (hI:a7 K H p xs) (kK:atI xs i=some v) (sd:Q v H):aeW K x y H Q
def OO (K:Frag):R2:=fun x y H Q=>aeW K x y H Q
inductive aeX (K:Frag)(x:V)(y:V)(H:Hp)(Q:VK):Prop
 |mk (p:_) (xs:_) (i:_) (v:_) (fI:x=.ref p) (fJ:y=.int i) (hI:tV K H p xs) (kK:atI xs i=some v) (sd:Q v H):aeX K x y H Q
def OP (K:Frag):R2:=fun x y H Q=>aeX K x y H Q
inductive aeY (x:V)(y:V)(H:Hp)(Q:VK):Prop
 |mk (z:_) (i:_) (c:_) (fI:x=.str z) (fJ:y=.int i) (hI:z.length<=sizeLine) (kK:atI z.cps.toList i=some c) (sd:Q (.str ⟨#[c]⟩) H):aeY x y H Q
def OQ :R2:=fun x y H Q=>aeY x y H Q
theorem adt:IxR X (OO X.K):=by
 intro value slice pins s σ H x y v u Q I rx ry h hs;obtain⟨p,xs,i,z,rfl,rfl,hq,he,q⟩:=h;cases rx;obtain⟨t,rfl⟩:=ry;obtain⟨its,r,pl,hz⟩:=I.list hq;obtain⟨j,h1,h2,h3,h4,h5⟩:=ON he;obtain⟨w,ew,R5⟩:=r.get h2;have hl:=r.length;have hn:=Fp;have fin:EP X pins σ Q w s:=⟨z,H,I,R5,q⟩
 by_cases h0:0<=i
 ·have hj:i.toNat=j:=by
   rw[seqIndex_of h0 h5]at h1;exact Option.some.inj h1
  exact item_listR pl.isList h0 (by omega) (by rw[hj];simpa using ew) fin hs
 ·have hj:(i+(its.toArray.size:Int)).toNat=j:=by
   rw[seqIndex_neg (by omega) h4]at h1;rw[size_toArray,<-hl];exact Option.some.inj h1
  exact subscriptTail_builtinR (x:=w) pl.isList.typeIs slot_list_getitem.lookup
   (wpAny_getItem_list_neg (Q:=fun r s'=>r=w/\EP X pins σ Q r s') pl.isList (by omega) (by rw[size_toArray] <;> omega) (by omega) (by rw[hj];simpa using ew) ⟨rfl,fin⟩) hs
theorem afM:IxR X (OP X.K):=by
 intro value slice pins s σ H x y v u Q I rx ry h hs;obtain⟨p,xs,i,z,rfl,rfl,hq,he,q⟩:=h;cases rx;obtain⟨t,rfl⟩:=ry;obtain⟨its,r,pl,hz⟩:=I.tuple hq;obtain⟨j,h1,h2,h3,h4,h5⟩:=ON he;obtain⟨w,ew,R5⟩:=r.get h2;have hl:=r.length;have hn:=Fp;have fin:EP X pins σ Q w s:=⟨z,H,I,R5,q⟩;exact subscriptTail_builtinR (x:=w) pl.typeIs slot_tuple_getitem.lookup
  (getItem_tuple (j:=j) (Q:=fun r s'=>r=w/\EP X pins σ Q r s') pl (by omega) (by omega) (by rw[size_toArray,<-hl];exact h1) (by simpa using ew) ⟨rfl,fin⟩) hs
theorem afN:IxR X OQ:=by
 intro value slice pins s σ H x y v u Q I rx ry h hs;obtain⟨z,i,c,rfl,rfl,hz,he,q⟩:=h;obtain⟨t,rfl⟩:=rx;obtain⟨t',rfl⟩:=ry;obtain⟨j,h1,h2,h3,h4,h5⟩:=ON he;have hl:z.cps.toList.length=z.length:=by simp[Str.length]
 rw[hl]at h1 h4 h5;have hn:=Fp;exact tail_any (typeIs_str s z t) slot_str_getitem.lookup (getItem_str (c:=c) (by
  have e1:decide (i < -(2 ^ 63:Int))=false:=decide_eq_false (by omega);have e2:decide (i ≥ 2 ^ 63)=false:=decide_eq_false (by omega);rw[e1,e2,Bool.or_false]) (by rw[h1];simpa using h2) ⟨.str ⟨#[c]⟩,H,I.tok _,⟨_,rfl⟩,q⟩) hs
def rIx (K:Frag):R2:=fun x y H Q=>OO K x y H Q\/OP K x y H Q\/OQ x y H Q
theorem au:IxR X (rIx X.K):=adt.or (afM.or afN)
theorem U3 (its:List Value)(n j:Nat)(u:Value):Obj.mapSeq (·.setIfInBounds j u) { cls:=.type "list",data:=.seq its.toArray n } = { cls:=.type "list",data:=.seq (its.set j u).toArray n }:=by
 simp[Obj.mapSeq]
theorem Inv.lst {pins:List (Addr×Obj)}{σ:St}{H:Hp}{s:Shared}{p:Addr}{xs:List V}(I:Inv X pins σ H s)(h:H p=some (.lst xs)) :
  ∃(its:List Value)(n:Nat),Vals xs its/\s.heap.get? p=some { cls:=.type "list",data:=.seq its.toArray n }/\xs.length<=sizeLine:=by
 obtain⟨z,its,n,r,e⟩:=I.hok p _ h;exact⟨its,n,r,e,z⟩
theorem Inv.afO {pins:List (Addr×Obj)}{σ:St}{H:Hp}{s:Shared}{p:Addr}{xs ys:List V}{its its':List Value}{n n':Nat}{f:Obj->Obj}(I:Inv X pins σ H s)(h:H p=some (.lst xs))
  (ho:s.heap.get? p=some { cls:=.type "list",data:=.seq its.toArray n }) (hf:f { cls:=.type "list",data:=.seq its.toArray n } = { cls:=.type "list",data:=.seq its'.toArray n' }) (r:Vals ys its') (hz:ys.length<=sizeLine) (t:Nat) :
  Inv X pins σ (upd H p (.lst ys)) { s with heap:=s.heap.update p f,toks:=t }:=by
 have e:(s.heap.update p f).get? p=some { cls:=.type "list",data:=.seq its'.toArray n' }:=by
  rw[Heap.get?_update_self f ho (by rw[hf] <;> rfl),hf]
 refine I.write (x:=p) (e:=p) (by rw[h];trivial) (.inl rfl) (fun b u hb q=>(Heap.get?_update_other _ _ (Ne.symm hb)).trans q) ⟨_,e⟩ ?_;exact⟨hz,its',n',r,e⟩
inductive aaY (o:V)(i:V)(v:V)(H:Hp)(Q:(Hp->Prop)):Prop
 |mk (p:_) (xs:_) (k:_) (j:_) (fI:o=.ref p) (fJ:i=.int k) (hI:H p=some (.lst xs)) (kK:ixN xs.length k=some j) (sd:Q (upd H p (.lst (xs.set j v)))):aaY o i v H Q
def ahJ :V->V->V->Hp->(Hp->Prop)->Prop:=fun o i v H Q=>aaY o i v H Q
theorem set_list:ahx X ahJ:=by
 intro pins s σ H o i v ov iv u Q I ro ri rv h;obtain⟨p,xs,k,j,rfl,rfl,hp,hj,q⟩:=h;cases ro;obtain⟨t,rfl⟩:=ri;obtain⟨its,n,r,ho,hz⟩:=I.lst hp;obtain⟨h1,h2,h3,h4⟩:=Yi hj;have hl:=r.length;have hn:=Fp;have I':Inv X pins σ (upd H p (.lst (xs.set j v))) { s with heap:=s.heap.update p (Obj.mapSeq (·.setIfInBounds j u)) } :=
  I.afO hp ho (U3 its n j u) (r.set rv j) (by rw[List.length_set];exact hz) s.toks
 by_cases h0:0<=k
 ·have hk:k.toNat=j:=by
   rw[seqIndex_of h0 h4]at h1;exact Option.some.inj h1
  exact PySem.W.ki_setAt ho h0 (by omega) (by rw[size_toArray,<-hl];exact h4) (by rw[hk];exact⟨_,I',q⟩)
 ·have hk:(k+(its.toArray.size:Int)).toNat=j:=by
   rw[seqIndex_neg (by omega) h3]at h1;rw[size_toArray,<-hl];exact Option.some.inj h1
  exact PySem.W.ki_setBack ho (by omega) (by rw[size_toArray,<-hl];exact h3) (by omega) (by rw[hk];exact⟨_,I',q⟩)
theorem OR (lo hi:Option Int)(n:Nat):(sliceBounds lo hi none n).1=((HT.mH n 0 lo:Nat):Int)/\(sliceBounds lo hi none n).2.1=((HT.mH n n hi:Nat):Int)/\(sliceBounds lo hi none n).2.2=1:=by
 refine⟨?_,?_,rfl⟩
 ·cases lo with
  |none=>simp[sliceBounds,HT.mH]
  |some i =>
   simp only [sliceBounds,HT.mH,Option.getD_none,show(1:Int) > 0 by decide,if_true]
   by_cases h:i<0
   ·simp only [h,if_true] <;> omega
   ·simp only [h,if_false] <;> omega
 ·cases hi with
  |none=>simp[sliceBounds,HT.mH]
  |some i =>
   simp only [sliceBounds,HT.mH,Option.getD_none,show(1:Int) > 0 by decide,if_true]
   by_cases h:i<0
   ·simp only [h,if_true] <;> omega
   ·simp only [h,if_false] <;> omega
theorem Na (its:List Value)(lo hi:Option Int):slicePick its.toArray lo hi none=((its.drop (HT.mH its.length 0 lo)).take (HT.mH its.length its.length hi-HT.mH its.length 0 lo)).toArray:=by
 obtain⟨h1,h2,h3⟩:=OR lo hi its.toArray.size;unfold slicePick;rw[h1,h2,h3];simp only [sliceRange_one,pick_run,size_toArray] <;> rfl
inductive aeZ (K:Frag)(x:V)(lo:Option Int)(hi:Option Int)(H:Hp)(Q:VK):Prop
 |mk (a:_) (xs:_) (fI:x=.ref a) (fJ:a7 K H a xs) (hI:∀ p,H p=none->Q (.ref p) (upd H p (.lst (C5 xs lo hi)))):aeZ K x lo hi H Q
def aj0 (K:Frag):V->Option Int->Option Int->Hp->VK->Prop:=fun x lo hi H Q=>aeZ K x lo hi H Q
theorem zt:SlR X (aj0 X.K):=by
 intro pins s σ H x v vl vu lo hi sl Q I rx hs pl pu h;obtain⟨a,xs,rfl,hx,q⟩:=h;cases rx;obtain⟨its,r,ht,hz⟩:=I.list hx;have hlen:=r.length;refine⟨"list",_,slot_list_getitem.lookup,ht.isList.typeIs,?_⟩;refine wpAny_getItem_list_slice ht.isList hs pl pu .none (by simp) ?_ (by rw[size_toArray] <;> omega);rw[Na,<-hlen];refine⟨.ref s.heap.objs.size,_,I.laid (t':=s.toks) (o:=.lst (C5 xs lo hi)) (fun b ob q=>Heap.get?_push_of_some _ q) (Nat.le_refl _) ?_,rfl,q _ (I.hok.fresh (Nat.le_refl _))⟩;exact⟨Nat.le_trans (IP xs lo hi) hz,_,0,(r.drop (HT.mH xs.length 0 lo)).take (HT.mH xs.length xs.length hi-HT.mH xs.length 0 lo),Heap.get?_push_size _ rfl⟩
def Aa:V->Bool
 |.non=>true
 |.bl _=>true
 |.int _=>true
 |.str _=>true
 |_=>false
def Yj:V->V->Bool
 |.non,.non=>true
 |.bl a,.bl b=>a==b
 |.bl a,.int b=>(if a then 1 else 0)==b
 |.int a,.bl b=>a==(if b then 1 else 0)
 |.int a,.int b=>a==b
 |.str a,.str b=>a==b
 |_,_=>false
theorem aaZ {A:Around}{s:Shared}{y x:V}{u v:Value}(ry:RelV y u)(rx:RelV x v)(fy:Aa y=true)(fx:Aa x=true):SeqAt.EqAt A s u v (Yj y x):=by
 cases y with
 |non =>
  cases ry;cases x with
  |non=>cases rx;exact SeqAt.EqAt.same _
  |bl b=>cases rx;exact SeqAt.EqAt.none_bool b
  |int b=>obtain⟨t,rfl⟩:=rx;exact SeqAt.EqAt.none_int b t
  |str b=>obtain⟨t,rfl⟩:=rx;exact SeqAt.EqAt.none_str b t
  |_=>exact absurd (show false=true from fx) Bool.false_ne_true
 |bl a =>
  cases ry;cases x with
  |non=>cases rx;exact SeqAt.EqAt.bool_none a
  |bl b=>cases rx;exact SeqAt.EqAt.bool_bool a b
  |int b=>obtain⟨t,rfl⟩:=rx;exact SeqAt.EqAt.bool_int a b t
  |str b=>obtain⟨t,rfl⟩:=rx;exact SeqAt.EqAt.bool_str a b t
  |_=>exact absurd (show false=true from fx) Bool.false_ne_true
 |int a =>
  obtain⟨t',rfl⟩:=ry;cases x with
  |non=>cases rx;exact SeqAt.EqAt.int_none a t'
  |bl b=>cases rx;exact SeqAt.EqAt.int_bool a t' b
  |int b=>obtain⟨t,rfl⟩:=rx;exact SeqAt.EqAt.int_int a t' b t
  |str b=>obtain⟨t,rfl⟩:=rx;exact SeqAt.EqAt.int_str a t' b t
  |_=>exact absurd (show false=true from fx) Bool.false_ne_true
 |str a =>
  obtain⟨t',rfl⟩:=ry;cases x with
  |non=>cases rx;exact SeqAt.EqAt.str_none a t'
  |bl b=>cases rx;exact SeqAt.EqAt.str_bool a t' b
  |int b=>obtain⟨t,rfl⟩:=rx;exact SeqAt.EqAt.str_int a t' b t
  |str b=>obtain⟨t,rfl⟩:=rx;exact SeqAt.EqAt.str_str a t' b t
  |_=>exact absurd (show false=true from fx) Bool.false_ne_true
 |_=>exact absurd (show false=true from fy) Bool.false_ne_true
def U4 (x:V)(u:Value):Bool:=match u with
 |.none=>Yj .non x
 |.bool b=>Yj (.bl b) x
 |.int i _=>Yj (.int i) x
 |.str z _=>Yj (.str z) x
 |_=>false
theorem aa0 {x y:V}{u:Value}(r:RelV y u)(f:Aa y=true):U4 x u=Yj y x:=by
 cases y with
 |non=>cases r;rfl
 |bl b=>cases r;rfl
 |int i=>obtain⟨t,rfl⟩:=r;rfl
 |str z=>obtain⟨t,rfl⟩:=r;rfl
 |_=>exact absurd (show false=true from f) Bool.false_ne_true
theorem C6 {x:V}:∀{xs:List V} {us:List Value},Vals xs us->xs.all Aa=true->us.any (U4 x)=xs.any fun y=>Yj y x
 |_,_,.nil,_=>rfl
 |y::xs,u::us,.cons r t,f=>by
  rw[List.all_cons,Bool.and_eq_true]at f;rw[List.any_cons,List.any_cons,aa0 r f.1,C6 t f.2]
theorem xp {A:Around}{s:Shared}{x:V}{v:Value}(rx:RelV x v)(fx:Aa x=true):∀{xs:List V} {us:List Value},Vals xs us->xs.all Aa=true->∀ u∈us,SeqAt.EqAt A s u v (U4 x u)
 |_,_,.nil,_=>fun u hu=>by cases hu
 |y::xs,u::us,.cons r t,f=>fun u' hu=>by
  rw[List.all_cons,Bool.and_eq_true]at f;rcases List.mem_cons.mp hu with rfl|hu
  ·rw[aa0 r f.1];exact aaZ r rx f.1 fx
  ·exact xp rx fx t f.2 u' hu
def inV (x:V)(xs:List V):Bool:=xs.any fun y=>Yj y x
inductive ahK (K:Frag)(neg:Bool)(x:V)(y:V)(H:Hp)(Q:VK):Prop
 |mk (p:_) (xs:_) (fI:y=.ref p) (fJ:(a7 K H p xs\/tV K H p xs)) (hI:Aa x=true) (kK:xs.all Aa=true) (sd:Q (.bl (if neg then !inV x xs else inV x xs)) H):ahK K neg x y H Q
def rIn (K:Frag)(neg:Bool):R2:=fun x y H Q=>ahK K neg x y H Q
theorem dc:vm X (compareOp .In) (rIn X.K false):=by
 intro pins s σ H x y v u Q I rx ry h;obtain⟨p,xs,rfl,hq,fx,fs,q⟩:=h;cases ry;rcases hq with hq|hq
 ·obtain⟨its,r,pl,hz⟩:=I.list hq;refine SeqAt.in_listAt (U4 x) pl.isList (fun w hw=>xp rx fx r fs w (by simpa using hw)) ⟨.bl _,H,I,rfl,?_⟩;rw[show its.toArray.any (U4 x)=its.any (U4 x) by simp,C6 r fs];exact q
 ·obtain⟨its,r,pl,hz⟩:=I.tuple hq;refine SeqAt.in_tupleAt (U4 x) pl (fun w hw=>xp rx fx r fs w (by simpa using hw)) ⟨.bl _,H,I,rfl,?_⟩;rw[show its.toArray.any (U4 x)=its.any (U4 x) by simp,C6 r fs];exact q
theorem vq:vm X (compareOp .NotIn) (rIn X.K true):=by
 intro pins s σ H x y v u Q I rx ry h;obtain⟨p,xs,rfl,hq,fx,fs,q⟩:=h;cases ry;rcases hq with hq|hq
 ·obtain⟨its,r,pl,hz⟩:=I.list hq;refine SeqAt.notIn_listAt (U4 x) pl.isList (fun w hw=>xp rx fx r fs w (by simpa using hw)) ⟨.bl _,H,I,rfl,?_⟩;rw[show its.toArray.any (U4 x)=its.any (U4 x) by simp,C6 r fs];exact q
 ·obtain⟨its,r,pl,hz⟩:=I.tuple hq;refine SeqAt.notIn_tupleAt (U4 x) pl (fun w hw=>xp rx fx r fs w (by simpa using hw)) ⟨.bl _,H,I,rfl,?_⟩;rw[show its.toArray.any (U4 x)=its.any (U4 x) by simp,C6 r fs];exact q
theorem vt:vm X (compareOp .NotIn) (fun x y H Q=>∃ i j,x=.str i/\y=.str j/\Q (.bl (!(!(Builtin.Str.occurrences j i 0 j.length 1).isEmpty))) H):=by
 intro pins s σ H x y v u Q I rx ry h;obtain⟨i,j,rfl,rfl,q⟩:=h;obtain⟨t,rfl⟩:=rx;obtain⟨t',rfl⟩:=ry;exact notIn_str ⟨.bl _,H,I,rfl,q⟩
theorem aG:k9 X (.builtin "len") (fun xs H Q=>∃ p ys,xs=[.ref p]/\(a7 X.K H p ys\/tV X.K H p ys)/\Q (.int ys.length) H):=by
 intro pins s σ H xs us Q I r h;obtain⟨p,ys,rfl,hq,q⟩:=h;obtain⟨u,rfl,rx⟩:=vals1 r;cases rx;have hn:=Fp;rcases hq with hq|hq
 ·obtain⟨its,r',pl,hz⟩:=I.list hq;have hlen:=r'.length;exact Calls.call_len_list pl.isList (by simp only [size_toArray] <;> omega) ⟨.int ys.length,H,I.tok _,⟨s.toks+1,by rw[size_toArray,hlen]⟩,q⟩
 ·obtain⟨its,r',pl,hz⟩:=I.tuple hq;have hlen:=r'.length;exact len_tuple pl (by simp only [size_toArray] <;> omega) ⟨.int ys.length,H,I.tok _,⟨s.toks+1,by rw[size_toArray,hlen]⟩,q⟩
theorem aH:k9 X (.builtin "len") (fun xs H Q=>∃ z,xs=[.str z]/\z.length<=sizeLine/\Q (.int z.length) H):=by
 intro pins s σ H xs us Q I r h;obtain⟨z,rfl,hz,q⟩:=h;obtain⟨u,rfl,t,rfl⟩:=vals1 r;have hn:=Fp;exact len_str (by omega) ⟨.int z.length,H,I.tok _,⟨_,rfl⟩,q⟩
theorem k9.or {f:Value}{r r':List V->Hp->VK->Prop}(h:k9 X f r)(h':k9 X f r'):k9 X f (fun xs H Q=>r xs H Q\/r' xs H Q):=by
 intro pins s σ H xs us Q I rs q;rcases q with q|q
 ·exact h pins s σ H xs us Q I rs q
 ·exact h' pins s σ H xs us Q I rs q
theorem C7:k9 X (.type "list") (fun xs H Q=>∃ p ys,xs=[.ref p]/\(a7 X.K H p ys\/tV X.K H p ys)/\∀ l,H l=none->Q (.ref l) (upd H l (.lst ys))):=by
 intro pins s σ H xs us Q I r h;obtain⟨p,ys,rfl,hq,q⟩:=h;obtain⟨u,rfl,rx⟩:=vals1 r;cases rx;have fin:∀(its:List Value),Vals ys its->ys.length<=sizeLine->∀(h':Heap)(c':Nat),(∀ b o',s.heap.get? b=some o'->h'.get? b=some o') ->
   h'.get? s.heap.objs.size=some { cls:=.type "list",dict:=none,data:=.seq its.toArray c',slots:=#[] }->EP X pins σ Q (.ref s.heap.objs.size) { s with heap:=h' }:=fun its r' hz h' c' kp e =>
  ⟨.ref s.heap.objs.size,_,I.laid (t':=s.toks) kp (Nat.le_refl _) (show gO X.prog X.w _ h' _ (.lst ys) from⟨hz,its,c',r',e⟩),rfl,q _ (I.hok.fresh (Nat.le_refl _))⟩
 rcases hq with hq|hq
 ·obtain⟨its,r',pl,hz⟩:=I.list hq;have hlen:=r'.length;obtain⟨o,ho,hc,n,hd⟩:=pl.isList;exact call_list_seq p (.inl rfl) ho hc hd (fun h' c' kp e=>fin its r' hz h' c' kp e) (by simp only [size_toArray] <;> omega)
 ·obtain⟨its,r',pl,hz⟩:=I.tuple hq;have hlen:=r'.length;obtain⟨o,ho,hc,n,hd⟩:=pl;exact call_list_seq p (.inr rfl) ho hc hd (fun h' c' kp e=>fin its r' hz h' c' kp e) (by simp only [size_toArray] <;> omega)
def tyV (K:Frag)(T:String)(x:V)(H:Hp):Prop:=match x with
 |.str _=>T = "str"
 |.int _=>T = "int"
 |.ref p=>(T = "list"/\∃ xs,a7 K H p xs)\/(T = "tuple"/\∃ o,K.lookup p=some o/\o.cls=.type "tuple"/\o.dict=none) \/
   (T = "dict"/\((∃ kvs,H p=some (.dK kvs))\/∃ kvs,H p=some (.dT kvs)))\/(T = "set"/\∃ S n,H p=some (.set S n))
 |_=>False
theorem aa1 {pins:List (Addr×Obj)}{σ:St}{H:Hp}{s:Shared}{T:String}{x:V}{v:Value}(I:Inv X pins σ H s)(r:RelV x v)(ty:tyV X.K T x H) :
  s.TypeIs v T/\∀ a,v=.ref a->∃ ob,s.heap.get? a=some ob/\ob.dict=none:=by
 cases x with
 |str z =>
  obtain⟨t,rfl⟩:=r;cases (show T = "str" from ty);exact⟨typeIs_str s z t,fun _ e=>nomatch e⟩
 |int i =>
  obtain⟨t,rfl⟩:=r;cases (show T = "int" from ty);exact⟨typeIs_int s i t,fun _ e=>nomatch e⟩
 |ref p =>
  cases r;rcases ty with ⟨rfl,xs,hq⟩|⟨rfl,o,hk,hc,hd⟩|⟨rfl,hk⟩|⟨rfl,S,n,hk⟩
  ·obtain⟨its,_,pl,_⟩:=I.list hq;refine⟨pl.isList.typeIs,fun a e=>?_⟩;cases e;obtain⟨o,n,e,c,hd,_⟩:=pl;exact⟨o,e,hd⟩
  ·refine⟨⟨o,I.xj p o hk,hc⟩,fun a e=>?_⟩;cases e;exact⟨o,I.xj _ o hk,hd⟩
  ·have z:∃ o,s.heap.get? p=some o/\o.ExactDict:=by
    rcases hk with ⟨kvs,hk⟩|⟨kvs,hk⟩
    ·obtain⟨_,_,_,_,o,_,_,e,ex,_⟩:=I.hok p _ hk;exact⟨o,e,ex⟩
    ·obtain⟨_,_,_,_,o,_,_,e,ex,_⟩:=I.hok p _ hk;exact⟨o,e,ex⟩
   obtain⟨o,e,ex⟩:=z;refine⟨⟨o,e,ex.1⟩,fun a e2=>?_⟩;cases e2;exact⟨o,e,ex.2.1⟩
  ·obtain⟨o,_,_,_,e,ex,_⟩:=I.hok p _ hk;refine⟨⟨o,e,ex.1⟩,fun a e2=>?_⟩;cases e2;exact⟨o,e,ex.2.1⟩
 |_=>exact False.elim ty
def aj2 (K:Frag)(T:String)(r:V->List V->Hp->VK->Prop)(to:TE):TE:=fun σ H Q=>to σ H fun x H1=>tyV K T x H1/\r x [] H1 Q
def tBM (K:Frag)(T:String)(r:V->List V->Hp->VK->Prop)(to:TE)(t:TA):TE:=fun σ H Q=>to σ H fun x H1=>tyV K T x H1/\t σ H1 fun xs H2=>r x xs H2 Q
variable {o e:Expr} {es:List Expr} {to:TE} {t:TA} {name:Str} {apos cpos:Pos} {T id:String} {r:V->List V->Hp->VK->Prop}
theorem OS (pa:PlainAttrs T)(slot:Slot T name id)(hty:typeOf (.builtin id)=pure (.type "method_descriptor"))(hm:MtR X id r)(ho:PE X o to)
  (hbase:attributeBase o name X.env (eval o X.env)=eval o X.env:=by rfl) (hline:(apos.endLine==cpos.line)=true:=by rfl):PE X (.Call (.Attribute o name apos) [] [] cpos) (aj2 X.K T r to):=by
 intro pins s σ H Q I h;refine wpAny_Call_method0_late hbase hline (cD (ho pins s σ H _ I h) fun v s1 ⟨x,H1,I1,r1,ty,q1⟩=>?_);obtain⟨h1,h2⟩:=aa1 I1 r1 ty;exact⟨T,id,pa,slot,hty,h1,h2,Calls.callWith_builtin rfl (PySem.evalArgs_none (hm pins s1 σ H1 x [] v [] Q I1 r1 .nil q1))⟩
theorem j1 (pa:PlainAttrs T)(slot:Slot T name id)(hty:typeOf (.builtin id)=pure (.type "method_descriptor"))(hm:MtR X id r)(ho:PE X o to)(ha:PA X (e::es) t)
  (hbase:attributeBase o name X.env (eval o X.env)=eval o X.env:=by rfl)
  (hfew:((backTo cpos (starEach (e::es) X.env)).all (fun x=>!x.1)&&(backToKw cpos (keywordEach [] X.env)).all (fun x=>x.1.isSome)
   && decide ((e::es).length+([]:List Keyword).length+(if([]:List Keyword).isEmpty then 0 else 1)<30))=true:=by rfl)
  (hline:(apos.endLine==cpos.line)=true:=by rfl) (hs:starEach (e::es) X.env=(false,eval e X.env)::starEach es X.env:=by rfl) (hplain:(backTo cpos (starEach es X.env)).any (·.1)=false:=by rfl) :
  PE X (.Call (.Attribute o name apos) (e::es) [] cpos) (tBM X.K T r to t):=by
 intro pins s σ H Q I h;refine wpAny_Call_method_late hbase hfew hline rfl (cD (ho pins s σ H _ I h) fun v s1 ⟨x,H1,I1,r1,ty,q1⟩=>?_);obtain⟨h1,h2⟩:=aa1 I1 r1 ty;refine⟨T,id,pa,slot,hty,h1,h2,?_⟩;have hA:=ha cpos pins s1 σ H1 _ I1 q1;rw[hs]at hA ⊢;refine Calls.callWith_builtin (by show(false||(backTo cpos (starEach es X.env)).any (·.1))=false;rw[hplain] <;> rfl) (Calls.evalArgs_plain ?_);exact cD hA fun us s2 ⟨vs,H2,I2,r2,q2⟩=>hm pins s2 σ H2 x vs v us Q I2 r1 r2 q2
end
end L2
namespace L2
open PySem PySem.Spec PyProof.Rows
def MtM (X:Cx)(id:String)(r:V->List V->Hp->VK->Prop):Prop :=
 ∀(pins:List (Addr×Obj)) (s:Shared) (σ:St) (H:Hp) (x:V) (xs:List V) (v:Value) (us:List Value) (Q:VK),Inv X pins σ H s->RelV x v->Vals xs us->r x xs H Q ->
  wpAny (model X.prog X.w) X.A (call (.builtin id) (v::us)) (EP X pins σ Q) X.xe s
theorem Vals.one:∀{x:V} {us:List Value},Vals [x] us->∃ u,us=[u]/\RelV x u
 |_,_,.cons r .nil=>⟨_,rfl,r⟩
theorem Vals.two:∀{x y:V} {us:List Value},Vals [x,y] us->∃ u v,us=[u,v]/\RelV x u/\RelV y v
 |_,_,_,.cons r (.cons q .nil)=>⟨_,_,rfl,r,q⟩
theorem Vals.zero:∀{us:List Value},Vals [] us->us=[]
 |_,.nil=>rfl
theorem Vals.dropLast {xs:List V}{us:List Value}(h:Vals xs us):Vals xs.dropLast us.dropLast:=by
 induction h with
 |nil=>exact .nil
 |cons r t ih =>
  cases t with
  |nil=>exact .nil
  |cons q t'=>exact .cons r ih
theorem Vals.reverse {xs:List V}{us:List Value}(h:Vals xs us):Vals xs.reverse us.reverse:=by
 induction h with
 |nil=>exact .nil
 |cons r t ih=>rw[List.reverse_cons,List.reverse_cons];exact Vals.append ih (.cons r .nil)
theorem Vals.rep {xs:List V}{us:List Value}(h:Vals xs us):∀ k:Nat,Vals (List.replicate k xs).flatten (List.replicate k us).flatten
 |0=>.nil
 |k+1=>by
  rw[List.replicate_succ,List.replicate_succ,List.flatten_cons,List.flatten_cons];exact Vals.append h (Vals.rep h k)
theorem U7 {α:Type}(l:List α):l.eraseIdx (l.length-1)=l.dropLast:=by
 induction l with
 |nil=>rfl
 |cons a r ih =>
  cases r with
  |nil=>rfl
  |cons b r =>
   have e:(a::b::r).length-1=((b::r).length-1)+1:=by
    have h1:(a::b::r).length=r.length+2:=rfl;have h2:(b::r).length=r.length+1:=rfl;omega
   rw[e,List.eraseIdx_cons_succ,ih]
   all_goals rfl
theorem foldl_rep (its:List Value):∀(k:Nat)(acc:List Value),
  List.foldl (fun x1 x2=>x1++x2) acc.toArray (List.replicate k its.toArray)=(acc++(List.replicate k its).flatten).toArray
 |0,acc=>by simp
 |k+1,acc=>by
  have e:acc.toArray++its.toArray=(acc++its).toArray:=by simp
  have e2:(acc++its)++(List.replicate k its).flatten=acc++(List.replicate (k+1) its).flatten:=by
   rw[List.replicate_succ,List.flatten_cons,List.append_assoc]
  rw[<-e2,<-foldl_rep its k (acc++its),<-e,List.replicate_succ,List.foldl_cons]
section
variable {X:Cx} {pins:List (Addr×Obj)} {σ:St} {H:Hp} {s:Shared} {l b:Addr} {xs ys zs:List V}
theorem Inv.aa2 {its its':List Value}{n:Nat}{f:Array Value->Array Value}{t':Nat}(I:Inv X pins σ H s)(hH:H l=some (.lst xs))
  (e:s.heap.get? l=some { cls:=.type "list",data:=.seq its.toArray n }) (hf:f its.toArray=its'.toArray) (hv:Vals ys its') (hz:ys.length<=sizeLine) :
  Inv X pins σ (upd H l (.lst ys)) { s with heap:=s.heap.update l (Obj.mapSeq f),toks:=t' }:=by
 have q:=PySem.IsL.update e f;rw[hf]at q;refine I.write (x:=l) (e:=l) (by rw[hH];exact trivial) (.inl rfl) (fun b' u hb hu=>(Heap.get?_update_other s.heap (Obj.mapSeq f) (Ne.symm hb)).trans hu) ⟨_,q⟩ ?_;exact⟨hz,its',_,hv,q⟩
theorem Inv.ahM {its:List Value}{t':Nat}(I:Inv X pins σ H s)(hv:Vals ys its)(hz:ys.length<=sizeLine) :
  Inv X pins σ (upd H s.heap.objs.size (.lst ys)) { s with heap:=s.heap.push { cls:=.type "list",data:=.seq its.toArray },toks:=t' } :=
 I.laid (fun _ _ q=>Heap.get?_push_of_some _ q) (Nat.le_refl _) ⟨hz,its,0,hv,Heap.get?_push_size _ rfl⟩
theorem Inv.fresh (I:Inv X pins σ H s):H s.heap.objs.size=none:=I.hok.fresh (Nat.le_refl _)
theorem Inv.Nb (I:Inv X pins σ H s)(hH:H l=some (.lst xs)):xs.length<=sizeLine/\∃(its:List Value)(n:Nat),Vals xs its/\xs.length=its.length/\s.heap.get? l=some { cls:=.type "list",data:=.seq its.toArray n }:=by
 obtain⟨z,its,n,r,e⟩:=I.hok l _ hH;exact⟨z,its,n,r,r.length,e⟩
theorem Kp {n:Nat}(h:n<=sizeLine):Builtin.List.listTooLong n=false:=by
 unfold Builtin.List.listTooLong;exact decide_eq_false (by omega)
end
section
variable {X:Cx}
inductive Sd (x:V)(vs:List V)(H:Hp)(Q:VK):Prop
 |mk (l:_) (xs:_) (y:_) (fI:x=.ref l) (fJ:vs=[y]) (hI:H l=some (.lst xs)) (kK:xs.length<sizeLine) (sd:Q .non (upd H l (.lst (xs++[y])))):Sd x vs H Q
def adu :V->List V->Hp->VK->Prop:=fun x vs H Q=>Sd x vs H Q
theorem bM:MtM X "list.append" adu:=by
 intro pins s σ H x vs v us Q I rx rv h;obtain⟨l,xs,y,rfl,rfl,hH,hz,q⟩:=h;cases rx;obtain⟨u,rfl,ru⟩:=rv.one;obtain⟨z,its,n,r,hl,e⟩:=I.Nb hH;refine call_meets F.slot_list_append ⟨_,e,rfl⟩ F.entry_list_append (F.args_list_append_2 _ _) (PySem.list_append l its.toArray n u (by rw[size_toArray];omega)) ⟨e,?_⟩;refine⟨.non,_,I.aa2 (its':=its++[u]) hH e (by simp) (r.append (.cons ru .nil)) ?_,rfl,q⟩;rw[length_append,List.length_singleton];omega
inductive ae0 (x:V)(vs:List V)(H:Hp)(Q:VK):Prop
 |mk (l:_) (xs:_) (y:_) (fI:x=.ref l) (fJ:vs=[]) (hI:H l=some (.lst xs)) (kK:xs[xs.length-1]? = some y) (sd:Q y (upd H l (.lst xs.dropLast))):ae0 x vs H Q
def aj3 :V->List V->Hp->VK->Prop:=fun x vs H Q=>ae0 x vs H Q
theorem aa3:MtM X "list.pop" aj3:=by
 intro pins s σ H x vs v us Q I rx rv h;obtain⟨l,xs,y,rfl,rfl,hH,hy,q⟩:=h;cases rx;have hus:=rv.zero;subst hus;obtain⟨z,its,n,r,hl,e⟩:=I.Nb hH;obtain⟨u,hu,ru⟩:=r.get hy;have hy':its.toArray[its.toArray.size-1]? = some u:=by
  show its.toArray[its.length-1]? = some u;rw[<-Array.getElem?_toList,<-hl];exact hu
 refine call_meets F.slot_list_pop ⟨_,e,rfl⟩ F.entry_list_pop (F.args_list_pop_1 _) (MeetsSeq.list_pop_last l its.toArray n u hy' (by rw[size_toArray];omega)) ⟨e,?_⟩;refine⟨y,_,I.aa2 (its':=its.dropLast) hH e ?_ r.dropLast ?_,ru,q⟩
 ·show its.toArray.eraseIdxIfInBounds (its.toArray.size-1)=its.dropLast.toArray;rw[size_toArray,List.eraseIdxIfInBounds_toArray,U7]
 ·rw[List.length_dropLast];omega
inductive NY (x:V)(vs:List V)(H:Hp)(Q:VK):Prop
 |mk (l:_) (xs:_) (fI:x=.ref l) (fJ:vs=[]) (hI:H l=some (.lst xs)) (kK:Q .non (upd H l (.lst xs.reverse))):NY x vs H Q
def aa4 :V->List V->Hp->VK->Prop:=fun x vs H Q=>NY x vs H Q
theorem U8:MtM X "list.reverse" aa4:=by
 intro pins s σ H x vs v us Q I rx rv h;obtain⟨l,xs,rfl,rfl,hH,q⟩:=h;cases rx;have hus:=rv.zero;subst hus;obtain⟨z,its,n,r,hl,e⟩:=I.Nb hH;refine call_meets F.slot_list_reverse ⟨_,e,rfl⟩ F.entry_list_reverse (F.args_list_reverse_1 _) (AutoSeq1.list_reverse_list_0 l its.toArray n (by rw[size_toArray];omega)) ⟨e,?_⟩;refine⟨.non,_,I.aa2 (its':=its.reverse) hH e (by simp) r.reverse ?_,rfl,q⟩;rw[List.length_reverse];omega
inductive Yk (x:V)(vs:List V)(H:Hp)(Q:VK):Prop
 |mk (l:_) (xs:_) (fI:x=.ref l) (fJ:vs=[]) (hI:H l=some (.lst xs)) (kK:Q .non (upd H l (.lst []))):Yk x vs H Q
def afP :V->List V->Hp->VK->Prop:=fun x vs H Q=>Yk x vs H Q
theorem aa5:MtM X "list.clear" afP:=by
 intro pins s σ H x vs v us Q I rx rv h;obtain⟨l,xs,rfl,rfl,hH,q⟩:=h;cases rx;have hus:=rv.zero;subst hus;obtain⟨z,its,n,r,hl,e⟩:=I.Nb hH;refine call_meets F.slot_list_clear ⟨_,e,rfl⟩ F.entry_list_clear (F.args_list_clear_1 _) (AutoSeq1.list_clear_list_0 l its.toArray n (by rw[size_toArray];omega)) ⟨e,?_⟩;exact⟨.non,_,I.aa2 (its':=[]) (ys:=[]) hH e rfl .nil (Nat.zero_le _),rfl,q⟩
inductive ae1 (x:V)(y:V)(H:Hp)(Q:VK):Prop
 |mk (l:_) (b:_) (xs:_) (zs:_) (fI:x=.ref l) (fJ:y=.ref b) (hI:H l=some (.lst xs)) (kK:H b=some (.lst zs)) (sd:xs.length+zs.length<=sizeLine) (OM:∀ p,H p=none->Q (.ref p) (upd H p (.lst (xs++zs)))):ae1 x y H Q
def aj4 :R2:=fun x y H Q=>ae1 x y H Q
theorem dw:vm X (binaryOp .Add) aj4:=by
 intro pins s σ H x y v u Q I rx ry h;obtain⟨l,b,xs,zs,rfl,rfl,hH,hB,hz,q⟩:=h;cases rx;cases ry;obtain⟨z,its,n,r,hl,e⟩:=I.Nb hH;obtain⟨z2,its2,n2,r2,hl2,e2⟩:=I.Nb hB;refine PySem.P.add_list e e2 ?_ (by rw[size_toArray,size_toArray];omega);have ea:its.toArray++its2.toArray=(its++its2).toArray:=by simp
 rw[ea];exact⟨.ref _,_,I.ahM (t':=s.toks) (r.append r2) (by rw[length_append];omega),rfl,q _ I.fresh⟩
def aj5:R2:=fun x y H Q=>∃ l k xs,x=.ref l/\y=.int k/\H l=some (.lst xs)/\-(2 ^ 63)<=k/\k<2 ^ 63/\xs.length * k.toNat<=sizeLine /\
 ∀ p,H p=none->Q (.ref p) (upd H p (.lst (List.replicate k.toNat xs).flatten))
theorem len_rep {α:Type}(xs:List α)(k:Nat):(List.replicate k xs).flatten.length=k * xs.length:=by
 induction k with
 |zero=>simp
 |succ k ih=>rw[List.replicate_succ,List.flatten_cons,length_append,ih,Nat.succ_mul,Nat.add_comm]
theorem aa6:vm X (binaryOp .Mult) aj5:=by
 intro pins s σ H x y v u Q I rx ry h;obtain⟨l,k,xs,rfl,rfl,hH,h1,h2,hz,q⟩:=h;cases rx;obtain⟨t,rfl⟩:=ry;obtain⟨z,its,n,r,hl,e⟩:=I.Nb hH;have hlen:its.toArray.size * k.toNat<=sizeLine:=by rw[size_toArray,<-hl];exact hz
 have aj6:¬ its.toArray.size * k.toNat > (2 ^ 63-1) / 8:=by
  have:(sizeLine:Nat)<=(2 ^ 63-1) / 8:=by decide
  omega
 have hfit:¬(!Builtin.List.listFitsIndex k)=true:=by
  rw[fitsIndex_both h1 h2];exact Bool.false_ne_true
 have ahN:¬ Builtin.List.listTooLong (its.toArray.size * k.toNat)=true:=by
  rw[Kp hlen];exact Bool.false_ne_true
 have hnew:List.foldl (fun x1 x2=>x1++x2) #[] (List.replicate (if its.toArray.isEmpty=true then 0 else k.toNat) its.toArray)=(List.replicate k.toNat its).flatten.toArray:=by
  have f0:∀ m:Nat,List.foldl (fun x1 x2=>x1++x2) #[] (List.replicate m its.toArray)=(List.replicate m its).flatten.toArray:=fun m=>by
   have:=foldl_rep its m [];rw[nil_append]at this;exact this
  rw[f0];cases its with
  |nil=>simp
  |cons a r'=>rw[if_neg (by simp)]
 refine wpAny_binaryOp_repeat_ref (T:="list") (U:="int") (by decide) ⟨_,e,rfl⟩ (fun s'=>typeIs_int s' k t) noFill_list_mul F.fills_int_mul F.slot_int_rmul repeat_list F.slot_int_index.lookup
  (call_meets F.slot_int_rmul (typeIs_int s k t) F.entry_int_rmul (F.args_int_rmul_2 _ _) (int___rmul___int_list k t l its.toArray n)
   ⟨e,rfl,⟨_,e,rfl⟩,call_meets F.slot_list_mul ⟨_,e,rfl⟩ F.entry_list_mul (F.args_list_mul_2 _ _) (AutoListH.list___mul___list_int_3 l its.toArray n k t hfit aj6 ahN) ⟨e,?_⟩⟩)
 rw[hnew];exact⟨.ref _,_,I.ahM (t':=s.toks) (r.rep k.toNat) (by rw[len_rep,Nat.mul_comm];exact hz),rfl,q _ I.fresh⟩
end
section
variable {prog:Program} {w:World} {A:Around} {E:Value->Shared->Prop} {s:Shared}
theorem Y7 (its its2:List Value)(a c:Nat):its.toArray.extract 0 a++its2.toArray++its.toArray.extract c its.toArray.size=(its.take a++its2++its.drop c).toArray:=by
 apply Array.toList_inj.mp
 first
  |(simp;exact List.take_of_length_le (by simp))
  |simp[List.take_of_length_le]
  |simp
theorem U9 {a c n:Nat}(hac:a<=c)(hc:c<=n):sliceBounds (some (a:Int)) (some (c:Int)) none n=((a:Int),(c:Int),1):=by
 simp only [sliceBounds,Option.getD_none];have h1:¬((a:Int)<0):=by omega
 have h2:¬((c:Int)<0):=by omega
 simp only [h1,h2,if_false,show(1:Int) > 0 by decide,if_true]
 congr 1
 ·omega
 ·congr 1;omega
set_option maxRecDepth 100000 in
theorem Nc {l b sl:Addr}{items new:Array Value}{n n2:Nat}{vl vu:Value}{a c:Nat}{Q:Unit->Shared->Prop}
  (e:s.heap.get? l=some { cls:=.type "list",data:=.seq items n }) (e2:s.heap.get? b=some { cls:=.type "list",data:=.seq new n2 }) (hne:l≠b)
  (hs:s.heap.IsSliceOf sl vl vu .none) (pl:IsPart vl (some (a:Int))) (pu:IsPart vu (some (c:Int))) (hac:a<=c) (hc:c<=items.size)
  (hsz:items.size+new.size<=sizeLine) (h:Q () { s with heap:=s.heap.update l (Obj.mapSeq fun xs=>xs.extract 0 a++new++xs.extract c xs.size) }) :
  wpAny (model prog w) A (setItem (.ref l) (.ref sl) (.ref b)) Q E s:=by
 have hl:s.heap.IsList l items:=PySem.IsL.isList e;have hb:s.heap.IsList b new:=PySem.IsL.isList e2;obtain⟨os,hos,hcs,hds⟩:=id hs;have hTs:s.TypeIs (.ref sl) "slice":=⟨os,hos,hcs⟩;have hstep:¬((rawPart none==rawInt 0)=true):=Bool.false_ne_true;have hsame:Builtin.List.listSameRef (.ref l) (.ref b)=false:=by
  unfold Builtin.List.listSameRef;exact beq_eq_false_iff_ne.mpr hne
 have aj7:(max (a:Int) (c:Int)).toNat=c:=by omega
 have hz':((fun xs:Array Value=>xs.extract 0 a++new++xs.extract c xs.size) items).size<=sizeLine+1:=by
  simp only [Array.size_append,Array.size_extract];omega
 unfold setItem
 try with_reducible refine wpAny_holding ?_
 first|refine wpAny_bind (wpAny_pure ?_)|skip
 refine wpAny_bind (wpAny_sequenceKey hl.typeIs (by decide) ?_);refine wpAny_bind (wpAny_callSpecial?_slot (name:=Str.ofString "__setitem__") hl.typeIs slot_list_setitem
  (wpAny_call_entry slot_list_setitem hl.typeIs entry_list_setitem ?_ (args_list_setitem _ _ _)))
 show wpAny _ _ (Builtin.List.listSubscript? (.ref sl) >>= _) _ _ s;refine wpAny_bind ?_;unfold Builtin.List.listSubscript?;refine wpAny_bind (wpAny_specialOf hTs slice_no_index ?_);simp only [Option.isNone_none,if_true];refine wpAny_pure ?_;show wpAny _ _ (typeOf (.ref sl) >>= _) _ _ s;refine wpAny_bind (wpAny_typeOf hTs ?_)
 first
  |rw[if_neg (by decide)]
  |refine PySem.W.KFB.if_not (by decide) ?_
 rw[listSliceParts_eq];refine wpAny_bind (wpAny_bind (wpAny_field hos hds (x:=.none) rfl (wpAny_bind (wpAny_listPart .none ?_))));rw[if_neg hstep];refine wpAny_bind (wpAny_field hos hds (x:=vl) rfl (wpAny_bind (wpAny_listPart pl ?_)));refine wpAny_bind (wpAny_field hos hds (x:=vu) rfl (wpAny_bind (wpAny_listPart pu (wpAny_pure ?_))))
 first
  |simp only [hsame,Bool.false_eq_true,if_false]
  |refine PySem.W.KFB.if_not hsame ?_
  |(dsimp only;rw[if_neg (by rw[hsame];exact Bool.false_ne_true)])
 refine wpAny_bind (m:=Builtin.List.listAllItems (.ref b) "must assign iterable to extended slice") ?_;unfold Builtin.List.listAllItems;refine wpAny_bind (wpAny_typeOf hb.typeIs ?_)
 first
  |refine PySem.W.KFB.if_so (by decide) ?_
  |rw[if_pos (by decide)]
  |simp only [beq_self_eq_true,Bool.true_or,if_true]
 unfold Builtin.List.listItems;refine wpAny_bind (wpAny_seqItems e2 rfl (wpAny_pure ?_));refine wpAny_bind (wpAny_bind (wpAny_seqItems e rfl (wpAny_pure ?_)));refine wpAny_bind (wpAny_of_eq ((sliceIndices_raw (some (a:Int)) (some (c:Int)) none items.size (by simp)).trans (congrArg (pure:Int×Int×Int->Sem (Int×Int×Int)) (U9 hac hc))) ?_);show wpAny _ _ (if((1:Int)==1)=true then _ else _) _ _ s;rw[if_pos (by decide)];refine wpAny_bind (wpAny_rule ?_)
 first
  |simp only [Kp hsz,Bool.false_eq_true,if_false]
  |refine PySem.W.KFB.if_not (Kp hsz) ?_
 first|refine wpAny_bind (wpAny_pure ?_)|skip
 show wpAny _ _ (updateSeq l (fun xs=>xs.extract 0 ((a:Int)).toNat++new++xs.extract (max (a:Int) (c:Int)).toNat xs.size) >>= _) _ _ s;rw[aj7,Int.toNat_natCast];refine wpAny_bind (wpAny_updateSeq (hz:=Nat.le_trans (Nat.le_add_right _ _) hsz) (_hz':=hz') e rfl ?_);refine wpAny_bind (wpAny_letGo ?_)
 first
  |exact wpAny_bind (wpAny_pure (wpAny_pure ⟨.none,rfl,wpAny_pure h⟩))
  |exact wpAny_pure ⟨.none,rfl,wpAny_pure h⟩
end
section
variable {X:Cx}
theorem Y8 {pins:List (Addr×Obj)}{s:Shared}{σ:St}{H:Hp}{l b sl:Addr}{xs ys:List V}{a c:Int}{vl vu:Value}{Q:Unit->Shared->Prop}(I:Inv X pins σ H s)
  (hH:H l=some (.lst xs)) (hB:H b=some (.lst ys)) (hne:l≠b) (hs:s.heap.IsSliceOf sl vl vu .none) (ra:RelV (.int a) vl) (rc:RelV (.int c) vu) (h0:0<=a) (hac:a<=c) (hc:c<=xs.length)
  (hz:xs.length+ys.length<=sizeLine) (h:∀ s',Inv X pins σ (upd H l (.lst (xs.take a.toNat++ys++xs.drop c.toNat))) s'->Q () s') :
  wpAny (model X.prog X.w) X.A (setItem (.ref l) (.ref sl) (.ref b)) Q X.xe s:=by
 obtain⟨ta,rfl⟩:=ra;obtain⟨tc,rfl⟩:=rc;obtain⟨z,its,n,r,hl,e⟩:=I.Nb hH;obtain⟨z2,its2,n2,r2,hl2,e2⟩:=I.Nb hB;obtain⟨a',rfl⟩:=Int.eq_ofNat_of_zero_le h0;obtain⟨c',rfl⟩:=Int.eq_ofNat_of_zero_le (Int.le_trans h0 hac);simp only [Int.toNat_natCast]at h;refine Nc (a:=a') (c:=c') e e2 hne hs (.int _ _) (.int _ _) (by omega) (by rw[size_toArray];omega) (by rw[size_toArray,size_toArray];omega) (h _ ?_);refine I.aa2 (its':=its.take a'++its2++its.drop c') (t':=s.toks) hH e ?_ (Vals.append (Vals.append (r.take _) r2) (r.drop _)) ?_
 ·exact Y7 its its2 a' c'
 ·rw[length_append,length_append,length_take,length_drop];omega
end
end L2
namespace Att
open PySem PySem.W PySem.Calls PyProof.Rows
theorem Jv {P:Params}{h:Heap}:∀(ns:List Int)(vs:List Value),WellAll P h vs (ns.map WData.int)->IntsAre vs ns:=by
 intro ns
 induction ns with
 |nil =>
  intro vs w;rw[List.map_nil]at w;cases w;exact .nil
 |cons n ns ih =>
  intro vs w;rw[map_cons]at w;cases w with
  |cons a b =>
   cases a;exact .cons _ _ (ih _ b)
theorem Y9 {l:OpenLaw}{n:Nat}(hn:l.most=some n){P:Params}{h:Heap}{args:List WData}{vals:List Value}
  (hpre:l.row.toRowW.claim.pre args=true) (hwl:WellAll P h vals args) :
  ∃ a vs ns,vals=[Value.ref a]/\args=[WData.list (ns.map WData.int)]/\h.get? a=some { cls:=.type "list",data:=.seq vs.toArray }/\IntsAre vs ns/\ns.length<=n:=by
 have hsh:WShape.hasAll [] args [.list .int]=true:=(pre_splitW hpre).1;have hc:l.pre.holds [] { args:=args } = true:=(pre_splitW hpre).2;obtain⟨d,r,rfl,h1,h2⟩:=hasAllW_cons hsh;obtain rfl:=hasAllW_nil h2;obtain⟨xs,rfl,h3⟩:=hasW_list h1;obtain⟨ns,rfl⟩:=items_int h3;have hlen:ns.length<=n:=by
  unfold OpenLaw.pre at hc;have h4:(WTm.not (.lt (.lit (.int (n:Int))) (.len (.arg 0)))).holds [] { args:=[.list (ns.map .int)] } = true:=by
   have h4:=(holds_andW hc).1;rw[hn]at h4;exact h4
  have h5:=condW_of h4 (w_not (w_lt w_lit (w_len_list (w_arg rfl))));rw[length_map]at h5;refine Nat.le_of_not_lt fun q=>?_;have q':(n:Int)<((ns.length:Nat):Int):=by omega
  first
   |(rw[decide_eq_true q']at h5;exact absurd h5 (by decide))
   |(simp at h5;omega)
 cases hwl with
 |cons w1 w2 =>
  cases w2;cases w1 with
  |list ho hall=>exact⟨_,_,ns,rfl,rfl,ho,Jv ns _ hall,hlen⟩
theorem Za (l:OpenLaw)(args:List WData):l.row.toRowW.claim.post args (.bool true) args=true :=
 postW_of (r:=l.row.toRowW) (X:=(true==true))
  (show WShape.has [] (.bool true) .bool=true by first|rfl|decide|simp[WShape.has,WShape.arms,WShape.armsAll])
  (show(WTm.eq .res (.lit (.bool true))).value [] { args:=args,res:=some (.bool true),after:=args } = some (.bool (true==true)) from w_eq_bool (w_res rfl) w_lit) rfl
theorem Se {l:OpenLaw}{n:Nat}{q:Program}{loose:List Str}{XP:(Str->Option Value)->Heap->Prop}{YP:World->Heap->Prop}{d:DefRec}
  (hn:l.most=some n) (hdf:d.params.defaults=[])
  (call:∀(w:World)(s₀ s₁:Shared)(mg mb:Str->Option Value)(fa:Addr)(o:Obj)(pm cd doc:Value)(a:Addr)(vs:List Value)(ns:List Int),
   Ground q loose [] XP w s₀ mg mb s₁.heap->YP w s₁.heap ->
   s₁.heap.get? fa=some o->o.data=.func (docDef d.name d.params d.body d.scope pm cd doc)->s₁.heap.CodeRec cd d.name->mg d.name=some (.ref fa) ->
   s₁.heap.get? a=some { cls:=.type "list",data:=.seq vs.toArray }->IntsAre vs ns->ns.length<=n->s₁.gens = #[] ->
   codeAny (model l.prog w) callerA (.call (.ref fa) ⟨[.ref a],[]⟩) (fun r s'=>r=.ok (.ret (.bool true))/\OldK s₁.heap s'.heap/\s'.os=s₁.os/\AllBare s'.gens) s₁) :
  WalkO q loose XP YP l.row.toRowW d [] (fun f vs=>PySem.call f vs):=by
 intro w s₀ s₁ mg mb G Y fa o pm cd doc dV kV ho hd hcd hD hmg hg args vals as hpre hlay hrd hwl hlo;obtain rfl:dV=.none:=Dflts.none hD hdf;obtain rfl:kV=.none:=Dflts.noKw hD;obtain⟨a,vs,ns,rfl,rfl,hobj,hints,hlen⟩:=Y9 hn hpre hwl;refine enter_call (codeAny_mono (call w s₀ s₁ mg mb fa o pm cd doc a vs ns G Y ho (fd_plain hd) hcd hmg hobj hints hlen hg) fun r s' hq=>?_);obtain⟨rfl,h2,h3,h4⟩:=hq;exact⟨.inl ⟨.bool true,.bool true,[],rfl,fun _=>rfl,.bool true,Za l _,fun _=>⟨List.Pairwise.nil,fun _ hm=>(nomatch hm)⟩⟩,h2,h3,h4⟩
section
variable {prog:Program} {w:World} {A:Around} {E:Value->Shared->Prop} {s:Shared} {K:Frag}
end
end Att
namespace L2
open PySem PySem.Spec PyProof.Rows
theorem NZ:∀{vs:List Value} {ns:List Int},IntsAre vs ns->Vals (ns.map V.int) vs
 |_,_,.nil=>.nil
 |_,_,.cons n t h=>.cons ⟨t,rfl⟩ (NZ h)
def Only (H:Hp):Prop:=∀ b,H b=none\/∃ o xs,H b=some (.X8 o (.lst xs))
theorem aa7 {P:Program}{w:World}{K:Frag}{mg mb:Str->Option Value}{CX:CXT}{k:Nat}{fa a:Addr}{fd:FuncData}{x:Str}{sp:Sp}{s₁:Shared}{vs:List Value}{ns:List Int}
  (KX:K.In s₁.heap) (hns:s₁.heap.Ns mainGlobals mg) (hb:s₁.heap.Ns builtinsNs mb) (hbb:∀ x:Str,x ≠ "__name__"->mb x=bootBuiltins x) (hlim:s₁.heap.NoLimit) (hg:s₁.gens = #[])
  (ha:s₁.heap.get? a=some { cls:=.type "list",data:=.seq vs.toArray }) (hi:IntsAre vs ns) (hl:ns.length<=sizeLine) (hr:jB k callerA)
  (F:∀ base:Heap,K.In base->base.Ns mainGlobals mg->bE P w K mg base CX k fa fd [x] sp) (hbind:∀(s:Shared)(u:Value),BindsTo s fd ⟨[u],[]⟩ [(x,u)])
  (hsp:∀ H:Hp,Only H->a7 K H a (ns.map V.int)->sp [.ref a] H (fun v _=>v=.bl true) fun _ _ _=>False)
  (hCX:∀ H e s',CX [] H s₁ (fun _ _ _=>False) e s'->False) :
  codeAny (model P w) callerA (.call (.ref fa) ⟨[.ref a],[]⟩) (fun r s'=>r=.ok (.ret (.bool true))/\OldK s₁.heap s'.heap/\s'.os=s₁.os/\AllBare s'.gens) s₁:=by
 have rv:=NZ hi;have lenV:=hi.length;have core:∀ H:Hp,Only H->a7 K H a (ns.map V.int)->xm P w H s₁.heap->(∀ b,H b≠none->b=a)->(H a≠none->K.lookup a=none) ->
   codeAny (model P w) callerA (.call (.ref fa) ⟨[.ref a],[]⟩) (fun r s'=>r=.ok (.ret (.bool true))/\OldK s₁.heap s'.heap/\s'.os=s₁.os/\AllBare s'.gens) s₁:=by
  intro H hO hS hok hA hK;have Yl:∀{b:Addr} {o:Obj},s₁.heap.get? b=some o->H b=none->(OH s₁.heap H).get? b=some o:=fun e n=>aaE e n;have noA:∀{b:Addr} {o:Obj} {es:Array DictEntry} {ep:Nat},s₁.heap.get? b=some o->o.data=.dict es ep->H b=none:=fun {b o es ep} e d=>by
   cases q:H b with
   |none=>rfl
   |some u =>
    have e':b=a:=hA b (by rw[q];simp);subst e';rw[ha]at e;cases e;have d':Data.seq vs.toArray _=Data.dict es ep:=d;cases d'
  have nsK:∀{b:Addr} {m:Str->Option Value},s₁.heap.Ns b m->(OH s₁.heap H).Ns b m:=fun {b m} ⟨o,es,ep,e,d,r⟩=>⟨o,es,ep,Yl e (noA e d),d,r⟩;have hKb:K.In (OH s₁.heap H):=fun b o e=>Yl (KX b o e) (by
   cases q:H b with
   |none=>rfl
   |some u =>
    have e':b=a:=hA b (by rw[q];simp);subst e';rw[hK (by rw[q];simp)]at e;cases e)
  have hM:Mod K mg (OH s₁.heap H):=⟨hKb,nsK hns,⟨mb,nsK hb,hbb⟩,let ⟨mc,h1,h2⟩:=hlim;⟨mc,nsK h1,h2⟩⟩;have e0:UZ P w K mg (OH s₁.heap H) callerA [] s₁ H:=⟨rfl,hM,fun b o e=>adh e,Nat.le_of_eq (YV _ _),trivial,fun b hb=>absurd (show b∈([]:List Addr) from hb) (by simp),hok,.of_eq hg⟩;refine codeAny_mono ((F _ hKb (nsK hns)).run callerA [] s₁ H ⟨[.ref a],[]⟩ [.ref a] [.ref a] _ _ hr e0 (hbind s₁ (.ref a)) (.cons rfl .nil) (hsp H hO hS)) fun r s' h=>?_;cases r with
  |error e=>exact(hCX H e s' h).elim
  |ok fl =>
   cases fl with
   |next=>exact False.elim h
   |brk=>exact False.elim h
   |cont=>exact False.elim h
   |ret u =>
    obtain⟨v,H',os,bare,un,hok',r',q⟩:=h;have q':v=.bl true:=q;subst q';obtain rfl:u=Value.bool true:=r';refine⟨rfl,OldK.of_keep fun b o e=>?_,os,bare⟩;cases q:H b with
    |none=>exact un.keep b o e q (by intro z;exact absurd (show b∈([]:List Addr) from z) (by simp)) (by simp)
    |some u =>
     rcases hO b with z|⟨ob,xs,z⟩
     ·rw[q]at z;cases z
     ·have z2:=un.Kl b ob _ z;obtain⟨e1,_⟩:=hok b _ z;obtain⟨e2,_⟩:=hok' b _ z2;rw[e]at e1;cases e1;exact e2
 cases hk:K.lookup a with
 |some o =>
  have e:=KX a o hk;rw[ha]at e;cases e;refine core (fun _=>none) (fun _=>.inl rfl) (.inr ⟨_,vs.toArray,_,hk,rfl,rfl,rfl,by rw[size_toArray,lenV];exact hl,by simpa using rv⟩) (fun b u z=>by have z':(none:Option HO)=some u:=z;cases z') (fun b z=>absurd rfl z) fun z=>absurd rfl z
 |none =>
  refine core (fun b=>if b=a then some (.X8 { cls:=.type "list",data:=.seq vs.toArray } (.lst (ns.map V.int))) else none) (fun b=>?_) (.inl (.inr ⟨{ cls:=.type "list",data:=.seq vs.toArray },if_pos rfl⟩)) (fun b u z=>?_) (fun b z=>?_) fun _=>hk
  ·by_cases hb:b=a
   ·exact .inr ⟨_,_,if_pos hb⟩
   ·exact .inl (if_neg hb)
  ·by_cases hb:b=a
   ·have z':=(if_pos hb).symm.trans z;cases z';subst hb;exact⟨ha,by rw[length_map];exact hl,vs,_,rv,ha⟩
   ·have z':=(if_neg hb).symm.trans z;cases z'
  ·by_cases hb:b=a
   ·exact hb
   ·exact absurd (if_neg hb) z
end L2
namespace L2
open PySem PySem.Spec PyProof.Rows
abbrev KOf {K:Frag}{h:Heap}(_:K.In h):Frag:=K
theorem adv {l:OpenLaw}{n k:Nat}{q:Program}{loose:List Str}{XP:(Str->Option Value)->Heap->Prop}{YP:World->Heap->Prop}{d:DefRec}{K:Params->Frag}{CX:World->CXT}{sp:World->Sp}{x:Str}
  (hn:l.most=some n) (hn2:n<=sizeLine) (hdf:d.params.defaults=[]) (hr:jB k callerA)
  (hY:∀(w:World)(h:Heap),YP w h->(K w.params).In h)
  (F:∀(w:World)(mg:Str->Option Value)(fa:Addr)(h:Heap),(K w.params).In h->h.Ns mainGlobals mg->mg d.name=some (.ref fa) ->
   ∃ fd:FuncData,(∀(s:Shared)(u:Value),BindsTo s fd ⟨[u],[]⟩ [(x,u)]) /\
    ∀ base:Heap,(K w.params).In base->base.Ns mainGlobals mg->bE l.prog w (K w.params) mg base (CX w) k fa fd [x] (sp w))
  (hsp:∀(w:World)(H:Hp)(a:Addr)(ns:List Int),ns.length<=n->Only H->a7 (K w.params) H a (ns.map V.int)->sp w [.ref a] H (fun v _=>v=.bl true) fun _ _ _=>False)
  (hCX:∀(w:World)(H:Hp)(s:Shared)(e:Value)(s':Shared),CX w [] H s (fun _ _ _=>False) e s'->False) :
  WalkO q loose XP YP l.row.toRowW d [] (fun f vs=>PySem.call f vs):=by
 refine Att.Se hn hdf fun w s₀ s₁ mg mb fa o pm cd doc a vs ns G Y ho hd hcd hmg hobj hints hlen hg=>?_;have KX:=hY w _ Y;obtain⟨fd,hb,hF⟩:=F w mg fa _ KX G.T.g hmg;exact aa7 KX G.T.g G.T.b G.T.builtins G.T.nolimit hg hobj hints (Nat.le_trans hlen hn2) hr hF hb (fun H hO hS=>hsp w H a ns hlen hO hS) fun H e s'=>hCX w H s₁ e s'
end L2
namespace L2
open PySem PySem.Spec PyProof.Rows
def inClass (s:Stmt)(j:Nat):Stmt:=match s with
 |.ClassDef _ _ _ body _ _ _ _ _ _ _=>body.getD j (.Pass ⟨0,0,0,0⟩)
 |_=>.Pass ⟨0,0,0,0⟩
def aC (s:Stmt):Arguments:=match s with
 |.FunctionDef _ a _ _ _ _ _ _ _ _=>a
 |_=>{ posonlyargs:=[],args:=[],vararg:=none,kwonlyargs:=[],kw_defaults:=[],kwarg:=none,defaults:=[] }
def aA (s:Stmt):List Stmt:=match s with
 |.FunctionDef _ _ b _ _ _ _ _ _ _=>b
 |_=>[]
def ah (s:Stmt):Scope:=match s with
 |.FunctionDef _ _ _ _ _ _ sc _ _ _=>sc
 |_=>{ kind:=.function,names:=[],isGenerator:=false,isCoroutine:=false }
abbrev mJ:CXT:=fun _ _ _ _ _ _=>False
abbrev E0:XK:=fun _ _ _=>False
theorem aO {X:Cx}:Passes mJ X E0:=fun _ _ _ _ _ _ _ h=>h.elim
structure jT (K:Frag)(x qual:Str)(st:Stmt)(f:Addr)(fd:FuncData):Prop where
 ex:∃(oc:Value)(od:Option Addr)(kV doc pm:Value)(an:Option Addr)(cdv ct:Value)(osl:Array (Option Value)),
  fd=fnOf x qual (aC st) (aA st) (ah st) .none kV doc pm an cdv ct/\K.lookup f=some ⟨oc,od,.func fd,osl⟩/\codeIn K cdv qual=true
 kp:keepIn K (.ref f)=true
section
variable {P:Program} {w:World} {K:Frag} {mg:Str->Option Value} {base:Heap}
theorem jT.ok {x qual:Str}{st:Stmt}{f:Addr}{fd:FuncData}{N ps:List Str}{k:Nat}{sp:Sp}(F:jT K x qual st f fd)(S:aD N ps (ah st))(len:∀ vs H Q E,sp vs H Q E->vs.length=ps.length)
  (hbody:∀(cdv:Value)(A:Around)(outer:List Env)(s:Shared)(H:Hp)(vs:List V)(Q:VK)(E:XK),jB k (A.deeper (envOfC qual (ah st) s.heap.objs.size f cdv))->sp vs H Q E ->
   ∃ t,J7 (cJ mJ P w K mg base N qual (ah st) f cdv A outer s H E).nox (aA st) t/\t { nx:=fun _ H'=>Q .non H',rt:=Q } (start N vs) H):bE P w K mg base mJ (k+1) f fd ps sp:=by
 obtain⟨oc,od,kV,doc,pm,an,cdv,ct,osl,rfl,lk,hcd⟩:=F.ex;refine Ye lk hcd S len fun A outer s H vs Q E hr hsp=>?_;obtain⟨t,h,q⟩:=hbody cdv A outer s H vs Q E hr hsp;exact⟨t,h.nox,q⟩
theorem jT.binds {x qual:Str}{st:Stmt}{f:Addr}{fd:FuncData}{ps:List Str}(F:jT K x qual st f fd)
  (h:∀(kV doc pm:Value)(an:Option Addr)(cdv ct:Value)(us:List Value),us.length=ps.length->bindArgs (fnOf x qual (aC st) (aA st) (ah st) .none kV doc pm an cdv ct) ⟨us,[]⟩=pure (ps.zip us)):Binds K fd ps []:=by
 obtain⟨oc,od,kV,doc,pm,an,cdv,ct,osl,rfl,lk,hcd⟩:=F.ex;exact .all (h kV doc pm an cdv ct)
theorem aS {x qual:Str}{st:Stmt}{f:Addr}{oc:Value}{od an:Option Addr}{osl:Array (Option Value)}{kV doc pm cdv ct:Value}(l:K.lookup f=some ⟨oc,od,.func (fnOf x qual (aC st) (aA st) (ah st) .none kV doc pm an cdv ct),osl⟩)
  (c:codeIn K cdv qual=true) (k:keepIn K (.ref f)=true):jT K x qual st f (fnOf x qual (aC st) (aA st) (ah st) .none kV doc pm an cdv ct):=⟨⟨oc,od,kV,doc,pm,an,cdv,ct,osl,rfl,l,c⟩,k⟩
end
theorem jj {A:Around}{k:Nat}(hr:jB k A):A.units+1<cLine:=Nat.lt_of_le_of_lt (Nat.add_le_add_left (by decide:1<=64) _) hr.units
theorem a6 {n:Nat}(h:n<=1000):n<sizeLine:=Nat.lt_of_le_of_lt h (by decide)
section
variable {X:Cx}
theorem pv (i:Nat){x:Str}{pos:Pos}(hN:X.N[i]? = some x:=by rfl)(hv:Vis X.env.scope x:=by first|exact Or.inl rfl|exact Or.inr (Or.inl rfl)|exact Or.inr (Or.inr rfl))(hd:(x==("__debug__":Str))=false:=by decide)
  (hcd:(x==("__classdict__":Str))=false:=by decide):PE X (.Name x pos) (ahr i):=afz hN hv hd hcd
end
theorem bJ {A B:Prop}(h:B):if false=true then A else B:=by
 rw[if_neg Bool.false_ne_true];exact h
theorem cY {A B:Prop}(h:A):if true=true then A else B:=by
 rw[if_pos rfl];exact h
theorem a8 {c A B:Prop}[Decidable c](h1:c->A)(h2:¬ c->B):if c then A else B:=by
 by_cases h:c
 ·rw[if_pos h];exact h1 h
 ·rw[if_neg h];exact h2 h
def aq (H H':Hp):Prop:=∀ b o,H b=some o->H' b=some o
theorem aq.refl (H:Hp):aq H H:=fun _ _ h=>h
theorem aq.trans {H H1 H2:Hp}(a:aq H H1)(b:aq H1 H2):aq H H2:=fun c o h=>b c o (a c o h)
theorem aq.free {H H':Hp}(e:aq H H'){l:Addr}(h:H' l=Option.none):H l=Option.none:=by
 cases q:H l with
 |none=>rfl
 |some o =>
  rw[e l o q]at h;cases h
theorem aq.seq {K:Frag}{H H':Hp}{a:Addr}{xs:List V}(e:aq H H')(h:a7 K H a xs):a7 K H' a xs:=by
 rcases h with (h|⟨o,h⟩)|h
 ·exact .inl (.inl (e _ _ h))
 ·exact .inl (.inr ⟨o,e _ _ h⟩)
 ·exact .inr h
end L2
set_option maxHeartbeats 4000000
namespace L2
open PySem PySem.Spec PyProof.Rows
def iR (env:Env):List (Str×NameKind)->List (Str×Addr)->List (Str×Addr)
 |[],acc=>acc
 |p::l,acc=>iR env l (if p.2 == .free then(p.1,(env.cells.lookup p.1).getD 0)::acc else acc)
theorem Ym {env:Env}{scope:Scope}(h:∀ p∈scope.names,p.2=.free->∃ c,env.cells.lookup p.1=some c):closureFor scope env=pure (iR env scope.names []):=by
 have go:∀(l:List (Str×NameKind)) (acc:List (Str×Addr)),(∀ p∈l,p.2=.free->∃ c,env.cells.lookup p.1=some c) ->
   (forIn l acc fun(p:Str×NameKind) cs=>if(p.2==NameKind.free)=true then(cellOf env p.1 >>= fun a=>pure (ForInStep.yield ((p.1,a)::cs))) else pure (ForInStep.yield cs))=(pure (iR env l acc):Sem (List (Str×Addr))):=by
  intro l
  induction l with
  |nil=>intro acc _;rfl
  |cons p l ih =>
   intro acc hl;rw[List.forIn_cons];have hr:=fun q hq=>hl q (mem_cons_of_mem _ hq)
   by_cases hk:p.2=.free
   ·obtain⟨c,hc⟩:=hl p mem_cons_self hk;have e1:(p.2==NameKind.free)=true:=by rw[hk];rfl
    rw[if_pos e1];have e2:cellOf env p.1=pure c:=by unfold cellOf;rw[hc]
    rw[e2,pure_bind,pure_bind];show forIn l ((p.1,c)::acc) _=_;rw[ih _ hr];show _=pure (iR env l (if p.2 == .free then(p.1,(env.cells.lookup p.1).getD 0)::acc else acc));rw[if_pos e1,hc];rfl
   ·have e1:¬(p.2==NameKind.free)=true:=by intro z;exact hk (by simpa using z)
    rw[if_neg e1,pure_bind];show forIn l acc _=_;rw[ih _ hr];show _=pure (iR env l (if p.2 == .free then(p.1,(env.cells.lookup p.1).getD 0)::acc else acc));rw[if_neg e1]
 have e:=go scope.names [] h;unfold closureFor;show(forIn scope.names ([]:List (Str×Addr)) _ >>= fun r=>pure r)=_;rw[bind_pure];exact e
theorem N0 {env:Env}{x:Str}:∀(l:List (Str×NameKind)) (acc:List (Str×Addr)) {c:Addr},(iR env l acc).lookup x=some c->acc.lookup x=some c\/((x,NameKind.free)∈l/\c=(env.cells.lookup x).getD 0)
 |[],acc,c,h=>.inl h
 |p::l,acc,c,h=>by
  rcases N0 l _ h with z|⟨z,e⟩
  ·by_cases hk:(p.2==NameKind.free)=true
   ·rw[if_pos hk,List.lookup_cons]at z
    by_cases hx:(x==p.1)=true
    ·rw[hx]at z;have e:x=p.1:=by simpa using hx
     have e2:p.2=.free:=by simpa using hk
     refine .inr ⟨?_,?_⟩
     ·rw[e,<-e2];exact mem_cons_self
     ·rw[e];exact(Option.some.inj z).symm
    ·have hx':(x==p.1)=false:=by simpa using hx
     rw[hx']at z;exact .inl z
   ·rw[if_neg hk]at z;exact .inl z
  ·exact .inr ⟨mem_cons_of_mem _ z,e⟩
theorem Kq {env:Env}{x:Str}:∀(l:List (Str×NameKind)) (acc:List (Str×Addr)),((acc.lookup x).isSome=true\/(x,NameKind.free)∈l)->((iR env l acc).lookup x).isSome=true
 |[],acc,h=>by
  rcases h with h|h
  ·exact h
  ·cases h
 |p::l,acc,h=>by
  refine Kq l _ ?_;rcases h with h|h
  ·left
   by_cases hk:(p.2==NameKind.free)=true
   ·rw[if_pos hk,List.lookup_cons];cases (x==p.1) with
    |true=>rfl
    |false=>exact h
   ·rw[if_neg hk];exact h
  ·rcases List.mem_cons.mp h with e|h
   ·left
    have e1:p.1=x:=by rw[<-e]
    have e2:(p.2==NameKind.free)=true:=by rw[<-e];rfl
    rw[if_pos e2,List.lookup_cons,e1];simp
   ·exact .inr h
theorem qK {env:Env}{x:Str}{k:NameKind}:∀(l:List (Str×NameKind)),
  (l.map fun(n,k)=>if(k==NameKind.free&&env.scope.kind == .function&&env.kindOf n==some .cell) then(n,NameKind.cell) else(n,k)).lookup x=some k ->
   l.lookup x=some k\/(k=.cell/\l.lookup x=some .free)
 |[],h=>by cases h
 |(n,q)::l,h=>by
  rw[map_cons]at h;cases hx:(x==n) with
  |true =>
   rw[List.lookup_cons,hx]
   by_cases hc:(q==NameKind.free&&env.scope.kind == .function&&env.kindOf n==some .cell)=true
   ·simp only [hc,if_true,List.lookup_cons,hx]at h;have e:q=.free:=by
     have:=(Bool.and_eq_true_iff.mp (Bool.and_eq_true_iff.mp hc).1).1
     simpa using this
    right
    exact⟨(Option.some.inj h).symm,by rw[e]⟩
   ·have hc':(q==NameKind.free&&env.scope.kind == .function&&env.kindOf n==some .cell)=false:=by simpa using hc
    simp only [hc',Bool.false_eq_true,if_false,List.lookup_cons,hx]at h;exact .inl h
  |false =>
   rw[List.lookup_cons,hx];refine qK (env:=env) l ?_
   by_cases hc:(q==NameKind.free&&env.scope.kind == .function&&env.kindOf n==some .cell)=true
   ·simp only [hc,if_true,List.lookup_cons,hx]at h;exact h
   ·have hc':(q==NameKind.free&&env.scope.kind == .function&&env.kindOf n==some .cell)=false:=by simpa using hc
    simp only [hc',Bool.false_eq_true,if_false,List.lookup_cons,hx]at h;exact h
structure Bk where
 C:Addr
 s₂:Shared
 aoB:Hp
 fp:List Addr
 xe:Value->Shared->Prop
def df (X:Cx)(cn:List Str)(scope:Scope)(b:Bk):Cx where
 prog:=X.prog
 w:=X.w
 K:=X.K
 mg:=X.mg
 base:=X.base
 A:=X.A
 N:=cn++X.N
 s₀:=b.s₂
 H₀:=b.aoB
 env:=compEnvC scope (iR X.env scope.names []) b.C X.env
 outer:=X.stack
 stack:=X.stack
 ex:=b.fp
 fn:=fun _=>false
 calm:=X.calm
 pn:=[]
 xe:=b.xe
def aa8 (sc:Scope)(N:List Str)(scope:Scope):Bool :=
 (scope.kind == .function) &&
 (scope.names.all fun p=>(p.2 != .cell)&&((p.2 != .free)||(sc.names.lookup p.1==some .cell)||(sc.names.lookup p.1==some .free))&&((p.2 != .local)||(scope.names.lookup p.1==some .local))) &&
 (N.all fun x=>scope.names.lookup x != some .local)
structure h8 (sc:Scope)(N:List Str)(scope:Scope):Prop where
 kind:scope.kind=.function
 aa9:∀ p∈scope.names,p.2≠.cell
 free:∀ p∈scope.names,p.2=.free->sc.names.lookup p.1=some .cell\/sc.names.lookup p.1=some .free
 loc:∀ p∈scope.names,p.2=.local->scope.names.lookup p.1=some .local
 apart:∀ x∈N,scope.names.lookup x≠some .local
theorem h8.of {sc:Scope}{N:List Str}{scope:Scope}(h:aa8 sc N scope=true):h8 sc N scope:=by
 unfold aa8 at h;rw[Bool.and_eq_true,Bool.and_eq_true]at h;obtain⟨⟨h1,h2⟩,h3⟩:=h;rw[all_eq_true]at h2 h3;refine⟨by simpa using h1,fun p hp=>?_,fun p hp e=>?_,fun p hp e=>?_,fun x hx=>?_⟩
 ·have:=h2 p hp;rw[Bool.and_eq_true,Bool.and_eq_true]at this
  simpa using this.1.1
 ·have:=h2 p hp;rw[Bool.and_eq_true,Bool.and_eq_true]at this;have q:=this.1.2;rw[e]at q;rw[Bool.or_eq_true,Bool.or_eq_true]at q;rcases q with (q|q)|q
  ·exact absurd q (by decide)
  ·exact .inl (by simpa using q)
  ·exact .inr (by simpa using q)
 ·have:=h2 p hp;rw[Bool.and_eq_true,Bool.and_eq_true]at this;have q:=this.2;rw[e]at q;rw[Bool.or_eq_true]at q;rcases q with q|q
  ·exact absurd q (by decide)
  ·simpa using q
 ·have:=h3 x hx
  simpa using this
section
variable {X:Cx} {pins:List (Addr×Obj)} {σ:St} {H:Hp}
theorem xq {l:List (Str×NameKind)}{x:Str}{k:NameKind}(h:l.lookup x=some k):(x,k)∈l:=PySem.mem_of_lookup h
theorem Inv.block {s₂:Shared}{h₁:Heap}{tk:Nat}{cn:List Str}{scope:Scope}{fp:List Addr}{xe:Value->Shared->Prop}{C D:Addr}{m:Str->Option Value}
  (I:Inv X pins σ H s₂) (F:h8 X.env.scope X.N scope) (hc:X.calm=true) (hf:∀ b∈fp,o9 X pins H b) (hfl:∀ b∈fp,b<s₂.heap.objs.size)
  (hC:s₂.heap.objs.size<=C) (hD:s₂.heap.objs.size<=D) (hDC:D≠C) (hn:h₁.Ns C m) (old:∀ b o,s₂.heap.get? b=some o->h₁.get? b=some o)
  (hacc:h₁.get? D=some { cls:=.type "list",data:=.seq ([]:List Value).toArray 0 }) :
  Inv (df X cn scope ⟨C,s₂,H,fp,xe⟩) [] (List.replicate cn.length none++σ) (upd H D (.lst [])) { s₂ with heap:=h₁,toks:=tk }:=by
 have OT:∀ x,((df X cn scope ⟨C,s₂,H,fp,xe⟩).env.kindOf x=some .cell\/(df X cn scope ⟨C,s₂,H,fp,xe⟩).env.kindOf x=some .free)->(x,NameKind.free)∈scope.names:=by
  intro x hx;have hx':(relabel scope X.env).names.lookup x=some .cell\/(relabel scope X.env).names.lookup x=some .free:=hx;rcases hx' with z|z
  ·rcases qK scope.names z with z|⟨_,z⟩
   ·exact absurd rfl (F.aa9 _ (xq z))
   ·exact xq z
  ·rcases qK scope.names z with z|⟨e,_⟩
   ·exact xq z
   ·cases e
 have Yn:∀ x,(x,NameKind.free)∈scope.names->X.env.kindOf x=some .cell\/X.env.kindOf x=some .free:=fun x hx=>F.free _ hx rfl;have vv:∀ x c,(iR X.env scope.names []).lookup x=some c->X.env.cells.lookup x=some c:=by
  intro x c e;rcases N0 _ _ e with z|⟨z,e2⟩
  ·cases z
  ·obtain⟨c',hc'⟩:=I.ok.has x (Yn x z);rw[hc']at e2 ⊢;rw[e2];rfl
 have amr:(df X cn scope ⟨C,s₂,H,fp,xe⟩).fs=frs X.stack:=rfl;have aj9:∀ b∈fp,b ∉ frs X.stack:=by
  intro b hb z;obtain⟨_,f1,f2,_⟩:=hf b hb;rcases List.mem_cons.mp (I.UP b z) with e|e
  ·exact f1 e
  ·exact f2 e
 have afQ:∀ x c,X.env.cells.lookup x=some c->c<s₂.heap.objs.size:=by
  intro x c e;obtain⟨v,o,ho,_⟩:=I.cell x c e;exact Heap.lt_size ho
 have ok:(df X cn scope ⟨C,s₂,H,fp,xe⟩).Ok:=by
  refine⟨I.ok.mod,?_,I.ok.glob,I.ok.blt,hC,fun x y c h1 h2=>I.ok.inj x y c (vv x c h1) (vv y c h2),fun x hx=>?_,fun x c z=>?_,fun _=>I.ok.hd hc,I.ok.frames,.inl rfl,fun b hb=>⟨?_,fun x c e=>?_⟩,
   fun b o e=>I.bs b o e,Nat.le_trans I.ok.bsz I.sz,fun b o e hb=>?_,fun b hb=>?_,I.stack,I.OI⟩
  ·show(relabel scope X.env).kind=.function;exact F.kind
  ·have:=Kq (env:=X.env) (x:=x) scope.names [] (.inr (OT x hx));exact Option.isSome_iff_exists.mp this
  ·cases z
  ·exact Nat.ne_of_lt (Nat.lt_of_lt_of_le (hfl b hb) hC)
  ·exact(hf b hb).2.2.2.2.1 x c (vv x c e)
  ·have:X.base.objs.size<=X.s₀.heap.objs.size:=I.ok.bsz;rcases (hf b hb).2.2.2.1 with z|z
   ·exact I.ok.UN b o e z
   ·exact absurd (Nat.lt_of_lt_of_le (Heap.lt_size e) (Nat.le_trans I.ok.bsz z)) (Nat.lt_irrefl _)
  ·exact aj9 b hb
 have hDn:H D=none:=I.hok.fresh hD;have aka:xm X.prog X.w (upd H D (.lst [])) h₁:=I.hok.laid old hD ⟨Nat.zero_le _,[],0,.nil,hacc⟩;refine⟨ok,rfl,I.bare,Un.laid old hD hDn,⟨m,hn,fun i x v e1 e2 e3=>?_⟩,fun x c e=>?_,?_,fun x c e=>?_,fun p hp=>absurd (show p∈([]:List (Addr×Obj)) from hp) (by simp),aka,?_⟩
 ·have hi:¬ i<cn.length:=by
   intro hi;rw[List.getElem?_append_left (by simpa using hi),List.getElem?_replicate]at e2;split at e2 <;> cases e2
  rw[List.getElem?_append_right (by simpa using hi),List.length_replicate]at e2;have e1':(cn++X.N)[i]? = some x:=e1;rw[List.getElem?_append_right (by omega)]at e1';obtain⟨m0,hm0,hl⟩:=I.loc;have hxN:x∈X.N:=mem_of_getElem? e1';have hfr:(x,NameKind.free)∈scope.names:=by
   have e3':(relabel scope X.env).names.lookup x=some .local\/(relabel scope X.env).names.lookup x=some .cell\/(relabel scope X.env).names.lookup x=some .free:=e3;rcases e3' with z|z|z
   ·rcases qK scope.names z with z|⟨e,_⟩
    ·exact absurd z (F.apart x hxN)
    ·cases e
   ·exact OT x (.inl z)
   ·exact OT x (.inr z)
  have hk:=Yn x hfr;have vis:Vis X.env.scope x:=by
   rcases hk with z|z
   ·exact .inr (.inl z)
   ·exact .inr (.inr z)
  obtain⟨u,r,lk⟩:=hl (i-cn.length) x v e1' e2 vis;refine⟨u,r,?_⟩;rcases lk with ⟨z,_⟩|⟨_,c,ec,z⟩
  ·rcases hk with q|q
   ·rw[z]at q;cases q
   ·rw[z]at q;cases q
  ·have hcl:(iR X.env scope.names []).lookup x=some c:=by
    obtain⟨c',e'⟩:=Option.isSome_iff_exists.mp (Kq (env:=X.env) (x:=x) scope.names [] (.inr hfr));rw[e'];have:=vv x c' e';rw[ec]at this;exact this.symm
   refine .inr ⟨?_,c,hcl,?_⟩
   ·have e3':(relabel scope X.env).names.lookup x=some .local\/(relabel scope X.env).names.lookup x=some .cell\/(relabel scope X.env).names.lookup x=some .free:=e3;rcases e3' with y|y|y
    ·rcases qK scope.names y with y|⟨e,_⟩
     ·exact absurd y (F.apart x hxN)
     ·cases e
    ·exact .inl y
    ·exact .inr y
   ·obtain⟨o,ho,hd⟩:=z;exact⟨o,old c o ho,hd⟩
 ·obtain⟨v,o,ho,hd⟩:=I.cell x c (vv x c e);exact⟨v,o,old c o ho,hd⟩
 ·show upd H D (.lst []) C=none;rw[ak (Ne.symm hDC)];exact I.hok.fresh hC
 ·rw[ak (Nat.ne_of_lt (Nat.lt_of_lt_of_le (afQ x c (vv x c e)) hD))];exact I.si x c (vv x c e)
 ·show(List.replicate cn.length none++σ).length=(cn++X.N).length;rw[length_append,List.length_replicate,length_append,I.len]
theorem Inv.Yo {s₂ s':Shared}{h':Heap}{cn:List Str}{scope:Scope}{fp:List Addr}{xe:Value->Shared->Prop}{C:Addr}{H':Hp}{σ':St}{pl:List (Addr×Obj)}
  (I:Inv X pins σ H s₂) (hf:∀ b∈fp,o9 X pins H b) (hC:s₂.heap.objs.size<=C) (J:Inv (df X cn scope ⟨C,s₂,H,fp,xe⟩) pl σ' H' s') (sb:Heap.SameBut C s'.heap h') :
  Inv X pins σ H' { s' with heap:=h' }:=by
 have neC:∀ b o,s₂.heap.get? b=some o->b≠C:=fun b o e=>Nat.ne_of_lt (Nat.lt_of_lt_of_le (Heap.lt_size e) hC);have u:Un (frs X.stack) fp H H' s₂.heap s'.heap:=J.base;have un:Un (frs X.stack) fp H H' s₂.heap h' :=
  ⟨fun b o e n hb hx=>(sb.2 b (neC b o e)).trans (u.keep b o e n hb hx),
   fun b o e n hb hx=>by
   obtain⟨sl,q⟩:=u.slot b o e n hb hx;exact⟨sl,(sb.2 b (neC b o e)).trans q⟩,
   u.free,fun b o e hx=>by
   obtain⟨o',q⟩:=u.there b o e hx;exact⟨o',(sb.2 b (neC b o e)).trans q⟩,u.tups,u.Kl,u.M9⟩
 have fC:H' C=none:=J.free;have hok:xm X.prog X.w H' h':=fun b o e=>by
  refine(J.hok b o e).stay (fun c v hc q=>(sb.2 c ?_).trans q) (fun _ q=>q) fun _ _ q=>q;rintro rfl;rcases hc with z|z
  ·rw[<-z,fC]at e;cases e
  ·rw[fC]at z;cases z
 have os:s'.os=s₂.os:=J.os;refine I.call' (s':={ s' with heap:=h' }) os un hok J.bare fun b hb=>?_;obtain⟨_,f1,_,f3,f4,f5⟩:=hf b hb;exact⟨f3,f1,f4,f5⟩
end
end L2
set_option maxHeartbeats 4000000
namespace L2
open PySem PySem.Spec PyProof.Rows
theorem Zb {prog:Program}{w:World}{A:Around}{R:Result->Shared->Prop}{s:Shared}{elt tg iter:Expr}{ifs:List Expr}{scope:Scope}{pos:Pos}{it acc:Value}{env:Env}(J:Nat->Shared->Prop)
  (turn:∀ n s,J n s->wpAny (model prog w) A (pyNext it) (fun r s₁=>(r=none/\R (.ok .next) s₁)\/∃ v,r=some v /\
   wpAny (model prog w) A (letOwnedTupleGo tg it v) (fun _ s₂=>wpAny (model prog w) A (assign tg env v) (fun _ s₃ =>
    wpAny (model prog w) A (forIn ifs true fun c r=>if r=true then do let ok <-isTrue c env (eval c env);pure (ForInStep.yield ok) else pure (ForInStep.yield r)) (fun ok s₄ =>
     if ok=true then wpAny (model prog w) A (eval elt env) (fun x s₅=>wpAny (model prog w) A (call (.builtin "list.append") [acc,x]) (fun _ s₆=>∃ m,m<n/\J m s₆) (notedBy (model prog w) A env fun e s'=>R (.error e) s') s₅)
      (notedBy (model prog w) A env fun e s'=>R (.error e) s') s₄
     else ∃ m,m<n/\J m s₄) (notedBy (model prog w) A env fun e s'=>R (.error e) s') s₃) (notedBy (model prog w) A env fun e s'=>R (.error e) s') s₂) (notedBy (model prog w) A env fun e s'=>R (.error e) s') s₁)
   (notedBy (model prog w) A env fun e s'=>R (.error e) s') s)
  (n:Nat) (h:J n s):codeAny (model prog w) A (.compLoop (.ListComp elt [⟨tg,iter,ifs,0⟩] scope pos) 0 it acc env) R s:=by
 refine codeAny_loop rfl J (fun n s hJ=>?_) n h;refine wpAny_noted (A:=A) (m:=compTurn (.ListComp elt [⟨tg,iter,ifs,0⟩] scope pos) 0 it acc env) (env:=env) ?_;rw[compTurn_list];refine wpAny_bind (wpAny_standAt (wpAny_bind (cD (turn n s hJ) fun r s₁ h₁=>?_)));rcases h₁ with ⟨e,h₁⟩|⟨v,e,h₁⟩
 ·subst e;exact wpAny_pure h₁
 ·subst e;refine wpAny_bind (cD h₁ fun _ s₂ h₂=>wpAny_bind (cD h₂ fun _ s₃ h₃=>wpAny_bind (cD h₃ fun ok s₄ h₄=>?_)));cases ok with
  |false=>exact wpAny_pure ⟨rfl,h₄⟩
  |true=>exact wpAny_bind (wpAny_bind (cD h₄ fun x s₅ h₅=>wpAny_bind (cD h₅ fun _ s₆ h₆=>wpAny_pure (wpAny_pure ⟨rfl,h₆⟩))))
def PF (X:Cx)(ifs:List Expr)(t:TT):Prop :=
 ∀(pins:List (Addr×Obj)) (s:Shared) (σ:St) (H:Hp) (Q:Bool->Hp->Prop),Inv X pins σ H s->t σ H Q ->
  wpAny (model X.prog X.w) X.A (forIn ifs true fun c r=>if r=true then do let ok <-isTrue c X.env (eval c X.env);pure (ForInStep.yield ok) else pure (ForInStep.yield r)) (TP X pins σ Q) X.xe s
def afR:TT:=fun _ H Q=>Q true H
theorem Aq {X:Cx}:PF X [] afR:=by
 intro pins s σ H Q I h;rw[List.forIn_nil];exact wpAny_pure ⟨H,I,h⟩
theorem afS {X:Cx}{c:Expr}{t:TT}(hc:PT X c t):PF X [c] t:=by
 intro pins s σ H Q I h;rw[List.forIn_cons];refine wpAny_bind ?_;rw[if_pos rfl];refine wpAny_bind (cD (hc pins s σ H Q I h) fun ok s1 q=>wpAny_pure ?_);show wpAny _ _ (forIn [] ok _) _ _ _;rw[List.forIn_nil];exact wpAny_pure q
def Va (X:Cx)(C:Addr)(e:Value)(s':Shared):Prop :=
 ∃ m,s'.heap.Ns C m/\∀ h',Heap.SameBut C s'.heap h'->∀ cenv:Env,cenv.locals=C->wpAny (model X.prog X.w) X.A (passOn "comprehension.variables-let-go" e cenv:Sem Value) (fun _ _=>False) X.xe { s' with heap:=h' }
def uA (X:Cx)(scope:Scope)(C:Addr):Value->Shared->Prop :=
 notedBy (model X.prog X.w) X.A (compEnvC scope (iR X.env scope.names []) C X.env) (Va X C)
def aba (n:Nat)(wi:TI)(g:Bk->TG)(tc:Bk->TT)(te:Bk->TE):TE:=fun σ H Q=>wi σ H fun J H1=>∀(D:Addr)(b:Bk),H1 D=none->∃ W:Nat->Nat->List V->St->Hp->Prop,
 (∃ m,W 0 m [] (List.replicate n none++σ) (upd H1 D (.lst [])))/\∀ i m ys σ H,W i m ys σ H ->
  (J.stop i H/\Q (.ref D) H)\/(J.go i H/\∀ x H',J.YX i H x H'->g b x σ H' fun σ2 H2=>tc b σ2 H2 fun ok H3 =>
   if ok=true then te b σ2 H3 fun y H4=>H4 D=some (.lst ys)/\ys.length<sizeLine/\∃ m',m'<m/\W (i+1) m' (ys++[y]) σ2 (upd H4 D (.lst (ys++[y])))
   else ∃ m',m'<m/\W (i+1) m' ys σ2 H3)
section
variable {X:Cx} {tg iter elt:Expr} {ifs:List Expr} {scope:Scope} {pos:Pos} {cn:List Str} {wi:TI} {g:Bk->TG} {tc:Bk->TT} {te:Bk->TE} {TH:Bk->Prop}
theorem Sf {pins:List (Addr×Obj)}{σ:St}{H:Hp}{s₂:Shared}{it:Addr}{fp:List Addr}{tn:Nat->Heap->Prop}{J:It}{RR:Value->Addr->Result->Shared->Prop}{QQ:Addr->Hp->Prop}{EE:Value->Shared->Prop}
  (hcalm:X.calm=true) (F:h8 X.env.scope X.N scope) (hg:∀ b,TH b->PG (df X cn scope b) tg (g b)) (ht:∀ b,TH b->PF (df X cn scope b) ifs (tc b)) (he:∀ b,TH b->PE (df X cn scope b) elt (te b))
  (hTH:∀ C,s₂.heap.objs.size<=C->TH ⟨C,s₂,H,fp,uA X scope C⟩)
  (I:Inv X pins σ H s₂) (T:Turn X.prog X.w X.K tg J fp it tn) (st:tn 0 s₂.heap) (hf:∀ b∈fp,o9 X pins H b)
  (h:∀(D:Addr)(b:Bk),H D=none->∃ W:Nat->Nat->List V->St->Hp->Prop,(∃ m,W 0 m [] (List.replicate cn.length none++σ) (upd H D (.lst [])))/\∀ i m ys σ H,W i m ys σ H ->
   (J.stop i H/\QQ D H)\/(J.go i H/\∀ x H',J.YX i H x H'->g b x σ H' fun σ2 H2=>tc b σ2 H2 fun ok H3 =>
    if ok=true then te b σ2 H3 fun y H4=>H4 D=some (.lst ys)/\ys.length<sizeLine/\∃ m',m'<m/\W (i+1) m' (ys++[y]) σ2 (upd H4 D (.lst (ys++[y])))
    else ∃ m',m'<m/\W (i+1) m' ys σ2 H3))
  (hR:∀ C D σ' H' s',s₂.heap.objs.size<=C->Inv (df X cn scope ⟨C,s₂,H,fp,uA X scope C⟩) [] σ' H' s'->QQ D H'->RR (.ref D) C (.ok .next) s')
  (hE:∀ C D e s',Va X C e s'->RR (.ref D) C (.error e) s') :
  wpAny (model X.prog X.w) X.A (newList []) (fun acc s₃=>wpAny (model X.prog X.w) X.A (newFunctionEnv scope X.env.globals (iR X.env scope.names []) [] X.env.qual none .none (some X.env)) (fun cenv s₄ =>
   codeAny (model X.prog X.w) X.A (.compStart (.ListComp elt [⟨tg,iter,ifs,0⟩] scope pos) 0 (.ref it) acc { cenv with scope:=relabel scope X.env }) (RR acc cenv.locals) s₄) EE s₃) EE s₂:=by
 refine wpAny_newObj_type (wpAny_newFunctionEnv F.aa9 (by intro y hy;simp at hy) (fun h₁ hns₁ hsb₁=>?_) F.kind);dsimp only at hns₁ hsb₁ ⊢;generalize hH2:s₂.heap.push { cls:=.type "list",dict:=none,data:=.seq ([]:List Value).toArray } = H2 at hns₁ hsb₁ ⊢;have hC:H2.objs.size=s₂.heap.objs.size+1:=by rw[<-hH2,Heap.size_push]
 have hDC:s₂.heap.objs.size≠H2.objs.size:=by omega
 have hCle:s₂.heap.objs.size<=H2.objs.size:=by omega
 have hfl:∀ b∈fp,b<s₂.heap.objs.size:=fun b hb=>by
  obtain⟨o,e,_⟩:=T.obj 0 _ st b hb;exact Heap.lt_size e
 have akc:∀ b o,s₂.heap.get? b=some o->H2.get? b=some o:=fun b o e=>hH2 ▸ Heap.get?_push_of_some _ e;have old:∀ b o,s₂.heap.get? b=some o->h₁.get? b=some o:=fun b o e=>by
  have hb:=Heap.lt_size e;refine hsb₁.extBut b o (Nat.ne_of_lt (Nat.lt_of_lt_of_le hb hCle)) (Heap.get?_push_of_some _ (akc b o e))
 have hacc:h₁.get? s₂.heap.objs.size=some { cls:=.type "list",data:=.seq ([]:List Value).toArray 0 } :=
  hsb₁.extBut _ _ hDC (Heap.get?_push_of_some _ (hH2 ▸ Heap.get?_push_size _ rfl))
 have I0:=Inv.block (cn:=cn) (xe:=uA X scope H2.objs.size) (tk:=s₂.toks+([]:List (Str×Value)).length) I F hcalm hf hfl hCle (Nat.le_refl _) hDC hns₁ old hacc;have th:=hTH _ hCle;obtain⟨W,⟨m0,w0⟩,turn⟩:=h s₂.heap.objs.size ⟨H2.objs.size,s₂,H,fp,uA X scope H2.objs.size⟩ (I.hok.fresh (Nat.le_refl _));have fpx:∀{H':Hp},(∀ b∈fp,H' b=none)->∀ b∈fp,o9 (df X cn scope ⟨H2.objs.size,s₂,H,fp,uA X scope H2.objs.size⟩) [] H' b:=fun {H'} hn b hb=>by
  refine⟨hn b hb,(I0.ok.exf b hb).1,I0.ok.UO b hb,.inl hb,(I0.ok.exf b hb).2,fun p hp=>absurd (show p∈([]:List (Addr×Obj)) from hp) (by simp)⟩
 have ae2:(df X cn scope ⟨H2.objs.size,s₂,H,fp,uA X scope H2.objs.size⟩).calm=true:=hcalm;have loop:∀ s₃:Shared,s₃ = { s₂ with heap:=h₁,toks:=s₂.toks+([]:List (Str×Value)).length } ->
   codeAny (model X.prog X.w) X.A (.compLoop (.ListComp elt [⟨tg,iter,ifs,0⟩] scope pos) 0 (.ref it) (.ref s₂.heap.objs.size) (compEnvC scope (iR X.env scope.names []) H2.objs.size X.env))
    (RR (.ref s₂.heap.objs.size) H2.objs.size) s₃:=by
  rintro s₃ rfl;have toE:∀ e s',(df X cn scope ⟨H2.objs.size,s₂,H,fp,uA X scope H2.objs.size⟩).xe e s' ->
    notedBy (model X.prog X.w) X.A (compEnvC scope (iR X.env scope.names []) H2.objs.size X.env) (fun e s'=>RR (.ref s₂.heap.objs.size) H2.objs.size (.error e) s') e s':=fun e s' z =>
   wpAny_mono (show notedBy (model X.prog X.w) X.A (compEnvC scope (iR X.env scope.names []) H2.objs.size X.env) (Va X H2.objs.size) e s' from z) (fun _ _ q=>hE _ _ _ _ q) fun _ _ q=>hE _ _ _ _ q
  refine Zb (env:=compEnvC scope (iR X.env scope.names []) H2.objs.size X.env)
   (fun n s'=>∃ i ys σ' H',Inv (df X cn scope ⟨H2.objs.size,s₂,H,fp,uA X scope H2.objs.size⟩) [] σ' H' s'/\tn i s'.heap/\(∀ b∈fp,H' b=none)/\W i n ys σ' H') ?_ m0
   ⟨0,[],_,_,I0,T.keep _ _ _ st fun b _ o e=>old b o e,fun b hb=>?_,w0⟩
  ·rintro n s' ⟨i,ys,σ',H',I',st',fr',w'⟩;rcases turn i n ys σ' H' w' with ⟨stop,qn⟩|⟨go,step⟩
   ·refine wpAny_mono (T.done (df X cn scope ⟨H2.objs.size,s₂,H,fp,uA X scope H2.objs.size⟩) rfl rfl rfl ae2 i [] s' σ' H' (fun _ _=>False) I' (fpx fr') st' stop) (fun r s4 ⟨hr,I4⟩=>?_) fun _ _ z=>z.elim;exact .inl ⟨hr,hR _ _ _ _ _ hCle I4 qn⟩
   ·refine wpAny_mono (T.item (df X cn scope ⟨H2.objs.size,s₂,H,fp,uA X scope H2.objs.size⟩) rfl rfl rfl ae2 i [] s' σ' H' (fun _ _=>False) I' (fpx fr') st' go) (fun r s4 ⟨u,hr,h4⟩=>?_) fun _ _ z=>z.elim;refine .inr ⟨u,hr,wpAny_mono h4 (fun _ s5 ⟨x,H5,I5,r5,y5,st5,fr5⟩=>?_) fun _ _ z=>z.elim⟩;have I5':=I5.pinned (fpx fr5) (T.obj _ _ st5);refine wpAny_mono (hg _ th _ s5 σ' H5 x u _ I5' r5 (step x H5 y5)) (fun _ s6 ⟨σ6,H6,I6,q6⟩=>?_) toE;refine wpAny_mono (ht _ th _ s6 σ6 H6 _ I6 q6) (fun ok s7 ⟨H7,I7,q7⟩=>?_) toE;have back:∀{σ8:St} {H8:Hp} {s8:Shared},Inv (df X cn scope ⟨H2.objs.size,s₂,H,fp,uA X scope H2.objs.size⟩) ([]++Km fp s5.heap) σ8 H8 s8->tn (i+1) s8.heap/\∀ b∈fp,H8 b=none:=fun {σ8 H8 s8} I8=>by
     refine⟨T.keep _ _ _ st5 fun b hb o e=>(I8.pin (b,o) (mem_append_right _ (mem_append_right _ (vk hb e)))).1,fun b hb=>?_⟩;obtain⟨o,e,d⟩:=T.obj _ _ st5 b hb;exact(I8.pin (b,o) (mem_append_right _ (mem_append_right _ (vk hb e)))).2.1
    cases ok with
    |false =>
     rw[if_neg Bool.false_ne_true]at q7 ⊢;obtain⟨m',hm,w7⟩:=q7;obtain⟨t8,f8⟩:=back I7;exact⟨m',hm,i+1,ys,σ6,H7,I7.xo,t8,f8,w7⟩
    |true =>
     rw[if_pos rfl]at q7 ⊢;refine wpAny_mono (he _ th _ s7 σ6 H7 _ I7 q7) (fun v s8 ⟨y,H8,I8,r8,hl,hz,m',hm,w8⟩=>?_) toE;refine wpAny_mono (bM (X:=df X cn scope ⟨H2.objs.size,s₂,H,fp,uA X scope H2.objs.size⟩) _ s8 σ6 H8 (.ref s₂.heap.objs.size) [y] (.ref s₂.heap.objs.size) [v] (fun _ H9=>W (i+1) m' (ys++[y]) σ6 H9) I8 rfl (.cons r8 .nil) ⟨_,ys,y,rfl,rfl,hl,hz,w8⟩)
      (fun _ s9 ⟨_,H9,I9,_,w9⟩=>?_) toE
     obtain⟨t9,f9⟩:=back I9;exact⟨m',hm,i+1,_,σ6,H9,I9.xo,t9,f9,w9⟩
  ·rw[ak (Nat.ne_of_lt (hfl b hb))];exact(hf b hb).1
 exact codeAny_compStart_list (loop _ rfl) (T.self _ 0 _ _ _ (T.keep _ _ _ st fun b _ o e=>old b o e) (loop _ rfl))
theorem abb (hcalm:X.calm=true)(F:h8 X.env.scope X.N scope)(hi:PI X tg iter wi)(hg:∀ b,TH b->PG (df X cn scope b) tg (g b))(ht:∀ b,TH b->PF (df X cn scope b) ifs (tc b))
  (he:∀ b,TH b->PE (df X cn scope b) elt (te b))
  (hTH:∀ pins σ H s₂ fp C,Inv X pins σ H s₂->(∀ b∈fp,o9 X pins H b)->s₂.heap.objs.size<=C->TH ⟨C,s₂,H,fp,uA X scope C⟩)
  (hs:∀ x,foldedSetIterable iter X.env x=pure x:=by intro _;rfl):PE X (.ListComp elt [⟨tg,iter,ifs,0⟩] scope pos) (aba cn.length wi g tc te):=by
 intro pins s σ H Q I h;rw[eval_ListComp];have hcl:closureFor scope X.env=pure (iR X.env scope.names []):=Ym fun p hp e=>I.ok.has p.1 (F.free p hp e);refine wpAny_comprehension_free (use:=none) rfl hs hcl F.kind F.loc (cD (hi pins s σ H _ I h) fun xv s₁ h₁=>cD h₁ fun itv s₂ h₂=>?_);obtain⟨it,fp,tn,J,H2,rfl,I2,T,st,f2,R⟩:=h₂;refine Sf (QQ:=fun D H'=>Q (.ref D) H') (RR:=fun acc C=>compPost (model X.prog X.w) X.A X.xe none (EP X pins σ Q) acc C) hcalm F hg ht he (fun C hC=>hTH pins σ H2 s₂ fp C I2 f2 hC) I2 T st f2 R ?_ ?_
 ·intro C D σ' H' s' hC I' q;obtain⟨m,hm,_⟩:=I'.loc;exact⟨m,hm,fun h' sb=>⟨.ref D,H',I2.Yo f2 hC I' sb,rfl,q⟩⟩
 ·intro C D e s' z;exact z
theorem vy (hcalm:X.calm=true)(F:h8 X.env.scope X.N scope)(hi:PI X tg iter wi)(hg:∀ b,PG (df X cn scope b) tg (g b))(ht:∀ b,PF (df X cn scope b) ifs (tc b))(he:∀ b,PE (df X cn scope b) elt (te b))
  (hs:∀ x,foldedSetIterable iter X.env x=pure x:=by intro _;rfl):PE X (.ListComp elt [⟨tg,iter,ifs,0⟩] scope pos) (aba cn.length wi g tc te) :=
 abb (TH:=fun _=>True) hcalm F hi (fun b _=>hg b) (fun b _=>ht b) (fun b _=>he b) (fun _ _ _ _ _ _ _ _ _=>trivial) hs
end
end L2
set_option maxHeartbeats 4000000
namespace L2
open PySem PySem.Spec PyProof.Rows
section
variable {X:Cx} {e:Expr} {es:List Expr} {te:TE} {pos:Pos}
abbrev TP1:=St->Hp->(Str->Hp->Prop)->Prop
abbrev TPs:=Str->St->Hp->(Str->Hp->Prop)->Prop
theorem j2:k9 X (.type "int") (fun xs H Q=>∃ z n,xs=[.str z]/\PySem.intText? z=some n/\z.length<=640/\Q (.int n) H):=by
 intro pins s σ H xs us Q I r h;obtain⟨z,n,rfl,hn,hl,q⟩:=h;obtain⟨u,rfl,t,rfl⟩:=r.one;exact PySem.W.KIN.call_text hn hl ⟨.int n,H,I.tok _,⟨_,rfl⟩,q⟩
theorem Vb {ys:List Str}:∀{us:List Value},Vals (ys.map V.str) us->StrsAre us ys:=by
 induction ys with
 |nil=>intro us r;rw[List.map_nil]at r;cases r;exact .nil
 |cons n ns ih =>
  intro us r;rw[map_cons]at r;cases r with
  |cons r1 r2 =>
   obtain⟨t,e⟩:=r1;subst e;exact .cons n t (ih r2)
def ake:V->Option Int->Option Int->Hp->VK->Prop:=fun x lo hi H Q=>∃ z,x=.str z/\z.length<=sizeLine/\Q (.str (Txt.slice z lo hi)) H
theorem N1 {v:Value}{o:Option Int}(p:IsPart v o):∃ l:Option (Int×Tok),v=partValue l/\l.map (·.1)=o:=by
 cases p with
 |none=>exact⟨none,rfl,rfl⟩
 |int i t=>exact⟨some (i,t),rfl,rfl⟩
theorem Fv:SlR X ake:=by
 intro pins s σ H x v vl vu lo hi sl Q I rx hs pl pu h;obtain⟨z,rfl,hz,q⟩:=h;obtain⟨t,rfl⟩:=rx;obtain⟨l,rfl,el⟩:=N1 pl;obtain⟨u,rfl,eu⟩:=N1 pu;subst el eu;refine⟨"str",_,F.slot_str_getitem.lookup,typeIs_str _ _ _,?_⟩;obtain⟨o,ho,hc,hd⟩:=hs;refine wpAny_getItem_str_slice (l:=l) (u:=u) (st:=none) ⟨o,ho,hc,hd⟩ rfl ?_;exact post_val_or_str ⟨Nat.le_trans (Txt.slice_le z _ _) hz,fun t' k=>⟨.str _,H,I.tok _,⟨t',rfl⟩,q⟩⟩
def Its (z:Str):It:=⟨fun i _=>i<z.cps.size,fun i H x H'=>H'=H/\∃ c,z.cps[i]? = some c/\x=.str ⟨#[c]⟩,fun i _=>z.cps.size<=i⟩
def akf (tl:TE):TI:=fun σ H R=>tl σ H fun x H1=>∃ z,x=.str z/\R (Its z) H1
theorem Sh {P:Program}{w:World}{K:Frag}{tg:Expr}{z:Str}{it:Addr}{T:String}{t:Tok}(hT:["enumerate","zip","dict_itemiterator","dict_reverseitemiterator","odict_iterator","itertools.zip_longest","itertools.pairwise"].contains T=false)
  (W:∀ A:Around,A.handled=none->Walks P w A it [it] [it] z.cps.size (SignAt z) (fun i h=>h.IsStrIter it T z t i)) 
  (S:∀(A:Around)(i:Nat)(s:Shared)(Q:Value->Shared->Prop)(E:Value->Shared->Prop),s.heap.IsStrIter it T z t i->Q (.ref it) s->wpAny (model P w) A (pyIter (.ref it)) Q E s) :
  Turn P w K tg (Its z) [it] it (fun i h=>h.IsStrIter it T z t i/\i<=z.cps.size) where
 mem:=by simp
 obj:=fun i h st b hb=>by
  have e:b=it:=by simpa using hb
  subst e;obtain⟨⟨o,e,c,d⟩,_⟩:=st;exact⟨o,e,fun v q=>by rw[d]at q;cases q⟩
 keep:=fun i h h' st k=>⟨by
  obtain⟨⟨o,e,c,d⟩,_⟩:=st;exact⟨o,k it (by simp) o e,c,d⟩,st.2⟩
 item:=by
  intro X hP hw hK hc i pins s σ H E I hf st hg;subst hP hw hK;obtain⟨f0,f1,f2,f3,f4,f5⟩:=hf it (by simp);have hgi:i<z.cps.size:=hg;refine(W X.A (I.ok.hd hc)).item i s _ _ hgi st.1 fun v h' tk hv st' kk=>?_;obtain⟨c,u,hc',rfl⟩:=hv;have I1:Inv X pins σ H { s with heap:=h',toks:=tk }:=I.turned (fun b o hb e=>kk b o (by simpa using hb) e) f0 f1 f3 f4 f5;obtain⟨o,e,cc,d⟩:=id st';exact⟨_,rfl,Ya (s:={ s with heap:=h',toks:=tk }) e cc d hT ⟨.str ⟨#[c]⟩,H,I1,⟨u,rfl⟩,⟨rfl,c,hc',rfl⟩,⟨st',hgi⟩,fun b hb=>(hf b hb).1⟩⟩
 done:=by
  intro X hP hw hK hc i pins s σ H E I hf st hg;subst hP hw hK;obtain⟨f0,f1,f2,f3,f4,f5⟩:=hf it (by simp);have hge:z.cps.size<=i:=hg;have e:i=z.cps.size:=Nat.le_antisymm st.2 hge;subst e;exact(W X.A (I.ok.hd hc)).done s _ _ st.1 fun h' tk kk=>⟨rfl,I.turned (fun b o hb e=>kk b o (by simpa using hb) e) f0 f1 f3 f4 f5⟩
 self:=fun A i s Q E st h=>S A i s Q E st.1 h
theorem abc {tg l:Expr}{tl:TE}(hl:PE X l tl):PI X tg l (akf tl):=by
 intro pins s σ H R I h;refine cD (hl pins s σ H _ I h) fun v s1 ⟨x,H1,I1,r1,q1⟩=>?_;obtain⟨z,rfl,q⟩:=q1;obtain⟨t,rfl⟩:=r1;have fp:∀ b∈[s1.heap.objs.size],o9 X pins H1 b:=fun b hb=>by
  have e:b=s1.heap.objs.size:=by simpa using hb
  subst e;exact I1.OK (Nat.le_refl _) (I1.hok.fresh (Nat.le_refl _))
 cases ha:z.cps.all (· < 128)
 ·refine wpAny_pyIter_wide ha ?_;refine⟨s1.heap.objs.size,[s1.heap.objs.size],_,_,H1,rfl,I1.kept (t':=s1.toks) fun b o e=>Heap.get?_push_of_some _ e,Sh (T:="str_iterator") (t:=t) (by decide) (fun A hA=>Walks.strWide hA _ z t)
   (fun A i s Q E st hq=>wpAny_pyIter_striter_wide st hq),⟨⟨_,Heap.get?_push_size _ rfl,rfl,rfl⟩,Nat.zero_le _⟩,fp,q⟩
 ·refine wpAny_pyIter_ascii ha ?_;refine⟨s1.heap.objs.size,[s1.heap.objs.size],_,_,H1,rfl,I1.kept (t':=s1.toks) fun b o e=>Heap.get?_push_of_some _ e,Sh (T:="str_ascii_iterator") (t:=t) (by decide) (fun A hA=>Walks.strAscii hA _ z t)
   (fun A i s Q E st hq=>wpAny_pyIter_striter_ascii st hq),⟨⟨_,Heap.get?_push_size _ rfl,rfl,rfl⟩,Nat.zero_le _⟩,fp,q⟩
theorem any_range:∀ bs:List Bool,(List.range bs.length).any (fun i=>bs.getD i false)=bs.any id
 |[]=>rfl
 |b::bs=>by
  rw[length_cons,List.range_succ_eq_map,List.any_cons,List.any_map,List.any_cons];have:((fun i=>(b::bs).getD i false) ∘ Nat.succ)=fun i=>bs.getD i false:=by
   funext i
   rfl
  rw[this,any_range bs];rfl
theorem Si:k9 X (.builtin "any") (fun xs H Q=>X.calm=true/\∃(a:Addr)(bs:List Bool),xs=[.ref a]/\a7 X.K H a (bs.map V.bl)/\Q (.bl (bs.any id)) H):=by
 intro pins s σ H xs us Q I r h;obtain⟨hc,a,bs,rfl,hq,q⟩:=h;obtain⟨u,rfl,rfl⟩:=r.one;obtain⟨its,rv,p,hz⟩:=I.list hq;have hl:=rv.length;rw[length_map]at hl;have afT:∀(i:Nat)(v:Value),its.toArray[i]? = some v->v=Value.bool (bs.getD i false):=by
  intro i v hv;have hv':its[i]? = some v:=by simpa using hv
  have hi:i<its.length:=(List.getElem?_eq_some_iff.mp hv').1;have hb:i<bs.length:=by omega
  obtain⟨u,hu,ru⟩:=rv.get (i:=i) (x:=.bl (bs[i])) (by rw[getElem?_map,getElem?_eq_getElem hb];rfl);rw[hv']at hu;cases hu;have:v=.bool bs[i]:=ru;rw[this,List.getD_eq_getElem?_getD,getElem?_eq_getElem hb];rfl
 refine call_any_walk (wpAny_pyIter_list p.isList ?_);have ane:a≠s.heap.objs.size:=by
  obtain⟨o,ho,_⟩:=p.isList;exact Nat.ne_of_lt (Heap.lt_size ho)
 have hd:X.A.in1.handled=none:=I.ok.hd hc;refine⟨s.heap.objs.size,_,_,_,_,_,fun i=>bs.getD i false,rfl,Walks.list hd s.heap.objs.size a ane its.toArray,⟨⟨_,Heap.get?_push_size _ rfl,rfl,rfl⟩,p.isList.push _⟩,?_,?_⟩
 ·intro i v s' Q' E' hP hQ';rw[afT i v hP];exact wpAny_truthy_bool hQ'
 ·intro h' tk kk;have e:(List.range its.toArray.size).any (fun i=>bs.getD i false)=bs.any id:=by
   rw[size_toArray,<-hl];exact any_range bs
  rw[e];refine⟨.bl _,H,I.kept (t':=tk) fun b o e=>kk b o (fun z=>?_) (Heap.get?_push_of_some _ e),rfl,q⟩;have:b=s.heap.objs.size:=by simpa using z
  exact absurd (Heap.lt_size e) (by rw[this];exact Nat.lt_irrefl _)
end
end L2
set_option maxHeartbeats 4000000
namespace L2
open PySem PySem.Spec PyProof.Rows PySem.SeqAt
inductive Deq (K:Frag)(H:Hp):Nat->V->V->Prop where
 |flat {n:Nat} {x:V} (f:Aa x=true):Deq K H n x x
 |tup {n:Nat} {a b:Addr} {xs ys:List V} (ha:tV K H a xs) (hb:tV K H b ys) (hl:xs.length=ys.length) (h:∀(i:Nat) x y,xs[i]? = some x->ys[i]? = some y->Deq K H n x y):Deq K H (n+1) (.ref a) (.ref b)
 |lst {n:Nat} {a b:Addr} {xs ys:List V} (ha:a7 K H a xs) (hb:a7 K H b ys) (hl:xs.length=ys.length) (h:∀(i:Nat) x y,xs[i]? = some x->ys[i]? = some y->Deq K H n x y):Deq K H (n+1) (.ref a) (.ref b)
section
variable {X:Cx} {pins:List (Addr×Obj)} {σ:St} {H:Hp} {s:Shared}
theorem abe:∀{x:V},Aa x=true->Yj x x=true:=by
 intro x f;cases x <;> first|(simp[Yj];done)|(cases f)
theorem xr (n:Nat):(List.range n).all (fun _=>true)=true:=by simp
theorem Deq.at {n:Nat}{x y:V}(d:Deq X.K H n x y)(I:Inv X pins σ H s):∀{A:Around} {u v:Value},A.units+n<cLine->RelV x u->RelV y v ->
  EqAt A s u v true/\(∀ a b,x=.ref a->y=.ref b->RcAt A s u v true/\RcNeAt A s u v false):=by
 induction d with
 | @flat n x f =>
  intro A u v hu ru rv;refine⟨?_,fun a b e _=>?_⟩
  ·have:=aaZ (A:=A) (s:=s) ru rv f f;rw[abe f]at this;exact this
  ·subst e;cases f
 | @tup n a b xs ys ha hb hl h ih =>
  intro A u v hu ru rv;cases ru;cases rv;obtain⟨its,r,p,_⟩:=I.tuple ha;obtain⟨its',r',p',_⟩:=I.tuple hb;have e1:=r.length;have e2:=r'.length;have he:∀ j (h1:j<its.toArray.size) (h2:j<its'.toArray.size),EqAt A.in1 s its.toArray[j] its'.toArray[j] true:=by
   intro j h1 h2;have h1':j<its.length:=by simpa using h1
   have h2':j<its'.length:=by simpa using h2
   have g1:xs[j]? = some xs[j]:=getElem?_eq_getElem (by omega);have g2:ys[j]? = some ys[j]:=getElem?_eq_getElem (by omega);obtain⟨u1,q1,k1⟩:=r.get g1;obtain⟨u2,q2,k2⟩:=r'.get g2;have z1:its.toArray[j]=u1:=by
    rw[getElem?_eq_getElem h1']at q1
    simpa using q1
   have z2:its'.toArray[j]=u2:=by
    rw[getElem?_eq_getElem h2']at q2
    simpa using q2
   rw[z1,z2];exact(ih j _ _ g1 g2 (by show A.units+1+n<cLine;omega) k1 k2).1
  have bt:((List.range (min its.toArray.size its'.toArray.size)).all (fun _=>true)&&its.toArray.size==its'.toArray.size)=true:=by
   rw[xr];simp;omega
  have rc:RcAt A s (.ref a) (.ref b) true:=by
   have:=RcAt.tuples (A:=A) (e:=fun _=>true) (show s.heap.IsTuple a its.toArray from p) (show s.heap.IsTuple b its'.toArray from p') (by omega) he;rw[bt]at this;exact this
  have rn:RcNeAt A s (.ref a) (.ref b) false:=by
   have:=RcNeAt.tuples (A:=A) (e:=fun _=>true) (show s.heap.IsTuple a its.toArray from p) (show s.heap.IsTuple b its'.toArray from p') (by omega) he;rw[bt]at this;exact this
  refine⟨?_,fun _ _ _ _=>⟨rc,rn⟩⟩
  by_cases e:a=b
  ·subst e;exact EqAt.same _
  ·exact EqAt.of_refs e rc
 | @lst n a b xs ys ha hb hl h ih =>
  intro A u v hu ru rv;cases ru;cases rv;obtain⟨its,r,p,_⟩:=I.list ha;obtain⟨its',r',p',_⟩:=I.list hb;have e1:=r.length;have e2:=r'.length;have he:∀ j (h1:j<its.toArray.size) (h2:j<its'.toArray.size),EqAt A.in1 s its.toArray[j] its'.toArray[j] true:=by
   intro j h1 h2;have h1':j<its.length:=by simpa using h1
   have h2':j<its'.length:=by simpa using h2
   have g1:xs[j]? = some xs[j]:=getElem?_eq_getElem (by omega);have g2:ys[j]? = some ys[j]:=getElem?_eq_getElem (by omega);obtain⟨u1,q1,k1⟩:=r.get g1;obtain⟨u2,q2,k2⟩:=r'.get g2;have z1:its.toArray[j]=u1:=by
    rw[getElem?_eq_getElem h1']at q1
    simpa using q1
   have z2:its'.toArray[j]=u2:=by
    rw[getElem?_eq_getElem h2']at q2
    simpa using q2
   rw[z1,z2];exact(ih j _ _ g1 g2 (by show A.units+1+n<cLine;omega) k1 k2).1
  have bt:(List.range its.toArray.size).all (fun _=>true)=true:=xr _;have rc:RcAt A s (.ref a) (.ref b) true:=by
   have:=RcAt.lists (A:=A) (e:=fun _=>true) p.isList p'.isList (by simp;omega) (by omega) he;rw[bt]at this;exact this
  have rn:RcNeAt A s (.ref a) (.ref b) false:=by
   have:=RcNeAt.lists (A:=A) (e:=fun _=>true) p.isList p'.isList (by simp;omega) (by omega) he;rw[bt]at this;exact this
  refine⟨?_,fun _ _ _ _=>⟨rc,rn⟩⟩
  by_cases e:a=b
  ·subst e;exact EqAt.same _
  ·exact EqAt.of_refs e rc
inductive ae3 (K:Frag)(b:Bool)(x:V)(y:V)(H:Hp)(Q:VK):Prop
 |mk (a:_) (c:_) (fI:x=.ref a) (fJ:y=.ref c) (hI:Deq K H 60 x y/\Q (.bl b) H):ae3 K b x y H Q
def ahO (K:Frag)(b:Bool):R2:=fun x y H Q=>ae3 K b x y H Q
theorem aN (hu:X.A.units+64<cLine):vm X (compareOp .Eq) (ahO X.K true):=by
 intro pins s σ H x y v u Q I r1 r2 h;obtain⟨a,c,rfl,rfl,d,q⟩:=h;exact(((d.at I (A:=X.A) (by omega) r1 r2).2 a c rfl rfl).1) X.prog X.w X.xe _ ⟨.bl true,H,I,rfl,q⟩
theorem mM (hu:X.A.units+64<cLine):vm X (compareOp .NotEq) (ahO X.K false):=by
 intro pins s σ H x y v u Q I r1 r2 h;obtain⟨a,c,rfl,rfl,d,q⟩:=h;exact(((d.at I (A:=X.A) (by omega) r1 r2).2 a c rfl rfl).2) X.prog X.w X.xe _ ⟨.bl false,H,I,rfl,q⟩
theorem d7:k9 X (.builtin "isinstance") (fun xs H Q=>∃ x T t b,xs=[x,.ty T]/\iQ X.K H x t/\kitOne X.K t (.type T)=some b/\Q (.bl b) H):=by
 intro pins s σ H xs us Q I r h;obtain⟨x,T,t,b,rfl,ty,e,q⟩:=h;obtain⟨u,v,rfl,r1,r2⟩:=r.two;cases r2;exact Y5 I r1 ty e fun tk=>⟨.bl b,H,I.tok _,rfl,q⟩
def Ite (K:Frag)(a:Addr):It :=
 ⟨fun i H=>∃ xs x,a7 K H a xs/\xs[i]? = some x,fun i H x H'=>∃ y t,x=.ref t/\H t=none/\(∀ xs,a7 K H a xs->xs[i]? = some y)/\H'=upd H t (.tup [.int i,y]),fun i H=>∃ xs,a7 K H a xs/\xs.length<=i⟩
def Itz (K:Frag)(a b:Addr):It :=
 ⟨fun i H=>∃ xs ys x y,a7 K H a xs/\a7 K H b ys/\xs[i]? = some x/\ys[i]? = some y,
  fun i H p H'=>∃ x y t,p=.ref t/\H t=none/\(∀ xs,a7 K H a xs->xs[i]? = some x)/\(∀ ys,a7 K H b ys->ys[i]? = some y)/\H'=upd H t (.tup [x,y]),
  fun i H=>∃ xs ys,a7 K H a xs/\a7 K H b ys/\min xs.length ys.length=i⟩
theorem cK {a:Addr}{K:Frag}{X:Cx}{pins:List (Addr×Obj)}{σ:St}{H:Hp}{s:Shared}{xs:List V}{b:Addr}{o:Obj}(I:Inv X pins σ H s)(hq:a7 X.K H a xs)(e:s.heap.get? b=some o)(hc:o.cls≠.type "list"):a≠b:=by
 rintro rfl;obtain⟨its,_,p,_⟩:=I.list hq;obtain⟨o',e',c',_⟩:=p.isList;rw[e]at e';cases e';exact hc c'
theorem Inv.Sj {tk:Nat}{h':Heap}{wr:List Addr}{T:Addr}{xs:List V}{vals:List Value}(I:Inv X pins σ H s)(hw:∀ b∈wr,o9 X pins H b)(hT:s.heap.objs.size<=T)(ht:h'.IsTuple T vals.toArray)(rv:Vals xs vals)(hz:xs.length<=sizeLine)
  (kk:∀ b o,b ∉ wr->s.heap.get? b=some o->h'.get? b=some o) (there:∀ b∈wr,∃ o,h'.get? b=some o):Inv X pins σ (upd H T (.tup xs)) { s with heap:=h',toks:=tk }:=by
 have hTn:H T=none:=I.hok.fresh hT;have nT:∀ b o,s.heap.get? b=some o->b≠T:=fun b o e=>Nat.ne_of_lt (Nat.lt_of_lt_of_le (Heap.lt_size e) hT);refine I.step (g':=s.gens) (d':=s.drawn) (ch:=wr) (fun b hb=>?_) (fun b o _ _ hc e _=>kk b o hc e) (fun b o _ _ hc e _=>⟨o.slots,kk b o hc e⟩) (fun b o _ e n=>by rw[ak (nT b o e)];exact n)
  (fun b o hc e=>⟨o,kk b o hc e⟩) (fun b ys e=>by rw[ak (ao e hTn)];exact e) (fun b o u e=>by rw[ak (ao e hTn)];exact e) (fun b ps e=>⟨#[],by rw[ak (ao e hTn),e];simp⟩) (fun m hm=>?_) (fun b u e=>?_) I.bare
 ·obtain⟨_,f1,_,f3,f4,f5⟩:=hw b hb;exact⟨f3,f1,f4,f5⟩
 ·obtain⟨o,es,ep,ho,r⟩:=hm;exact⟨o,es,ep,kk _ o (fun z=>(hw _ z).2.1 rfl) ho,r⟩
 ·by_cases hb:b=T
  ·subst hb;rw[af]at e;cases e;exact⟨hz,vals,rv,ht⟩
  ·rw[ak hb]at e;refine(I.hok b u e).stay (fun c v hc q=>kk c v (fun z=>?_) q) (fun c q=>by rw[ak (ao q hTn)];exact q) fun c ys q=>by rw[ak (ao q hTn)];exact q
   have hn:=(hw c z).1;rcases hc with hc|hc
   ·rw[hc,e]at hn;cases hn
   ·rw[hc]at hn;cases hn
theorem Inv.kj {tk:Nat}{h':Heap}{wr:List Addr}(I:Inv X pins σ H s)(hw:∀ b∈wr,o9 X pins H b)(kk:∀ b o,b ∉ wr->s.heap.get? b=some o->h'.get? b=some o):Inv X pins σ H { s with heap:=h',toks:=tk }:=by
 refine I.step (g':=s.gens) (d':=s.drawn) (ch:=wr) (fun b hb=>?_) (fun b o _ _ hc e _=>kk b o hc e) (fun b o _ _ hc e _=>⟨o.slots,kk b o hc e⟩) (fun b o _ e n=>n)
  (fun b o hc e=>⟨o,kk b o hc e⟩) (fun b ys e=>e) (fun b o u e=>e) (fun b ps e=>⟨#[],by rw[e];simp⟩) (fun m hm=>?_) (fun b u e=>?_) I.bare
 ·obtain⟨_,f1,_,f3,f4,f5⟩:=hw b hb;exact⟨f3,f1,f4,f5⟩
 ·obtain⟨o,es,ep,ho,r⟩:=hm;exact⟨o,es,ep,kk _ o (fun z=>(hw _ z).2.1 rfl) ho,r⟩
 ·refine(I.hok b u e).stay (fun c v hc q=>kk c v (fun z=>?_) q) (fun c q=>q) fun c ys q=>q;have hn:=(hw c z).1;rcases hc with hc|hc
  ·rw[hc,e]at hn;cases hn
  ·rw[hc]at hn;cases hn
end
end L2
set_option maxHeartbeats 4000000
namespace L2
open PySem PySem.Spec PyProof.Rows PySem.SeqAt
section
variable {X:Cx}
theorem ay {k:Nat}{A:Around}(hr:jB k A):A.units+64<cLine:=hr.units
theorem bV:bootBuiltins "len"=some (.builtin "len"):=by lk
theorem afU:bootBuiltins "min"=some (.builtin "min"):=by lk
theorem afV:bootBuiltins "max"=some (.builtin "max"):=by lk
theorem C8:bootBuiltins "enumerate"=some (.type "enumerate"):=by lk
theorem abg:bootBuiltins "zip"=some (.type "zip"):=by lk
theorem br:bootBuiltins "isinstance"=some (.builtin "isinstance"):=by lk
theorem Fw:bootBuiltins "int"=some (.type "int"):=by lk
theorem Yp:bootBuiltins "bool"=some (.type "bool"):=by lk
theorem afW:bootBuiltins "str"=some (.type "str"):=by lk
theorem ia:bootBuiltins "list"=some (.type "list"):=by lk
theorem Kr:bootBuiltins "tuple"=some (.type "tuple"):=by lk
theorem abh:bootBuiltins "any"=some (.builtin "any"):=by lk
theorem afX:bootBuiltins "all"=some (.builtin "all"):=by lk
theorem adw:bootBuiltins "dict"=some (.type "dict"):=by lk
end
end L2
namespace L2
open PySem PySem.Spec PyProof.Rows
end L2
namespace L2
open PySem
theorem jC {K:Frag}{H:Hp}{a l:Addr}{o:HO}{xs:List V}(h:a7 K H a xs)(hn:H l=none):a7 K (upd H l o) a xs:=by
 have ne:∀{u},H a=some u->a≠l:=fun e=>ao e hn;rcases h with (h|⟨u,h⟩)|h
 ·exact .inl (.inl (by rw[ak (ne h)];exact h))
 ·exact .inl (.inr ⟨u,by rw[ak (ne h)];exact h⟩)
 ·exact .inr h
theorem aq.upd {H:Hp}{l:Addr}{o:HO}(hn:H l=none):aq H (upd H l o):=fun b u e=>by
 rw[ak (ao e hn)];exact e
end L2
namespace L2
theorem aQ {X:Cx}{b:List PySem.Stmt}{t:TS}{D:Ends}{σ:St}{H:Hp}(h:J7 X b t)(q:t D σ H):∃ t,J7 X b t/\t D σ H:=⟨t,h,q⟩
theorem gQ (i j:Int):decide (V.int i=V.int j)=decide (i=j):=by
 by_cases h:i=j
 ·subst h;simp
 ·rw[decide_eq_false h];exact decide_eq_false fun e=>h (V.int.inj e)
end L2
namespace L2
open PySem
theorem abi {X:Cx}:∀ cs:List (Str×Pos),PA X (cs.map fun c=>Expr.Constant (.str c.1) 0 c.2) (fun _ H Q=>Q (cs.map fun c=>V.str c.1) H)
 |[]=>ae
 |c::cs=>aa ax (abi cs)
end L2
namespace L2
open PySem
theorem abj {X:Cx}{i:Nat}{x:Str}{pos pos' p:Pos}(cs:List (Str×Pos))(hN:X.N.Nodup)(hi:X.N[i]? = some x)(hx:Loc X.env.scope x)(hf:X.fn x=true\/X.env.scope.names.lookup x=some .local:=by first|exact .inl rfl|exact .inr rfl|assumption) :
  PS X (.Assign [.Name x pos'] (.List (cs.map fun c=>Expr.Constant (.str c.1) 0 c.2) p) pos) (adm (oM (fun _ H Q=>Q (cs.map fun c=>V.str c.1) H)) (NT i)):=aL hN hi hx (bx (abi cs)) rfl hf
end L2
set_option maxHeartbeats 4000000
namespace L2
open PySem PySem.Spec PyProof.Rows
section
variable {X:Cx} {tg:Expr}
theorem uB {pins:List (Addr×Obj)}{σ:St}{H:Hp}{s:Shared}{a:Addr}{xs:List V}{i:Nat}{y:V}(I:Inv X pins σ H s)(hq:a7 X.K H a xs)(hy:xs[i]? = some y):∀ ys,a7 X.K H a ys->ys[i]? = some y:=fun ys h=>by
 rw[I.R4 h hq];exact hy
theorem Zc {P:Program}{w:World}{K:Frag}{es:List Expr}{k:Nat}{tp:Pos}(a e it:Addr)(hei:e≠it) :
  Turn P w K (.Tuple es k tp) (Ite K a) [e,it] e (fun i h=>(∃ old,IsEnum h e it i old)/\h.IsListIter it a i) where
 mem:=by simp
 obj:=fun i h st b hb=>by
  obtain⟨⟨old,he⟩,o,e2,c,d⟩:=st;rcases List.mem_cons.mp hb with rfl|hb
  ·exact⟨_,he,fun v z=>by
    have z':Data.fields _=Data.cell v:=z;cases z'⟩
  ·have:b=it:=by simpa using hb
   subst this;exact⟨o,e2,fun v z=>by rw[d]at z;cases z⟩
 keep:=fun i h h' st kp=>by
  obtain⟨⟨old,he⟩,hit⟩:=st;exact⟨⟨old,kp e (by simp) _ he⟩,hit.at fun o x=>kp it (by simp) o x⟩
 item:=by
  intro X hP hw hK hc i pins s σ H E I hf st hg;subst hP hw hK;obtain⟨xs,x,hq,hx⟩:=hg;obtain⟨its,rv,p,hz⟩:=I.list hq;obtain⟨u,hu,ru⟩:=rv.get hx;obtain⟨⟨old,he⟩,hit⟩:=st;have hle:a≠e:=cK (K:=X.K) I hq he (by intro z;injection z with z;exact absurd z (by decide));have hli:a≠it:=by
   obtain⟨o,e2,c,_⟩:=hit;exact cK (K:=X.K) I hq e2 (by rw[c];intro z;injection z with z;exact absurd z (by decide))
  have hiu:i<its.toArray.size:=by
   have:=(List.getElem?_eq_some_iff.mp hu).1
   simpa using this
  have W:=WalksT.enumerate (prog:=X.prog) (w:=X.w) (I.ok.hd hc) e it a hei hle hli its.toArray;refine W.item i s _ _ hiu ⟨⟨old,he⟩,hit,p.isList⟩ fun T vals h' tk hv hT ht mid kk=>?_;refine⟨_,rfl,?_⟩;obtain⟨t,x',hx',rfl⟩:=hv;have ex:x'=u:=by
   have:its[i]? = some x':=by simpa using hx'
   rw[hu]at this;exact(Option.some.inj this).symm
  subst ex;have fw:∀ b∈[e,it],o9 X pins H b:=hf;have I1:Inv X pins σ (upd H T (.tup [.int i,x])) { s with heap:=h',toks:=tk }:=by
   refine I.Sj (vals:=[.int i t,x']) fw hT (by simpa using ht) (.cons ⟨t,rfl⟩ (.cons ru .nil)) (by show 2<=sizeLine;decide) kk fun b hb=>?_;obtain⟨⟨xx,ho⟩,⟨o,e2,_⟩,_⟩:=mid;rcases List.mem_cons.mp hb with rfl|hb
   ·exact⟨_,ho⟩
   ·have:b=it:=by simpa using hb
    subst this;exact⟨o,e2⟩
  have hTn:H T=none:=I.hok.fresh hT;have neT:∀ b∈[e,it],b≠T:=fun b hb z=>by
   subst z;exact W.apart i b _ mid hb
  refine W.go es k tp i T _ _ _ mid fun h'' st'' afY=>?_;have hf2:∀ b∈[e,it],o9 X pins (upd H T (.tup [.int i,x])) b:=fun b hb=>by
   obtain⟨f0,fr⟩:=hf b hb;exact⟨by rw[ak (neT b hb)];exact f0,fr⟩
  refine⟨.ref T,upd H T (.tup [.int i,x]),I1.kj (tk:=tk) hf2 afY,rfl,⟨x,T,rfl,hTn,uB I hq hx,rfl⟩,⟨st''.1,st''.2.1⟩,fun b hb=>(hf2 b hb).1⟩
 done:=by
  intro X hP hw hK hc i pins s σ H E I hf st hg;subst hP hw hK;obtain⟨xs,hq,hx⟩:=hg;obtain⟨its,rv,p,hz⟩:=I.list hq;obtain⟨⟨old,he⟩,hit⟩:=st;have hl:=rv.length;refine wpAny_pyNext_enum_end (I.ok.hd hc) he hit p.isList (Array.getElem?_eq_none (by simp;omega)) fun h' hx'=>?_;exact⟨rfl,I.kj (tk:=s.toks) hf fun b o hb q=>hx' b o (fun z=>hb (by simp[z])) q⟩
 self:=fun _ _ _ _ _ st h=>by
  obtain⟨⟨old,he⟩,_⟩:=st;exact wpAny_pyIter_enum he h
theorem afZ {l:Expr}{tl:TE}(hl:PE X l tl)(hs:starEach [l] X.env=[(false,eval l X.env)])(pos:Pos)(pins:List (Addr×Obj))(s:Shared)(σ:St)(H:Hp){Q:VK}(I:Inv X pins σ H s)(h:tl σ H Q) :
  wpAny (model X.prog X.w) X.A (spliced (backTo pos (starEach [l] X.env))) (fun us s1=>∃ v u H1,Inv X pins σ H1 s1/\us=[u]/\RelV v u/\Q v H1) X.xe s:=by
 have ha:PA X [l] (fun σ H Q=>tl σ H fun x H1=>Q [x] H1):=aa hl ae hs;have mono:wpAny (model X.prog X.w) X.A (spliced (backTo pos (starEach [l] X.env))) (AP X pins σ fun vs H1=>∃ v,vs=[v]/\Q v H1) X.xe s:=by
  have he:PE X l (fun σ' H' Q'=>σ'=σ/\H'=H/\∀ v H1,Q v H1->Q' v H1):=by
   intro pins s σ' H' Q' I' hw;obtain⟨rfl,rfl,hm⟩:=hw;exact cD (hl pins s σ' H' Q I' h) fun u s1 ⟨v,H1,I1,r,q⟩=>⟨v,H1,I1,r,hm v H1 q⟩
  exact aa he ae hs pos pins s σ H _ I ⟨rfl,rfl,fun v H1 q=>⟨v,rfl,q⟩⟩
 refine cD mono fun us s1 ⟨vs,H1,I1,r,v,e,q⟩=>?_;subst e;obtain⟨u,rfl,ru⟩:=r.one;exact⟨v,u,H1,I1,rfl,ru,q⟩
inductive abk (K:Frag)(R:(It->Hp->Prop))(x:V)(H1:Hp):Prop
 |mk (a:_) (fI:x=.ref a) (fJ:(∃ xs,a7 K H1 a xs)/\R (Ite K a) H1):abk K R x H1
def ahR (K:Frag)(tl:TE):TI:=fun σ H R=>tl σ H fun x H1=>abk K R x H1
theorem adx {l:Expr}{tl:TE}{p pos tp:Pos}{es:List Expr}{k:Nat}(hg:Gl X "enumerate")(hm:X.mg "enumerate"=none)(hl:PE X l tl)(hs:starEach [l] X.env=[(false,eval l X.env)]:=by rfl) :
  PI X (.Tuple es k tp) (.Call (.Name "enumerate" p) [l] [] pos) (ahR X.K tl):=by
 intro pins s σ H R I h;refine Call_ (tU I hg hm C8 (PyProof.Rows.callWith_type1 (cD (afZ hl hs pos pins s σ H I h) fun us s1 ⟨v,u,H1,I1,e1,r1,q1⟩=>?_) (by rw[hs];rfl) (by rfl)))
 ·obtain⟨a,rfl,⟨xs,hq⟩,q⟩:=q1;subst e1;cases r1;obtain⟨its,rv,pl,hz⟩:=I1.list hq;refine call_enumerate_list pl.isList fun h' he hit hsz kk=>?_;have hee:s1.heap.objs.size+1≠s1.heap.objs.size:=Nat.succ_ne_self _;refine wpAny_pyIter_enum he ?_;refine⟨s1.heap.objs.size+1,[s1.heap.objs.size+1,s1.heap.objs.size],_,_,H1,rfl,I1.kept (t':=s1.toks) kk,Zc a _ _ hee,⟨⟨.none,he⟩,hit⟩,fun b hb=>?_,q⟩;have hb':s1.heap.objs.size<=b:=by
   rcases List.mem_cons.mp hb with rfl|hb
   ·exact Nat.le_succ _
   ·have:b=s1.heap.objs.size:=by simpa using hb
    rw[this];exact Nat.le_refl _
  exact I1.OK hb' (I1.hok.fresh hb')
end
end L2
set_option maxHeartbeats 4000000
namespace L2
open PySem PySem.Spec PyProof.Rows
structure Ar (z TI TO i1 i2:Addr):Prop where
 TIz:TI≠z
 TOz:TO≠z
 i1z:i1≠z
 i2z:i2≠z
 TITO:TI≠TO
 TIi1:TI≠i1
 TIi2:TI≠i2
 TOi1:TO≠i1
 TOi2:TO≠i2
 i12:i1≠i2
section
variable {X:Cx}
def Yq (z TI TO i1 i2 a b:Addr)(i:Nat)(h:Heap):Prop:=IsZip h z TI TO .none/\IsPair h TI (.ref i1) (.ref i2)/\(∃ x y,IsPair h TO x y)/\h.IsListIter i1 a i/\h.IsListIter i2 b i
theorem N2 {pins:List (Addr×Obj)}{σ:St}{H:Hp}{s:Shared}{z TI TO i1 i2 a b:Addr}{i:Nat}{xs ys:List V}(I:Inv X pins σ H s)(O:Ar z TI TO i1 i2)(st:Yq z TI TO i1 i2 a b i s.heap)(ha:a7 X.K H a xs)(hb:a7 X.K H b ys) :
  ZipApart z TI TO i1 i2 a b:=by
 obtain⟨hz,hTI,⟨x,y,hTO⟩,⟨o1,e1,c1,_⟩,⟨o2,e2,c2,_⟩⟩:=st;have nz:∀{c:Addr} {zs:List V},a7 X.K H c zs->c≠z:=fun h=>cK (K:=X.K) I h hz (by intro q;injection q with q;exact absurd q (by decide));have nT:∀{c:Addr} {zs:List V},a7 X.K H c zs->c≠TO:=fun h=>cK (K:=X.K) I h hTO (by intro q;injection q with q;exact absurd q (by decide));have n1:∀{c:Addr} {zs:List V},a7 X.K H c zs->c≠i1:=fun h=>cK (K:=X.K) I h e1 (by rw[c1];intro q;injection q with q;exact absurd q (by decide));have n2:∀{c:Addr} {zs:List V},a7 X.K H c zs->c≠i2:=fun h=>cK (K:=X.K) I h e2 (by rw[c2];intro q;injection q with q;exact absurd q (by decide));exact⟨O.TIz,O.TOz,O.i1z,O.i2z,O.TITO,O.TIi1,O.TIi2,O.TOi1,O.TOi2,O.i12,nz ha,nT ha,n1 ha,n2 ha,nz hb,nT hb,n1 hb,n2 hb⟩
theorem abl {P:Program}{w:World}{K:Frag}{es:List Expr}{k:Nat}{tp:Pos}{z TI TO i1 i2:Addr}(a b:Addr)(O:Ar z TI TO i1 i2) :
  Turn P w K (.Tuple es k tp) (Itz K a b) [z,TI,TO,i1,i2] z (Yq z TI TO i1 i2 a b) where
 mem:=by simp
 obj:=fun i h st c hc=>by
  obtain⟨hz,hTI,⟨x,y,hTO⟩,⟨o1,e1,_,d1⟩,⟨o2,e2,_,d2⟩⟩:=st;have hc':c=z\/c=TI\/c=TO\/c=i1\/c=i2:=by simpa using hc
  rcases hc' with rfl|rfl|rfl|rfl|rfl
  ·exact⟨_,hz,fun v q=>by
    have q':Data.fields _=Data.cell v:=q;cases q'⟩
  ·exact⟨_,hTI,fun v q=>by
    have q':Data.seq _ _=Data.cell v:=q;cases q'⟩
  ·exact⟨_,hTO,fun v q=>by
    have q':Data.seq _ _=Data.cell v:=q;cases q'⟩
  ·exact⟨o1,e1,fun v q=>by rw[d1]at q;cases q⟩
  ·exact⟨o2,e2,fun v q=>by rw[d2]at q;cases q⟩
 keep:=fun i h h' st kp=>by
  obtain⟨hz,hTI,⟨x,y,hTO⟩,h1,h2⟩:=st;exact⟨kp z (by simp) _ hz,kp TI (by simp) _ hTI,⟨x,y,kp TO (by simp) _ hTO⟩,h1.at fun o q=>kp i1 (by simp) o q,h2.at fun o q=>kp i2 (by simp) o q⟩
 item:=by
  intro X hP hw hK hc i pins s σ H E I hf st hg;subst hP hw hK;obtain⟨xs,ys,x,y,hq,hq2,hx,hy⟩:=hg;have D:=N2 I O st hq hq2;obtain⟨its,rv,p,_⟩:=I.list hq;obtain⟨its2,rv2,p2,_⟩:=I.list hq2;obtain⟨u,hu,ru⟩:=rv.get hx;obtain⟨u2,hu2,ru2⟩:=rv2.get hy;have h1:i<its.length:=(List.getElem?_eq_some_iff.mp hu).1;have h2:i<its2.length:=(List.getElem?_eq_some_iff.mp hu2).1;have W:=WalksT.zip2 (prog:=X.prog) (w:=X.w) (I.ok.hd hc) z TI TO i1 i2 a b D its.toArray its2.toArray;obtain⟨hz,hTI,hTO,g1,g2⟩:=st;refine W.item i s _ _ (by simp;omega) ⟨hz,hTI,hTO,g1,g2,p.isList,p2.isList⟩ fun T vals h' tk hv hT ht mid kk=>?_;refine⟨_,rfl,?_⟩;obtain⟨x',y',hx',hy',rfl⟩:=hv;have ex:x'=u:=by
   have:its[i]? = some x':=by simpa using hx'
   rw[hu]at this;exact(Option.some.inj this).symm
  have ey:y'=u2:=by
   have:its2[i]? = some y':=by simpa using hy'
   rw[hu2]at this;exact(Option.some.inj this).symm
  subst ex ey;have sub:∀ c∈[z,TO,i1,i2],c∈[z,TI,TO,i1,i2]:=fun c hc=>by
   have:c=z\/c=TO\/c=i1\/c=i2:=by simpa using hc
   simp;rcases this with r|r|r|r <;> simp[r]
  have fw:∀ c∈[z,TO,i1,i2],o9 X pins H c:=fun c hc=>hf c (sub c hc);have I1:Inv X pins σ (upd H T (.tup [x,y])) { s with heap:=h',toks:=tk }:=by
   refine I.Sj (vals:=[x',y']) fw hT (by simpa using ht) (.cons ru (.cons ru2 .nil)) (by show 2<=sizeLine;decide) kk fun c hc=>?_;obtain⟨m1,_,⟨_,_,m2⟩,⟨o1,m3,_⟩,⟨o2,m4,_⟩,_⟩:=mid;have:c=z\/c=TO\/c=i1\/c=i2:=by simpa using hc
   rcases this with rfl|rfl|rfl|rfl
   ·exact⟨_,m1⟩
   ·exact⟨_,m2⟩
   ·exact⟨_,m3⟩
   ·exact⟨_,m4⟩
  have hTn:H T=none:=I.hok.fresh hT;have neT:∀ c∈[z,TI,TO,i1,i2],c≠T:=fun c hc q=>by
   subst q;have:c=TI\/c∈[z,TO,i1,i2]:=by
    have:c=z\/c=TI\/c=TO\/c=i1\/c=i2:=by simpa using hc
    simp;rcases this with r|r|r|r|r <;> simp[r]
   rcases this with r|r
   ·subst r;exact absurd (Nat.lt_of_lt_of_le (Heap.lt_size hTI) hT) (Nat.lt_irrefl _)
   ·exact W.apart i c _ mid r
  refine W.go es k tp i T _ _ _ mid fun h'' st'' afY=>?_;have hf2:∀ c∈[z,TI,TO,i1,i2],o9 X pins (upd H T (.tup [x,y])) c:=fun c hc=>by
   obtain⟨f0,fr⟩:=hf c hc;exact⟨by rw[ak (neT c hc)];exact f0,fr⟩
  obtain⟨s1,s2,s3,s4,s5,_⟩:=st'';refine⟨.ref T,upd H T (.tup [x,y]),I1.kj (tk:=tk) (fun c hc=>hf2 c (sub c hc)) afY,rfl,⟨x,y,T,rfl,hTn,uB I hq hx,uB I hq2 hy,rfl⟩,⟨s1,s2,s3,s4,s5⟩,fun c hc=>(hf2 c hc).1⟩
 done:=by
  intro X hP hw hK hc i pins s σ H E I hf st hg;subst hP hw hK;obtain⟨xs,ys,hq,hq2,hx⟩:=hg;have D:=N2 I O st hq hq2;obtain⟨its,rv,p,_⟩:=I.list hq;obtain⟨its2,rv2,p2,_⟩:=I.list hq2;have W:=WalksT.zip2 (prog:=X.prog) (w:=X.w) (I.ok.hd hc) z TI TO i1 i2 a b D its.toArray its2.toArray;obtain⟨hz,hTI,hTO,g1,g2⟩:=st;have e:min its.toArray.size its2.toArray.size=i:=by
   rw[size_toArray,size_toArray,<-rv.length,<-rv2.length];exact hx
  refine W.done s _ _ (by rw[e];exact⟨hz,hTI,hTO,g1,g2,p.isList,p2.isList⟩) fun h' tk kk=>?_;refine⟨rfl,I.kj (tk:=tk) (wr:=[z,TO,i1,i2]) (fun c hc=>hf c ?_) kk⟩;have:c=z\/c=TO\/c=i1\/c=i2:=by simpa using hc
  simp;rcases this with r|r|r|r <;> simp[r]
 self:=fun _ i s _ _ st h=>by
  obtain⟨hz,_⟩:=st;exact wpAny_pyIter_zip hz h
inductive ae4 (K:Frag)(R:(It->Hp->Prop))(x:V)(y:V)(H2:Hp):Prop
 |mk (a:_) (b:_) (fI:x=.ref a) (fJ:y=.ref b) (hI:(∃ xs,a7 K H2 a xs)/\(∃ ys,a7 K H2 b ys)/\R (Itz K a b) H2):ae4 K R x y H2
def aki (K:Frag)(tl tm:TE):TI:=fun σ H R=>tl σ H fun x H1=>tm σ H1 fun y H2=>ae4 K R x y H2
theorem abn {l m:Expr}{tl tm:TE}(hl:PE X l tl)(hm:PE X m tm)(hs:starEach [l,m] X.env=[(false,eval l X.env),(false,eval m X.env)])(hs2:starEach [m] X.env=[(false,eval m X.env)])(pos:Pos)(pins:List (Addr×Obj))(s:Shared)(σ:St)(H:Hp){Q:V->V->Hp->Prop}(I:Inv X pins σ H s)(h:tl σ H fun x H1=>tm σ H1 fun y H2=>Q x y H2) :
  wpAny (model X.prog X.w) X.A (spliced (backTo pos (starEach [l,m] X.env))) (fun us s1=>∃ x y u v H1,Inv X pins σ H1 s1/\us=[u,v]/\RelV x u/\RelV y v/\Q x y H1) X.xe s:=by
 have he:PE X l (fun σ' H' Q'=>σ'=σ/\H'=H/\∀ x H1,(tm σ H1 fun y H2=>Q x y H2)->Q' x H1):=by
  intro pins s σ' H' Q' I' hw;obtain⟨rfl,rfl,k⟩:=hw;exact cD (hl pins s σ' H' _ I' h) fun u s1 ⟨v,H1,I1,r,q⟩=>⟨v,H1,I1,r,k v H1 q⟩
 have hf:PE X m (fun σ' H' Q'=>∃ x,σ'=σ/\(tm σ H' fun y H2=>Q x y H2)/\∀ y H2,Q x y H2->Q' y H2):=by
  intro pins s σ' H' Q' I' hw;obtain⟨x,rfl,hh,k⟩:=hw;exact cD (hm pins s σ' H' _ I' hh) fun u s1 ⟨v,H1,I1,r,q⟩=>⟨v,H1,I1,r,k v H1 q⟩
 have main:=aa he (aa hf ae hs2) (by rw[hs,hs2]) pos pins s σ H (fun vs H2=>∃ x y,vs=[x,y]/\Q x y H2) I ⟨rfl,rfl,fun x H1 q=>⟨x,rfl,q,fun y H2 q2=>⟨x,y,rfl,q2⟩⟩⟩;refine cD main fun us s1 ⟨vs,H1,I1,r,x,y,e,q⟩=>?_;subst e;obtain⟨u,v,rfl,r1,r2⟩:=r.two;exact⟨x,y,u,v,H1,I1,rfl,r1,r2,q⟩
theorem af0 {l m:Expr}{tl tm:TE}{p pos tp:Pos}{es:List Expr}{k:Nat}(hg:Gl X "zip")(hz:X.mg "zip"=none)(hl:PE X l tl)(hm:PE X m tm)(hs:starEach [l,m] X.env=[(false,eval l X.env),(false,eval m X.env)]:=by rfl)(hs2:starEach [m] X.env=[(false,eval m X.env)]:=by rfl) :
  PI X (.Tuple es k tp) (.Call (.Name "zip" p) [l,m] [] pos) (aki X.K tl tm):=by
 intro pins s σ H R I h;refine Call_ (tU I hg hz abg (PyProof.Rows.callWith_type1 (cD (abn hl hm hs hs2 pos pins s σ H I h) fun us s1 ⟨x,y,u,v,H1,I1,e1,r1,r2,q1⟩=>?_) (by rw[hs,hs2]) (by rw[hs2];rfl)));obtain⟨a,b,rfl,rfl,⟨xs,hq⟩,⟨ys,hq2⟩,q⟩:=q1;subst e1;cases r1;cases r2;obtain⟨its,rv,pl,_⟩:=I1.list hq;obtain⟨its2,rv2,pl2,_⟩:=I1.list hq2;refine call_zip_2 pl.isList pl2.isList fun h' z1 z2 z3 z4 z5 hsz kk=>?_;refine wpAny_pyIter_zip z1 ?_;have O:Ar (s1.heap.objs.size+4) (s1.heap.objs.size+2) (s1.heap.objs.size+3) s1.heap.objs.size (s1.heap.objs.size+1):=by
  constructor <;> exact(by intro q;have q':(_:Nat)=_:=q;omega)
 refine⟨_,[s1.heap.objs.size+4,s1.heap.objs.size+2,s1.heap.objs.size+3,s1.heap.objs.size,s1.heap.objs.size+1],_,_,H1,rfl,I1.kept (t':=s1.toks) kk,abl a b O,⟨z1,z2,⟨_,_,z3⟩,z4,z5⟩,fun c hc=>?_,q⟩;have hc':s1.heap.objs.size<=c:=by
  have:c=s1.heap.objs.size+4\/c=s1.heap.objs.size+2\/c=s1.heap.objs.size+3\/c=s1.heap.objs.size\/c=s1.heap.objs.size+1:=by simpa using hc
  rcases this with r|r|r|r|r <;> (rw[r];first|exact Nat.le_add_right _ _|exact Nat.le_refl _)
 exact I1.OK hc' (I1.hok.fresh hc')
end
end L2
set_option maxHeartbeats 4000000
namespace L2
open PySem
abbrev ae5 (J:It)(g:TG)(tc:TT)(te:TE)(D:Addr)(R:Hp->Prop)(σ:St)(H:Hp):Prop:=∃ W:Nat->Nat->List V->St->Hp->Prop,(∃ m,W 0 m [] σ H)/\∀ i m ys σ H,W i m ys σ H ->
  (J.stop i H/\R H)\/(J.go i H/\∀ x H',J.YX i H x H'->g x σ H' fun σ2 H2=>tc σ2 H2 fun ok H3 =>
   if ok=true then te σ2 H3 fun y H4=>H4 D=some (.lst ys)/\ys.length<sizeLine/\∃ m',m'<m/\W (i+1) m' (ys++[y]) σ2 (upd H4 D (.lst (ys++[y])))
   else ∃ m',m'<m/\W (i+1) m' ys σ2 H3)
abbrev Sk (g:TG)(tc:TT)(te:TE)(D:Addr)(ys:List V)(x:V)(σ:St)(H:Hp)(N:List V->St->Hp->Prop):Prop :=
 g x σ H fun σ2 H2=>tc σ2 H2 fun ok H3=>if ok=true then te σ2 H3 fun y H4=>H4 D=some (.lst ys)/\ys.length<sizeLine/\N (ys++[y]) σ2 (upd H4 D (.lst (ys++[y]))) else N ys σ2 H3
theorem mO {K:Frag}{a:Addr}{xs:List V}{g:TG}{tc:TT}{te:TE}{D:Addr}{R:Hp->Prop}{σ:St}{H:Hp}(Pv:Nat->List V->St->Hp->Prop)(h0:Pv 0 [] σ H)(hl:∀ i ys σ H,Pv i ys σ H->a7 K H a xs)
  (hs:∀ i ys x σ H,xs[i]? = some x->Pv i ys σ H->∀ N:List V->St->Hp->Prop,(∀ ys σ H,Pv (i+1) ys σ H->N ys σ H)->Sk g tc te D ys x σ H N) (hd:∀ ys σ H,Pv xs.length ys σ H->R H):ae5 (Itl K a) g tc te D R σ H:=by
 refine⟨fun i m ys σ H=>m=xs.length-i/\i<=xs.length/\Pv i ys σ H,⟨xs.length,by simp,Nat.zero_le _,h0⟩,?_⟩;rintro i m ys σ H ⟨rfl,hi,p⟩;have q:=hl i ys σ H p
 by_cases hlt:i<xs.length
 ·refine .inr ⟨⟨xs,xs[i],q,by simp[hlt]⟩,fun x H' y=>?_⟩;obtain⟨e,y⟩:=y;subst e;exact hs i ys x σ _ (y xs q) p (fun ys' σ' H'=>∃ m',m'<xs.length-i/\m'=xs.length-(i+1)/\i+1<=xs.length/\Pv (i+1) ys' σ' H') fun ys' σ' H' q=>⟨xs.length-(i+1),by omega,rfl,hlt,q⟩
 ·have e:i=xs.length:=by omega
  subst e;exact .inl ⟨⟨xs,q,Nat.le_refl _⟩,hd ys σ H p⟩
theorem abo {z:Str}{g:TG}{tc:TT}{te:TE}{D:Addr}{R:Hp->Prop}{σ:St}{H:Hp}(Pv:Nat->List V->St->Hp->Prop)(h0:Pv 0 [] σ H)
  (hs:∀ i ys c σ H,z.cps[i]? = some c->Pv i ys σ H->∀ N:List V->St->Hp->Prop,(∀ ys σ H,Pv (i+1) ys σ H->N ys σ H)->Sk g tc te D ys (.str ⟨#[c]⟩) σ H N) (hd:∀ ys σ H,Pv z.cps.size ys σ H->R H):ae5 (Its z) g tc te D R σ H:=by
 refine⟨fun i m ys σ H=>m=z.cps.size-i/\i<=z.cps.size/\Pv i ys σ H,⟨z.cps.size,by simp,Nat.zero_le _,h0⟩,?_⟩;rintro i m ys σ H ⟨rfl,hi,p⟩
 by_cases hlt:i<z.cps.size
 ·refine .inr ⟨hlt,fun x H' y=>?_⟩;obtain⟨e,c,hc,y⟩:=y;subst e y;exact hs i ys c σ _ hc p (fun ys' σ' H'=>∃ m',m'<z.cps.size-i/\m'=z.cps.size-(i+1)/\i+1<=z.cps.size/\Pv (i+1) ys' σ' H') fun ys' σ' H' q=>⟨z.cps.size-(i+1),by omega,rfl,hlt,q⟩
 ·have e:i=z.cps.size:=by omega
  subst e;exact .inl ⟨Nat.le_refl _,hd ys σ H p⟩
theorem abp {K:Frag}{a:Addr}{xs:List V}{g:TG}{tb:TS}{D:Ends}{σ:St}{H:Hp}(Pv:Nat->St->Hp->Prop)(h0:Pv 0 σ H)(hl:∀ i σ H,Pv i σ H->a7 K H a xs)
  (hs:∀ i x t σ H,xs[i]? = some x->Pv i σ H->H t=none->g (.ref t) σ (upd H t (.tup [.int i,x])) fun σ2 H2=>tb { D with nx:=Pv (i+1),ct:=Pv (i+1),bk:=D.nx } σ2 H2) (hd:∀ σ H,Pv xs.length σ H->D.nx σ H) :
  ∃ W:Nat->Nat->St->Hp->Prop,(∃ m,W 0 m σ H)/\∀ i m σ H,W i m σ H ->
   ((Ite K a).stop i H/\D.nx σ H)\/((Ite K a).go i H/\∃ N:St->Hp->Prop,(∀ σ' H',N σ' H'->∃ m',m'<m/\W (i+1) m' σ' H')/\∀ x H',(Ite K a).YX i H x H'->g x σ H' fun σ2 H2=>tb { D with nx:=N,ct:=N,bk:=D.nx } σ2 H2):=by
 refine⟨fun i m σ H=>m=xs.length-i/\i<=xs.length/\Pv i σ H,⟨xs.length,by simp,Nat.zero_le _,h0⟩,?_⟩;rintro i m σ H ⟨rfl,hi,p⟩;have q:=hl i σ H p
 by_cases hlt:i<xs.length
 ·refine .inr ⟨⟨xs,xs[i],q,by simp[hlt]⟩,Pv (i+1),fun σ' H' p'=>⟨xs.length-(i+1),by omega,rfl,hlt,p'⟩,fun x H' y=>?_⟩;obtain⟨y0,t,rfl,hn,hy,rfl⟩:=y;exact hs i y0 t σ H (hy xs q) p hn
 ·have e:i=xs.length:=by omega
  subst e;exact .inl ⟨⟨xs,q,Nat.le_refl _⟩,hd σ H p⟩
theorem ady {K:Frag}{a b:Addr}{xs ys:List V}{g:TG}{tb:TS}{D:Ends}{σ:St}{H:Hp}(Pv:Nat->St->Hp->Prop)(he:xs.length=ys.length)(h0:Pv 0 σ H)(hl:∀ i σ H,Pv i σ H->a7 K H a xs/\a7 K H b ys)
  (hs:∀ i x y t σ H,xs[i]? = some x->ys[i]? = some y->Pv i σ H->H t=none->g (.ref t) σ (upd H t (.tup [x,y])) fun σ2 H2=>tb { D with nx:=Pv (i+1),ct:=Pv (i+1),bk:=D.nx } σ2 H2) (hd:∀ σ H,Pv xs.length σ H->D.nx σ H) :
  ∃ W:Nat->Nat->St->Hp->Prop,(∃ m,W 0 m σ H)/\∀ i m σ H,W i m σ H ->
   ((Itz K a b).stop i H/\D.nx σ H)\/((Itz K a b).go i H/\∃ N:St->Hp->Prop,(∀ σ' H',N σ' H'->∃ m',m'<m/\W (i+1) m' σ' H')/\∀ x H',(Itz K a b).YX i H x H'->g x σ H' fun σ2 H2=>tb { D with nx:=N,ct:=N,bk:=D.nx } σ2 H2):=by
 refine⟨fun i m σ H=>m=xs.length-i/\i<=xs.length/\Pv i σ H,⟨xs.length,by simp,Nat.zero_le _,h0⟩,?_⟩;rintro i m σ H ⟨rfl,hi,p⟩;obtain⟨q,q2⟩:=hl i σ H p
 by_cases hlt:i<xs.length
 ·have hlt2:i<ys.length:=by omega
  refine .inr ⟨⟨xs,ys,xs[i],ys[i],q,q2,by simp[hlt],by simp[hlt2]⟩,Pv (i+1),fun σ' H' p'=>⟨xs.length-(i+1),by omega,rfl,hlt,p'⟩,fun x H' y=>?_⟩;obtain⟨x0,y0,t,rfl,hn,hx,hy,rfl⟩:=y;exact hs i x0 y0 t σ H (hx xs q) (hy ys q2) p hn
 ·have e:i=xs.length:=by omega
  subst e;exact .inl ⟨⟨xs,ys,q,q2,by omega⟩,hd σ H p⟩
end L2
namespace L2
open PySem
theorem mP {j:Nat}{te:TE}{D:Addr}{ys:List V}{x:V}{σ:St}{H:Hp}{N:List V->St->Hp->Prop}
  (h:te (σ.set j (some x)) H fun y H4=>H4 D=some (.lst ys)/\ys.length<sizeLine/\N (ys++[y]) (σ.set j (some x)) (upd H4 D (.lst (ys++[y])))):Sk (NT j) afR te D ys x σ H N:=by
 unfold Sk NT afR;exact(if_pos (rfl:true=true)).mpr h
end L2
set_option maxHeartbeats 4000000
namespace L2
open PySem PySem.Spec PyProof.Rows
open Sem (wp)
abbrev As (h:Heap)(z TI TO:Addr)(f0 f1:Value):Prop :=
 h.get? z=some { cls:=.type "zip",dict:=none,data:=.fields #[f0,f1,.bool false,.ref TI,.ref TO],slots:=#[] }
def Loose (f0 f1:Value):Prop:=(f0=.none\/∃ a:Nat,f0=rawInt (a:Int))/\∃ b,f1=.bool b
section
variable {prog:Program} {w:World} {A:Around} {E:Value->Shared->Prop} {s:Shared}
theorem Zd {a:Addr}{Q:Option Obj->Shared->Prop}(h:∀ o,Q o s):wpAny (model prog w) A (loadIfAlive a) Q E s:=fun _ _ _=>h _
theorem Sl {z TI TO:Addr}{f0 f1:Value}{Q:Bool->Shared->Prop}(hz:As s.heap z TI TO f0 f1)(hf:Loose f0 f1)
  (hQ:∀(r:Bool)(h':Heap)(g1:Value),As h' z TI TO f0 g1->Loose f0 g1->Heap.SameBut z s.heap h'->Q r { s with heap:=h' }) :
  wpAny (model prog w) A (Builtin.SmallTypes.ownedTupleIsFree (.ref z)) Q E s:=by
 unfold Builtin.SmallTypes.ownedTupleIsFree;refine wpAny_bind (wpAny_field hz rfl (x:=f0) rfl ?_);obtain⟨hf0,b,rfl⟩:=hf;rcases hf0 with rfl|⟨a,rfl⟩
 ·exact wpAny_pure (hQ true s.heap _ hz ⟨.inl rfl,b,rfl⟩ ⟨rfl,fun _ _=>rfl⟩)
 ·show wpAny _ _ (loadIfAlive ((a:Int).toNat) >>= _) _ _ _;refine wpAny_bind (Zd fun o=>?_);cases o with
  |none =>
   simp only [Option.isNone_none,if_true];exact wpAny_pure (hQ true s.heap _ hz ⟨.inr ⟨a,rfl⟩,b,rfl⟩ ⟨rfl,fun _ _=>rfl⟩)
  |some o =>
   simp only [Option.isNone_some,Bool.false_eq_true,if_false];refine wpAny_bind (wpAny_field hz rfl (x:=.bool b) rfl ?_);cases b with
   |true =>
    exact wpAny_pure (hQ false s.heap _ hz ⟨.inr ⟨a,rfl⟩,true,rfl⟩ ⟨rfl,fun _ _=>rfl⟩)
   |false =>
    show wpAny _ _ (setField (.ref z) 1 (.bool true) >>= _) _ _ _;refine wpAny_bind (wpAny_setField_rec hz (by simp) fun h₁ hz₁ hs₁=>?_);exact wpAny_pure (hQ false h₁ _ hz₁ ⟨.inr ⟨a,rfl⟩,true,rfl⟩ hs₁)
theorem Ze {z TI TO i1 i2 l1 l2:Addr}{k1 k2:Nat}{xs ys:Array Value}{x y a b f0 f1:Value}{Q:Value->Shared->Prop}(D:ZipApart z TI TO i1 i2 l1 l2)
  (hz:As s.heap z TI TO f0 f1) (hf:Loose f0 f1) (hTI:IsPair s.heap TI (.ref i1) (.ref i2)) (hTO:IsPair s.heap TO a b)
  (h1:s.heap.IsListIter i1 l1 k1) (h2:s.heap.IsListIter i2 l2 k2) (hl1:s.heap.IsList l1 xs) (hl2:s.heap.IsList l2 ys) (hx:xs[k1]? = some x) (hy:ys[k2]? = some y)
  (hQ:∀ h',(∃ g0 g1,As h' z TI TO g0 g1/\Loose g0 g1)->(∃ a b,IsPair h' TO a b)->h'.IsListIter i1 l1 (k1+1)->h'.IsListIter i2 l2 (k2+1)->IsPair h' s.heap.objs.size x y->h'.objs.size=s.heap.objs.size+1 ->
   (∀ c o,c≠z->c≠TO->c≠i1->c≠i2->s.heap.get? c=some o->h'.get? c=some o)->Q (.ref s.heap.objs.size) { s with heap:=h' }) :
  wpAny (model prog w) A (Builtin.«zip.__next__» ⟨[.ref z],[]⟩) (fun fin s'=>∃ v,fin=.done (.ret v)/\Q v s') E s:=by
 show wpAny _ _ (field (.ref z) 2 >>= _) _ _ _;refine wpAny_bind (wpAny_field hz rfl (x:=.bool false) rfl ?_);show wpAny _ _ (field (.ref z) 3 >>= _) _ _ _;refine wpAny_bind (wpAny_field hz rfl (x:=.ref TI) rfl ?_);refine wpAny_bind (wpAny_seqItems hTI rfl ?_);show wpAny _ _ (Builtin.SmallTypes.ownedTupleIsFree (.ref z) >>= _) _ _ _;refine wpAny_bind (Sl hz hf fun r h₀ g1 ag5 hl₀ hs₀=>?_);cases r with
 |true =>
  simp only [if_true];refine wpAny_bind (wpAny_rule ?_);refine wpAny_bind (wpAny_field ag5 rfl (x:=.ref TO) rfl ?_);refine wpAny_bind (wpAny_setField_rec ag5 (by simp) fun h₁ hz₁ abq=>?_)
  replace hz₁:As h₁ z TI TO .ellipsis g1:=hz₁
  have hs₁:Heap.SameBut z s.heap h₁:=⟨abq.1.trans hs₀.1,fun c hc=>(abq.2 c hc).trans (hs₀.2 c hc)⟩;refine wpAny_bind ?_;simp only [List.zipIdx_cons,List.zipIdx_nil,List.forIn_cons,List.forIn_nil];refine wpAny_bind (wpAny_bind (wpAny_onRaise ?_));show wpAny _ _ (Builtin.SmallTypes.nextOf (.ref i1) >>= _) _ _ _;refine wpAny_bind (wpAny_nextOf_list_item (h1.extBut hs₁.extBut D.i1z) (hl1.extBut hs₁.extBut D.l1z) hx fun h₂ h1₂ hs₂=>wpAny_pure ?_);have hTO₂:IsPair h₂ TO a b:=hs₂.extBut _ _ D.TOi1 (hs₁.extBut _ _ D.TOz hTO);refine wpAny_bind (wpAny_seqItems hTO₂ rfl ?_);refine wpAny_bind (wpAny_updateSeq_pair hTO₂ fun h₃ hTO₃ hs₃=>?_)
  replace hTO₃:IsPair h₃ TO x b:=hTO₃
  refine wpAny_bind (wpAny_letGo (wpAny_pure ?_));refine wpAny_bind (wpAny_bind (wpAny_onRaise ?_));show wpAny _ _ (Builtin.SmallTypes.nextOf (.ref i2) >>= _) _ _ _;refine wpAny_bind (wpAny_nextOf_list_item (((h2.extBut hs₁.extBut D.i2z).extBut hs₂.extBut D.i12.symm).extBut hs₃.extBut D.TOi2.symm)
   (((hl2.extBut hs₁.extBut D.l2z).extBut hs₂.extBut D.l2i1).extBut hs₃.extBut D.l2TO) hy fun h₄ h2₄ hs₄=>wpAny_pure ?_)
  have hTO₄:IsPair h₄ TO x b:=hs₄.extBut _ _ D.TOi2 hTO₃;refine wpAny_bind (wpAny_seqItems hTO₄ rfl ?_);refine wpAny_bind (wpAny_updateSeq_pair hTO₄ fun h₅ hTO₅ hs₅=>?_)
  replace hTO₅:IsPair h₅ TO x y:=hTO₅
  refine wpAny_bind (wpAny_letGo (wpAny_pure (wpAny_pure ?_)));refine wpAny_bind (wpAny_seqItems hTO₅ rfl ?_);refine wpAny_bind (wpAny_newTuple ?_);have hsz:h₅.objs.size=s.heap.objs.size:=by rw[hs₅.1,hs₄.1,hs₃.1,hs₂.1,hs₁.1]
  have hz₅:As h₅ z TI TO .ellipsis g1:=hs₅.extBut _ _ D.TOz.symm (hs₄.extBut _ _ D.i2z.symm (hs₃.extBut _ _ D.TOz.symm (hs₂.extBut _ _ D.i1z.symm hz₁)));have hk₅:∀ c o,c≠z->c≠TO->c≠i1->c≠i2->s.heap.get? c=some o->h₅.get? c=some o:=fun c o c1 c2 c3 c4 e =>
   hs₅.extBut _ _ c2 (hs₄.extBut _ _ c4 (hs₃.extBut _ _ c2 (hs₂.extBut _ _ c3 (hs₁.extBut _ _ c1 e))))
  have h1₅:h₅.IsListIter i1 l1 (k1+1):=((h1₂.extBut hs₃.extBut D.TOi1.symm).extBut hs₄.extBut D.i12).extBut hs₅.extBut D.TOi1.symm;have h2₅:h₅.IsListIter i2 l2 (k2+1):=h2₄.extBut hs₅.extBut D.TOi2.symm;have hzlt:z<h₅.objs.size:=Heap.lt_size hz₅;show wpAny _ _ (Builtin.SmallTypes.ownedTupleHandOut (.ref z) (.ref h₅.objs.size) >>= _) _ _ _;refine wpAny_bind ?_;unfold Builtin.SmallTypes.ownedTupleHandOut;have hz₆:As (h₅.push { cls:=.type "tuple",data:=.seq #[x,y] }) z TI TO .ellipsis g1:=Heap.get?_push_of_some _ hz₅;refine wpAny_bind (wpAny_setField_rec hz₆ (by simp) fun h₇ hz₇ hs₇=>?_)
  replace hz₇:As h₇ z TI TO (rawInt h₅.objs.size) g1:=hz₇
  refine wpAny_setField_rec hz₇ (by simp) fun h₈ hz₈ hs₈=>?_
  replace hz₈:As h₈ z TI TO (rawInt h₅.objs.size) (.bool false):=hz₈
  have up:∀ c o,c≠z->h₅.get? c=some o->h₈.get? c=some o:=fun c o c1 e=>hs₈.extBut _ _ c1 (hs₇.extBut _ _ c1 (Heap.get?_push_of_some _ e));have hT₈:IsPair h₈ h₅.objs.size x y:=hs₈.extBut _ _ (Nat.ne_of_gt hzlt) (hs₇.extBut _ _ (Nat.ne_of_gt hzlt) (Heap.get?_push_size _ rfl));have hz8:h₈.objs.size=h₅.objs.size+1:=by rw[hs₈.1,hs₇.1,Heap.size_push]
  have hloose:∃ g0 g1,As h₈ z TI TO g0 g1/\Loose g0 g1:=⟨_,_,hz₈,.inr ⟨_,rfl⟩,_,rfl⟩;rw[hsz]at hT₈ hz8;refine wpAny_pure ⟨_,rfl,?_⟩;show Q (.ref h₅.objs.size) _;rw[hsz];exact hQ h₈ hloose ⟨_,_,up _ _ D.TOz hTO₅⟩ (h1₅.at fun o e=>up _ o D.i1z e) (h2₅.at fun o e=>up _ o D.i2z e) hT₈ hz8 fun c o c1 c2 c3 c4 e=>up c o c1 (hk₅ c o c1 c2 c3 c4 e)
 |false =>
  simp only [Bool.false_eq_true,if_false];have hs₁:=hs₀;refine wpAny_bind ?_;rw[<-Array.forIn_toList];simp only [List.forIn_cons,List.forIn_nil];refine wpAny_bind (wpAny_bind (wpAny_holding ?_));show wpAny _ _ (Builtin.SmallTypes.nextOf (.ref i1) >>= _) _ _ _;refine wpAny_bind (wpAny_nextOf_list_item (h1.extBut hs₁.extBut D.i1z) (hl1.extBut hs₁.extBut D.l1z) hx fun h₂ h1₂ hs₂=>wpAny_pure (wpAny_pure ?_));refine wpAny_bind (wpAny_bind (wpAny_holding ?_));show wpAny _ _ (Builtin.SmallTypes.nextOf (.ref i2) >>= _) _ _ _;refine wpAny_bind (wpAny_nextOf_list_item ((h2.extBut hs₁.extBut D.i2z).extBut hs₂.extBut D.i12.symm)
   ((hl2.extBut hs₁.extBut D.l2z).extBut hs₂.extBut D.l2i1) hy fun h₄ h2₄ hs₄=>wpAny_pure (wpAny_pure (wpAny_pure ?_)))
  have hsz:h₄.objs.size=s.heap.objs.size:=by rw[hs₄.1,hs₂.1,hs₁.1]
  refine wpAny_bind (wpAny_newTuple (hsz:=by show 2<=sizeLine;decide) ?_);have up:∀ c o,c≠z->c≠i1->c≠i2->s.heap.get? c=some o->(h₄.push { cls:=.type "tuple",data:=.seq #[x,y] }).get? c=some o:=fun c o c1 c3 c4 e =>
   Heap.get?_push_of_some _ (hs₄.extBut _ _ c4 (hs₂.extBut _ _ c3 (hs₁.extBut _ _ c1 e)))
  have hz₄:As (h₄.push { cls:=.type "tuple",data:=.seq #[x,y] }) z TI TO f0 g1:=Heap.get?_push_of_some _ (hs₄.extBut _ _ D.i2z.symm (hs₂.extBut _ _ D.i1z.symm ag5));have hT₈:IsPair (h₄.push { cls:=.type "tuple",data:=.seq #[x,y] }) h₄.objs.size x y:=Heap.get?_push_size _ rfl;have hz8:(h₄.push { cls:=.type "tuple",data:=.seq #[x,y] }).objs.size=h₄.objs.size+1:=Heap.size_push ..;refine wpAny_pure ⟨_,rfl,?_⟩;show Q (.ref h₄.objs.size) { s with heap:=h₄.push { cls:=.type "tuple",data:=.seq #[x,y] } };rw[hsz]at hT₈ hz8 ⊢;exact hQ _ ⟨_,_,hz₄,hl₀⟩ ⟨a,b,up _ _ D.TOz D.TOi1 D.TOi2 hTO⟩ ((h1₂.extBut hs₄.extBut D.i12).at fun o e=>Heap.get?_push_of_some _ e) (h2₄.at fun o e=>Heap.get?_push_of_some _ e) hT₈ hz8 fun c o c1 _ c3 c4 e=>up c o c1 c3 c4 e
theorem abr {z TI TO i1 i2 l1 l2:Addr}{k1:Nat}{xs:Array Value}{a b f0 f1:Value}{Q:Fin->Shared->Prop}(hh:A.handled=none)(D:ZipApart z TI TO i1 i2 l1 l2)
  (hz:As s.heap z TI TO f0 f1) (hf:Loose f0 f1) (hTI:IsPair s.heap TI (.ref i1) (.ref i2)) (hTO:IsPair s.heap TO a b)
  (h1:s.heap.IsListIter i1 l1 k1) (hl1:s.heap.IsList l1 xs) (hend:xs[k1]? = none)
  (hE:∀ h' e,(∀ c o,c≠z->c≠TO->c≠i1->c≠i2->s.heap.get? c=some o->h'.get? c=some o)->(∃ o,h'.get? e=some o/\o.cls=.type "StopIteration")->E (.ref e) { s with heap:=h' }) :
  wpAny (model prog w) A (Builtin.«zip.__next__» ⟨[.ref z],[]⟩) Q E s:=by
 show wpAny _ _ (field (.ref z) 2 >>= _) _ _ _;refine wpAny_bind (wpAny_field hz rfl (x:=.bool false) rfl ?_);show wpAny _ _ (field (.ref z) 3 >>= _) _ _ _;refine wpAny_bind (wpAny_field hz rfl (x:=.ref TI) rfl ?_);refine wpAny_bind (wpAny_seqItems hTI rfl ?_);show wpAny _ _ (Builtin.SmallTypes.ownedTupleIsFree (.ref z) >>= _) _ _ _;refine wpAny_bind (Sl hz hf fun r h₀ g1 ag5 hl₀ hs₀=>?_);cases r with
 |true =>
  simp only [if_true];refine wpAny_bind (wpAny_rule ?_);refine wpAny_bind (wpAny_field ag5 rfl (x:=.ref TO) rfl ?_);refine wpAny_bind (wpAny_setField_rec ag5 (by simp) fun h₁ hz₁ abq=>?_)
  replace hz₁:As h₁ z TI TO .ellipsis g1:=hz₁
  have hs₁:Heap.SameBut z s.heap h₁:=⟨abq.1.trans hs₀.1,fun c hc=>(abq.2 c hc).trans (hs₀.2 c hc)⟩;refine wpAny_bind ?_;simp only [List.zipIdx_cons,List.zipIdx_nil,List.forIn_cons,List.forIn_nil];refine wpAny_bind (wpAny_bind (wpAny_onRaise ?_));show wpAny _ _ (Builtin.SmallTypes.nextOf (.ref i1) >>= _) _ _ _;refine wpAny_bind (wpAny_nextOf_list_end hh (h1.extBut hs₁.extBut D.i1z) (hl1.extBut hs₁.extBut D.l1z) hend fun h₂ e hs₂ he=>?_);obtain⟨oe,hoe,hce⟩:=he;have hz₂:As h₂ z TI TO .ellipsis g1:=hs₂ _ _ D.i1z.symm hz₁;have hez:e≠z:=fun x=>by subst x;rw[hz₂]at hoe;cases hoe;simp at hce
  refine wpAny_setField_rec hz₂ (by simp) fun h₃ _ hs₃=>hE h₃ e (fun c o c1 _ c3 _ x=>hs₃.extBut _ _ c1 (hs₂ _ _ c3 (hs₁.extBut _ _ c1 x))) ⟨oe,hs₃.extBut _ _ hez hoe,hce⟩
 |false =>
  simp only [Bool.false_eq_true,if_false];refine wpAny_bind ?_;rw[<-Array.forIn_toList];simp only [List.forIn_cons,List.forIn_nil];refine wpAny_bind (wpAny_bind (wpAny_holding ?_));show wpAny _ _ (Builtin.SmallTypes.nextOf (.ref i1) >>= _) _ _ _;exact wpAny_bind (wpAny_nextOf_list_end hh (h1.extBut hs₀.extBut D.i1z) (hl1.extBut hs₀.extBut D.l1z) hend fun h₂ e hs₂ he=>hE h₂ e (fun c o c1 _ c3 _ x=>hs₂ _ _ c3 (hs₀.extBut _ _ c1 x)) he)
def abt (z TI TO i1 i2 a b:Addr)(i:Nat)(h:Heap):Prop:=(∃ f0 f1,As h z TI TO f0 f1/\Loose f0 f1)/\IsPair h TI (.ref i1) (.ref i2)/\(∃ x y,IsPair h TO x y)/\h.IsListIter i1 a i/\h.IsListIter i2 b i
theorem adz {e z TI TO i1 i2 l1 l2:Addr}{i:Nat}{xs ys:Array Value}{x y old:Value}{Q:Option Value->Shared->Prop}(D:ZipApart z TI TO i1 i2 l1 l2)(hne:∀ c∈[z,TI,TO,i1,i2],e≠c)
  (he:IsEnum s.heap e z i old) (hst:abt z TI TO i1 i2 l1 l2 i s.heap) (hl1:s.heap.IsList l1 xs) (hl2:s.heap.IsList l2 ys) (hx:xs[i]? = some x) (hy:ys[i]? = some y)
  (hQ:∀ h' tk,IsEnumOut h' e z ((i:Int)+1) (.ref s.heap.objs.size) (s.heap.objs.size+1)->abt z TI TO i1 i2 l1 l2 (i+1) h'->IsPair h' s.heap.objs.size x y ->
   h'.get? (s.heap.objs.size+1)=some { cls:=.type "tuple",data:=.seq #[.int i tk,.ref s.heap.objs.size] } ->
   (∀ c o,c ∉ [e,z,TO,i1,i2]->s.heap.get? c=some o->h'.get? c=some o)->Q (some (.ref (s.heap.objs.size+1))) { s with heap:=h',toks:=tk+1 }) :
  wpAny (model prog w) A (pyNext (.ref e)) Q E s:=by
 have hT:s.TypeIs (.ref e) "enumerate":=⟨_,he,rfl⟩;unfold pyNext;refine wpAny_bind (wpAny_attempt (wpAny_callSpecial?_slot (name:=Str.ofString "__next__") hT slot_enumerate_next
  (wpAny_call_entry slot_enumerate_next hT PySem.F.entry_enumerate_next ?_ (PySem.F.args_enumerate_next_1 _))))
 obtain⟨hp,g,d,tk,os⟩:=s;obtain⟨⟨f0,f1,hz,hlo⟩,hTI,⟨ta,tb,hTO⟩,g1,g2⟩:=hst;have ne:=fun c hc=>(hne c hc);have ez:e≠z:=hne z (by simp);have eTI:e≠TI:=hne TI (by simp);have eTO:e≠TO:=hne TO (by simp);have ei1:e≠i1:=hne i1 (by simp);have ei2:e≠i2:=hne i2 (by simp);show wpAny _ _ (field (.ref e) 2 >>= _) _ _ _;refine wpAny_bind (wpAny_field he rfl (x:=.ref z) rfl ?_);refine wpAny_bind ?_;have hTz:Shared.TypeIs ⟨hp,g,d,tk,os⟩ (.ref z) "zip":=⟨_,hz,rfl⟩;unfold Builtin.SmallTypes.nextOf;refine wpAny_bind (wpAny_callSpecial?_slot (name:=Str.ofString "__next__") hTz slot_zip_next
  (wpAny_call_entry slot_zip_next hTz entry_zip_next (Ze D hz hlo hTI hTO g1 g2 hl1 hl2 hx hy fun h₁ q1 q2 q3 q4 q5 q6 q7=>wpAny_pure ?_) (PySem.F.args_zip_next_1 _)))
 replace q5:IsPair h₁ hp.objs.size x y:=q5
 replace q6:h₁.objs.size=hp.objs.size+1:=q6
 replace q7:∀ c o,c≠z->c≠TO->c≠i1->c≠i2->hp.get? c=some o->h₁.get? c=some o:=q7
 have he₁:IsEnum h₁ e z i old:=q7 e _ ez eTO ei1 ei2 he;have st₁:abt z TI TO i1 i2 l1 l2 (i+1) h₁:=⟨q1,q7 TI _ D.TIz D.TITO D.TIi1 D.TIi2 hTI,q2,q3,q4⟩;show wpAny _ _ (field (.ref e) 3 >>= _) _ _ ⟨h₁,g,d,tk,os⟩;refine wpAny_bind (wpAny_field he₁ rfl (x:=rawInt i) rfl ?_);show wpAny _ _ (field (.ref e) 4 >>= _) _ _ ⟨h₁,g,d,tk,os⟩;refine wpAny_bind (wpAny_field he₁ rfl (x:=.none) rfl ?_);show wpAny _ _ (mkInt i >>= _) _ _ ⟨h₁,g,d,tk,os⟩;refine wpAny_bind (wpAny_mkInt ?_);show wpAny _ _ (setField (.ref e) 3 (rawInt ((i:Int)+1)) >>= _) _ _ ⟨h₁,g,d,tk+1,os⟩;refine wpAny_bind (wpAny_setField_rec he₁ (by simp) fun h₂ he₂ hs₂=>?_)
 replace hs₂:Heap.SameBut e h₁ h₂:=hs₂
 replace he₂:IsEnum h₂ e z ((i:Int)+1) old:=he₂
 show wpAny _ _ (setField (.ref e) 4 .none >>= _) _ _ ⟨h₂,g,d,tk+1,os⟩;refine wpAny_bind (wpAny_setField_rec he₂ (by simp) fun h₃ he₃ hs₃=>?_)
 replace hs₃:Heap.SameBut e h₂ h₃:=hs₃
 replace he₃:IsEnum h₃ e z ((i:Int)+1) old:=he₃
 show wpAny _ _ (newTuple [.int i tk,.ref hp.objs.size] >>= _) _ _ ⟨h₃,g,d,tk+1,os⟩;refine wpAny_bind (wpAny_newTuple ?_);have he₄:IsEnum (h₃.push { cls:=.type "tuple",data:=.seq #[.int i tk,.ref hp.objs.size] }) e z ((i:Int)+1) old:=Heap.get?_push_of_some _ he₃;have hsz:h₃.objs.size=hp.objs.size+1:=by rw[hs₃.1,hs₂.1,q6]
 have hel:e<hp.objs.size:=Heap.lt_size he;have ht₄:(h₃.push { cls:=.type "tuple",data:=.seq #[.int i tk,.ref hp.objs.size] }).get? (hp.objs.size+1)=some { cls:=.type "tuple",data:=.seq #[.int i tk,.ref hp.objs.size] }:=by rw[<-hsz];exact Heap.get?_push_size _ rfl
 have alB:∀ c o,c≠e->h₁.get? c=some o->(h₃.push { cls:=.type "tuple",data:=.seq #[.int i tk,.ref hp.objs.size] }).get? c=some o:=fun c o hc q =>
  Heap.get?_push_of_some _ (hs₃.extBut c o hc (hs₂.extBut c o hc q))
 generalize h₃.push { cls:=.type "tuple",data:=.seq #[.int i tk,.ref hp.objs.size] } = h₄ at he₄ ht₄ alB;show wpAny _ _ (Builtin.SmallTypes.ownedTupleIsFree (.ref e) >>= _) _ _ ⟨h₄,g,d,tk+1,os⟩;rw[hsz];refine wpAny_bind ?_;unfold Builtin.SmallTypes.ownedTupleIsFree;refine wpAny_bind (wpAny_field he₄ rfl (x:=.none) rfl (wpAny_pure ?_));simp only [if_true];refine wpAny_bind (wpAny_rule ?_);refine wpAny_bind (wpAny_field he₄ rfl (x:=old) rfl ?_);refine wpAny_bind (wpAny_setField_rec he₄ (by simp) fun h₅ he₅ hs₅=>?_)
 replace hs₅:Heap.SameBut e h₄ h₅:=hs₅
 replace he₅:IsEnum h₅ e z ((i:Int)+1) (.ref hp.objs.size):=he₅
 show wpAny _ _ (Builtin.SmallTypes.ownedTupleHandOut (.ref e) (.ref (hp.objs.size+1)) >>= _) _ _ ⟨h₅,g,d,tk+1,os⟩;refine wpAny_bind ?_;unfold Builtin.SmallTypes.ownedTupleHandOut;refine wpAny_bind (wpAny_setField_rec he₅ (by simp) fun h₆ he₆ hs₆=>?_)
 replace hs₆:Heap.SameBut e h₅ h₆:=hs₆
 replace he₆:IsEnumOut h₆ e z ((i:Int)+1) (.ref hp.objs.size) (hp.objs.size+1):=he₆
 refine wpAny_setField_rec he₆ (by simp) fun h₇ he₇ hs₇=>?_
 replace hs₇:Heap.SameBut e h₆ h₇:=hs₇
 replace he₇:IsEnumOut h₇ e z ((i:Int)+1) (.ref hp.objs.size) (hp.objs.size+1):=he₇
 have up:∀ c o,c≠e->h₁.get? c=some o->h₇.get? c=some o:=fun c o hc q=>hs₇.extBut c o hc (hs₆.extBut c o hc (hs₅.extBut c o hc (alB c o hc q)));have nT:(hp.objs.size:Nat)≠e:=Nat.ne_of_gt hel;have nT1:(hp.objs.size+1:Nat)≠e:=Nat.ne_of_gt (Nat.lt_succ_of_lt hel);refine wpAny_bind (wpAny_letGo (wpAny_pure ⟨_,rfl,wpAny_pure (hQ h₇ tk he₇ ?_ (up _ _ nT q5) ?_ ?_)⟩))
 ·obtain⟨⟨u0,u1,u2,u3⟩,u4,⟨u5,u6,u7⟩,u8,u9⟩:=st₁;exact⟨⟨u0,u1,up _ _ ez.symm u2,u3⟩,up _ _ eTI.symm u4,⟨u5,u6,up _ _ eTO.symm u7⟩,u8.at fun o q=>up _ o ei1.symm q,u9.at fun o q=>up _ o ei2.symm q⟩
 ·exact hs₇.extBut _ _ nT1 (hs₆.extBut _ _ nT1 (hs₅.extBut _ _ nT1 ht₄))
 ·intro c o hc q;have hc':c≠e/\c≠z/\c≠TO/\c≠i1/\c≠i2:=by simpa using hc
  exact up c o hc'.1 (q7 c o hc'.2.1 hc'.2.2.1 hc'.2.2.2.1 hc'.2.2.2.2 q)
theorem af1 {e z TI TO i1 i2 l1 l2:Addr}{i:Nat}{xs:Array Value}{old:Value}{Q:Option Value->Shared->Prop}(hh:A.handled=none)(D:ZipApart z TI TO i1 i2 l1 l2)
  (he:IsEnum s.heap e z i old) (hst:abt z TI TO i1 i2 l1 l2 i s.heap) (hl1:s.heap.IsList l1 xs) (hx:xs[i]? = none)
  (hQ:∀ h',(∀ c o,c ∉ [e,z,TO,i1,i2]->s.heap.get? c=some o->h'.get? c=some o)->Q none { s with heap:=h' }):wpAny (model prog w) A (pyNext (.ref e)) Q E s:=by
 have hT:s.TypeIs (.ref e) "enumerate":=⟨_,he,rfl⟩;obtain⟨⟨f0,f1,hz,hlo⟩,hTI,⟨ta,tb,hTO⟩,g1,g2⟩:=hst;unfold pyNext;refine wpAny_bind (wpAny_attempt (wpAny_callSpecial?_slot (name:=Str.ofString "__next__") hT slot_enumerate_next
  (wpAny_call_entry slot_enumerate_next hT PySem.F.entry_enumerate_next ?_ (PySem.F.args_enumerate_next_1 _))))
 show wpAny _ _ (field (.ref e) 2 >>= _) _ _ _;refine wpAny_bind (wpAny_field he rfl (x:=.ref z) rfl ?_);refine wpAny_bind ?_;have hTz:s.TypeIs (.ref z) "zip":=⟨_,hz,rfl⟩;unfold Builtin.SmallTypes.nextOf;refine wpAny_bind (wpAny_callSpecial?_slot (name:=Str.ofString "__next__") hTz slot_zip_next
  (wpAny_call_entry slot_zip_next hTz entry_zip_next (abr hh D hz hlo hTI hTO g1 hl1 hx fun h' x hk hx'=>?_) (PySem.F.args_zip_next_1 _)))
 obtain⟨o,ho,hc⟩:=hx';refine wpAny_bind (wpAny_isInstance (T:="StopIteration") (b:=true) ⟨o,ho,hc⟩ isSubtype_stop ?_);refine wpAny_pure (hQ _ fun c o hc q=>?_);have hc':c≠e/\c≠z/\c≠TO/\c≠i1/\c≠i2:=by simpa using hc
 exact hk c o hc'.2.1 hc'.2.2.1 hc'.2.2.2.1 hc'.2.2.2.2 q
theorem xt (z TI TO:Addr) :
  Meets (Builtin.«enumerate.__new__» ⟨[.type "enumerate",.ref z],[]⟩) (fun _ R s=>IsZip s.heap z TI TO .none /\
   R (.ok (.ret (.ref s.heap.objs.size)))
    { s with heap:=s.heap.push { cls:=.type "enumerate",data:=.fields #[.none,.bool false,.ref z,rawInt 0,.none,.none] } }) :=
 .of_wp fun prog w A R s h=>by
  obtain⟨hp,g,d,tk,os⟩:=s;obtain⟨hl,h⟩:=h;have hsub:=sub_enumerate;have hL:IsZip (Shared.heap ⟨hp,g,d,tk,os⟩) z TI TO .none:=hl
  wp_walk using wpAny_loadPart' hl
  refine wpAny_stack_any fun st=>wpAny_pure ?_;split
  ·rename_i c _ _ _ _ _
   cases (c==Value.type "enumerate")
   ·wp_walk using wpAny_loadPart' hl,wpAny_pyIter_zip hL
    exact⟨_,rfl,h⟩
   ·wp_walk using wpAny_loadPart' hl,wpAny_pyIter_zip hL
    exact⟨_,rfl,h⟩
  ·wp_walk using wpAny_loadPart' hl,wpAny_pyIter_zip hL
   exact⟨_,rfl,h⟩
theorem Au {z TI TO:Addr}{Q:Value->Shared->Prop}(hz:IsZip s.heap z TI TO .none)
  (h:∀ h',IsEnum h' s.heap.objs.size z 0 .none->(∀ b o,s.heap.get? b=some o->h'.get? b=some o)->Q (.ref s.heap.objs.size) { s with heap:=h' }) :
  wpAny (model prog w) A (call (.type "enumerate") [.ref z]) Q E s:=by
 refine callType_new PySem.F.called_enumerate (by decide) (PySem.F.typeCall_enumerate_1 _) (PySem.F.newCall_enumerate_1 _) (fun obj=>PySem.F.args_object_init_2 obj _) PySem.F.entry_enumerate_new
  (xt z TI TO) ⟨hz,?_⟩
 show _/\_;have he:IsEnum (s.heap.push { cls:=.type "enumerate",data:=.fields #[.none,.bool false,.ref z,rawInt 0,.none,.none] }) s.heap.objs.size z 0 .none:=Heap.get?_push_size _ rfl;exact⟨⟨_,he,rfl⟩,h _ he fun b o x=>Heap.get?_push_of_some _ x⟩
end
end L2
set_option maxHeartbeats 4000000
namespace L2
open PySem PySem.Spec PyProof.Rows
section
variable {X:Cx} {pins:List (Addr×Obj)} {σ:St} {H:Hp} {s:Shared}
theorem Inv.adA {tk:Nat}{h':Heap}{wr:List Addr}{T U:Addr}{xs ys:List V}{vals vals2:List Value}(I:Inv X pins σ H s)(hw:∀ b∈wr,o9 X pins H b)(hT:s.heap.objs.size<=T)(hU:s.heap.objs.size<=U)(hTU:T≠U)
  (ht:h'.IsTuple T vals.toArray) (rv:Vals xs vals) (hz:xs.length<=sizeLine) (hu:h'.IsTuple U vals2.toArray) (rv2:Vals ys vals2) (hz2:ys.length<=sizeLine)
  (kk:∀ b o,b ∉ wr->s.heap.get? b=some o->h'.get? b=some o) (there:∀ b∈wr,∃ o,h'.get? b=some o):Inv X pins σ (upd (upd H T (.tup xs)) U (.tup ys)) { s with heap:=h',toks:=tk }:=by
 have hTn:H T=none:=I.hok.fresh hT;have hUn:H U=none:=I.hok.fresh hU;have nT:∀ b o,s.heap.get? b=some o->b≠T:=fun b o e=>Nat.ne_of_lt (Nat.lt_of_lt_of_le (Heap.lt_size e) hT);have nU:∀ b o,s.heap.get? b=some o->b≠U:=fun b o e=>Nat.ne_of_lt (Nat.lt_of_lt_of_le (Heap.lt_size e) hU);have up:∀{b:Addr} {o:HO},H b=some o->upd (upd H T (.tup xs)) U (.tup ys) b=some o:=fun e=>by
  rw[ak (ao e hUn),ak (ao e hTn)];exact e
 refine I.step (g':=s.gens) (d':=s.drawn) (ch:=wr) (fun b hb=>?_) (fun b o _ _ hc e _=>kk b o hc e) (fun b o _ _ hc e _=>⟨o.slots,kk b o hc e⟩) (fun b o _ e n=>by rw[ak (nU b o e),ak (nT b o e)];exact n)
  (fun b o hc e=>⟨o,kk b o hc e⟩) (fun b ys e=>up e) (fun b o u e=>up e) (fun b ps e=>⟨#[],by rw[up e];simp⟩) (fun m hm=>?_) (fun b u e=>?_) I.bare
 ·obtain⟨_,f1,_,f3,f4,f5⟩:=hw b hb;exact⟨f3,f1,f4,f5⟩
 ·obtain⟨o,es,ep,ho,r⟩:=hm;exact⟨o,es,ep,kk _ o (fun z=>(hw _ z).2.1 rfl) ho,r⟩
 ·by_cases hb:b=U
  ·subst hb;rw[af]at e;cases e;exact⟨hz2,vals2,rv2,hu⟩
  ·rw[ak hb]at e
   by_cases hb2:b=T
   ·subst hb2;rw[af]at e;cases e;exact⟨hz,vals,rv,ht⟩
   ·rw[ak hb2]at e;refine(I.hok b u e).stay (fun c v hc q=>kk c v (fun z=>?_) q) (fun c q=>up q) fun c ys q=>up q;have hn:=(hw c z).1;rcases hc with hc|hc
    ·rw[hc,e]at hn;cases hn
    ·rw[hc]at hn;cases hn
def Zf (K:Frag)(a b:Addr):It :=
 ⟨fun i H=>∃ xs ys x y,a7 K H a xs/\a7 K H b ys/\xs[i]? = some x/\ys[i]? = some y,
  fun i H p H'=>∃ x y t0 t1,p=.ref t1/\H t0=none/\H t1=none/\t0≠t1/\(∀ xs,a7 K H a xs->xs[i]? = some x)/\(∀ ys,a7 K H b ys->ys[i]? = some y)/\H'=upd (upd H t0 (.tup [x,y])) t1 (.tup [.int i,.ref t0]),
  fun i H=>∃ xs ys,a7 K H a xs/\a7 K H b ys/\xs.length<=i⟩
theorem adB {P:Program}{w:World}{K:Frag}{es:List Expr}{k:Nat}{tp:Pos}{e z TI TO i1 i2:Addr}(a b:Addr)(O:Ar z TI TO i1 i2)(hne:∀ c∈[z,TI,TO,i1,i2],e≠c) :
  Turn P w K (.Tuple es k tp) (Zf K a b) [e,z,TI,TO,i1,i2] e (fun i h=>(∃ old,IsEnum h e z i old)/\abt z TI TO i1 i2 a b i h) where
 mem:=by simp
 obj:=fun i h st c hc=>by
  obtain⟨⟨old,he⟩,⟨f0,f1,hz,_⟩,hTI,⟨x,y,hTO⟩,⟨o1,e1,_,d1⟩,⟨o2,e2,_,d2⟩⟩:=st;have hc':c=e\/c=z\/c=TI\/c=TO\/c=i1\/c=i2:=by simpa using hc
  rcases hc' with rfl|rfl|rfl|rfl|rfl|rfl
  ·exact⟨_,he,fun v q=>by
    have q':Data.fields _=Data.cell v:=q;cases q'⟩
  ·exact⟨_,hz,fun v q=>by
    have q':Data.fields _=Data.cell v:=q;cases q'⟩
  ·exact⟨_,hTI,fun v q=>by
    have q':Data.seq _ _=Data.cell v:=q;cases q'⟩
  ·exact⟨_,hTO,fun v q=>by
    have q':Data.seq _ _=Data.cell v:=q;cases q'⟩
  ·exact⟨o1,e1,fun v q=>by rw[d1]at q;cases q⟩
  ·exact⟨o2,e2,fun v q=>by rw[d2]at q;cases q⟩
 keep:=fun i h h' st kp=>by
  obtain⟨⟨old,he⟩,⟨f0,f1,hz,hl⟩,hTI,⟨x,y,hTO⟩,h1,h2⟩:=st;exact⟨⟨old,kp e (by simp) _ he⟩,⟨f0,f1,kp z (by simp) _ hz,hl⟩,kp TI (by simp) _ hTI,⟨x,y,kp TO (by simp) _ hTO⟩,h1.at fun o q=>kp i1 (by simp) o q,h2.at fun o q=>kp i2 (by simp) o q⟩
 item:=by
  intro X hP hw hK hc i pins s σ H E I hf st hg;subst hP hw hK;obtain⟨xs,ys,x,y,hq,hq2,hx,hy⟩:=hg;obtain⟨⟨old,he⟩,stz⟩:=st;have D:ZipApart z TI TO i1 i2 a b:=by
   obtain⟨⟨f0,f1,hz,_⟩,hTI,⟨x,y,hTO⟩,⟨o1,e1,c1,_⟩,⟨o2,e2,c2,_⟩⟩:=stz;have nz:∀{c:Addr} {zs:List V},a7 X.K H c zs->c≠z:=fun h=>cK (K:=X.K) I h hz (by intro q;injection q with q;exact absurd q (by decide));have nT:∀{c:Addr} {zs:List V},a7 X.K H c zs->c≠TO:=fun h=>cK (K:=X.K) I h hTO (by intro q;injection q with q;exact absurd q (by decide));have n1:∀{c:Addr} {zs:List V},a7 X.K H c zs->c≠i1:=fun h=>cK (K:=X.K) I h e1 (by rw[c1];intro q;injection q with q;exact absurd q (by decide));have n2:∀{c:Addr} {zs:List V},a7 X.K H c zs->c≠i2:=fun h=>cK (K:=X.K) I h e2 (by rw[c2];intro q;injection q with q;exact absurd q (by decide));exact⟨O.TIz,O.TOz,O.i1z,O.i2z,O.TITO,O.TIi1,O.TIi2,O.TOi1,O.TOi2,O.i12,nz hq,nT hq,n1 hq,n2 hq,nz hq2,nT hq2,n1 hq2,n2 hq2⟩
  obtain⟨its,rv,p,_⟩:=I.list hq;obtain⟨its2,rv2,p2,_⟩:=I.list hq2;obtain⟨u,hu,ru⟩:=rv.get hx;obtain⟨u2,hu2,ru2⟩:=rv2.get hy;refine adz D hne he stz p.isList p2.isList (x:=u) (y:=u2) (by simpa using hu) (by simpa using hu2) fun h' tk q1 q2 q3 q4 kk=>?_;refine⟨_,rfl,?_⟩;have sub:∀ c∈[e,z,TO,i1,i2],c∈[e,z,TI,TO,i1,i2]:=fun c hc=>by
   have:c=e\/c=z\/c=TO\/c=i1\/c=i2:=by simpa using hc
   simp;rcases this with r|r|r|r|r <;> simp[r]
  have fw:∀ c∈[e,z,TO,i1,i2],o9 X pins H c:=fun c hc=>hf c (sub c hc);have I1:Inv X pins σ (upd (upd H s.heap.objs.size (.tup [x,y])) (s.heap.objs.size+1) (.tup [.int i,.ref s.heap.objs.size])) { s with heap:=h',toks:=tk+1 }:=by
   refine I.adA (vals:=[u,u2]) (vals2:=[.int i tk,.ref s.heap.objs.size]) fw (Nat.le_refl _) (Nat.le_succ _) (Nat.ne_of_lt (Nat.lt_succ_self _)) ⟨_,q3,rfl,_,rfl⟩ (.cons ru (.cons ru2 .nil)) (by show 2<=sizeLine;decide)
    ⟨_,q4,rfl,_,rfl⟩ (.cons ⟨tk,rfl⟩ (.cons rfl .nil)) (by show 2<=sizeLine;decide) kk fun c hc=>?_
   obtain⟨⟨f0,f1,m1,_⟩,_,⟨_,_,m2⟩,⟨o1,m3,_⟩,⟨o2,m4,_⟩⟩:=q2;have:c=e\/c=z\/c=TO\/c=i1\/c=i2:=by simpa using hc
   rcases this with rfl|rfl|rfl|rfl|rfl
   ·exact⟨_,q1⟩
   ·exact⟨_,m1⟩
   ·exact⟨_,m2⟩
   ·exact⟨_,m3⟩
   ·exact⟨_,m4⟩
  have hT0:H s.heap.objs.size=none:=I.hok.fresh (Nat.le_refl _);have hT1:H (s.heap.objs.size+1)=none:=I.hok.fresh (Nat.le_succ _);have lt:∀ c∈[e,z,TI,TO,i1,i2],c<s.heap.objs.size:=fun c hc=>by
   obtain⟨⟨f0,f1,m1,_⟩,m5,⟨_,_,m2⟩,⟨o1,m3,_⟩,⟨o2,m4,_⟩⟩:=stz;have hc':c=e\/c=z\/c=TI\/c=TO\/c=i1\/c=i2:=by simpa using hc
   rcases hc' with rfl|rfl|rfl|rfl|rfl|rfl
   ·exact Heap.lt_size he
   ·exact Heap.lt_size m1
   ·exact Heap.lt_size m5
   ·exact Heap.lt_size m2
   ·exact Heap.lt_size m3
   ·exact Heap.lt_size m4
  refine wpAny_letOwnedTupleGo_enum q1 fun h'' akl hs''=>?_;have hf2:∀ c∈[e,z,TI,TO,i1,i2],o9 X pins (upd (upd H s.heap.objs.size (.tup [x,y])) (s.heap.objs.size+1) (.tup [.int i,.ref s.heap.objs.size])) c:=fun c hc=>by
   obtain⟨f0,fr⟩:=hf c hc;have l:=lt c hc;exact⟨by rw[ak (Nat.ne_of_lt (Nat.lt_succ_of_lt l)),ak (Nat.ne_of_lt l)];exact f0,fr⟩
  have kk2:∀ c o,c ∉ [e]->h'.get? c=some o->h''.get? c=some o:=fun c o hc q=>hs''.extBut c o (fun r=>hc (by simp[r])) q;have up:∀{c:Addr} {o:Obj},c∈[z,TI,TO,i1,i2]->h'.get? c=some o->h''.get? c=some o:=fun hc q=>hs''.extBut _ _ (hne _ hc).symm q;have fe:∀ c∈[e],o9 X pins (upd (upd H s.heap.objs.size (.tup [x,y])) (s.heap.objs.size+1) (.tup [.int i,.ref s.heap.objs.size])) c:=fun c hc=>by
   have:c=e:=by simpa using hc
   exact hf2 c (by simp[this])
  refine⟨.ref (s.heap.objs.size+1),_,I1.kj (tk:=tk+1) (wr:=[e]) fe kk2,rfl,⟨x,y,s.heap.objs.size,s.heap.objs.size+1,rfl,hT0,hT1,Nat.ne_of_lt (Nat.lt_succ_self _),uB I hq hx,uB I hq2 hy,rfl⟩,?_,fun c hc=>(hf2 c hc).1⟩;obtain⟨⟨f0,f1,m1,m1'⟩,m5,⟨_,_,m2⟩,m3,m4⟩:=q2;exact⟨⟨_,by simpa using akl⟩,⟨f0,f1,up (by simp) m1,m1'⟩,up (by simp) m5,⟨_,_,up (by simp) m2⟩,m3.at fun o q=>up (by simp) q,m4.at fun o q=>up (by simp) q⟩
 done:=by
  intro X hP hw hK hc i pins s σ H E I hf st hg;subst hP hw hK;obtain⟨xs,ys,hq,hq2,hx⟩:=hg;obtain⟨⟨old,he⟩,stz⟩:=st;have D:ZipApart z TI TO i1 i2 a b:=by
   obtain⟨⟨f0,f1,hz,_⟩,hTI,⟨x,y,hTO⟩,⟨o1,e1,c1,_⟩,⟨o2,e2,c2,_⟩⟩:=stz;have nz:∀{c:Addr} {zs:List V},a7 X.K H c zs->c≠z:=fun h=>cK (K:=X.K) I h hz (by intro q;injection q with q;exact absurd q (by decide));have nT:∀{c:Addr} {zs:List V},a7 X.K H c zs->c≠TO:=fun h=>cK (K:=X.K) I h hTO (by intro q;injection q with q;exact absurd q (by decide));have n1:∀{c:Addr} {zs:List V},a7 X.K H c zs->c≠i1:=fun h=>cK (K:=X.K) I h e1 (by rw[c1];intro q;injection q with q;exact absurd q (by decide));have n2:∀{c:Addr} {zs:List V},a7 X.K H c zs->c≠i2:=fun h=>cK (K:=X.K) I h e2 (by rw[c2];intro q;injection q with q;exact absurd q (by decide));exact⟨O.TIz,O.TOz,O.i1z,O.i2z,O.TITO,O.TIi1,O.TIi2,O.TOi1,O.TOi2,O.i12,nz hq,nT hq,n1 hq,n2 hq,nz hq2,nT hq2,n1 hq2,n2 hq2⟩
  obtain⟨its,rv,p,_⟩:=I.list hq;have hl:=rv.length;refine af1 (I.ok.hd hc) D he stz p.isList (Array.getElem?_eq_none (by simp;omega)) fun h' kk=>?_;refine⟨rfl,I.kj (tk:=s.toks) (wr:=[e,z,TO,i1,i2]) (fun c hc=>hf c ?_) kk⟩;have:c=e\/c=z\/c=TO\/c=i1\/c=i2:=by simpa using hc
  simp;rcases this with r|r|r|r|r <;> simp[r]
 self:=fun _ _ _ _ _ st h=>by
  obtain⟨⟨old,he⟩,_⟩:=st;exact wpAny_pyIter_enum he h
inductive ahT (K:Frag)(R:(It->Hp->Prop))(x:V)(y:V)(H2:Hp):Prop
 |mk (a:_) (b:_) (fI:x=.ref a) (fJ:y=.ref b) (hI:(∃ xs,a7 K H2 a xs)/\(∃ ys,a7 K H2 b ys)/\R (Zf K a b) H2):ahT K R x y H2
def iEz (K:Frag)(tl tm:TE):TI:=fun σ H R=>tl σ H fun x H1=>tm σ H1 fun y H2=>ahT K R x y H2
theorem adC {l m:Expr}{tl tm:TE}{p pos:Pos}(hg:Gl X "zip")(hz:X.mg "zip"=none)(hl:PE X l tl)(hm:PE X m tm)(hs:starEach [l,m] X.env=[(false,eval l X.env),(false,eval m X.env)])(hs2:starEach [m] X.env=[(false,eval m X.env)])
  {R:V->V->Hp->Prop} (I:Inv X pins σ H s) (h:tl σ H fun x H1=>tm σ H1 fun y H2=>R x y H2) (hR:∀ x y H1,R x y H1->∃ a b,x=.ref a/\y=.ref b/\(∃ xs,a7 X.K H1 a xs)/\∃ ys,a7 X.K H1 b ys) :
  wpAny (model X.prog X.w) X.A (eval (.Call (.Name "zip" p) [l,m] [] pos) X.env) (fun v s1=>∃ a b z TI TO i1 i2 H1,R (.ref a) (.ref b) H1/\v=.ref z/\Inv X pins σ H1 s1/\Ar z TI TO i1 i2/\IsZip s1.heap z TI TO .none/\Yq z TI TO i1 i2 a b 0 s1.heap/\∀ c∈[z,TI,TO,i1,i2],o9 X pins H1 c) X.xe s:=by
 refine Call_ (tU I hg hz abg (PyProof.Rows.callWith_type1 (cD (abn hl hm hs hs2 pos pins s σ H I h) fun us s1 ⟨x,y,u,v,H1,I1,e1,r1,r2,q1⟩=>?_) (by rw[hs,hs2]) (by rw[hs2];rfl)));obtain⟨a,b,rfl,rfl,⟨xs,hq⟩,⟨ys,hq2⟩⟩:=hR _ _ _ q1;subst e1;cases r1;cases r2;obtain⟨its,rv,pl,_⟩:=I1.list hq;obtain⟨its2,rv2,pl2,_⟩:=I1.list hq2;refine call_zip_2 pl.isList pl2.isList fun h' z1 z2 z3 z4 z5 hsz kk=>?_;have O:Ar (s1.heap.objs.size+4) (s1.heap.objs.size+2) (s1.heap.objs.size+3) s1.heap.objs.size (s1.heap.objs.size+1):=by
  constructor <;> exact(by intro q;have q':(_:Nat)=_:=q;omega)
 refine⟨a,b,_,_,_,_,_,H1,q1,rfl,I1.kept (t':=s1.toks) kk,O,z1,⟨z1,z2,⟨_,_,z3⟩,z4,z5⟩,fun c hc=>?_⟩;have hc':s1.heap.objs.size<=c:=by
  have:c=s1.heap.objs.size+4\/c=s1.heap.objs.size+2\/c=s1.heap.objs.size+3\/c=s1.heap.objs.size\/c=s1.heap.objs.size+1:=by simpa using hc
  rcases this with r|r|r|r|r <;> (rw[r];first|exact Nat.le_add_right _ _|exact Nat.le_refl _)
 exact I1.OK hc' (I1.hok.fresh hc')
theorem ahU {l m:Expr}{tl tm:TE}{p p2 pos pos2 tp:Pos}{es:List Expr}{k:Nat}(hg:Gl X "zip")(hz:X.mg "zip"=none)(hg2:Gl X "enumerate")(hm2:X.mg "enumerate"=none)(hl:PE X l tl)(hm:PE X m tm)
  (hs:starEach [l,m] X.env=[(false,eval l X.env),(false,eval m X.env)]:=by rfl) (hs2:starEach [m] X.env=[(false,eval m X.env)]:=by rfl)
  (hs3:starEach [Expr.Call (.Name "zip" p) [l,m] [] pos] X.env=[(false,eval (.Call (.Name "zip" p) [l,m] [] pos) X.env)]:=by rfl) :
  PI X (.Tuple es k tp) (.Call (.Name "enumerate" p2) [.Call (.Name "zip" p) [l,m] [] pos] [] pos2) (iEz X.K tl tm):=by
 intro pins s σ H R I h;have hev:wpAny (model X.prog X.w) X.A (spliced (backTo pos2 (starEach [Expr.Call (.Name "zip" p) [l,m] [] pos] X.env))) (fun us s1=>∃ a b z TI TO i1 i2 H1,R (Zf X.K a b) H1/\us=[.ref z]/\Inv X pins σ H1 s1/\Ar z TI TO i1 i2/\IsZip s1.heap z TI TO .none/\Yq z TI TO i1 i2 a b 0 s1.heap/\∀ c∈[z,TI,TO,i1,i2],o9 X pins H1 c) X.xe s:=by
  rw[hs3];refine Calls.spliced_cons (cD (adC hg hz hl hm hs hs2 I h fun x y H1 ⟨a,b,e1,e2,q1,q2,_⟩=>⟨a,b,e1,e2,q1,q2⟩) fun v s1 ⟨a,b,z,TI,TO,i1,i2,H1,q,e,I1,O,g1,g2,g3⟩=>Calls.spliced_nil ?_);obtain⟨a',b',e1,e2,_,_,q⟩:=q;cases e1;cases e2;exact⟨a,b,z,TI,TO,i1,i2,H1,q,by rw[e],I1,O,g1,g2,g3⟩
 refine Call_ (tU I hg2 hm2 C8 (PyProof.Rows.callWith_type1 (cD hev fun us s1 ⟨a,b,z,TI,TO,i1,i2,H1,q,e,I1,O,g1,g2,g3⟩=>?_) (by rw[hs3];rfl) (by rfl)));subst e;refine Au g1 fun h' he kk=>?_;refine wpAny_pyIter_enum he ?_;obtain⟨y1,y2,⟨y3,y4,y5⟩,y6,y7⟩:=g2;have hne:∀ c∈[z,TI,TO,i1,i2],s1.heap.objs.size≠c:=fun c hc=>by
  have hc':c=z\/c=TI\/c=TO\/c=i1\/c=i2:=by simpa using hc
  rcases hc' with rfl|rfl|rfl|rfl|rfl
  ·exact Nat.ne_of_gt (Heap.lt_size y1)
  ·exact Nat.ne_of_gt (Heap.lt_size y2)
  ·exact Nat.ne_of_gt (Heap.lt_size y5)
  ·obtain⟨_,y,_⟩:=y6;exact Nat.ne_of_gt (Heap.lt_size y)
  ·obtain⟨_,y,_⟩:=y7;exact Nat.ne_of_gt (Heap.lt_size y)
 refine⟨s1.heap.objs.size,[s1.heap.objs.size,z,TI,TO,i1,i2],_,_,H1,rfl,I1.kept (t':=s1.toks) kk,adB a b O hne,⟨⟨.none,he⟩,⟨.none,.bool false,kk _ _ y1,.inl rfl,false,rfl⟩,kk _ _ y2,⟨y3,y4,kk _ _ y5⟩,y6.at fun o q=>kk _ _ q,y7.at fun o q=>kk _ _ q⟩,fun c hc=>?_,q⟩;rcases List.mem_cons.mp hc with rfl|hc
 ·exact I1.OK (Nat.le_refl _) (I1.hok.fresh (Nat.le_refl _))
 ·exact g3 c hc
end
theorem af2 {K:Frag}{a b:Addr}{xs ys:List V}{g:TG}{tb:TS}{D:Ends}{σ:St}{H:Hp}(Pv:Nat->St->Hp->Prop)(he:xs.length=ys.length)(h0:Pv 0 σ H)(hl:∀ i σ H,Pv i σ H->a7 K H a xs/\a7 K H b ys)
  (hs:∀ i x y t u σ H,xs[i]? = some x->ys[i]? = some y->Pv i σ H->H t=none->H u=none->t≠u->g (.ref u) σ (upd (upd H t (.tup [x,y])) u (.tup [.int i,.ref t])) fun σ2 H2=>tb { D with nx:=Pv (i+1),ct:=Pv (i+1),bk:=D.nx } σ2 H2) (hd:∀ σ H,Pv xs.length σ H->D.nx σ H) :
  ∃ W:Nat->Nat->St->Hp->Prop,(∃ m,W 0 m σ H)/\∀ i m σ H,W i m σ H ->
   ((Zf K a b).stop i H/\D.nx σ H)\/((Zf K a b).go i H/\∃ N:St->Hp->Prop,(∀ σ' H',N σ' H'->∃ m',m'<m/\W (i+1) m' σ' H')/\∀ x H',(Zf K a b).YX i H x H'->g x σ H' fun σ2 H2=>tb { D with nx:=N,ct:=N,bk:=D.nx } σ2 H2):=by
 refine⟨fun i m σ H=>m=xs.length-i/\i<=xs.length/\Pv i σ H,⟨xs.length,by simp,Nat.zero_le _,h0⟩,?_⟩;rintro i m σ H ⟨rfl,hi,p⟩;obtain⟨q,q2⟩:=hl i σ H p
 by_cases hlt:i<xs.length
 ·have hlt2:i<ys.length:=by omega
  refine .inr ⟨⟨xs,ys,xs[i],ys[i],q,q2,by simp[hlt],by simp[hlt2]⟩,Pv (i+1),fun σ' H' p'=>⟨xs.length-(i+1),by omega,rfl,hlt,p'⟩,fun x H' y=>?_⟩;obtain⟨x0,y0,t,u,rfl,hn,hn2,tu,hx,hy,rfl⟩:=y;exact hs i x0 y0 t u σ H (hx xs q) (hy ys q2) p hn hn2 tu
 ·have e:i=xs.length:=by omega
  subst e;exact .inl ⟨⟨xs,ys,q,q2,Nat.le_refl _⟩,hd σ H p⟩
end L2
set_option maxHeartbeats 4000000
namespace L2
open PySem PySem.Spec PyProof.Rows
structure Ks (K:Frag)(x qual:Str)(st:Stmt)(f:Addr)(fd:FuncData)(dV:Value):Prop where
 ex:∃(oc:Value)(od:Option Addr)(kV doc pm:Value)(an:Option Addr)(cdv ct:Value)(osl:Array (Option Value)),
  fd=fnOf x qual (aC st) (aA st) (ah st) dV kV doc pm an cdv ct/\K.lookup f=some ⟨oc,od,.func fd,osl⟩/\codeIn K cdv qual=true
 kp:keepIn K (.ref f)=true
section
variable {P:Program} {w:World} {K:Frag} {mg:Str->Option Value} {base:Heap}
theorem Ks.ok {x qual:Str}{st:Stmt}{f:Addr}{fd:FuncData}{dV:Value}{N ps:List Str}{k:Nat}{sp:Sp}(F:Ks K x qual st f fd dV)(S:aD N ps (ah st))(len:∀ vs H Q E,sp vs H Q E->vs.length=ps.length)
  (hbody:∀(cdv:Value)(A:Around)(outer:List Env)(s:Shared)(H:Hp)(vs:List V)(Q:VK)(E:XK),jB k (A.deeper (envOfC qual (ah st) s.heap.objs.size f cdv))->sp vs H Q E ->
   ∃ t,J7 (cJ mJ P w K mg base N qual (ah st) f cdv A outer s H E).nox (aA st) t/\t { nx:=fun _ H'=>Q .non H',rt:=Q } (start N vs) H):bE P w K mg base mJ (k+1) f fd ps sp:=by
 obtain⟨oc,od,kV,doc,pm,an,cdv,ct,osl,rfl,lk,hcd⟩:=F.ex;refine Ye lk hcd S len fun A outer s H vs Q E hr hsp=>?_;obtain⟨t,h,q⟩:=hbody cdv A outer s H vs Q E hr hsp;exact⟨t,h.nox,q⟩
theorem Ks.binds {x qual:Str}{st:Stmt}{f:Addr}{fd:FuncData}{T:Addr}{o:Obj}{items:Array Value}{n:Nat}{ps:List Str}{ds:List Value}(F:Ks K x qual st f fd (.ref T))(lk:K.lookup T=some o)(hs:o.data=.seq items n)
  (h:∀(kV doc pm:Value)(an:Option Addr)(cdv ct:Value)(us:List Value),(us++ds).length=ps.length->∃ k,bindArgs (fnOf x qual (aC st) (aA st) (ah st) (.ref T) kV doc pm an cdv ct) ⟨us,[]⟩=seqItems? (.ref T) >>= k/\k (some items)=pure (ps.zip (us++ds))):Binds K fd ps ds:=by
 obtain⟨oc,od,kV,doc,pm,an,cdv,ct,osl,rfl,lkf,hcd⟩:=F.ex;intro s us KI hl;obtain⟨k,h1,h2⟩:=h kV doc pm an cdv ct us hl;exact BindsTo.of_defaults rfl (KI _ _ lk) hs h1 h2
theorem Ka {x qual:Str}{st:Stmt}{f:Addr}{oc:Value}{od an:Option Addr}{osl:Array (Option Value)}{dV kV doc pm cdv ct:Value}(l:K.lookup f=some ⟨oc,od,.func (fnOf x qual (aC st) (aA st) (ah st) dV kV doc pm an cdv ct),osl⟩)
  (c:codeIn K cdv qual=true) (k:keepIn K (.ref f)=true):Ks K x qual st f (fnOf x qual (aC st) (aA st) (ah st) dV kV doc pm an cdv ct) dV:=⟨⟨oc,od,kV,doc,pm,an,cdv,ct,osl,rfl,l,c⟩,k⟩
end
inductive Vc (w:World):List DictEntry->List (Str×V)->Prop
 |nil:Vc w [] []
 |cons {x:Str} {t:Tok} {u:Value} {v:V} {es:List DictEntry} {kvs:List (Str×V)}:RelV v u->Vc w es kvs->Vc w (⟨PyData.keyHash w.params x,.str x t,u⟩::es) ((x,v)::kvs)
structure KD (K:Frag)(w:World)(a:Addr)(kvs:List (Str×V)):Prop where
 sys:(a==sysModules)=false
 ok:∃ es n,K.lookup a=some ⟨.type "dict",none,.dict es n,#[]⟩/\Vc w es.toList kvs/\(kvs.map (·.1)).Nodup
theorem Vc.vs (P:Program){w:World}:∀{es:List DictEntry} {kvs:List (Str×V)},Vc w es kvs->∃ vs:List (Key×Value),Pairs (b8 P w) es vs/\vs.map (·.1)=kvs.map (fun p=>(Sum.inr p.1:Key)) /\
  (∀ e∈es,∃ k,(b8 P w).is k e.key=true/\e.hash=(b8 P w).hash k)/\∀ x,o8 (kvs.lookup x) (valueAt vs (Sum.inr x))
 |_,_,.nil=>⟨[],.nil,rfl,fun e h=>by simp at h,fun x=>True.intro⟩
 |_,_,.cons (x:=x) (t:=t) (u:=u) (v:=v) r q=>by
  obtain⟨vs,h1,h2,h3,h4⟩:=Vc.vs P q;refine⟨(Sum.inr x,u)::vs,.cons (kI P w x t) rfl h1,by rw[map_cons,map_cons,h2],fun e he=>?_,fun y=>?_⟩
  ·rcases List.mem_cons.mp he with rfl|he
   ·exact⟨Sum.inr x,kI P w x t,rfl⟩
   ·exact h3 e he
  ·by_cases hy:y=x
   ·subst hy;unfold valueAt;simp only [List.lookup_cons,List.find?_cons];simp;exact r
   ·unfold valueAt;have h5:=h4 y;unfold valueAt at h5;have e1:(y==x)=false:=by simpa using hy
    have e2:decide ((Sum.inr x:Key)=Sum.inr y)=false:=decide_eq_false fun e=>hy (Sum.inr.inj e).symm;simp only [List.lookup_cons,e1,List.find?_cons,e2];exact h5
theorem N3:∀{l:List Str},l.Nodup->(l.map (fun p=>(Sum.inr p:Key))).Nodup
 |[],_=>.nil
 |x::l,h=>by
  rw[map_cons,List.nodup_cons];obtain⟨h1,h2⟩:=List.nodup_cons.mp h;refine⟨fun z=>?_,N3 h2⟩;obtain⟨y,hy,e⟩:=mem_map.mp z;cases e;exact h1 hy
theorem KD.dict (P:Program){K:Frag}{w:World}{a:Addr}{kvs:List (Str×V)}{h:Heap}(d:KD K w a kvs)(hi:K.In h):∃ vs,h.DictOf (b8 P w) a vs/\∀ x,o8 (kvs.lookup x) (valueAt vs (Sum.inr x)):=by
 obtain⟨es,n,lk,ok,nd⟩:=d.ok;obtain⟨vs,h1,h2,h3,h4⟩:=ok.vs P;refine⟨vs,⟨_,es,n,hi _ _ lk,⟨rfl,rfl,rfl⟩,rfl,fun e he=>h3 e (by simpa using he),h1,?_⟩,h4⟩;rw[h2];have:=N3 nd;rw[List.map_map]at this;exact this
theorem o8.adD {o:Option V}{u:Option Value}(r:o8 o u):o.isSome=u.isSome:=by
 cases o <;> cases u <;> first|rfl|exact False.elim r
theorem o8.ahV {o:Option V}{u:Option Value}{d:V}{d':Value}(r:o8 o u)(rd:RelV d d'):RelV (o.getD d) (u.getD d'):=by
 cases o with
 |none=>cases u with
  |none=>exact rd
  |some _=>exact False.elim r
 |some v=>cases u with
  |none=>exact False.elim r
  |some _=>exact r
section
variable {X:Cx}
theorem abu:vm X (compareOp .In) (fun x y H Q=>∃ a z kvs,x=.str z/\y=.ref a/\KD X.K X.w a kvs/\Q (.bl (kvs.lookup z).isSome) H):=by
 intro pins s σ H x y v u Q I rx ry h;obtain⟨a,z,kvs,rfl,rfl,d,q⟩:=h;obtain⟨t,rfl⟩:=rx;cases ry;obtain⟨vs,dd,rel⟩:=d.dict X.prog I.xj;refine wpAny_in_of (knd:=b8 X.prog X.w) (k:=Sum.inr z) (kI _ _ z t) d.sys dd.mapOf ?_;rw[<-(rel z).adD];exact⟨.bl _,H,I.tok _,rfl,q⟩
theorem ae6:IxR X (fun x y H Q=>∃ a z kvs r,x=.ref a/\y=.str z/\KD X.K X.w a kvs/\kvs.lookup z=some r/\Q r H):=by
 intro value slice pins s σ H x y v u Q I rx ry h hs;obtain⟨a,z,kvs,r,rfl,rfl,d,l,q⟩:=h;cases rx;obtain⟨t,rfl⟩:=ry;obtain⟨vs,dd,rel⟩:=d.dict X.prog I.xj;have hr:=rel z;rw[l]at hr;cases hv:valueAt vs (Sum.inr z) with
 |none=>rw[hv]at hr;exact False.elim hr
 |some rv =>
  rw[hv]at hr;exact subscriptTail_builtinR (x:=rv) dd.typeIs PySem.F.slot_dict_getitem.lookup
   (wpAny_getItem_of (knd:=b8 X.prog X.w) (k:=Sum.inr z) (kI _ _ z t) dd.mapOf hv ⟨rfl,⟨r,H,I.tok _,hr,q⟩⟩) hs
def af3 (K:Frag)(w:World)(td ty tx:TE):TE:=fun σ H Q=>td σ H fun x H1=>∃ a kvs,x=.ref a/\KD K w a kvs/\ty σ H1 fun y H2=>tx σ H2 fun z H3=>∃ k,y=.str k/\Q ((kvs.lookup k).getD z) H3
theorem abv {o e f:Expr}{apos cpos:Pos}{td ty tx:TE}(ho:PE X o td)(he:PE X e ty)(hf:PE X f tx)
  (base:attributeBase o "get" X.env (eval o X.env)=eval o X.env:=by rfl)
  (few:((backTo cpos (starEach [e,f] X.env)).all (fun x=>!x.1)&&(backToKw cpos (keywordEach [] X.env)).all (fun x=>x.1.isSome)
   && decide (([e,f]:List Expr).length+([]:List Keyword).length+(if([]:List Keyword).isEmpty then 0 else 1)<30))=true:=by rfl)
  (line:(apos.endLine==cpos.line)=true:=by rfl) (trees:backTo cpos (starEach [e,f] X.env)=[(false,eval e X.env),(false,eval f X.env)]:=by rfl) :
  PE X (.Call (.Attribute o "get" apos) [e,f] [] cpos) (af3 X.K X.w td ty tx):=by
 intro pins s σ H Q I h;refine wpAny_Call_method base few line plainAttrs_dict slot_dict_get type_dict_get (cD (ho pins s σ H _ I h) fun u s1 ⟨x,H1,I1,rx,a,kvs,ex,d,q1⟩=>?_);subst ex;obtain rfl:u=Value.ref a:=rx;obtain⟨vs,dd,rel⟩:=d.dict X.prog I1.xj;refine⟨dd.typeIs,fun b q=>?_,?_⟩
 ·cases q;obtain⟨ob,_,_,h1,h2,_⟩:=dd;exact⟨ob,h1,h2.2.1⟩
 rw[trees];refine Calls.callWith_builtin rfl (Calls.evalArgs_plain (Calls.spliced_cons (cD (he pins s1 σ H1 _ I1 q1) fun iv s2 ⟨y,H2,I2,ry,q2⟩ =>
  Calls.spliced_cons (cD (hf pins s2 σ H2 _ I2 q2) fun fv s3 ⟨z,H3,I3,rz,k,ek,q3⟩=>Calls.spliced_nil ?_))))
 subst ek;obtain⟨t,rfl⟩:=ry;obtain⟨vs3,dd3,akm⟩:=d.dict X.prog I3.xj;exact call_meetsIn slot_dict_get dd3.typeIs entry_dict_get (args_dict_get_3 _ _ _) (meets_dict_get_default (b8 X.prog X.w) a (kI _ _ k t) d.sys fv) ⟨_,dd3.mapOf,_,H3,I3.tok _,(akm k).ahV rz,q3⟩
end
end L2
set_option maxHeartbeats 4000000
namespace L2
open PySem PySem.Spec PyProof.Rows
def ahW (t:TE):TE:=fun σ H Q=>∃ R:V->Hp->Prop,t σ H R/\∀ v H',R v H'->Q v H'
def ahX (t:TT):TT:=fun σ H Q=>∃ R:Bool->Hp->Prop,t σ H R/\∀ v H',R v H'->Q v H'
def ahY (t:TS):TS:=fun D σ H=>∃ R:St->Hp->Prop,t { D with nx:=R } σ H/\∀ σ' H',R σ' H'->D.nx σ' H'
section
variable {X:Cx}
theorem cI {e:Expr}{t:TE}(h:PE X e t):PE X e (ahW t):=by
 intro pins s σ H Q I ⟨R,hR,hQ⟩;exact cD (h pins s σ H R I hR) fun u s1 ⟨v,H1,I1,r,q⟩=>⟨v,H1,I1,r,hQ v H1 q⟩
theorem bW {e:Expr}{t:TT}(h:PT X e t):PT X e (ahX t):=by
 intro pins s σ H Q I ⟨R,hR,hQ⟩;exact cD (h pins s σ H R I hR) fun u s1 ⟨H1,I1,q⟩=>⟨H1,I1,hQ u H1 q⟩
theorem lg {st:Stmt}{t:TS}(h:PS X st t):PS X st (ahY t):=by
 intro pins s σ H D I ⟨R,hR,hQ⟩;refine cD (h pins s σ H _ I hR) fun f s1 q=>?_;cases f with
 |next=>exact let ⟨σ',H',I',q'⟩:=q;⟨σ',H',I',hQ _ _ q'⟩
 |brk=>exact q
 |cont=>exact q
 |ret u=>exact q
end
theorem zN {t:TE}{σ:St}{H:Hp}{Q:VK}(v:V)(h:t σ H fun x H1=>x=v/\H1=H)(q:Q v H):∃ R:V->Hp->Prop,t σ H R/\∀ v H',R v H'->Q v H':=⟨_,h,by rintro _ _ ⟨rfl,rfl⟩;exact q⟩
theorem km {t:TT}{σ:St}{H:Hp}{Q:Bool->Hp->Prop}(b:Bool)(h:t σ H fun x H1=>x=b/\H1=H)(q:Q b H):∃ R:Bool->Hp->Prop,t σ H R/\∀ v H',R v H'->Q v H':=⟨_,h,by rintro _ _ ⟨rfl,rfl⟩;exact q⟩
theorem abw {t:TS}{σ:St}{H:Hp}{D:Ends}(σ':St)(H':Hp)(h:t { D with nx:=fun σ1 H1=>σ1=σ'/\H1=H' } σ H)(q:D.nx σ' H'):∃ R:St->Hp->Prop,t { D with nx:=R } σ H/\∀ σ' H',R σ' H'->D.nx σ' H' :=
 ⟨_,h,by rintro _ _ ⟨rfl,rfl⟩;exact q⟩
theorem qe {x v:V}{H:Hp}(e:x=v):x=v/\H=H:=⟨e,rfl⟩
theorem fH {x v:Bool}{H:Hp}(e:x=v):x=v/\H=H:=⟨e,rfl⟩
end L2
set_option maxHeartbeats 4000000
namespace L2
open PySem PySem.Spec PyProof.Rows
abbrev Cx.names (X:Cx)(N:List Str):Cx:={ X with N:=N }
section
variable {X:Cx} {pins:List (Addr×Obj)} {σ:St} {H:Hp} {s:Shared}
end
end L2
set_option maxHeartbeats 4000000
namespace L2
open PySem PySem.Spec PyProof.Rows
section
variable {X:Cx} {tg iter elt:Expr} {ifs:List Expr} {scope:Scope} {pos:Pos} {cn:List Str} {wi:TI} {g:Bk->TG} {tc:Bk->TT} {te:Bk->TE}
theorem Vd {i:Nat}{x:Str}{pos' spos:Pos}(hN:X.N.Nodup)(hix:X.N[i]? = some x)(hx:X.env.scope.names.lookup x=some .local)(hcalm:X.calm=true)(F:h8 X.env.scope X.N scope)(hi:PI X tg iter wi)
  (hg:∀ b,PG (df X cn scope b) tg (g b)) (ht:∀ b,PF (df X cn scope b) ifs (tc b)) (he:∀ b,PE (df X cn scope b) elt (te b))
  (hsw:swapsWith (.ListComp elt [⟨tg,iter,ifs,0⟩] scope pos) (some (.Name x pos')) spos.line X.env=pure true:=by rfl)
  (hs:∀ x,foldedSetIterable iter X.env x=pure x:=by intro _;rfl):PS X (.Assign [.Name x pos'] (.ListComp elt [⟨tg,iter,ifs,0⟩] scope pos) spos) (adm (aba cn.length wi g tc te) (NT i)):=by
 intro pins s σ H D I h;rw[exec_Assign_Name_used _ _ _ _ hsw];refine wpAny_bind (wpAny_standAt (wpAny_bind ?_));rw[arm_evalThenUse_ListComp];refine wpAny_bind ?_;have hcl:closureFor scope X.env=pure (iR X.env scope.names []):=Ym fun p hp e=>I.ok.has p.1 (F.free p hp e);refine wpAny_comprehension_free (use:=some (assign (.Name x pos') X.env)) rfl hs hcl F.kind F.loc (cD (hi pins s σ H _ I h) fun xv s₁ h₁=>cD h₁ fun itv s₂ h₂=>?_);obtain⟨it,fp,tn,J,H2,rfl,I2,T,st,f2,R⟩:=h₂;refine Sf (TH:=fun _=>True) (QQ:=fun D' H'=>D.nx (σ.set i (some (.ref D'))) H') (RR:=fun acc C=>compPost (model X.prog X.w) X.A X.xe (some (assign (.Name x pos') X.env)) _ acc C) hcalm F (fun b _=>hg b) (fun b _=>ht b) (fun b _=>he b) (fun _ _=>trivial) I2 T st f2 R ?_ ?_
 ·intro C D' σ' H' s' hC I' q;obtain⟨m,hm,_⟩:=I'.loc;have hCn:H' C=none:=I'.free;have fC:o9 X pins H' C:=I2.OK hC hCn;have I3:Inv X pins σ H' s':=I2.Yo f2 hC I' ⟨rfl,fun _ _=>rfl⟩;show wpAny (model X.prog X.w) X.A (assign (.Name x pos') X.env (.ref D')) _ X.xe s';refine wpAny_assign_Name (NS I3 hN hix (.inl hx) (v:=.ref D') rfl (fun s'' I4 ⟨a,sa,ha⟩=>?_) (.inr hx));have hne:C≠a:=by
   rcases ha with e|e
   ·rw[e];exact fC.2.1
   ·exact fun z=>fC.2.2.2.2.1 _ _ e z.symm
  obtain⟨o,es,ep,ho,r⟩:=hm;refine⟨m,⟨o,es,ep,(sa.2 C hne).trans ho,r⟩,fun h' sb=>?_⟩;refine wpAny_pure (wpAny_pure ⟨_,H',?_,q⟩);exact I4.kj (tk:=s''.toks) (wr:=[C]) (fun b hb=>by
   have:b=C:=by simpa using hb
   rw[this];exact fC) fun b o hb e=>(sb.2 b (fun z=>hb (by simp[z]))).trans e
 ·intro C D' e s' z;exact z
end
end L2
set_option maxHeartbeats 4000000
namespace L2
open PySem PySem.Spec PyProof.Rows PySem.SeqAt
section
variable {X:Cx}
inductive ae7 (K:Frag)(neg:Bool)(x:V)(y:V)(H:Hp)(Q:VK):Prop
 |mk (a:_) (c:_) (xs:_) (fI:x=.ref a) (fJ:y=.ref c) (hI:a7 K H a xs) (kK:a7 K H c []) (sd:Q (.bl (if neg then !xs.isEmpty else xs.isEmpty)) H):ae7 K neg x y H Q
def akn (K:Frag)(neg:Bool):R2:=fun x y H Q=>ae7 K neg x y H Q
theorem af4 {pins:List (Addr×Obj)}{σ:St}{H:Hp}{s:Shared}{a c:Addr}{xs:List V}(hu:X.A.units+64<cLine)(I:Inv X pins σ H s)(ha:a7 X.K H a xs)(hc:a7 X.K H c []):RcAt X.A s (.ref a) (.ref c) xs.isEmpty/\RcNeAt X.A s (.ref a) (.ref c) (!xs.isEmpty):=by
 obtain⟨its,r,p,_⟩:=I.list ha;obtain⟨its',r',p',_⟩:=I.list hc;have e1:=r.length;have e2:=r'.length;simp at e2;cases xs with
 |nil =>
  simp at e1;have z1:its=[]:=by simpa using e1.symm
  have z2:its'=[]:=by simpa using e2.symm
  subst z1 z2;constructor
  ·have:=RcAt.lists (A:=X.A) (e:=fun _=>true) p.isList p'.isList rfl (by omega) (fun j h1 _=>absurd h1 (by simp))
   simpa using this
  ·have:=RcNeAt.lists (A:=X.A) (e:=fun _=>true) p.isList p'.isList rfl (by omega) (fun j h1 _=>absurd h1 (by simp))
   simpa using this
 |cons x t =>
  have hne:(its.toArray.size != its'.toArray.size)=true:=by
   simp at e1;have z2:its'=[]:=by simpa using e2.symm
   subst z2;have:its.length≠0:=by omega
   simpa using this
  exact⟨RcAt.lists_lengths p.isList p'.isList hne (by omega),RcNeAt.lists_lengths p.isList p'.isList hne (by omega)⟩
theorem Kt (hu:X.A.units+64<cLine):vm X (compareOp .Eq) (akn X.K false):=by
 intro pins s σ H x y v u Q I r1 r2 h;obtain⟨a,c,xs,rfl,rfl,ha,hc,q⟩:=h;cases r1;cases r2;exact(af4 hu I ha hc).1 X.prog X.w X.xe _ ⟨.bl _,H,I,rfl,q⟩
end
end L2
set_option maxHeartbeats 4000000
namespace L2
open PySem PySem.Spec PyProof.Rows
structure OU (X:Cx)(e:Expr)(t:TE):Prop where
 out:PE X e t
structure UL (X:Cx)(es:List Expr)(t:TA):Prop where
 out:PA X es t
theorem Ku {X:Cx}:UL X [] eM:=⟨ae⟩
theorem Sm {X:Cx}{es' es:List Expr}{p:Pos}{te:TE}{t:TA}(h:OU X (.List es' p) te)(hr:UL X es t):UL X (.List es' p::es) (bf te t):=⟨aa h.out hr.out⟩
theorem C9 {X:Cx}{es:List Expr}{c:Const}{k:Nat}{p:Pos}{te:TE}{t:TA}(h:OU X (.Constant c k p) te)(hr:UL X es t):UL X (.Constant c k p::es) (bf te t):=⟨aa h.out hr.out⟩
theorem Ve {X:Cx}{x:Str}{j:Nat}{pos:Pos}:OU X (.Constant (.str x) j pos) (tC (.str x)):=⟨ax⟩
theorem abx {X:Cx}{i:Int}{j:Nat}{pos:Pos}:OU X (.Constant (.int i) j pos) (tC (.int i)):=⟨ai⟩
theorem Vf {X:Cx}{es:List Expr}{pos:Pos}{t:TA}(h:UL X es t):OU X (.List es pos) (oM t):=⟨bx h.out⟩
theorem aby {X:Cx}{es:List Expr}{k:Nat}{pos:Pos}{t:TA}(h:UL X es t):OU X (.Tuple es k pos) (Ap t):=⟨cH h.out⟩
end L2
set_option maxHeartbeats 4000000
namespace L2
open PySem PySem.Spec PyProof.Rows
def Fly (l:List Env)(G:Heap)(e:Addr)(cls:Value)(h:Heap):Prop :=
 ∃ B a0,(∀ b o,G.get? b=some o->b ∉ frs l->B.get? b=some o)/\Heap.FlyingW B l e cls a0 h/\G.UpToSlots h/\G.get? e=none
def iA (P:Program)(w:World):CXT:=fun outer H s E ev s' =>
 ∃ a cls H' G,ev=.ref a/\s'.os=s.os/\AllBare s'.gens/\Un (frs outer) [] H H' s.heap G/\xm P w H' G/\Fly outer G a cls s'.heap/\E cls none H'
abbrev XSt:=St->Value->Hp->Prop
def WX (X:Cx)(XS:XSt):Value->Shared->Prop:=fun ev s' =>
 ∃ pins σ H' G a cls,ev=.ref a/\Inv X pins σ H' { s' with heap:=G }/\Fly X.stack G a cls s'.heap/\XS σ cls H'
def WD (X:Cx)(XS:XSt):Value->Shared->Prop:=fun ev s'=>WX X XS ev s' \/
 ∃ pins σ H' G a cls args,ev=.ref a/\Inv X pins σ H' { s' with heap:=G }/\Heap.MadeExcOf G s'.heap a cls args/\XS σ cls H'
section
variable {X:Cx} {pins:List (Addr×Obj)} {σ:St} {H H':Hp} {s s':Shared}
theorem ahZ {XS:XSt}{ev:Value}(I:Inv X pins σ H s)(h:iA X.prog X.w X.stack H s (fun cls _ H'=>XS σ cls H') ev s'):WX X XS ev s':=by
 obtain⟨a,cls,H',G,e,os,bare,un,hok,fly,q⟩:=h;refine⟨pins,σ,H',G,a,cls,e,?_,fly,q⟩;exact I.call' (s':={ s' with heap:=G }) (ch:=[]) os un hok bare fun b z=>absurd z (by simp)
theorem strike {P:Program}{w:World}{h G:Heap}{L:Addr}{fs:List Addr}(un:Un fs [] H H' h G)(hok:xm P w H' G)(hL:h.objs.size<=L)(hf:H' L=none):Un fs [] H H' h (hideAll G [L])/\xm P w H' (hideAll G [L]):=by
 have get:∀{b o},G.get? b=some o->b≠L->(hideAll G [L]).get? b=some o:=fun e hn=>hideAll_get _ e (by simpa using hn);have ne:∀{b o},h.get? b=some o->b≠L:=fun e z=>absurd (z ▸ Heap.lt_size e) (Nat.not_lt.mpr hL);refine⟨⟨fun b o e n hb hx=>get (un.keep b o e n hb hx) (ne e),fun b o e n hb hx=>?_,un.free,fun b o e hx=>?_,un.tups,un.Kl,un.M9⟩,fun b u e=>?_⟩
 ·obtain⟨sl,z⟩:=un.slot b o e n hb hx;exact⟨sl,get z (ne e)⟩
 ·obtain⟨o',z⟩:=un.there b o e hx;exact⟨o',get z (ne e)⟩
 ·refine(hok b u e).stay (fun c v hc q=>get q ?_) (fun _ q=>q) fun _ _ q=>q;rintro rfl;rcases hc with rfl|hc
  ·rw[hf]at e;cases e
  ·rw[hf]at hc;cases hc
theorem Fly.strike {env:Env}{outer:List Env}{G h:Heap}{B:Heap}{e L:Addr}{cls a0:Value}(hf:env.frame=some L)(cov:∀ b o,G.get? b=some o->b ∉ frs (env::outer)->B.get? b=some o)(fl:Heap.FlyingW B outer e cls a0 h)(up:G.UpToSlots h)(hn:G.get? e=none):Fly outer (hideAll G [L]) e cls h:=by
 have back:∀{b o},(hideAll G [L]).get? b=some o->G.get? b=some o/\b≠L:=fun {b o} q=>⟨of_hideAll _ q,fun z=>by
  rw[hideAll_none [L] (by rw[z];simp)]at q;cases q⟩
 refine⟨B,a0,fun b o q hb=>?_,fl,fun b o q hd=>up b o (back q).1 hd,?_⟩
 ·obtain⟨q1,q2⟩:=back q;refine cov b o q1 ?_;unfold frs;rw[List.filterMap_cons,hf];intro z;rcases List.mem_cons.mp z with z|z
  ·exact q2 z
  ·exact hb z
 ·cases q:(hideAll G [L]).get? e with
  |none=>rfl
  |some o=>rw[(back q).1]at hn;cases hn
end
theorem leaveX {P:Program}{w:World}{K:Frag}{mg:Str->Option Value}{base:Heap}{N:List Str}{qual:Str}{scope:Scope}{f:Addr}{cdv:Value}{A:Around}{outer:List Env}{s:Shared}{H:Hp}{E:XK}{ev:Value}{s':Shared}
  (h:WD (cJ (iA P w) P w K mg base N qual scope f cdv A outer s H E) (fun _ cls H'=>E cls none H') ev s'):(cJ (iA P w) P w K mg base N qual scope f cdv A outer s H E).xe ev s':=by
 rcases h with ⟨pins,σ,H',G,a,cls,rfl,I,⟨B,a0,cov,fl,up,hn⟩,q⟩|⟨pins,σ,H',G,a,cls,args,rfl,I,hm,q⟩
 ·show wpAny (model P w) _ (leaving _ (.ref a)) _ _ s';refine wpAny_leaves_onW I.ok.frames rfl fl fun h' fl' up'=>?_;obtain⟨un,hok⟩:=strike I.base I.hok I.ok.above I.free;exact⟨a,cls,H',_,rfl,I.os,I.bare,un,hok,Fly.strike rfl cov fl' (up.trans up') hn,q⟩
 ·show wpAny (model P w) _ (leaving _ (.ref a)) _ _ s';have hin:∀ env∈(cJ (iA P w) P w K mg base N qual scope f cdv A outer s H E).stack,∀ b,env.frame=some b->b∈frs (cJ (iA P w) P w K mg base N qual scope f cdv A outer s H E).stack:=fun env he b hb=>List.mem_filterMap.mpr ⟨env,he,hb⟩;refine wpAny_leaves_madeW (base:=hideAll G (frs (cJ (iA P w) P w K mg base N qual scope f cdv A outer s H E).stack)) (h:=G) I.ok.frames rfl (fun b o z=>of_hideAll _ z) (PySem.W.funFrames_hide I.stack hin) hm fun h' t fl' _ _ up'=>?_;obtain⟨un,hok⟩:=strike I.base I.hok I.ok.above I.free;exact⟨a,cls,H',_,rfl,I.os,I.bare,un,hok,Fly.strike rfl (fun b o z hb=>hideAll_get _ z hb) fl' ((Heap.UpToSlots.of_keeps hm.keeps).trans up') hm.new,q⟩
theorem J7.abA {X:Cx}{E1:Value->Shared->Prop}{st:List Stmt}{t:TS}(h:J7 (X.wish E1) st t)(hE:∀ e s,E1 e s->X.xe e s):J7 X st t:=fun pins s σ H D I hw =>
 wpAny_mono (h pins s σ H D (I.wish _) hw) (fun _ _ q=>q.mL) hE
section
variable {P:Program} {w:World} {K:Frag} {mg:Str->Option Value} {base:Heap}
theorem jT.OV {x qual:Str}{st:Stmt}{f:Addr}{fd:FuncData}{N ps:List Str}{k:Nat}{sp:Sp}(F:jT K x qual st f fd)(S:aD N ps (ah st))(len:∀ vs H Q E,sp vs H Q E->vs.length=ps.length)
  (hbody:∀(cdv:Value)(A:Around)(outer:List Env)(s:Shared)(H:Hp)(vs:List V)(Q:VK)(E:XK),jB k (A.deeper (envOfC qual (ah st) s.heap.objs.size f cdv))->sp vs H Q E ->
   ∃ t,J7 ((cJ (iA P w) P w K mg base N qual (ah st) f cdv A outer s H E).wish (WD (cJ (iA P w) P w K mg base N qual (ah st) f cdv A outer s H E) fun _ cls H'=>E cls none H')) (aA st) t/\t { nx:=fun _ H'=>Q .non H',rt:=Q } (start N vs) H):bE P w K mg base (iA P w) (k+1) f fd ps sp:=by
 obtain⟨oc,od,kV,doc,pm,an,cdv,ct,osl,rfl,lk,hcd⟩:=F.ex;refine Ye lk hcd S len fun A outer s H vs Q E hr hsp=>?_;obtain⟨t,h,q⟩:=hbody cdv A outer s H vs Q E hr hsp;exact⟨t,h.abA fun _ _ z=>leaveX z,q⟩
end
def af5 (sp:Sp)(se:List V)(XS:XSt)(t:TA):TE:=fun σ H Q=>t σ H fun vs H1=>sp (vs++se) H1 Q fun cls _ H'=>XS σ cls H'
inductive Yr (C:Addr)(m:Str)(sp:Sp)(se:List V)(XS:XSt)(t:TA)(σ:St)(Q:VK)(x:V)(H1:Hp):Prop
 |mk (a:_) (dx:_) (fs:_) (fI:x=.ref a) (fJ:H1 a=some (.ins C dx fs)) (hI:fs.lookup m=none) (kK:t σ H1 fun vs H2=>sp (x::(vs++se)) H2 Q fun cls _ H'=>XS σ cls H'):Yr C m sp se XS t σ Q x H1
def abB (C:Addr)(m:Str)(sp:Sp)(se:List V)(XS:XSt)(ta:TE)(t:TA):TE:=fun σ H Q=>ta σ H fun x H1=>Yr C m sp se XS t σ Q x H1
section
variable {X:Cx} {W:Value->Shared->Prop} {XS:XSt} {k:Nat} {f C:Addr} {fd:FuncData} {ps:List Str} {sp:Sp} {se:List V} {ds:List Value} {x m:Str} {p pos apos:Pos} {e o:Expr} {es:List Expr} {ta:TE} {t:TA}
theorem OW {pins:List (Addr×Obj)}{σ:St}{H:Hp}{s:Shared}{Q:VK}{us:List Value}{vs:List V}(F:bE X.prog X.w X.K X.mg X.base (iA X.prog X.w) k f fd ps sp)(hr:jB k X.A)(hb:Binds X.K fd ps ds)(hd:Vals se ds)(hx:∀ ev s',WX X XS ev s'->W ev s')
  (I:Inv (X.wish W) pins σ H s) (r:Vals vs us) (h:sp (vs++se) H Q fun cls _ H'=>XS σ cls H'):wpAny (model X.prog X.w) X.A (call (.ref f) us) (EP (X.wish W) pins σ Q) W s:=by
 have I0:=I.mL;have r2:Vals (vs++se) (us++ds):=r.append hd;have hl:(us++ds).length=ps.length:=by rw[<-r2.length];exact F.len _ _ _ _ h
 refine wpAny_call (codeAny_mono (F.run X.A X.stack s H ⟨us,[]⟩ (us++ds) (vs++se) Q _ hr I0.env0 (hb s us I0.xj hl) r2 h) fun r s' hq=>?_);cases r with
 |error e=>exact hx _ _ (ahZ I0 hq)
 |ok fl =>
  cases fl with
  |ret u=>exact I.after hq
  |next=>exact False.elim hq
  |brk=>exact False.elim hq
  |cont=>exact False.elim hq
theorem uC (F:bE X.prog X.w X.K X.mg X.base (iA X.prog X.w) k f fd ps sp)(hr:jB k X.A)(hg:Gl (X.wish W) x)(hm:X.mg x=some (.ref f))(hk:keepIn X.K (.ref f)=true)(hb:Binds X.K fd ps ds)(hd:Vals se ds)(hx:∀ ev s',WX X XS ev s'->W ev s')
  (ha:PA (X.wish W) (e::es) t) (hdb:(x==("__debug__":Str))=false:=by decide) (he:starEach (e::es) X.env=(false,eval e X.env)::starEach es X.env:=by rfl) (hpl:(backTo pos (starEach es X.env)).any (·.1)=false:=by rfl) :
  PE (X.wish W) (.Call (.Name x p) (e::es) [] pos) (af5 sp se XS t):=by
 intro pins s σ H Q I h;refine wpAny_Call_Name_kw (vj I hg hm ?_ hdb);refine callWith_K (h₀:=X.base) I.ok.mod.kin hk (cD (ha pos pins s σ H _ I h) fun us s1 ⟨vs,H1,I1,r,q⟩=>⟨I1.xj,?_⟩) he hpl;exact OW (X:=X) F hr hb hd hx I1 r q
theorem bQ {pl:Sem Bool}(ho:PE (X.wish W) o ta)(c:UT X.K C)(hm:Meth X.K C m f)(F:bE X.prog X.w X.K X.mg X.base (iA X.prog X.w) k f fd ps sp)(hr:jB k X.A)(hb:Binds X.K fd ps ds)(hd:Vals se ds)(hx:∀ ev s',WX X XS ev s'->W ev s')(ha:PA (X.wish W) (e::es) t)
  (hst:starEach (e::es) X.env=(false,eval e X.env)::starEach es X.env:=by rfl) (hpl:(backTo pos (starEach es X.env)).any (·.1)=false:=by rfl)
  (ht:eval (.Call (.Attribute o m apos) (e::es) [] pos) X.env=(do
   let ov <-eval o X.env
   standAt apos.atName
   let (f,first) <-holding [ov] (getMethod ov m pl)
   callWith pos f first (backTo pos (starEach (e::es) X.env)) (backToKw pos (keywordEach [] X.env))):=by rfl) :
  PE (X.wish W) (.Call (.Attribute o m apos) (e::es) [] pos) (abB C m sp se XS ta t):=by
 intro pins s σ H Q I h;refine methodCall_KW (pl:=pl) (cD (ho pins s σ H _ I h) fun u s1 ⟨x,H1,I1,rx,a,dx,fs,ex,ea,l,q⟩=>?_) ht;subst ex;obtain rfl:u=Value.ref a:=rx;refine vn I1 ea c hm l ?_;refine callWith_K (first:=[.ref a]) (h₀:=X.base) I.ok.mod.kin hm.kp (cD (ha pos pins s1 σ H1 _ I1 q) fun us s2 ⟨vs,H2,I2,r,q2⟩=>⟨I2.xj,?_⟩) hst hpl;exact OW (X:=X) (us:=.ref a::us) (vs:=.ref a::vs) F hr hb hd hx I2 (.cons rfl r) q2
theorem N4 {pl:Sem Bool}(ho:PE (X.wish W) o ta)(c:UT X.K C)(hm:Meth X.K C m f)(F:bE X.prog X.w X.K X.mg X.base (iA X.prog X.w) k f fd ps sp)(hr:jB k X.A)(hb:Binds X.K fd ps ds)(hd:Vals se ds)(hx:∀ ev s',WX X XS ev s'->W ev s')
  (ht:eval (.Call (.Attribute o m apos) [] [] pos) X.env=(do
   let ov <-eval o X.env
   standAt apos.atName
   let (f,first) <-holding [ov] (getMethod ov m pl)
   callWith pos f first (backTo pos (starEach [] X.env)) (backToKw pos (keywordEach [] X.env))):=by rfl) :
  PE (X.wish W) (.Call (.Attribute o m apos) [] [] pos) (abB C m sp se XS ta eM):=by
 intro pins s σ H Q I h;refine methodCall_KW (pl:=pl) (cD (ho pins s σ H _ I h) fun u s1 ⟨x,H1,I1,rx,a,dx,fs,ex,ea,l,q⟩=>?_) ht;subst ex;obtain rfl:u=Value.ref a:=rx;refine vn I1 ea c hm l ?_;exact callWith_K0 (first:=[.ref a]) I1.xj hm.kp (OW (X:=X) (us:=[.ref a]) (vs:=[.ref a]) F hr hb hd hx I1 (.cons rfl .nil) q)
end
abbrev uD:List Value:=[.type "ValueError",.type "Exception",.type "BaseException",.type "object"]
def ExC (K:Frag)(C:Addr):Prop:=excIn K C uD "ValueError.__new__" = true
theorem ExC.obj {K:Frag}{C:Addr}{h:Heap}(q:ExC K C)(X:K.In h):∃ bm N nm qn bs hdct sn sub ab col dd k0 k1 k2 k3 k5 mN,h.get? C=some (excClassObj nm qn C N bs bm hdct sn sub ab col dd k0 k1 k2 k3 k5 "ValueError.__new__")/\h.Ns N mN/\mN "__init__"=none/\OwnTail h uD bm:=by
 have q:excIn K C uD "ValueError.__new__" = true:=q;unfold excIn at q;split at q
 ·next dd cd sl ho =>
  split at q
  ·next C' bm k0 k1 k2 k3 n k5 hm hs =>
   simp only [Bool.and_eq_true,beq_iff_eq,Bool.not_eq_true']at q;obtain⟨⟨⟨⟨⟨rfl,rfl⟩,hdel⟩,ht⟩,hok⟩,hni⟩:=q;obtain⟨nm,bs,mro,ns,qn,hd,sn,sub,ab,col,del⟩:=cd;dsimp only at hm hdel hok hni;subst hm;subst hdel;obtain⟨l⟩:=sl;have hl:l=[k0,k1,k2,k3,some (.builtin "ValueError.__new__"),k5]:=hs;subst hl;refine⟨bm,ns,nm,qn,bs,hd,sn,sub,ab,col,dd,k0,k1,k2,k3,k5,h.nsMap ns,X _ _ ho,?_,?_,PySem.W.tail_of_in X ht⟩
   ·exact .of_isNs (PySem.W.isNs_of_in X hok)
   ·exact PySem.W.nsMap_none_of_in X hok hni
  ·cases q
 ·cases q
def af6 (C:Addr)(XS:XSt)(te:TA):TS:=fun _ σ H=>te σ H fun vs H1=>vs.length<=sizeLine/\XS σ (.ref C) H1
theorem iB {X:Cx}{XS:XSt}{W:Value->Shared->Prop}{C:Addr}{x:Str}{np cpos pos:Pos}{e:Expr}{es:List Expr}{t:TA}(hx:∀ ev s',WD X XS ev s'->W ev s')(hc:X.calm=true)(q:ExC X.K C)(hg:Gl (X.wish W) x)(hm:X.mg x=some (.ref C))(ha:PA (X.wish W) (e::es) t)
  (hdb:(x==("__debug__":Str))=false:=by decide) (he:starEach (e::es) X.env=(false,eval e X.env)::starEach es X.env:=by rfl) (hpl:(backTo cpos (starEach es X.env)).any (·.1)=false:=by rfl) :
  PS (X.wish W) (.Raise (some (.Call (.Name x np) (e::es) [] cpos)) none pos) (af6 C XS t):=by
 intro pins s σ H D I h;obtain⟨bm,N,nm,qn,bs,hdct,sn,sub,ab,col,dd,k0,k1,k2,k3,k5,mN,hC,hN,hni,T⟩:=q.obj I.mod.kin;refine wpAny_Raise_call_subT (C:=C) (nm:=nm) (q:=qn) (N:=N) (bs:=bs) (bm:=bm) (hdct:=hdct) (sn:=sn) (sub:=sub) (ab:=ab) (col:=col) (dd:=dd) (k0:=k0) (k1:=k1) (k2:=k2) (k3:=k3) (k5:=k5) (mN:=mN)
  PySem.F.excBase_ValueError (T.hasType PySem.F.excBase_ValueError.hasBase) (I.ok.hd hc) ?_ hni (vj I hg hm ⟨rfl,?_⟩ hdb)
 ·show(backTo cpos (starEach (e::es) X.env)).any (·.1)=false;rw[he];show(false||(backTo cpos (starEach es X.env)).any (·.1))=false;rw[hpl];rfl
 ·have h1:=ha cpos pins s σ H _ I h;show wpAny (model X.prog X.w) X.A (evalArgs (.ref C) true (backTo cpos (starEach (e::es) X.env)) []) _ W s;have h1:wpAny (model X.prog X.w) X.A (spliced (backTo cpos (starEach (e::es) X.env))) _ W s:=h1;rw[he]at h1 ⊢;refine Calls.evalArgs_plain (wpAny_mono h1 (fun us s1 ⟨vs,H1,I1,r,hz,q1⟩=>?_) fun _ _ z=>z);refine⟨rfl,by rw[<-r.length];exact hz,I1.bk _ _ hC,hN.keeps I1.bk,T.keeps I1.bk,fun h' a hm'=>hx _ _ (.inr ?_)⟩;exact⟨pins,σ,H1,s1.heap,a,.ref C,us,rfl,I1.mL,hm',q1⟩
abbrev Cx.RW (X:Cx)(pn:List (Addr×Obj)):Cx:={ X with pn:=pn }
abbrev Cx.hand (X:Cx)(a:Addr):Cx:={ X with A:=X.A.mark (some (.ref a)),calm:=false,xe:=fun _ _=>False }
theorem Cx.Ok.RW {X:Cx}(ok:X.Ok)(pn:List (Addr×Obj)):(X.RW pn).Ok :=
 ⟨ok.mod,ok.kind,ok.glob,ok.blt,ok.above,ok.inj,ok.has,ok.cab,ok.hd,ok.frames,ok.stk,ok.exf,ok.bs,ok.bsz,ok.UN,ok.UO,ok.C1,ok.frf⟩
theorem Cx.Ok.hand {X:Cx}(ok:X.Ok)(a:Addr):(X.hand a).Ok :=
 ⟨ok.mod,ok.kind,ok.glob,ok.blt,ok.above,ok.inj,ok.has,ok.cab,(fun z=>nomatch z),ok.frames,ok.stk,ok.exf,ok.bs,ok.bsz,ok.UN,ok.UO,ok.C1,ok.frf⟩
section
variable {X:Cx} {pins R1:List (Addr×Obj)} {σ:St} {H H':Hp} {s:Shared}
theorem Inv.RW (I:Inv X pins σ H s):Inv (X.RW (X.pn++pins)) [] σ H s:=⟨I.ok.RW _,I.os,I.bare,I.base,I.loc,I.cell,I.free,I.si,fun p hp=>I.pin p (by simpa using hp),I.hok,I.len⟩
theorem Inv.xu (I:Inv (X.RW (X.pn++pins)) R1 σ H s)(ok:X.Ok):Inv X pins σ H s:=⟨ok,I.os,I.bare,I.base,I.loc,I.cell,I.free,I.si,fun p hp=>I.pin p (mem_append_left _ hp),I.hok,I.len⟩
theorem SP.xu {D:Ends}{f:Flow}{s':Shared}(ok:X.Ok)(h:SP (X.RW (X.pn++pins)) [] D f s'):SP X pins D f s':=by
 cases f with
 |next=>obtain⟨σ',H',I,q⟩:=h;exact⟨σ',H',I.xu ok,q⟩
 |brk=>obtain⟨σ',H',I,q⟩:=h;exact⟨σ',H',I.xu ok,q⟩
 |cont=>obtain⟨σ',H',I,q⟩:=h;exact⟨σ',H',I.xu ok,q⟩
 |ret u=>obtain⟨v,σ',H',I,r,q⟩:=h;exact⟨v,σ',H',I.xu ok,r,q⟩
theorem Inv.hand (I:Inv X pins σ H s)(a:Addr):Inv (X.hand a) pins σ H s:=⟨I.ok.hand a,I.os,I.bare,I.base,I.loc,I.cell,I.free,I.si,I.pin,I.hok,I.len⟩
theorem Inv.OX {a:Addr}(I:Inv (X.hand a) pins σ H s)(ok:X.Ok):Inv X pins σ H s:=⟨ok,I.os,I.bare,I.base,I.loc,I.cell,I.free,I.si,I.pin,I.hok,I.len⟩
theorem Inv.flown {G h' B:Heap}(I:Inv X pins σ H { s with heap:=G })(cov:∀ b o,G.get? b=some o->b ∉ frs X.stack->B.get? b=some o)(st:B.StaysIn h')(up:G.UpToSlots h'):Inv X pins σ H { s with heap:=h' }:=by
 have keep:∀ b o,G.get? b=some o->b ∉ frs X.stack->h'.get? b=some o:=fun b o e hb=>st b o (cov b o e hb);have slot:∀ b o,G.get? b=some o->b∈frs X.stack->∃ sl,h'.get? b=some { o with slots:=sl }:=fun b o e hb=>by
  obtain⟨_,o',e',hd⟩:=I.stack.mem hb;have:o'=o:=Option.some.inj (e'.symm.trans e);subst this;exact up b o' e hd
 refine I.call' (s':={ s with heap:=h' }) (ch:=[]) rfl ⟨fun b o e _ hb _=>keep b o e hb,fun b o e _ hb _=>slot b o e hb,fun _ _ _ n _=>n,fun b o e _=>?_,fun _ _ q=>q,fun _ _ _ q=>q,fun _ ps q=>⟨#[],by rw[q];simp⟩⟩ (fun b u e=>?_) I.bare fun b z=>absurd z (by simp)
 ·by_cases hb:b∈frs X.stack
  ·obtain⟨sl,z⟩:=slot b o e hb;exact⟨_,z⟩
  ·exact⟨o,keep b o e hb⟩
 ·refine(I.hok b u e).stay (fun c v hc q=>keep c v q fun hm=>?_) (fun _ q=>q) fun _ _ q=>q;have hf:=I.OI c hm;rcases hc with rfl|hc
  ·rw[hf]at e;cases e
  ·rw[hf]at hc;cases hc
end
end L2
set_option maxHeartbeats 4000000
namespace L2
open PySem PySem.Spec PyProof.Rows
structure ExA (K:Frag)(C:Addr):Prop where
 exc:ExC K C
 ga:findIn K (.ref C) "__getattribute__"=some (some (.builtin "BaseException.__getattribute__"))
 amC:findIn K (.ref C) "__getattr__"=some none
 cl:findIn K (.ref C) "__class__"=some (some (.builtin "object.__class__"))
section
variable {prog:Program} {w:World} {A:Around} {E:Value->Shared->Prop} {h:Heap} {g:Array GenState} {d:Drawn} {t:Nat} {os:OsState} {a:Addr} {o:Obj} {vs:Array Value} {K:Frag}
 {nm q:Str} {C N:Addr} {bs bm:List Value} {hdct:Bool} {sn:List Str} {sub:List Value} {ab:Bool} {col:Option Bool} {dd:Option Addr} {k0 k1 k2 k3 k5:Option Value} {newId:String}
end
section
variable {X:Cx}
theorem IQ:Passes (iA X.prog X.w) X E0:=fun _ _ _ _ _ _ _ ⟨_,_,_,_,_,_,_,_,_,_,z⟩=>z.elim
end
end L2
set_option maxHeartbeats 4000000
namespace L2
open PySem PySem.Spec PyProof.Rows
section
variable {P:Program} {w:World} {K:Frag} {mg:Str->Option Value} {base:Heap}
end
section
variable {X:Cx} {tg iter elt:Expr} {ifs:List Expr} {scope:Scope} {pos:Pos} {cn:List Str} {wi:TI} {g:Bk->TG} {tc:Bk->TT} {te:Bk->TE} {TH:Bk->Prop}
end
end L2
set_option maxHeartbeats 4000000
namespace L2
open PySem PySem.Spec PyProof.Rows
def af7 (to:TE)(tl th:St->Hp->(Option Int->Hp->Prop)->Prop):TG:=fun v σ H Q=>to σ H fun x H1=>tl σ H1 fun l H2=>th σ H2 fun u H3 =>
 ∃(p b:Addr)(xs ys:List V)(a c:Int),x=.ref p/\v=.ref b/\l=some a/\u=some c/\H3 p=some (.lst xs)/\H3 b=some (.lst ys)/\p≠b/\0<=a/\a<=c/\c<=xs.length/\xs.length+ys.length<=sizeLine/\Q σ (upd H3 p (.lst (xs.take a.toNat++ys++xs.drop c.toNat)))
theorem So {X:Cx}{o:Expr}{lo hi:Option Expr}{p2 pos:Pos}{to:TE}{tl th:St->Hp->(Option Int->Hp->Prop)->Prop}(ho:PE X o to)(hl:PO X lo tl)(hu:PO X hi th)
  (ha:∀ v,assign (.Subscript o (.Slice lo hi none p2) pos) X.env v=(do
   let ov <-holding [v] (eval o X.env)
   let iv <-holding [v,ov] (eval (.Slice lo hi none p2) X.env)
   standAt pos
   holding [v,ov,iv] (setItem ov iv v)
   release [iv,v,ov] []):=by intro _;rfl):PG X (.Subscript o (.Slice lo hi none p2) pos) (af7 to tl th):=by
 intro pins s σ H v u Q I r h;rw[ha];refine wpAny_bind (wpAny_holding (cD (ho pins s σ H _ I h) fun ov s1 ⟨x,H1,I1,r1,q1⟩=>?_));refine wpAny_bind (wpAny_holding ?_);refine wpAny_Slice (cD (hl pins s1 σ H1 _ I1 q1) fun vl s2 ⟨l,H2,I2,pl,q2⟩=>cD (hu pins s2 σ H2 _ I2 q2) fun vu s3 ⟨uu,H3,I3,pu,q3⟩=>?_);rw[evalPart_none];refine wpAny_pure ?_;have I4:Inv X pins σ H3 { s3 with heap:=s3.heap.push { cls:=.type "slice",data:=.fields #[vl,vu,.none] } }:=I3.kept (t':=s3.toks) fun b ob q=>Heap.get?_push_of_some _ q;obtain⟨p,b,xs,ys,a,c,rfl,rfl,rfl,rfl,hp,hb,hne,h0,hac,hc,hz,q4⟩:=q3;cases r1;cases r;refine wpAny_bind (wpAny_standAt (wpAny_bind (wpAny_holding ?_)));refine Y8 I4 hp hb hne (Heap.IsSliceOf.new ..) (by cases pl;exact⟨_,rfl⟩) (by cases pu;exact⟨_,rfl⟩) h0 hac hc hz fun s5 I5=>?_;exact wpAny_release ⟨σ,_,I5,q4⟩
end L2
namespace L2
open PySem PySem.Spec PyProof.Rows
section
variable {X:Cx}
theorem all_range:∀ bs:List Bool,(List.range bs.length).all (fun i=>bs.getD i false)=bs.all id
 |[]=>rfl
 |b::bs=>by
  rw[length_cons,List.range_succ_eq_map,List.all_cons,List.all_map,List.all_cons];have:((fun i=>(b::bs).getD i false) ∘ Nat.succ)=fun i=>bs.getD i false:=by
   funext i
   rfl
  rw[this,all_range bs];rfl
theorem abC:k9 X (.builtin "all") (fun xs H Q=>X.calm=true/\∃(a:Addr)(bs:List Bool),xs=[.ref a]/\a7 X.K H a (bs.map V.bl)/\Q (.bl (bs.all id)) H):=by
 intro pins s σ H xs us Q I r h;obtain⟨hc,a,bs,rfl,hq,q⟩:=h;obtain⟨u,rfl,rfl⟩:=r.one;obtain⟨its,rv,p,hz⟩:=I.list hq;have hl:=rv.length;rw[length_map]at hl;have afT:∀(i:Nat)(v:Value),its.toArray[i]? = some v->v=Value.bool (bs.getD i false):=by
  intro i v hv;have hv':its[i]? = some v:=by simpa using hv
  have hi:i<its.length:=(List.getElem?_eq_some_iff.mp hv').1;have hb:i<bs.length:=by omega
  obtain⟨u,hu,ru⟩:=rv.get (i:=i) (x:=.bl (bs[i])) (by rw[getElem?_map,getElem?_eq_getElem hb];rfl);rw[hv']at hu;cases hu;have:v=.bool bs[i]:=ru;rw[this,List.getD_eq_getElem?_getD,getElem?_eq_getElem hb];rfl
 refine call_all_walk (wpAny_pyIter_list p.isList ?_);have ane:a≠s.heap.objs.size:=by
  obtain⟨o,ho,_⟩:=p.isList;exact Nat.ne_of_lt (Heap.lt_size ho)
 have hd:X.A.in1.handled=none:=I.ok.hd hc;refine⟨s.heap.objs.size,_,_,_,_,_,fun i=>bs.getD i false,rfl,Walks.list hd s.heap.objs.size a ane its.toArray,⟨⟨_,Heap.get?_push_size _ rfl,rfl,rfl⟩,p.isList.push _⟩,?_,?_⟩
 ·intro i v s' Q' E' hP hQ';rw[afT i v hP];exact wpAny_truthy_bool hQ'
 ·intro h' tk kk;have e:(List.range its.toArray.size).all (fun i=>bs.getD i false)=bs.all id:=by
   rw[size_toArray,<-hl];exact all_range bs
  rw[e];refine⟨.bl _,H,I.kept (t':=tk) fun b o e=>kk b o (fun z=>?_) (Heap.get?_push_of_some _ e),rfl,q⟩;have:b=s.heap.objs.size:=by simpa using z
  exact absurd (Heap.lt_size e) (by rw[this];exact Nat.lt_irrefl _)
def Itd (lo:Int)(n:Nat):It:={ go:=fun i _=>i<n,YX:=fun i H x H'=>H'=H/\x=V.int (lo-(i:Int)),stop:=fun i _=>n<=i }
theorem Zg {P:Program}{w:World}{K:Frag}{tg:Expr}(it:Addr)(lo:Int)(n:Nat):Turn P w K tg (Itd lo n) [it] it (fun i h=>IsRangeIter h it (lo+(i:Nat) * (-1)) ((n:Int)-(i:Nat)) (-1)) where
 mem:=by simp
 obj:=fun i h st b hb=>by
  have e:b=it:=by simpa using hb
  subst e;exact⟨_,st,fun v z=>by
   have z':Data.fields _=Data.cell v:=z;cases z'⟩
 keep:=fun i h h' st k=>k it (by simp) _ st
 item:=by
  intro X hP hw hK hc i pins s σ H E I hf st hg;subst hP hw hK;obtain⟨f0,f1,f2,f3,f4,f5⟩:=hf it (by simp);have W:=Walks.range (prog:=X.prog) (w:=X.w) (I.ok.hd hc) it lo (-1) n;refine W.item i s _ _ hg st fun v h' tk hv st' kk=>?_;obtain⟨t,rfl⟩:=hv;have I1:Inv X pins σ H { s with heap:=h',toks:=tk }:=I.turned (fun b o hb e=>kk b o (by simpa using hb) e) f0 f1 f3 f4 f5;refine⟨_,rfl,Ya (s:={ s with heap:=h',toks:=tk }) (n:="range_iterator") st' rfl rfl (by decide) ⟨.int (lo-i),H,I1,⟨t,?_⟩,⟨rfl,rfl⟩,st',fun b hb=>(hf b hb).1⟩⟩;have:lo+(i:Int) * (-1)=lo-i:=by omega
  rw[this]
 done:=by
  intro X hP hw hK hc i pins s σ H E I hf st hg;subst hP hw hK;obtain⟨f0,f1,f2,f3,f4,f5⟩:=hf it (by simp);exact wpAny_pyNext_range_end (I.ok.hd hc) st (by have:n<=i:=hg;omega) fun h' eb=>⟨rfl,I.turned (t':=s.toks) (fun b o hb e=>eb b o hb e) f0 f1 f3 f4 f5⟩
 self:=fun _ _ _ _ _ st h=>wpAny_pyIter_rangeiter st h
theorem rangeSize_down (a b:Int):Builtin.Range.rangeSize a b (-1)=if b<a then a-b else 0:=by
 unfold Builtin.Range.rangeSize;rw[if_neg (by decide)]
 by_cases h:a > b
 ·rw[if_pos h,if_pos h];show(a-b-1) / 1+1=a-b;omega
 ·rw[if_neg h,if_neg h]
theorem small_down {a b:Int}(h1:-(2 ^ 62)<=a)(h2:a<2 ^ 62)(h3:-(2 ^ 62)<=b)(h4:b<2 ^ 62):Builtin.Range.small a b (-1)=true:=by
 unfold Builtin.Range.small;rw[rangeSize_down];have f:∀ x:Int,-(2 ^ 63)<=x->x<2 ^ 63->Builtin.Range.rangeFitsLong x=true:=fun x p q=>by
  unfold Builtin.Range.rangeFitsLong;simp;omega
 rw[f a (by omega) (by omega),f b (by omega) (by omega),f (-1) (by omega) (by omega),f _ (by split <;> omega) (by split <;> omega),if_neg (show ¬((-1:Int) > 0) by decide),f (b+(-1+1)) (by omega) (by omega)];simp
theorem adE {tg:Expr}{pins:List (Addr×Obj)}{σ:St}{H:Hp}{s:Shared}{R:It->Hp->Prop}{E:Value->Shared->Prop}{lo hi:Int}{t u v:Tok}{tk:Nat}(I:Inv X pins σ H s)(h1:-(2 ^ 62)<=lo)(h2:lo<2 ^ 62)(h3:-(2 ^ 62)<=hi)(h4:hi<2 ^ 62)
  (q:R (Itd lo (lo-hi).toNat) H):wpAny (model X.prog X.w) X.A (pyIter (.ref s.heap.objs.size)) (PIE X pins σ tg R) E { s with heap:=s.heap.push { cls:=.type "range",data:=.fields #[.int lo t,.int hi u,.int (-1) v] },toks:=tk }:=by
 refine wpAny_pyIter_range (IsRange.new ..) (small_down h1 h2 h3 h4) ?_;have I1:Inv X pins σ H { s with heap:=s.heap.push { cls:=.type "range",data:=.fields #[.int lo t,.int hi u,.int (-1) v] },toks:=tk }:=I.kept fun b o e=>Heap.get?_push_of_some _ e;refine⟨(s.heap.push { cls:=.type "range",data:=.fields #[.int lo t,.int hi u,.int (-1) v] }).objs.size,[(s.heap.push { cls:=.type "range",data:=.fields #[.int lo t,.int hi u,.int (-1) v] }).objs.size],_,_,H,rfl,
  I1.kept (t':=tk) fun b o e=>Heap.get?_push_of_some _ e,Zg _ lo (lo-hi).toNat,?_,fun b hb=>?_,q⟩
 ·have e1:lo+((0:Nat):Int) * (-1)=lo:=by simp
  have e2:(((lo-hi).toNat:Nat):Int)-((0:Nat):Int)=Builtin.Range.rangeSize lo hi (-1):=by rw[rangeSize_down];split <;> omega
  show IsRangeIter _ _ (lo+((0:Nat):Int) * (-1)) ((((lo-hi).toNat:Nat):Int)-((0:Nat):Int)) (-1);rw[e1,e2];exact Heap.get?_push_size _ rfl
 ·have e:b=(s.heap.push { cls:=.type "range",data:=.fields #[.int lo t,.int hi u,.int (-1) v] }).objs.size:=by simpa using hb
  subst e;exact I1.OK (Nat.le_refl _) (I1.hok.fresh (Nat.le_refl _))
def ah0 (ta:TA):TI:=fun σ H R=>ta σ H fun vs H1=>∃ i j:Int,vs=[.int i,.int j,.int (-1)]/\(-(2 ^ 62)<=i/\i<2 ^ 62/\-(2 ^ 62)<=j/\j<2 ^ 62)/\R (Itd i (i-j).toNat) H1
theorem Zh {tg:Expr}{a b c:Expr}{ta:TA}{p pos:Pos}(hg:Gl X "range")(hm:X.mg "range"=none)(ha:PA X [a,b,c] ta)(hs:starEach [a,b,c] X.env=[(false,eval a X.env),(false,eval b X.env),(false,eval c X.env)]:=by rfl)(hs2:starEach [b,c] X.env=[(false,eval b X.env),(false,eval c X.env)]:=by rfl) :
  PI X tg (.Call (.Name "range" p) [a,b,c] [] pos) (ah0 ta):=by
 intro pins s σ H R I h;refine Call_ (tU I hg hm boot_range (PyProof.Rows.callWith_type1 (cD (ha pos pins s σ H _ I h) fun us s1 ⟨vs,H1,I1,r1,q1⟩=>?_) (by rw[hs,hs2]) (by rw[hs2];rfl)));obtain⟨i,j,e,⟨q1,q2,q3,q4⟩,q⟩:=q1;subst e;cases r1 with
 |cons r rr =>
  cases rr with
  |cons r' rr =>
   cases rr with
   |cons r'' rr =>
    cases rr;obtain⟨t,rfl⟩:=r;obtain⟨t',rfl⟩:=r';obtain⟨t'',rfl⟩:=r'';exact call_range_3 (by decide) (adE I1 q1 q2 q3 q4 q) (.inl rfl)
theorem abD {lo:Int}{n:Nat}{g:TG}{tb:TS}{D:Ends}{σ:St}{H:Hp}(Pv:Nat->St->Hp->Prop)(h0:Pv 0 σ H)
  (hs:∀ i σ H,i<n->Pv i σ H->g (.int (lo-i)) σ H fun σ2 H2=>tb { D with nx:=Pv (i+1),ct:=Pv (i+1),bk:=D.nx } σ2 H2) (hd:∀ σ H,Pv n σ H->D.nx σ H) :
  ∃ W:Nat->Nat->St->Hp->Prop,(∃ m,W 0 m σ H)/\∀ i m σ H,W i m σ H ->
   ((Itd lo n).stop i H/\D.nx σ H)\/((Itd lo n).go i H/\∃ N:St->Hp->Prop,(∀ σ' H',N σ' H'->∃ m',m'<m/\W (i+1) m' σ' H')/\∀ x H',(Itd lo n).YX i H x H'->g x σ H' fun σ2 H2=>tb { D with nx:=N,ct:=N,bk:=D.nx } σ2 H2):=by
 refine⟨fun i m σ H=>m=n-i/\i<=n/\Pv i σ H,⟨n,by simp,Nat.zero_le _,h0⟩,?_⟩;rintro i m σ H ⟨rfl,hi,p⟩
 by_cases hlt:i<n
 ·refine .inr ⟨hlt,Pv (i+1),fun σ' H' p'=>⟨n-(i+1),by omega,rfl,hlt,p'⟩,fun x H' y=>?_⟩;obtain⟨e,y⟩:=y;subst e y;exact hs i σ _ hlt p
 ·have e:i=n:=by omega
  subst e;exact .inl ⟨Nat.le_refl _,hd _ _ p⟩
def adF:TE:=fun _ _ _=>False
theorem abE {e:Expr}:PE X e adF:=fun _ _ _ _ _ _ h=>h.elim
end
end L2
namespace L2
open PySem PySem.Spec PyProof.Rows
section
variable {κ:Type} [DecidableEq κ]
def oN (kvs:List (κ×V))(k:κ):Option V:=(kvs.find? fun kv=>decide (kv.1=k)).map (·.2)
def putK (kvs:List (κ×V))(k:κ)(v:V):List (κ×V) :=
 if(kvs.any fun kv=>decide (kv.1=k))=true then kvs.map (fun kv=>if kv.1=k then(kv.1,v) else kv) else kvs++[(k,v)]
def Kv (kvs:List (κ×V))(k:κ):List (κ×V):=kvs.filter fun kv=>decide (kv.1≠k)
theorem Kw {p:κ×V}{r:List (κ×V)}{k:κ}(e:p.1=k):oN (p::r) k=some p.2:=by simp[oN,List.find?_cons,e]
theorem xw {p:κ×V}{r:List (κ×V)}{k:κ}(e:¬ p.1=k):oN (p::r) k=oN r k:=by simp[oN,List.find?_cons,e]
theorem xy (k:κ):∀ kvs:List (κ×V),(kvs.any fun kv=>decide (kv.1=k))=(oN kvs k).isSome
 |[]=>rfl
 |p::r=>by
  rw[List.any_cons]
  by_cases e:p.1=k
  ·simp only [Kw e,decide_eq_true e,Bool.true_or,Option.isSome_some]
  ·rw[xw e,decide_eq_false e,Bool.false_or];exact xy k r
theorem xA (kvs:List (κ×V))(k:κ)(v:V):(putK kvs k v).length<=kvs.length+1:=by
 unfold putK;split
 ·rw[length_map];omega
 ·rw[length_append,length_cons,List.length_nil];omega
theorem xB {kvs:List (κ×V)}{k:κ}(v:V)(h:oN kvs k=none):putK kvs k v=kvs++[(k,v)]:=by
 unfold putK;rw[xy,h];exact if_neg (by decide)
theorem o8.uE {o:Option V}{u:Option Value}(r:o8 o u):o.isSome=u.isSome:=by
 cases o with
 |none=>cases u with
  |none=>rfl
  |some _=>exact(show False from r).elim
 |some _=>cases u with
  |none=>exact(show False from r).elim
  |some _=>rfl
theorem o8.getD {o:Option V}{u:Option Value}{d:V}{d':Value}(r:o8 o u)(rd:RelV d d'):RelV (o.getD d) (u.getD d'):=by
 cases o with
 |none=>cases u with
  |none=>exact rd
  |some _=>exact(show False from r).elim
 |some _=>cases u with
  |none=>exact(show False from r).elim
  |some _=>exact r
theorem KV.val {kvs:List (κ×V)}{vs:List (κ×Value)}(r:KV kvs vs)(k:κ):o8 (oN kvs k) (valueAt vs k):=by
 unfold KV at r
 induction r with
 |nil=>exact True.intro
 | @cons p q ps qs h t ih =>
  obtain⟨h1,h2⟩:=h
  by_cases e:p.1=k
  ·have e':q.1=k:=h1.symm.trans e;have b:valueAt (q::qs) k=some q.2:=by simp[valueAt,List.find?_cons,e']
   rw[Kw e,b];exact h2
  ·have e':¬ q.1=k:=fun z=>e (h1.trans z);have b:valueAt (q::qs) k=valueAt qs k:=by simp[valueAt,List.find?_cons,e']
   rw[xw e,b];exact ih
theorem KV.any {kvs:List (κ×V)}{vs:List (κ×Value)}(r:KV kvs vs)(k:κ):(kvs.any fun kv=>decide (kv.1=k))=vs.any fun kv=>decide (kv.1=k):=by
 unfold KV at r
 induction r with
 |nil=>rfl
 |cons h t ih=>rw[List.any_cons,List.any_cons,ih,h.1]
theorem KV.repl {kvs:List (κ×V)}{vs:List (κ×Value)}(r:KV kvs vs)(k:κ){y:V}{u:Value}(ry:RelV y u) :
  KV (kvs.map fun kv=>if kv.1=k then(kv.1,y) else kv) (vs.map fun kv=>if kv.1=k then(kv.1,u) else kv):=by
 unfold KV at r ⊢
 induction r with
 |nil=>exact .nil
 | @cons p q ps qs h t ih =>
  rw[map_cons,map_cons];refine .cons ?_ ih;obtain⟨h1,h2⟩:=h
  by_cases e:p.1=k
  ·rw[if_pos e,if_pos (h1.symm.trans e)];exact⟨h1,ry⟩
  ·rw[if_neg e,if_neg (fun z=>e (h1.trans z))];exact⟨h1,h2⟩
theorem KV.put {kvs:List (κ×V)}{vs:List (κ×Value)}(r:KV kvs vs)(k:κ){y:V}{u:Value}(ry:RelV y u):KV (putK kvs k y) (stored vs k u):=by
 unfold putK stored;rw[r.any k]
 by_cases e:(vs.any fun kv=>decide (kv.1=k))=true
 ·rw[if_pos e,if_pos e];exact r.repl k ry
 ·rw[if_neg e,if_neg e];exact Paired.snoc r ⟨rfl,ry⟩
theorem KV.drop {kvs:List (κ×V)}{vs:List (κ×Value)}(r:KV kvs vs)(k:κ):KV (Kv kvs k) (without vs k):=by
 unfold KV at r ⊢;unfold Kv without
 induction r with
 |nil=>exact .nil
 | @cons p q ps qs h t ih =>
  obtain⟨h1,h2⟩:=h;rw[List.filter_cons,List.filter_cons]
  by_cases e:p.1=k
  ·have a:¬ decide (p.1≠k)=true:=by simp[e]
   have b:¬ decide (q.1≠k)=true:=by simp[h1.symm.trans e]
   rw[if_neg a,if_neg b];exact ih
  ·have e':¬ q.1=k:=fun z=>e (h1.trans z);have a:decide (p.1≠k)=true:=by simp[e]
   have b:decide (q.1≠k)=true:=by simp[e']
   rw[if_pos a,if_pos b];exact .cons ⟨h1,h2⟩ ih
theorem KV.keys {kvs:List (κ×V)}{vs:List (κ×Value)}(r:KV kvs vs):kvs.map (·.1)=vs.map (·.1):=by
 unfold KV at r
 induction r with
 |nil=>rfl
 |cons h t ih=>rw[map_cons,map_cons,ih,h.1]
theorem KV.length {kvs:List (κ×V)}{vs:List (κ×Value)}(r:KV kvs vs):kvs.length=vs.length:=Paired.length r
theorem abF (kvs:List (κ×V))(k:κ):(Kv kvs k).length<=kvs.length:=List.length_filter_le _ _
end
theorem IS {P:Program}{w:World}{k:Key}{u:Value}(r:RelV (kV k) u):(b8 P w).is k u=true:=by
 cases k with
 |inl i=>obtain⟨t,e⟩:=(show ∃ t,u=Value.int i t from r);subst e;exact R0 P w i t
 |inr x=>obtain⟨t,e⟩:=(show ∃ t,u=Value.str x t from r);subst e;exact kI P w x t
theorem N5 {P:Program}{w:World}:∀{ks:List Key} {us:List Value},Vals (ks.map kV) us->ItemsAre (b8 P w) ks us
 |[],_,r=>by rw[List.map_nil]at r;cases r;exact .nil
 |k::ks,_,r=>by
  rw[map_cons]at r;cases r with
  |cons h t=>exact .cons (IS h) (N5 t)
abbrev KT (H:Hp):List (List Key×V)->List (List Key×Addr×Value)->Prop:=Paired fun p q=>p.1=q.1/\H q.2.1=some (.tup (p.1.map kV))/\RelV p.2 q.2.2
theorem KT.val {H:Hp}{kvs:List (List Key×V)}{xs:List (List Key×Addr×Value)}(r:KT H kvs xs)(k:List Key):o8 (oN kvs k) ((atKey xs k).map (·.2)):=by
 induction r with
 |nil=>exact True.intro
 | @cons p q ps qs h t ih =>
  obtain⟨h1,_,h2⟩:=h
  by_cases e:p.1=k
  ·have e':q.1=k:=h1.symm.trans e;have b:atKey (q::qs) k=some q.2:=by simp[atKey,List.find?_cons,e']
   rw[Kw e,b];exact h2
  ·have e':¬ q.1=k:=fun z=>e (h1.trans z);have b:atKey (q::qs) k=atKey qs k:=by simp[atKey,List.find?_cons,e']
   rw[xw e,b];exact ih
theorem KT.repl {H:Hp}{kvs:List (List Key×V)}{xs:List (List Key×Addr×Value)}(r:KT H kvs xs)(k:List Key){y:V}{u:Value}(ry:RelV y u) :
  KT H (kvs.map fun kv=>if kv.1=k then(kv.1,y) else kv) (xs.map (putAt k u)):=by
 induction r with
 |nil=>exact .nil
 | @cons p q ps qs h t ih =>
  rw[map_cons,map_cons];refine .cons ?_ ih;obtain⟨h1,h2,h3⟩:=h;unfold putAt
  by_cases e:p.1=k
  ·rw[if_pos e,if_pos (h1.symm.trans e)];exact⟨h1,h2,ry⟩
  ·rw[if_neg e,if_neg (fun z=>e (h1.trans z))];exact⟨h1,h2,h3⟩
theorem KT.put {H:Hp}{kvs:List (List Key×V)}{xs:List (List Key×Addr×Value)}(r:KT H kvs xs)(k:List Key){b:Addr}{y:V}{u:Value}(hb:H b=some (.tup (k.map kV)))(ry:RelV y u) :
  KT H (putK kvs k y) (storedH xs k b u):=by
 have e:(kvs.any fun kv=>decide (kv.1=k))=(atKey xs k).isSome:=by
  rw[xy,(r.val k).uE,Option.isSome_map]
 unfold putK storedH;rw[e]
 by_cases q:(atKey xs k).isSome=true
 ·rw[if_pos q,if_pos q];exact r.repl k ry
 ·rw[if_neg q,if_neg q];exact Paired.snoc r ⟨rfl,hb,ry⟩
theorem KT.keeps {H H':Hp}{kvs:List (List Key×V)}{xs:List (List Key×Addr×Value)}(r:KT H kvs xs)(ht:∀ b ys,H b=some (.tup ys)->H' b=some (.tup ys)):KT H' kvs xs :=
 Paired.afx r fun _ _ z=>⟨z.1,ht _ _ z.2.1,z.2.2⟩
section
variable {P:Program} {w:World} {H:Hp} {h:Heap} {a:Addr}
theorem ae8 {u:HO}(ok:xm P w H h)(e:Rd H a u):gO P w H h a u:=e.ok ok
theorem Ab {kvs:List (Key×V)}(ok:xm P w H h)(e:Rd H a (.dK kvs)):kvs.length<=sizeLine/\(a==sysModules)=false/\∃ vs,KV kvs vs/\h.DictOf (b8 P w) a vs :=
 show gO P w H h a (.dK kvs) from ae8 ok e
theorem abG {kvs:List (Key×V)}(ok:xm P w H h)(e:H a=some (.dK kvs)):kvs.length<=sizeLine/\(a==sysModules)=false/\∃ vs,KV kvs vs/\h.DictOf (b8 P w) a vs:=Ab ok (.inl e)
theorem Fx {ks:List Key}(ok:xm P w H h)(e:H a=some (.tup (ks.map kV))):(tupleKind (b8 P w)).is h ks a:=by
 obtain⟨_,its,r,o,h1,h2,n,h3⟩:=(show gO P w H h a (.tup (ks.map kV)) from ok a _ e);exact⟨o,its.toArray,n,h1,h2,h3,by simpa using N5 r⟩
theorem Kx {kvs:List (List Key×V)}(ok:xm P w H h)(e:Rd H a (.dT kvs)):kvs.length<=sizeLine/\(a==sysModules)=false /\
  ∃ xs,KT H kvs xs/\h.DictOfH (tupleKind (b8 P w)) a xs:=by
 obtain⟨z,y,xs,r,o,es,ep,h1,h2,h3,h4,h5⟩:=(show gO P w H h a (.dT kvs) from ae8 ok e);refine⟨z,y,xs,r,o,es,ep,h1,h2,h3,h4,fun x hx=>?_,h5⟩;have all:∀{l:List (List Key×V)} {m:List (List Key×Addr×Value)},KT H l m->∀ x∈m,(tupleKind (b8 P w)).is h x.1 x.2.1:=by
  intro l m q
  induction q with
  |nil=>intro x hx;exact nomatch hx
  | @cons p q ps qs hq t ih =>
   intro x hx;rcases List.mem_cons.mp hx with e|hx
   ·subst e;exact Fx ok (by rw[<-hq.1];exact hq.2.1)
   ·exact ih x hx
 exact all r x hx
theorem ah1 {kvs:List (List Key×V)}(ok:xm P w H h)(e:H a=some (.dT kvs)):kvs.length<=sizeLine/\(a==sysModules)=false /\
  ∃ xs,KT H kvs xs/\h.DictOfH (tupleKind (b8 P w)) a xs:=Kx ok (.inl e)
end
def sf (H:Hp)(a:Addr)(y:V)(r:Option V):Prop :=
 (∃ kvs k,Rd H a (.dK kvs)/\y=kV k/\r=oN kvs k)\/∃ kvs k b,Rd H a (.dT kvs)/\y=.ref b/\H b=some (.tup (k.map kV))/\r=oN kvs k
def Sq (H:Hp)(a:Addr)(y v:V)(H':Hp):Prop :=
 (∃ kvs k,H a=some (.dK kvs)/\y=kV k/\kvs.length<sizeLine/\H'=upd H a (.dK (putK kvs k v))) \/
 ∃ kvs k b,H a=some (.dT kvs)/\y=.ref b/\H b=some (.tup (k.map kV))/\kvs.length<sizeLine/\H'=upd H a (.dT (putK kvs k v))
theorem sf.k {H:Hp}{a:Addr}{kvs:List (Key×V)}{k:Key}(e:H a=some (.dK kvs)):sf H a (kV k) (oN kvs k):=.inl ⟨kvs,k,.inl e,rfl,rfl⟩
theorem Sq.k {H:Hp}{a:Addr}{kvs:List (Key×V)}{k:Key}{v:V}(e:H a=some (.dK kvs))(hl:kvs.length<sizeLine):Sq H a (kV k) v (upd H a (.dK (putK kvs k v))):=.inl ⟨kvs,k,e,rfl,hl,rfl⟩
section
variable {X:Cx} {pins:List (Addr×Obj)} {σ:St} {H:Hp} {s:Shared} {a:Addr} {y v:V} {u r:Value} {o:Option V} {A:Around} {E:Value->Shared->Prop}
theorem Inv.big (I:Inv X pins σ H s):sysModules<s.heap.objs.size:=by
 have h:mainGlobals<s.heap.objs.size:=(I.mod.glob.keeps I.bk).lt;exact Nat.lt_trans (by decide) h
theorem Zi {Q:Value->Shared->Prop}(hu:A.units+1<cLine)(I:Inv X pins σ H s)(g:sf H a y (some v))(ry:RelV y u)(h:∀ w' s',Inv X pins σ H s'->RelV v w'->Q w' s') :
  wpAny (model X.prog X.w) A (getItem (.ref a) u) Q E s:=by
 rcases g with ⟨kvs,k,e,ey,l⟩|⟨kvs,k,b,e,ey,eb,l⟩
 ·subst ey;obtain⟨z,hd,vs,rel,dd⟩:=Ab I.hok e;obtain⟨w',hw,R5⟩:=o8.some_of (v:=v) (o:=valueAt vs k) (by rw[l];exact rel.val k);exact wpAny_getItem_of (IS ry) dd.mapOf hw (h w' _ (I.tok _) R5)
 ·subst ey;cases (show u=Value.ref b from ry);obtain⟨z,hd,xs,rel,dd⟩:=Kx I.hok e;obtain⟨w',hw,R5⟩:=o8.some_of (v:=v) (o:=(atKey xs k).map (·.2)) (by rw[l];exact rel.val k);obtain⟨p,hp,hp2⟩:=Option.map_eq_some_iff.mp hw;refine wpAny_getItem_heap (tupleKind_room_in1 hu) (Fx I.hok eb) dd hp ?_;rw[hp2];exact h w' _ (I.tok _) R5
theorem akq {Q:Value->Shared->Prop}(hu:A.units+1<cLine)(I:Inv X pins σ H s)(g:sf H a y o)(ry:RelV y u)(h:∀ s',Inv X pins σ H s'->Q (.bool o.isSome) s') :
  wpAny (model X.prog X.w) A (compareOp .In u (.ref a)) Q E s:=by
 rcases g with ⟨kvs,k,e,ey,l⟩|⟨kvs,k,b,e,ey,eb,l⟩
 ·subst ey;obtain⟨z,hd,vs,rel,dd⟩:=Ab I.hok e;refine wpAny_in_of (IS ry) hd dd.mapOf ?_;rw[<-(rel.val k).uE,<-l];exact h _ (I.tok _)
 ·subst ey;cases (show u=Value.ref b from ry);obtain⟨z,hd,xs,rel,dd⟩:=Kx I.hok e;refine wpAny_in_heap (tupleKind_room_in1 hu) (Fx I.hok eb) hd dd ?_;have q:=(rel.val k).uE;rw[Option.isSome_map]at q;rw[<-q,<-l];exact h _ (I.tok _)
theorem adG {Q:Value->Shared->Prop}(hu:A.units+1<cLine)(I:Inv X pins σ H s)(g:sf H a y o)(ry:RelV y u)(h:∀ s',Inv X pins σ H s'->Q (.bool (!o.isSome)) s') :
  wpAny (model X.prog X.w) A (compareOp .NotIn u (.ref a)) Q E s:=by
 rcases g with ⟨kvs,k,e,ey,l⟩|⟨kvs,k,b,e,ey,eb,l⟩
 ·subst ey;obtain⟨z,hd,vs,rel,dd⟩:=Ab I.hok e;refine wpAny_notIn_of (IS ry) hd dd.mapOf ?_;rw[<-(rel.val k).uE,<-l];exact h _ (I.tok _)
 ·subst ey;cases (show u=Value.ref b from ry);obtain⟨z,hd,xs,rel,dd⟩:=Kx I.hok e;refine wpAny_notIn_heap (tupleKind_room_in1 hu) (Fx I.hok eb) hd dd ?_;have q:=(rel.val k).uE;rw[Option.isSome_map]at q;rw[<-q,<-l];exact h _ (I.tok _)
theorem Kb {h':Heap}{t':Nat}{ob:HO}(I:Inv X pins σ H s)(mu:Mut (H a))(hs:Heap.SameBut a s.heap h')(he:∃ q,h'.get? a=some q)(new:gO X.prog X.w (upd H a ob) h' a ob) :
  Inv X pins σ (upd H a ob) { s with heap:=h',toks:=t' } :=
 I.write (x:=a) (e:=a) mu (.inl rfl) (fun b q hb z=>(hs.2 b hb).trans z) he new
theorem OY {P:Program}{w:World}{H':Hp}{h':Heap}{kvs:List (Key×V)}{vs:List (Key×Value)}(z:kvs.length<=sizeLine)(hd:(a==sysModules)=false)(rel:KV kvs vs)(dd:h'.DictOf (b8 P w) a vs) :
  gO P w H' h' a (.dK kvs):=⟨z,hd,vs,rel,dd⟩
theorem Zj {H':Hp}{Q:Unit->Shared->Prop}(hu:A.units+1<cLine)(I:Inv X pins σ H s)(g:Sq H a y v H')(ry:RelV y u)(rv:RelV v r)(h:∀ s',Inv X pins σ H' s'->Q () s') :
  wpAny (model X.prog X.w) A (setItem (.ref a) u r) Q E s:=by
 rcases g with ⟨kvs,k,e,ey,l,eH⟩|⟨kvs,k,b,e,ey,eb,l,eH⟩
 ·subst ey eH;obtain⟨z,hd,vs,rel,dd⟩:=abG I.hok e;have hz:vs.length<=sizeLine:=by rw[<-rel.length];exact z
  have hl:(putK kvs k v).length<=sizeLine:=by have:=xA kvs k v;omega
  refine wpAny_setItem_pairs (hsz:=hz) (IS ry) dd fun h' UM hs=>h _ ?_;have he:∃ q,h'.get? a=some q:=let ⟨q,_,_,hq,_⟩:=UM;⟨q,hq⟩;exact Kb I (by rw[e];exact True.intro) hs he (OY hl hd (rel.put k rv) UM)
 ·subst ey eH;cases (show u=Value.ref b from ry);obtain⟨z,hd,xs,rel,dd⟩:=ah1 I.hok e;have hz:xs.length<=sizeLine:=by rw[<-Paired.length rel];exact z
  have hl:(putK kvs k v).length<=sizeLine:=by have:=xA kvs k v;omega
  refine wpAny_setItem_heap (hsz:=hz) (tupleKind_room_in1 hu) (Fx I.hok eb) dd fun h' UM hs=>h _ ?_;obtain⟨q,es,ep,hq,h2,h3,h4,_,h5⟩:=UM;refine Kb I (by rw[e];exact True.intro) hs ⟨q,hq⟩ ⟨hl,hd,_,(rel.put k eb rv).keeps fun c ys ec=>?_,q,es,ep,hq,h2,h3,h4,h5⟩;rw[ak (jS ec e (fun z=>nomatch z))];exact ec
end
section
variable {X:Cx} {pins:List (Addr×Obj)} {σ:St} {H:Hp} {s:Shared} {a:Addr} {kvs:List (Key×V)} {k:Key} {u:Value} {A:Around} {E:Value->Shared->Prop}
theorem ah2 {v:V}{more:List Value}{Q:Value->Shared->Prop}(I:Inv X pins σ H s)(e:H a=some (.dK kvs))(ry:RelV (kV k) u)(l:oN kvs k=some v)(hm:more=[]\/∃ x,more=[x])
  (h:∀ w' s',Inv X pins σ (upd H a (.dK (Kv kvs k))) s'->RelV v w'->Q w' s'):wpAny (model X.prog X.w) A (call (.builtin "dict.pop") (.ref a::u::more)) Q E s:=by
 obtain⟨z,hd,vs,rel,dd⟩:=abG I.hok e;obtain⟨w',hw,R5⟩:=o8.some_of (v:=v) (o:=valueAt vs k) (by rw[<-l];exact rel.val k);have hp:(keyPart u).isSome=true:=by
  cases k with
  |inl i=>obtain⟨t,q⟩:=(show ∃ t,u=Value.int i t from ry);subst q;rfl
  |inr x=>obtain⟨t,q⟩:=(show ∃ t,u=Value.str x t from ry);subst q;rfl
 have ha:argsOk "dict.pop" ⟨.ref a::u::more,[]⟩:=by
  rcases hm with q|⟨x,q⟩
  ·subst q;exact PySem.F.args_dict_pop_2 _ _
  ·subst q;exact PySem.F.args_dict_pop_3 _ _ _
 refine call_meetsIn slot_dict_pop dd.typeIs PySem.F.entry_dict_pop ha (meets_dict_pop_there (b8 X.prog X.w) a (IS ry) more hm hp)
  ⟨vs,w',dd,by rw[<-rel.length];exact z,hw,fun h' UM hs=>h w' _ ?_ R5⟩
 have he:∃ q,h'.get? a=some q:=let ⟨q,_,_,hq,_⟩:=UM;⟨q,hq⟩;exact Kb I (by rw[e];exact True.intro) hs he (OY (Nat.le_trans (abF kvs k) z) hd (rel.drop k) UM)
theorem ah3 {Q:Value->Shared->Prop}(I:Inv X pins σ H s)(e:Rd H a (.dK kvs))(h:∀ t s',Inv X pins σ H s'->Q (.int kvs.length t) s'):wpAny (model X.prog X.w) A (call (.builtin "len") [.ref a]) Q E s:=by
 obtain⟨z,hd,vs,rel,dd⟩:=Ab I.hok e;refine call_len_dict hd dd (by rw[<-rel.length];rw[sizeLine_eq]at z;omega) ?_;rw[<-rel.length];exact h _ _ (I.tok _)
end
def ah4 (i:Expr):Prop:=∀ ov iv,subscripted i false ov iv=operate [ov,iv] (getItem ov iv)
theorem adH {prog:Program}{w:World}{A:Around}{E:Value->Shared->Prop}{s:Shared}{env:Env}{value slice:Expr}{pos:Pos}{T id:String}{Q:Value->Shared->Prop}
  (hl:typeLookup (.type T) "__getitem__"=pure (some (.builtin id))) (hs:ah4 slice)
  (h:wpAny (model prog w) A (eval value env) (fun o s₁=>wpAny (model prog w) A (eval slice env) (fun i s₂=>s₂.TypeIs o T/\wpAny (model prog w) A (getItem o i) Q E s₂) E s₁) E s) :
  wpAny (model prog w) A (eval (.Subscript value slice pos) env) Q E s:=by
 refine Subscript_ (wpAny_mono h (fun o s₁ h₁=>wpAny_mono h₁ (fun i s₂ h₂=>?_) fun _ _ x=>x) fun _ _ x=>x);obtain⟨hT,h₂⟩:=h₂;unfold subscriptTail;refine wpAny_bind ?_;rw[getitemInPython_of_ne hT.not_modules];refine wpAny_bind (wpAny_specialOf hT hl ?_);have fin:wpAny (model prog w) A (subscripted slice false o i) (fun r s₃=>wpAny (model prog w) A (letTemporaryGo value o r >>= fun _=>pure r) Q E s₃) E s₂:=by
  rw[hs o i];exact wpAny_operating (wpAny_mono h₂ (fun r s₃ h₃=>wpAny_bind (wpAny_letTemporaryGo (wpAny_pure h₃))) fun _ _ x=>x)
 first
  |exact wpAny_pure (wpAny_bind fin)
  |exact wpAny_bind (wpAny_pure (wpAny_bind fin))
  |exact wpAny_bind fin
theorem Sr {X:Cx}{pins:List (Addr×Obj)}{σ:St}{H:Hp}{s:Shared}{a:Addr}{y:V}{o:Option V}(I:Inv X pins σ H s)(g:sf H a y o):s.TypeIs (.ref a) "dict":=by
 rcases g with ⟨kvs,k,e,_,_⟩|⟨kvs,k,b,e,_,_,_⟩
 ·obtain⟨_,_,vs,_,dd⟩:=Ab I.hok e;exact dd.typeIs
 ·obtain⟨_,_,xs,_,dd⟩:=Kx I.hok e;exact dd.typeIs
def ah5 (td ty:TE):TE:=fun σ H Q=>td σ H fun x H1=>ty σ H1 fun y H2=>∃ a v,x=.ref a/\sf H2 a y (some v)/\Q v H2
def akr (ty td:TE):TE:=fun σ H Q=>ty σ H fun y H1=>td σ H1 fun x H2=>∃ a o,x=.ref a/\sf H2 a y o/\Q (.bl o.isSome) H2
def adI (ty td:TE):TE:=fun σ H Q=>ty σ H fun y H1=>td σ H1 fun x H2=>∃ a o,x=.ref a/\sf H2 a y o/\Q (.bl (!o.isSome)) H2
def ah6 (td ty tv:TE):TS:=fun D σ H=>tv σ H fun v H1=>td σ H1 fun x H2=>ty σ H2 fun y H3=>∃ a H4,x=.ref a/\Sq H3 a y v H4/\D.nx σ H4
section
variable {X:Cx} {o i e value:Expr} {pos pos' tpos:Pos} {td ty tv:TE}
theorem i6 (hu:X.A.units+1<cLine)(ho:PE X o td)(hi:PE X i ty)(hs:ah4 i):PE X (.Subscript o i pos) (ah5 td ty):=by
 intro pins s σ H Q I h;refine adH PySem.F.slot_dict_getitem.lookup hs (cD (ho pins s σ H _ I h) fun u s1 ⟨x,H1,I1,rx,q1⟩=>cD (hi pins s1 σ H1 _ I1 q1) fun iv s2 ⟨y,H2,I2,ry,a,v,ex,g,q2⟩=>?_);subst ex;obtain rfl:u=Value.ref a:=rx;exact⟨Sr I2 g,Zi hu I2 g ry fun w' s3 I3 R5=>⟨v,H2,I3,R5,q2⟩⟩
theorem af8 (hu:X.A.units+1<cLine)(hi:PE X i ty)(ho:PE X o td):PC X .In i o (akr ty td):=by
 intro pins s σ H Q I h;refine cD (hi pins s σ H _ I h) fun iv s1 ⟨y,H1,I1,ry,q1⟩=>cD (ho pins s1 σ H1 _ I1 q1) fun u s2 ⟨x,H2,I2,rx,a,ov,ex,g,q2⟩=>?_;subst ex;obtain rfl:u=Value.ref a:=rx;exact akq hu I2 g ry fun s3 I3=>⟨.bl ov.isSome,H2,I3,rfl,q2⟩
theorem Fy (hu:X.A.units+1<cLine)(hi:PE X i ty)(ho:PE X o td):PC X .NotIn i o (adI ty td):=by
 intro pins s σ H Q I h;refine cD (hi pins s σ H _ I h) fun iv s1 ⟨y,H1,I1,ry,q1⟩=>cD (ho pins s1 σ H1 _ I1 q1) fun u s2 ⟨x,H2,I2,rx,a,ov,ex,g,q2⟩=>?_;subst ex;obtain rfl:u=Value.ref a:=rx;exact adG hu I2 g ry fun s3 I3=>⟨.bl (!ov.isSome),H2,I3,rfl,q2⟩
theorem Kc (hu:X.A.units+1<cLine)(ho:PE X o td)(hi:PE X i ty)(hv:PE X value tv)(hs:swapsWith value (some (.Subscript o i pos')) pos.line X.env=pure false) :
  PS X (.Assign [.Subscript o i pos'] value pos) (ah6 td ty tv):=by
 intro pins s σ H D I h;refine wpAny_Assign_Subscript (cD (hv pins s σ H _ I h) fun r s1 ⟨v,H1,I1,rv,q1⟩=>cD (ho pins s1 σ H1 _ I1 q1) fun u s2 ⟨x,H2,I2,rx,q2⟩=>cD (hi pins s2 σ H2 _ I2 q2) fun iv s3 ⟨y,H3,I3,ry,a,H4,ex,g,q3⟩=>?_) hs;subst ex;obtain rfl:u=Value.ref a:=rx;exact Zj hu I3 g ry rv fun s4 I4=>⟨σ,H4,I4,q3⟩
end
theorem abH {P:Program}{w:World}{H:Hp}(h:Heap)(hb:sysModules<h.objs.size):gO P w H (h.push { cls:=.type "dict",data:=.dict #[] }) h.objs.size (.dK []) :=
 ⟨Nat.zero_le _,beq_eq_false_iff_ne.mpr (Ne.symm (Nat.ne_of_lt hb)),[],.nil,Heap.DictOf.new h⟩
section
variable {X:Cx} {pos:Pos}
end
def Vg:List (TE×TE)->St->Hp->(List (V×V)->Hp->Prop)->Prop
 |[],_,H,Q=>Q [] H
 |(tk,tv)::r,σ,H,Q=>tk σ H fun x H1=>tv σ H1 fun y H2=>Vg r σ H2 fun ps H3=>Q ((x,y)::ps) H3
abbrev VV:List (V×V)->List (Value×Value)->Prop:=Paired fun p q=>RelV p.1 q.1/\RelV p.2 q.2
def PDs (X:Cx)(pos:Pos)(keys:List (Option Expr))(values:List Expr)(Ss:List (TE×TE)):Prop :=
 ∀(pins:List (Addr×Obj)) (s:Shared) (σ:St) (H:Hp) (Q:List (V×V)->Hp->Prop),Inv X pins σ H s->Vg Ss σ H Q ->
  wpAny (model X.prog X.w) X.A (evalPairs (pairTrees keys values X.env pos)) (fun vs s'=>∃ ps H',Inv X pins σ H' s'/\VV ps vs/\Q ps H') X.xe s
theorem adJ {X:Cx}{pos:Pos}:PDs X pos [] [] []:=fun pins s σ H Q I h=>pairTrees_nil_walk ⟨[],H,I,.nil,h⟩
theorem abI {X:Cx}{pos:Pos}{k v:Expr}{ks:List (Option Expr)}{vs:List Expr}{tk tv:TE}{Ss:List (TE×TE)}(hk:PE X k tk)(hv:PE X v tv)(hr:PDs X pos ks vs Ss) :
  PDs X pos (some k::ks) (v::vs) ((tk,tv)::Ss):=fun pins s σ H Q I h =>
 pairTrees_cons_walk (cD (hk pins s σ H _ I h) fun u s1 ⟨x,H1,I1,rx,q1⟩=>cD (hv pins s1 σ H1 _ I1 q1) fun w2 s2 ⟨y,H2,I2,ry,q2⟩ =>
  cD (hr pins s2 σ H2 _ I2 q2) fun ws s3 ⟨ps,H3,I3,rel,q3⟩=>⟨(x,y)::ps,H3,I3,.cons ⟨rx,ry⟩ rel,q3⟩)
def Av (kvs more:List (Key×V)):List (Key×V):=more.foldl (fun acc kv=>putK acc kv.1 kv.2) kvs
theorem KV.merge:∀{more:List (Key×V)} {rs:List (Key×Value)} {kvs:List (Key×V)} {vs:List (Key×Value)},KV more rs->KV kvs vs->KV (Av kvs more) (merged vs rs):=by
 intro more rs kvs vs r;unfold KV at r
 induction r generalizing kvs vs with
 |nil=>intro q;exact q
 | @cons p q ps qs h t ih =>
  intro r0;have e:KV (putK kvs p.1 p.2) (stored vs q.1 q.2):=by
   have:=r0.put p.1 h.2;rw[<-h.1];exact this
  exact ih e
theorem Ac:∀(more kvs:List (Key×V)),(Av kvs more).length<=kvs.length+more.length
 |[],kvs=>by show kvs.length<=kvs.length+0;omega
 |p::r,kvs=>by
  have h1:=Ac r (putK kvs p.1 p.2);have h2:=xA kvs p.1 p.2;show(Av (putK kvs p.1 p.2) r).length<=_;rw[length_cons];omega
theorem Ky {P:Program}{w:World}:∀{kvs:List (Key×V)} {ws:List (Value×Value)},VV (kvs.map fun kv=>(kV kv.1,kv.2)) ws->∃ rs,Carries (b8 P w) ws rs/\KV kvs rs
 |[],_,r=>by rw[List.map_nil]at r;cases r;exact⟨[],True.intro,.nil⟩
 |p::kvs,_,r=>by
  rw[map_cons]at r;cases r with
  | @cons a b as bs h t =>
   obtain⟨rs,c,q⟩:=Ky (P:=P) (w:=w) t;obtain⟨b1,b2⟩:=b;exact⟨(p.1,b2)::rs,⟨IS h.1,rfl,c⟩,.cons ⟨rfl,h.2⟩ q⟩
def IT (Ss:List (TE×TE)):TE:=fun σ H Q=>∀ p,H p=none->Vg Ss σ (upd H p (.dK [])) fun ps H2=>H2 p=some (.dK [])/\∃ kvs:List (Key×V),ps=kvs.map (fun kv=>(kV kv.1,kv.2))/\kvs.length<=15/\Q (.ref p) (upd H2 p (.dK (Av [] kvs)))
theorem adK {X:Cx}{pos:Pos}{keys:List (Option Expr)}{values:List Expr}{Ss:List (TE×TE)}(h:PDs X pos keys values Ss)(hall:keys.all (·.isSome)=true)(hl:keys.length=values.length)(h0:keys≠[])
  (h15:keys.length<=15):PE X (.Dict keys values pos) (IT Ss):=by
 intro pins s σ H Q I q;have hn:=I.hok.fresh (Nat.le_refl s.heap.objs.size);have I1:=I.laid (a:=s.heap.objs.size) (o:=.dK []) (h':=s.heap.push { cls:=.type "dict",data:=.dict #[] }) (t':=s.toks) (fun _ _ q=>Heap.get?_push_of_some _ q) (Nat.le_refl _) (abH s.heap I.big);refine wpAny_Dict_walk (knd:=b8 X.prog X.w) hall hl h0 h15 (cD (h pins _ σ _ _ I1 (q _ hn)) fun ws s2 ⟨ps,H2,I2,rel,e,kvs,ep,lk,q2⟩=>?_);subst ep;obtain⟨rs,c,rk⟩:=Ky (P:=X.prog) (w:=X.w) rel;obtain⟨z,hd,vs0,r0,dd⟩:=abG I2.hok e;cases r0;refine⟨rs,c,dd,fun h' UM hs=>⟨.ref s.heap.objs.size,_,?_,rfl,q2⟩⟩;have hz:(Av [] kvs).length<=sizeLine:=by
  have h1:=Ac kvs [];rw[List.length_nil]at h1;rw[sizeLine_eq];omega
 have he:∃ q,h'.get? s.heap.objs.size=some q:=let ⟨q,_,_,hq,_⟩:=UM;⟨q,hq⟩;exact Kb I2 (by rw[e];exact True.intro) hs he (OY hz hd (rk.merge .nil) UM)
structure M1 (X:Cx)(o:Expr)(m:Str)(apos:Pos)(e:Expr)(cpos:Pos):Prop where
 base:attributeBase o m X.env (eval o X.env)=eval o X.env
 few:((backTo cpos (starEach [e] X.env)).all (fun x=>!x.1)&&(backToKw cpos (keywordEach [] X.env)).all (fun x=>x.1.isSome)
  && decide (([e]:List Expr).length+([]:List Keyword).length+(if([]:List Keyword).isEmpty then 0 else 1)<30))=true
 line:(apos.endLine==cpos.line)=true
 trees:backTo cpos (starEach [e] X.env)=[(false,eval e X.env)]
structure M2 (X:Cx)(o:Expr)(m:Str)(apos:Pos)(e f:Expr)(cpos:Pos):Prop where
 base:attributeBase o m X.env (eval o X.env)=eval o X.env
 few:((backTo cpos (starEach [e,f] X.env)).all (fun x=>!x.1)&&(backToKw cpos (keywordEach [] X.env)).all (fun x=>x.1.isSome)
  && decide (([e,f]:List Expr).length+([]:List Keyword).length+(if([]:List Keyword).isEmpty then 0 else 1)<30))=true
 line:(apos.endLine==cpos.line)=true
 trees:backTo cpos (starEach [e,f] X.env)=[(false,eval e X.env),(false,eval f X.env)]
def IsD (H:Hp)(a:Addr):Prop:=(∃ kvs,Rd H a (.dK kvs))\/∃ kvs,Rd H a (.dT kvs)
theorem abJ {X:Cx}{pins:List (Addr×Obj)}{σ:St}{H:Hp}{s:Shared}{a:Addr}(I:Inv X pins σ H s)(d:IsD H a) :
  s.TypeIs (.ref a) "dict"/\(∀ b,Value.ref a=.ref b->∃ ob,s.heap.get? b=some ob/\ob.dict=none)/\(a==sysModules)=false:=by
 rcases d with ⟨kvs,e⟩|⟨kvs,e⟩
 ·obtain⟨_,hd,vs,_,dd⟩:=Ab I.hok e;refine⟨dd.typeIs,fun b q=>?_,hd⟩;cases q;obtain⟨ob,_,_,h1,h2,_⟩:=dd;exact⟨ob,h1,h2.2.1⟩
 ·obtain⟨_,hd,xs,_,dd⟩:=Kx I.hok e;refine⟨dd.typeIs,fun b q=>?_,hd⟩;cases q;obtain⟨ob,_,_,h1,h2,_⟩:=dd;exact⟨ob,h1,h2.2.1⟩
section
variable {X:Cx} {pins:List (Addr×Obj)} {σ:St} {H:Hp} {s:Shared} {a:Addr} {y d:V} {u r:Value} {o:Option V} {A:Around} {E:Value->Shared->Prop}
theorem af9 {Q:Value->Shared->Prop}(hu:A.units+1<cLine)(I:Inv X pins σ H s)(g:sf H a y o)(ry:RelV y u)(rd:RelV d r)(h:∀ w' s',Inv X pins σ H s'->RelV (o.getD d) w'->Q w' s') :
  wpAny (model X.prog X.w) A (call (.builtin "dict.get") [.ref a,u,r]) Q E s:=by
 rcases g with ⟨kvs,k,e,ey,l⟩|⟨kvs,k,b,e,ey,eb,l⟩
 ·subst ey;obtain⟨z,hd,vs,rel,dd⟩:=Ab I.hok e;refine call_meetsIn slot_dict_get dd.typeIs entry_dict_get (args_dict_get_3 _ _ _) (meets_dict_get_default (b8 X.prog X.w) a (IS ry) hd r) ⟨_,dd.mapOf,h _ _ (I.tok _) ?_⟩;rw[l];exact(rel.val k).getD rd
 ·subst ey;cases (show u=Value.ref b from ry);obtain⟨z,hd,xs,rel,dd⟩:=Kx I.hok e;refine call_meetsIn slot_dict_get dd.typeIs entry_dict_get (args_dict_get_3 _ _ _) (meetsH_dict_get_default (tupleKind (b8 X.prog X.w)) a b hd r) ⟨tupleKind_room_in1 hu,k,xs,Fx I.hok eb,dd,h _ _ (I.tok _) ?_⟩;rw[l];exact(rel.val k).getD rd
end
def aga (td ty tx:TE):TE:=fun σ H Q=>td σ H fun x H1=>∃ a,x=.ref a/\IsD H1 a/\ty σ H1 fun y H2=>tx σ H2 fun z H3=>∃ o,sf H3 a y o/\Q (o.getD z) H3
def agb (td ty:TE):TE:=fun σ H Q=>td σ H fun x H1=>∃ a,x=.ref a/\IsD H1 a/\ty σ H1 fun y H2=>∃ kvs k v,H2 a=some (.dK kvs)/\y=kV k/\oN kvs k=some v/\Q v (upd H2 a (.dK (Kv kvs k)))
section
variable {X:Cx} {o e f:Expr} {apos cpos:Pos} {td ty tx:TE}
theorem abK (hu:X.A.units+1<cLine)(ho:PE X o td)(he:PE X e ty)(hf:PE X f tx)(m:M2 X o "get" apos e f cpos):PE X (.Call (.Attribute o "get" apos) [e,f] [] cpos) (aga td ty tx):=by
 intro pins s σ H Q I h;refine wpAny_Call_method m.base m.few m.line plainAttrs_dict slot_dict_get type_dict_get (cD (ho pins s σ H _ I h) fun u s1 ⟨x,H1,I1,rx,a,ex,d,q1⟩=>?_);subst ex;obtain rfl:u=Value.ref a:=rx;obtain⟨t1,t2,_⟩:=abJ I1 d;refine⟨t1,t2,?_⟩;rw[m.trees];refine Calls.callWith_builtin rfl (Calls.evalArgs_plain (Calls.spliced_cons (cD (he pins s1 σ H1 _ I1 q1) fun iv s2 ⟨y,H2,I2,ry,q2⟩ =>
  Calls.spliced_cons (cD (hf pins s2 σ H2 _ I2 q2) fun fv s3 ⟨z,H3,I3,rz,ov,g,q3⟩=>Calls.spliced_nil ?_))))
 exact af9 hu I3 g ry rz fun w' s4 I4 R5=>⟨_,H3,I4,R5,q3⟩
theorem abL (ho:PE X o td)(he:PE X e ty)(m:M1 X o "pop" apos e cpos):PE X (.Call (.Attribute o "pop" apos) [e] [] cpos) (agb td ty):=by
 intro pins s σ H Q I h;refine wpAny_Call_method m.base m.few m.line plainAttrs_dict slot_dict_pop PySem.F.type_dict_pop (cD (ho pins s σ H _ I h) fun u s1 ⟨x,H1,I1,rx,a,ex,d,q1⟩=>?_);subst ex;obtain rfl:u=Value.ref a:=rx;obtain⟨t1,t2,_⟩:=abJ I1 d;refine⟨t1,t2,?_⟩;rw[m.trees];refine Calls.callWith_builtin rfl (Calls.evalArgs_plain (Calls.spliced_cons (cD (he pins s1 σ H1 _ I1 q1) fun iv s2 ⟨y,H2,I2,ry,kvs,k,v,ea,ey,l,q2⟩=>Calls.spliced_nil ?_)));subst ey;exact ah2 I2 ea ry l (.inl rfl) fun w' s3 I3 R5=>⟨v,_,I3,R5,q2⟩
end
section
variable {X:Cx} {pins:List (Addr×Obj)} {σ:St} {H:Hp} {s:Shared} {a:Addr} {kvs:List (Key×V)} {A:Around} {E:Value->Shared->Prop}
theorem abM {Q:Value->Shared->Prop}(I:Inv X pins σ H s)(e:Rd H a (.dK kvs))(h:∀ p s',H p=none->Inv X pins σ (upd H p (.dK kvs)) s'->Q (.ref p) s'):wpAny (model X.prog X.w) A (call (.type "dict") [.ref a]) Q E s:=by
 obtain⟨z,hd,vs,rel,dd⟩:=Ab I.hok e;refine kt_call_dict hd dd (by rw[<-rel.length];exact z) fun h' UM hs=>?_;refine h _ _ (I.hok.fresh (Nat.le_refl _)) (I.laid (a:=s.heap.objs.size) (o:=.dK kvs) (t':=s.toks) (fun b q hq=>?_) (Nat.le_refl _) (OY z (beq_eq_false_iff_ne.mpr (Ne.symm (Nat.ne_of_lt I.big))) rel UM));exact(hs.2 b (Nat.ne_of_lt (Heap.lt_size hq))).trans (Heap.get?_push_of_some _ hq)
end
section
variable {X:Cx} {pins:List (Addr×Obj)} {σ:St} {H:Hp} {s:Shared} {a:Addr} {y:V} {u:Value} {A:Around} {E:Value->Shared->Prop}
end
end L2
namespace L2
open PySem PySem.Spec PyProof.Rows
section
variable {X:Cx}
theorem Zk:k9 X (.builtin "len") (fun xs H Q=>∃ a kvs,xs=[V.ref a]/\H a=some (.dK kvs)/\Q (.int kvs.length) H):=by
 intro pins s σ H xs us Q I r h;obtain⟨a,kvs,rfl,ha,q⟩:=h;obtain⟨u,rfl,ru⟩:=vals1 r;cases ru;exact ah3 I (.inl ha) fun t s' I'=>⟨.int kvs.length,H,I',⟨t,rfl⟩,q⟩
end
section
variable {κ:Type} [DecidableEq κ]
theorem adL {kvs:List (κ×V)}{k:κ}{v:V}(h:oN kvs k=some v):k∈kvs.map (·.1):=by
 have q:(kvs.any fun kv=>decide (kv.1=k))=true:=by
  rw[xy,h]
  all_goals rfl
 obtain⟨p,hp,e⟩:=any_eq_true.mp q;exact mem_map.mpr ⟨p,hp,of_decide_eq_true e⟩
end
end L2
set_option maxHeartbeats 4000000
namespace L2
open PySem PySem.Spec PyProof.Rows
theorem ah8 {P:Program}{w:World}{k:Key}{u:Value}(h:(b8 P w).is k u=true):RelV (kV k) u:=by
 rcases eF (show Kk k u=true from h) with ⟨i,t,rfl,rfl⟩|⟨x,t,rfl,rfl⟩
 ·exact⟨t,rfl⟩
 ·exact⟨t,rfl⟩
theorem ae9:∀{xs:List V} {us:List Value},xs.length=us.length->(∀(i:Nat)(x:V)(u:Value),xs[i]? = some x->us[i]? = some u->RelV x u)->Vals xs us
 |[],[],_,_=>.nil
 |x::xs,u::us,hl,h=>.cons (h 0 x u rfl rfl) (ae9 (by simpa using hl) fun i y v e1 e2=>h (i+1) y v (by simpa using e1) (by simpa using e2))
 |[],_::_,hl,_=>by simp at hl
 |_::_,[],hl,_=>by simp at hl
section
variable {X:Cx}
theorem vz:k9 X (.type "list") (fun xs H Q=>X.calm=true/\∃ p kvs,xs=[.ref p]/\Rd H p (.dK kvs)/\∀ l,H l=none->Q (.ref l) (upd H l (.lst (kvs.map fun kv=>kV kv.1)))):=by
 intro pins s σ H xs us Q I r h;obtain⟨hc,p,kvs,rfl,hp,q⟩:=h;obtain⟨u,rfl,rx⟩:=vals1 r;cases rx;obtain⟨z,hd,vs,rel,dd⟩:=Ab I.hok hp;obtain⟨ep,da⟩:=dd.dictAt;have hl:=rel.length;refine PySem.W.kdl_call (PySem.W.kdl_dict (knd:=b8 X.prog X.w) (kvs:=vs) (ep:=ep) hd) (I.ok.hd hc) da (by omega) fun h' tk acc' c' kp e it=>?_;refine⟨.ref s.heap.objs.size,_,I.laid (t':=tk) kp (Nat.le_refl _) (show gO X.prog X.w _ h' _ (.lst (kvs.map fun kv=>kV kv.1)) from⟨by rw[length_map];exact z,acc'.toList,c',?_,by rw[Array.toArray_toList];exact e⟩),rfl,q _ (I.hok.fresh (Nat.le_refl _))⟩;have hk:=rel.keys;have h1:acc'.toList.length=vs.length:=by rw[Array.length_toList];exact it.1
 refine ae9 (by rw[length_map,h1,hl]) fun i x u e1 e2=>?_;obtain⟨k,y,e3,e4⟩:=it.2 i u (by rw[<-Array.getElem?_toList];exact e2);have e5:(kvs.map (·.1))[i]? = some k:=by rw[hk,getElem?_map,e3];rfl
 have e6:(kvs.map fun kv=>kV kv.1)[i]? = some (kV k):=by
  rw[getElem?_map]at e5 ⊢;cases e7:kvs[i]? with
  |none=>rw[e7]at e5;cases e5
  |some w=>rw[e7]at e5;cases e5;rfl
 rw[e6]at e1;cases e1;exact ah8 e4
theorem Vh:k9 X (.type "dict") (fun xs H Q=>∃ p kvs,xs=[.ref p]/\Rd H p (.dK kvs)/\∀ l,H l=none->Q (.ref l) (upd H l (.dK kvs))):=by
 intro pins s σ H xs us Q I r h;obtain⟨p,kvs,rfl,hp,q⟩:=h;obtain⟨u,rfl,rx⟩:=vals1 r;cases rx;exact abM I hp fun l s' hl I'=>⟨.ref l,_,I',rfl,q l hl⟩
end
section
variable {P:Program} {w:World} {K:Frag} {mg:Str->Option Value} {base:Heap}
theorem Ks.OV {x qual:Str}{st:Stmt}{f:Addr}{fd:FuncData}{dV:Value}{N ps:List Str}{k:Nat}{sp:Sp}(F:Ks K x qual st f fd dV)(S:aD N ps (ah st))(len:∀ vs H Q E,sp vs H Q E->vs.length=ps.length)
  (hbody:∀(cdv:Value)(A:Around)(outer:List Env)(s:Shared)(H:Hp)(vs:List V)(Q:VK)(E:XK),jB k (A.deeper (envOfC qual (ah st) s.heap.objs.size f cdv))->sp vs H Q E ->
   ∃ t,J7 ((cJ (iA P w) P w K mg base N qual (ah st) f cdv A outer s H E).wish (WD (cJ (iA P w) P w K mg base N qual (ah st) f cdv A outer s H E) fun _ cls H'=>E cls none H')) (aA st) t/\t { nx:=fun _ H'=>Q .non H',rt:=Q } (start N vs) H):bE P w K mg base (iA P w) (k+1) f fd ps sp:=by
 obtain⟨oc,od,kV,doc,pm,an,cdv,ct,osl,rfl,lk,hcd⟩:=F.ex;refine Ye lk hcd S len fun A outer s H vs Q E hr hsp=>?_;obtain⟨t,h,q⟩:=hbody cdv A outer s H vs Q E hr hsp;exact⟨t,h.abA fun _ _ z=>leaveX z,q⟩
end
end L2
set_option maxHeartbeats 4000000
namespace L2
open PySem PySem.Spec PyProof.Rows
section
variable {prog:Program} {w:World} {A:Around} {E:Value->Shared->Prop} {s:Shared}
end
section
variable {X:Cx}
end
end L2
set_option maxHeartbeats 4000000
namespace L2
open PySem PySem.Spec PyProof.Rows
section
variable {X:Cx}
structure PDw (X:Cx)(pos:Pos)(keys:List (Option Expr))(values:List Expr)(Ss:List (TE×TE)):Prop where
 out:PDs X pos keys values Ss
theorem ah9 {x:Bool}{j:Nat}{pos:Pos}:OU X (.Constant (.bool x) j pos) (tC (.bl x)):=⟨gP⟩
theorem adM {pos:Pos}:PDw X pos [] [] []:=⟨adJ⟩
theorem Su {pos:Pos}{k v:Expr}{ks:List (Option Expr)}{vs:List Expr}{tk tv:TE}{Ss:List (TE×TE)}(hk:OU X k tk)(hv:OU X v tv)(hr:PDw X pos ks vs Ss):PDw X pos (some k::ks) (v::vs) ((tk,tv)::Ss):=⟨abI hk.out hv.out hr.out⟩
theorem adN {pos:Pos}{keys:List (Option Expr)}{values:List Expr}{Ss:List (TE×TE)}(h:PDw X pos keys values Ss)(hall:keys.all (·.isSome)=true)(hl:keys.length=values.length)(h0:keys≠[])(h15:keys.length<=15):OU X (.Dict keys values pos) (IT Ss):=⟨adK h.out hall hl h0 h15⟩
theorem abN {es:List Expr}{ks:List (Option Expr)}{vs:List Expr}{p:Pos}{te:TE}{t:TA}(h:OU X (.Dict ks vs p) te)(hr:UL X es t):UL X (.Dict ks vs p::es) (bf te t):=⟨aa h.out hr.out⟩
def agc (s:Stmt)(e:Expr):Stmt:=match s with
 |.Assign ts _ p=>.Assign ts e p
 |s=>s
theorem agd {st:Stmt}{t:TS}(h:PS X.nox st t):PS X st t:=fun pins s σ H D I hw=>wpAny_mono (h pins s σ H D (I.wish _) hw) (fun _ _ q=>q.mL) fun _ _ z=>z.elim
def aia (i j k:Nat)(ta:TA):TS:=fun D σ H=>ta σ H fun vs H1=>∃ u v w,vs=[u,v,w]/\D.nx (((σ.set i (some u)).set j (some v)).set k (some w)) H1
theorem adO {i j k:Nat}{x y z:Str}{a b c:Expr}{ta:TA}{px py pz pt pos:Pos}{kt k2 pt2}(hc:X.calm=true)(hN:X.N.Nodup)(hi:X.N[i]? = some x)(hj:X.N[j]? = some y)(hk:X.N[k]? = some z)(hij:i≠j)(hik:i≠k)(hjk:j≠k)
  (hx:X.env.scope.names.lookup x=some .local) (hy:X.env.scope.names.lookup y=some .local) (hz:X.env.scope.names.lookup z=some .local) (ha:PA X [a,b,c] ta)
  (hw:swappedStores [.Tuple [.Name x px,.Name y py,.Name z pz] kt pt] (.Tuple [a,b,c] k2 pt2) X.env=pure (some [x,y,z]))
  (hs:swapsWithSole [.Tuple [.Name x px,.Name y py,.Name z pz] kt pt] (.Tuple [a,b,c] k2 pt2) pos.line X.env=pure false:=by rfl) :
  PS X (.Assign [.Tuple [.Name x px,.Name y py,.Name z pz] kt pt] (.Tuple [a,b,c] k2 pt2) pos) (aia i j k ta):=by
 intro pins s σ H D I h;rw[exec_Assign_arm];refine wpAny_bind (wpAny_standAt ?_);rw[hs];refine wpAny_bind (wpAny_pure ?_);rw[if_neg (by decide)];refine wpAny_bind (Tuple_ (cD (ha _ pins s σ H _ I h) fun us s1 ⟨vs,H1,I1,r1,q1⟩=>?_));obtain⟨v1,v2,v3,e1,q1⟩:=q1;subst e1;obtain⟨u1,u2,u3,rfl,rv1,rv2,rv3⟩:∃ u1 u2 u3,us=[u1,u2,u3]/\RelV v1 u1/\RelV v2 u2/\RelV v3 u3:=by
  cases r1 with
  |cons p q=>cases q with
   |cons p' q'=>cases q' with
    |cons p2 q2 =>
     cases q2;exact⟨_,_,_,rfl,p,p',p2⟩
 refine wpAny_newObj_type ?_ (by show 3<=sizeLine;decide);have I2:Inv X pins σ H1 { s1 with heap:=s1.heap.push { cls:=.type "tuple",data:=.seq [u1,u2,u3].toArray } }:=I1.kept (t':=s1.toks) fun b o e=>Heap.get?_push_of_some _ e;rw[hw];refine wpAny_bind (wpAny_pure ?_);show wpAny (model X.prog X.w) X.A (do rule "assign.swapped-stores";let items <-unpackItems (.ref s1.heap.objs.size) 3 none;assignInOrder [fun v=>bindName X.env z v,fun v=>bindName X.env y v,fun v=>bindName X.env x v] items.reverse;pure Flow.next) _ _ _;refine wpAny_bind (wpAny_rule (wpAny_bind (unpackItems_tuple (items:=#[u1,u2,u3]) (I.ok.hd hc) (IsTup.new s1.heap _) fun h' hx'=>?_)));have I3:=I2.kept (h':=h') (t':=s1.toks) fun b o e=>hx' b o (Nat.ne_of_lt (Heap.lt_size e)) e;show wpAny _ _ (assignInOrder [fun v=>bindName X.env z v,fun v=>bindName X.env y v,fun v=>bindName X.env x v] [u3,u2,u1] >>= fun _=>pure Flow.next) _ _ _;refine wpAny_bind (assignInOrder_cons (wpAny_bindName (oK I3 hN hk (.inl hz) rv3 (fun s2 I4=>?_) (.inr hz))));refine assignInOrder_cons (wpAny_bindName (oK I4 hN hj (.inl hy) rv2 (fun s3 I5=>?_) (.inr hy)));refine assignInOrder_cons (wpAny_bindName (oK I5 hN hi (.inl hx) rv1 (fun s4 I6=>assignInOrder_nil (wpAny_pure ?_)) (.inr hx)));rw[List.set_comm _ _ (Ne.symm hij),List.set_comm _ _ (Ne.symm hik),List.set_comm _ _ (Ne.symm hjk)]at I6;exact⟨_,H1,I6,q1⟩
def abO (K:Frag)(cls:Value)(D:Ends)(σ:St)(H:Hp):List (Addr×TS)->Prop
 |[]=>False
 |c::r=>(exmOne K cls (.ref c.1)=some true/\c.2 D σ H)\/(exmOne K cls (.ref c.1)=some false/\abO K cls D σ H r)
def PH (X:Cx)(h:ExceptHandler)(c:Addr×TS):Prop:=∃ x np b₀ suite hpos,h=.ExceptHandler (some (.Name x np)) none (b₀::suite) hpos/\Gl X x/\X.mg x=some (.ref c.1)/\(x==("__debug__":Str))=false/\∀ pn a,J7 ((X.RW pn).hand a) (b₀::suite) c.2
inductive PHs (X:Cx):List ExceptHandler->List (Addr×TS)->Prop
 |nil:PHs X [] []
 |cons {h:ExceptHandler} {c:Addr×TS} {hs:List ExceptHandler} {cs:List (Addr×TS)}:PH X h c->PHs X hs cs->PHs X (h::hs) (c::cs)
theorem adP:PHs X [] []:=.nil
theorem j3 {CT:Addr}{x:Str}{b₀:Stmt}{suite:List Stmt}{np hpos:Pos}{ts:TS}{hs:List ExceptHandler}{cs:List (Addr×TS)}(h:∀ pn a,J7 ((X.RW pn).hand a) (b₀::suite) ts)(hg:Gl X x)(hm:X.mg x=some (.ref CT))(r:PHs X hs cs)(hd:(x==("__debug__":Str))=false:=by decide) :
  PHs X (.ExceptHandler (some (.Name x np)) none (b₀::suite) hpos::hs) ((CT,ts)::cs):=.cons ⟨x,np,b₀,suite,hpos,rfl,hg,hm,hd,h⟩ r
theorem handles {pins:List (Addr×Obj)}{σ:St}{H:Hp}{G B:Heap}{s1:Shared}{a:Addr}{cls a0:Value}{l:List Env}{D:Ends}(I1:Inv X pins σ H { s1 with heap:=G })(cov:∀ b o,G.get? b=some o->b ∉ frs X.stack->B.get? b=some o)(hok:X.Ok) :
  ∀{hs:List ExceptHandler} {cs:List (Addr×TS)},PHs X hs cs->∀ h5,Heap.FlyingW B l a cls a0 h5->G.UpToSlots h5->abO X.K cls D σ H cs->wpAny (model X.prog X.w) X.A (handleBy (.ref a) X.env hs) (fun f s'=>SP X pins D f s') X.xe { s1 with heap:=h5 }:=by
 intro hs cs hh
 induction hh with
 |nil=>intro h5 _ _ p;exact p.elim
 | @cons h c hs cs h0 _ ih =>
  intro h5 fl5 U5 p;obtain⟨x,np,b₀,suite,hpos,rfl,hg,hm,hd,hsu⟩:=h0;have I5:Inv X pins σ H { s1 with heap:=h5 }:=I1.flown cov fl5.1 U5;have I5h:=I5.hand a;refine wpAny_handleBy_cons (codeAny_handlers_test (vj I5h hg hm ?_ hd)) (by intro q;cases q);obtain⟨ob,hob,hobc⟩:=fl5.there;rcases p with ⟨hx,q⟩|⟨hx,q⟩
  ·refine(exm_one (M:=model X.prog X.w) I5.xj (hobc ▸ (PySem.W.Looks.ld hob).andThen .now) hx).here ?_;refine codeAny_handlers_suite ?_;refine lands_againW fl5 fun h6 fl6 up6=>?_;have U6:=U5.trans up6;have I6:Inv X pins σ H { s1 with heap:=h6 }:=I1.flown cov fl6.1 U6;refine wpAny_mono ((hsu (X.pn++pins) a) [] _ _ _ D (I6.RW.hand a) q) (fun f s9 z=>?_) fun _ _ z=>z.elim;cases f with
   |next=>obtain⟨σ9,H9,J,w⟩:=z;exact⟨_,H9,(J.OX (hok.RW _)).xu hok,w⟩
   |brk=>obtain⟨σ9,H9,J,w⟩:=z;exact⟨_,H9,(J.OX (hok.RW _)).xu hok,w⟩
   |cont=>obtain⟨σ9,H9,J,w⟩:=z;exact⟨_,H9,(J.OX (hok.RW _)).xu hok,w⟩
   |ret u=>obtain⟨v,σ9,H9,J,r,w⟩:=z;exact⟨v,_,H9,(J.OX (hok.RW _)).xu hok,r,w⟩
  ·refine(exm_one (M:=model X.prog X.w) I5.xj (hobc ▸ (PySem.W.Looks.ld hob).andThen .now) hx).here ?_;exact ih h5 fl5 U5 q
def aib (K:Frag)(cs:List (Addr×TS))(tb:XSt->TS):TS:=fun D σ H=>tb (fun σ' cls H'=>abO K cls D σ' H' cs) D σ H
theorem adQ {body:List Stmt}{h₀:ExceptHandler}{hs:List ExceptHandler}{cs:List (Addr×TS)}{pos:Pos}{tb:XSt->TS}
  (hb:∀ pn XS,J7 ((X.RW pn).wish (WX (X.RW pn) XS)) body (tb XS)) (hh:PHs X (h₀::hs) cs) (hst:X.stack=X.env::X.outer) (hfr:X.env.frame=some X.env.locals) :
  PS X (.Try body (h₀::hs) [] [] pos) (aib X.K cs tb):=by
 intro pins s σ H D I h;refine wpAny_Try_except (wpAny_mono (hb (X.pn++pins) _ [] s σ H D (I.RW.wish _) h) (fun f s1 q=>?_) fun ev s1 z=>?_)
 ·have q':SP X pins D f s1:=q.mL.xu I.ok;cases f with
  |next=>exact wpAny_execs_nil q'
  |brk=>exact q'
  |cont=>exact q'
  |ret u=>exact q'
 ·obtain⟨R1,σ',H',G,a,cls,rfl,I',⟨B,a0,cov,fl,up,hn⟩,q⟩:=z;have I1:Inv X pins σ' H' { s1 with heap:=G }:=I'.xu I.ok;have hF:X.A.frames=some (X.env::X.outer):=by rw[<-hst];exact I.ok.frames
  have fl:Heap.FlyingW B (X.env::X.outer) a cls a0 s1.heap:=by rw[<-hst];exact fl
  refine wpAny_looks_onW hF hfr fl fun h4 aic up4=>?_;refine wpAny_landsW aic fun h5 fl5 up5=>?_;exact handles I1 cov I.ok hh h5 fl5 ((up.trans up4).trans up5) q
end
end L2
set_option maxHeartbeats 1000000
namespace Fz
open PySem L2
inductive Kd where
 |G|D|R|s|d|r|dot|three|two
 deriving DecidableEq,Repr
def Kd.str:Kd->Str
 |.G=>"G" | .D=>"D" | .R=>"R" | .s=>"s" | .d=>"d" | .r=>"r" | .dot=>"." | .three=>"3" | .two=>"2"
def Kd.cp:Kd->Nat
 |.G=>71|.D=>68|.R=>82|.s=>115|.d=>100|.r=>114|.dot=>46|.three=>51|.two=>50
def Kd.great:Kd->Bool
 |.G=>true|.D=>true|.R=>true|_=>false
def Kd.small:Kd->Bool
 |.s=>true|.d=>true|.r=>true|_=>false
def Kd.parting:Kd->Bool
 |.dot=>true|.three=>true|.two=>true|_=>false
def Kd.meas:Kd->Bool
 |.three=>true|.two=>true|_=>false
def Kd.FA:Kd->Bool
 |.G=>true|.D=>true|.s=>true|.d=>true|_=>false
def sj:Option Kd->Str
 |some k=>k.str
 |none=>""
abbrev Sg:=Kd×Int
def N6 (x y:Str):Bool:=!(Builtin.Str.occurrences y x 0 y.length 1).isEmpty
theorem str_inj {a b:Kd}:a.str=b.str ↔ a=b:=by
 constructor
 ·revert a b
  have:∀ a b:Kd,a.str=b.str->a=b:=by
   intro a b;cases a <;> cases b <;> first|(intro _;rfl)|(intro h;exact absurd h (by lk))
  exact fun {a b}=>this a b
 ·exact fun h=>by rw[h]
theorem Sv {a b:Option Kd}:sj a=sj b ↔ a=b:=by
 constructor
 ·have:∀ a b:Option Kd,sj a=sj b->a=b:=by
   intro a b;cases a with
   |none=>cases b with
    |none=>intro _;rfl
    |some b=>cases b <;> (intro h;exact absurd h (by lk))
   |some a=>cases b with
    |none=>cases a <;> (intro h;exact absurd h (by lk))
    |some b=>intro h;exact congrArg some (str_inj.mp h)
  exact fun h=>this a b h
 ·exact fun h=>by rw[h]
theorem adR (a b:Str):decide (V.str a=V.str b)=decide (a=b):=by
 by_cases h:a=b
 ·rw[h];simp
 ·rw[decide_eq_false h];exact decide_eq_false fun e=>h (V.str.inj e)
theorem Zl (a b:Kd):decide (V.str a.str=V.str b.str)=decide (a=b):=by
 rw[adR];exact decide_eq_decide.mpr str_inj
theorem aid (a b:Option Kd):decide (V.str (sj a)=V.str (sj b))=decide (a=b):=by
 rw[adR];exact decide_eq_decide.mpr Sv
theorem o_G (o:Option Kd):decide (V.str (sj o)=V.str "G")=decide (o=some .G):=aid o (some .G)
theorem k_G (k:Kd):decide (V.str k.str=V.str "G")=decide (k=.G):=Zl k .G
theorem k_D (k:Kd):decide (V.str k.str=V.str "D")=decide (k=.D):=Zl k .D
theorem o_s (o:Option Kd):decide (V.str (sj o)=V.str "s")=decide (o=some .s):=aid o (some .s)
theorem k_s (k:Kd):decide (V.str k.str=V.str "s")=decide (k=.s):=Zl k .s
theorem aie (k:Kd):decide (V.str k.str=V.str ".")=decide (k=.dot):=Zl k .dot
theorem OZ (k:Kd):decide (V.str k.str=V.str "3")=decide (k=.three):=Zl k .three
theorem abP (k:Kd):decide (V.str k.str=V.str "2")=decide (k=.two):=Zl k .two
def Sw (H:Hp)(v:V)(s:Sg):Prop:=∃ p,v=.ref p/\H p=some (.tup [.str s.1.str,.int s.2])
theorem Sw.same {H H':Hp}{v:V}{s:Sg}(e:aq H H')(h:Sw H v s):Sw H' v s:=by
 obtain⟨p,rfl,q⟩:=h;exact⟨p,rfl,e _ _ q⟩
abbrev mQ (H:Hp):List V->List Sg->Prop:=Paired (Sw H)
theorem mQ.same {H H':Hp}(e:aq H H'):∀{xs:List V} {ss:List Sg},mQ H xs ss->mQ H' xs ss
 |_,_,.nil=>.nil
 |_,_,.cons a b=>.cons (a.same e) (mQ.same e b)
theorem zO {α β:Type}{F:α->β->Prop}:∀{xs:List α} {ys:List β} {i:Nat} {x:α},Paired F xs ys->xs[i]? = some x->∃ y,ys[i]? = some y/\F x y
 |_,_,_,_,.nil,e=>by simp at e
 |_,_,0,_,.cons r _,e=>by simp at e;subst e;exact⟨_,rfl,r⟩
 |_,_,i+1,x,.cons _ t,e=>by
  obtain⟨u,h1,h2⟩:=zO (i:=i) (x:=x) t (by simpa using e);exact⟨u,by simpa using h1,h2⟩
theorem uF {α β:Type}{F:α->β->Prop}:∀{xs:List α} {ys:List β} {i:Nat} {y:β},Paired F xs ys->ys[i]? = some y->∃ x,xs[i]? = some x/\F x y
 |_,_,_,_,.nil,e=>by simp at e
 |_,_,0,_,.cons r _,e=>by simp at e;subst e;exact⟨_,rfl,r⟩
 |_,_,i+1,x,.cons _ t,e=>by
  obtain⟨u,h1,h2⟩:=uF (i:=i) t (by simpa using e);exact⟨u,by simpa using h1,h2⟩
theorem cj {α β:Type}{F:α->β->Prop}{xs:List α}{ys:List β}(h:Paired F xs ys):xs.length=ys.length:=Paired.length h
theorem kL {α β:Type}{F:α->β->Prop}:∀{xs:List α} {ys:List β} {x:α} {y:β},Paired F xs ys->F x y->Paired F (xs++[x]) (ys++[y])
 |_,_,_,_,.nil,h=>.cons h .nil
 |_,_,_,_,.cons a b,h=>.cons a (kL b h)
theorem Jw {α β:Type}{F:α->β->Prop}:∀{xs:List α} {ys:List β} {xs':List α} {ys':List β},Paired F xs ys->Paired F xs' ys'->Paired F (xs++xs') (ys++ys')
 |_,_,_,_,.nil,h=>h
 |_,_,_,_,.cons a b,h=>.cons a (Jw b h)
theorem IU {α β:Type}{F:α->β->Prop}:∀{xs:List α} {ys:List β} (n:Nat),Paired F xs ys->Paired F (xs.drop n) (ys.drop n)
 |_,_,0,h=>h
 |_,_,n+1,.nil=>.nil
 |_,_,n+1,.cons a b=>IU n b
theorem IV {α β:Type}{F:α->β->Prop}:∀{xs:List α} {ys:List β} (n:Nat),Paired F xs ys->Paired F (xs.take n) (ys.take n)
 |_,_,0,h=>.nil
 |_,_,n+1,.nil=>.nil
 |_,_,n+1,.cons a b=>.cons a (IV n b)
theorem bZ {α β:Type}{F G:α->β->Prop}(h:∀ x y,F x y->G x y):∀{xs:List α} {ys:List β},Paired F xs ys->Paired G xs ys
 |_,_,.nil=>.nil
 |_,_,.cons a b=>.cons (h _ _ a) (bZ h b)
theorem fS {H0 H:Hp}{l:Addr}{o:HO}(s:aq H0 H)(hl:H0 l=none):aq H0 (upd H l o):=fun b u e=>by
 rw[ak (ao e hl)];exact s b u e
theorem abQ {H:Hp}{D:Addr}{o:HO}{zs:List V}{v:V}{s:Sg}(hD:H D=some (.lst zs))(h:Sw H v s):Sw (upd H D o) v s:=by
 obtain⟨p,e,q⟩:=h;exact⟨p,e,by rw[ak (jS q hD (by intro z;cases z))];exact q⟩
theorem abR {H:Hp}{D:Addr}{o:HO}{zs:List V}{xs:List V}{ss:List Sg}(hD:H D=some (.lst zs))(h:mQ H xs ss):mQ (upd H D o) xs ss:=bZ (fun _ _ q=>abQ hD q) h
theorem O0 {ms:List Int}{i:Nat}{x:V}(h:(ms.map V.int)[i]? = some x):∃ z,ms[i]? = some z/\x=V.int z:=by
 rw[getElem?_map]at h;cases e:ms[i]? with
 |none=>rw[e]at h;cases h
 |some z=>rw[e]at h;exact⟨z,rfl,(Option.some.inj h).symm⟩
section
variable {K:Frag} {H:Hp} {p:Addr} {Q:VK}
theorem ix0 {a b:V}(h:H p=some (.tup [a,b]))(q:Q a H):OO K (.ref p) (.int 0) H Q\/OP K (.ref p) (.int 0) H Q\/OQ (.ref p) (.int 0) H Q:=.inr (.inl ⟨p,_,0,a,rfl,rfl,tV.of h,rfl,q⟩)
theorem ix1 {a b:V}(h:H p=some (.tup [a,b]))(q:Q b H):OO K (.ref p) (.int 1) H Q\/OP K (.ref p) (.int 1) H Q\/OQ (.ref p) (.int 1) H Q:=.inr (.inl ⟨p,_,1,b,rfl,rfl,tV.of h,rfl,q⟩)
theorem ixL {xs:List V}{i:Int}{n:Nat}{v:V}(h:a7 K H p xs)(hn:i=n)(e:xs[n]? = some v)(q:Q v H):OO K (.ref p) (.int i) H Q\/OP K (.ref p) (.int i) H Q\/OQ (.ref p) (.int i) H Q:=.inl ⟨p,xs,i,v,rfl,rfl,h,by rw[hn];exact J9 e,q⟩
theorem Nd {xs:List V}{ss:List Sg}{i:Int}{n:Nat}{s:Sg}(h:a7 K H p xs)(g:mQ H xs ss)(hn:i=n)(e:ss[n]? = some s)(q:∀ b,H b=some (.tup [.str s.1.str,.int s.2])->Q (.ref b) H) :
  OO K (.ref p) (.int i) H Q\/OP K (.ref p) (.int i) H Q\/OQ (.ref p) (.int i) H Q:=by
 obtain⟨x,hx,b,rfl,hb⟩:=uF g e;exact ixL h hn hx (q b hb)
theorem abS {ns:List Int}{i:Int}{n:Nat}{z:Int}(h:a7 K H p (ns.map V.int))(hn:i=n)(e:ns[n]? = some z)(q:Q (.int z) H):OO K (.ref p) (.int i) H Q\/OP K (.ref p) (.int i) H Q\/OQ (.ref p) (.int i) H Q :=
 ixL h hn (by rw[getElem?_map,e];rfl) q
end
set_option maxHeartbeats 1000000
def nm (m:Int):Kd->Int
 |.three=>3
 |.two=>2
 |_=>m
def Ms (m:Int):Prop:=m=3\/m=2
theorem Ms.nm {m:Int}(h:Ms m)(k:Kd):Ms (nm m k):=by
 cases k <;> first|exact h|exact .inl rfl|exact .inr rfl
def i7 (m:Int):List Kd->List Int
 |[]=>[]
 |k::t=>nm m k::i7 (nm m k) t
theorem FC (m:Int)(ks:List Kd):(i7 m ks).length=ks.length:=by
 induction ks generalizing m with
 |nil=>rfl
 |cons k t ih=>simp[i7,ih]
def pw:Kd->Int->Int
 |.G,m=>if m=2 then 2 else 3
 |.R,m=>if m=2 then 2 else 3
 |.D,_=>2
 |.s,_=>1
 |.d,_=>1
 |.r,_=>1
 |_,_=>0
def bw (m:Int)(k:Kd)(n:Option Kd):Int:=if m=2/\k=.G/\n=some .dot then 3 else pw k m
def jk (m:Int):List Kd->List Int
 |[]=>[]
 |k::t=>bw (nm m k) k t.head? :: jk (nm m k) t
def Aw:List Kd->List Int->List Int
 |k::t,m::ms=>bw m k t.head? :: Aw t ms
 |_,_=>[]
theorem Sx (m:Int)(ks:List Kd):Aw ks (i7 m ks)=jk m ks:=by
 induction ks generalizing m with
 |nil=>rfl
 |cons k t ih=>simp[i7,Aw,jk,ih]
theorem uG (m:Int)(ks:List Kd):(jk m ks).length=ks.length:=by
 induction ks generalizing m with
 |nil=>rfl
 |cons k t ih=>simp[jk,ih]
def inR (m:Int)(k:Kd):Bool:=decide (m≠2)&&k.small
def j4 (m:Int):List Kd->List Bool
 |[]=>[]
 |k::t=>inR (nm m k) k::j4 (nm m k) t
theorem qL (m:Int)(ks:List Kd):(j4 m ks).length=ks.length:=by
 induction ks generalizing m with
 |nil=>rfl
 |cons k t ih=>simp[j4,ih]
def Sy:List Kd->List Int->List Bool
 |k::t,m::ms=>inR m k::Sy t ms
 |_,_=>[]
theorem Vi (m:Int)(ks:List Kd):Sy ks (i7 m ks)=j4 m ks:=by
 induction ks generalizing m with
 |nil=>rfl
 |cons k t ih=>simp[i7,Sy,j4,ih]
def fK (at' first:Nat):List Bool->List (Nat×Nat)
 |[]=>if first<at' then [(first,at')] else []
 |true::t=>fK (at'+1) first t
 |false::t=>(if first<at' then [(first,at')] else [])++fK (at'+1) (at'+1) t
def wY (m:Int)(ks:List Kd):List (Nat×Nat):=fK 0 0 (j4 m ks)
def O1 (ks:List Kd)(i:Int):Option Kd:=if 0<=i then ks[i.toNat]? else none
theorem sq (ks:List Kd)(n:Nat):O1 ks (n:Int)=ks[n]?:=by
 unfold O1;rw[if_pos (by omega)];rfl
def tY:Option Kd->Bool
 |some k=>k.great
 |none=>false
def j5 (ks:List Kd)(f:List Int)(a:Nat):Bool:=decide (O1 ks ((a:Int)-1)=some .G)&&decide (f.getD (a-1) 0=3)
def ib (ks:List Kd)(z:Nat):Bool:=decide (ks[z]? = some .G) && !tY ks[z+1]?
def Dc (ks:List Kd)(f:List Int)(a z:Nat):Bool×List Int:=if j5 ks f a then(true,f.set (a-1) 2) else if ib ks z then(true,f.set z 2) else(false,f)
def Df (ks:List Kd)(f:List Int)(a z:Nat):Bool×List Int:=if tY ks[z]? && decide (ks[z-1]? = some .s) then(true,f.set (z-1) 2) else if j5 ks f a&&ib ks z then(true,(f.set (a-1) 2).set z 2) else(false,f)
def settle (ks:List Kd)(f:List Int)(a z:Nat):Bool×List Int:=if(z-a) % 3=1 then Dc ks f a z else if(z-a) % 3=2 then Df ks f a z else(true,f)
theorem Ax (ks:List Kd)(f:List Int)(a z:Nat):(settle ks f a z).2.length=f.length:=by
 unfold settle Dc Df
 repeat' split
 all_goals simp
abbrev RdS:=List Int×List (Nat×Nat)
def tZ (ks:List Kd)(c:RdS)(p:Nat×Nat):RdS:=((settle ks c.1 p.1 p.2).2,if(settle ks c.1 p.1 p.2).1 then c.2 else c.2++[p])
def kM (m:Int)(ks:List Kd):RdS:=(wY m ks).foldl (tZ ks) (jk m ks,[])
theorem abT (ks:List Kd)(rs:List (Nat×Nat))(c:RdS):(rs.foldl (tZ ks) c).1.length=c.1.length:=by
 induction rs generalizing c with
 |nil=>rfl
 |cons p t ih=>rw[List.foldl_cons,ih];exact Ax ..
theorem zu (m:Int)(ks:List Kd):(kM m ks).1.length=ks.length:=by
 unfold kM;rw[abT,uG]
theorem Kz:∀(bs:List Bool)(at' first:Nat),first<=at'->∀ p∈fK at' first bs,first<=p.1/\p.1<p.2/\p.2<=at'+bs.length
 |[],at',first,h,p,hp=>by
  unfold fK at hp;split at hp
  ·have:p=(first,at'):=by simpa using hp
   subst this;exact⟨Nat.le_refl _,by assumption,by simp⟩
  ·cases hp
 |true::t,at',first,h,p,hp=>by
  have:=Kz t (at'+1) first (by omega) p hp
  simp only [length_cons];omega
 |false::t,at',first,h,p,hp=>by
  unfold fK at hp;simp only [length_cons];rcases mem_append.mp hp with hp|hp
  ·split at hp
   ·have:p=(first,at'):=by simpa using hp
    subst this;exact⟨Nat.le_refl _,by assumption,by simp⟩
   ·cases hp
  ·have:=Kz t (at'+1) (at'+1) (Nat.le_refl _) p hp;omega
theorem abU (m:Int)(ks:List Kd):∀ p∈wY m ks,p.1<p.2/\p.2<=ks.length:=by
 intro p hp;have:=Kz (j4 m ks) 0 0 (Nat.le_refl _) p hp;rw[qL]at this;omega
theorem oO:∀(bs:List Bool)(at' first:Nat),(fK at' first bs).length<=bs.length+1
 |[],at',first=>by unfold fK;split <;> simp
 |true::t,at',first=>by
  unfold fK;have:=oO t (at'+1) first
  simp only [length_cons];omega
 |false::t,at',first=>by
  unfold fK;have:=oO t (at'+1) (at'+1);simp only [length_cons,length_append];split <;> simp <;> omega
def Zm (H:Hp)(v:V)(q:Nat×Nat):Prop:=∃ p,v=.ref p/\H p=some (.tup [.int (q.1:Int),.int (q.2:Int)])
abbrev Vj (H:Hp):List V->List (Nat×Nat)->Prop:=Paired (Zm H)
theorem Zm.same {H H':Hp}{v:V}{q:Nat×Nat}(e:aq H H')(h:Zm H v q):Zm H' v q:=by
 obtain⟨p,rfl,z⟩:=h;exact⟨p,rfl,e _ _ z⟩
theorem sr {H H':Hp}(e:aq H H'){xs:List V}{qs:List (Nat×Nat)}(h:Vj H xs qs):Vj H' xs qs:=bZ (fun _ _ z=>z.same e) h
theorem Sz {H:Hp}{D:Addr}{o:HO}{zs:List V}{v:V}{q:Nat×Nat}(hD:H D=some (.lst zs))(h:Zm H v q):Zm (upd H D o) v q:=by
 obtain⟨p,e,z⟩:=h;exact⟨p,e,by rw[ak (jS z hD (by intro z;cases z))];exact z⟩
theorem qM {H:Hp}{D:Addr}{o:HO}{zs:List V}{xs:List V}{qs:List (Nat×Nat)}(hD:H D=some (.lst zs))(h:Vj H xs qs):Vj (upd H D o) xs qs:=bZ (fun _ _ q=>Sz hD q) h
theorem Dg {H:Hp}{a:Addr}{o:HO}(h:H a=some o):upd H a o=H:=by
 funext b
 unfold upd;split
 ·rename_i e;rw[e,h]
 ·rfl
theorem FD {ks:List Kd}{f:List Int}{a:Nat}(h:j5 ks f a=true):1<=a/\a-1<ks.length:=by
 unfold j5 at h;have h1:=of_decide_eq_true (Bool.and_eq_true_iff.mp h).1;unfold O1 at h1;split at h1
 ·have:=(List.getElem?_eq_some_iff.mp h1).1;omega
 ·cases h1
theorem Ay {ks:List Kd}{z:Nat}(h:ib ks z=true):z<ks.length:=by
 unfold ib at h;have h1:=of_decide_eq_true (Bool.and_eq_true_iff.mp h).1;exact(List.getElem?_eq_some_iff.mp h1).1
theorem su {n:Nat}{i:Int}{j:Nat}(e:i=j)(h:j<n):ixN n i=some j:=by
 unfold ixN;subst e;rw[if_pos (by omega),if_pos (by omega)];rfl
theorem qf {α:Type}{l:List α}{i:Nat}{x:α}(h:l[i]? = some x):l.drop i=x::l.drop (i+1):=by
 obtain⟨hi,e⟩:=List.getElem?_eq_some_iff.mp h;rw[List.drop_eq_getElem_cons hi,e]
theorem xC {α β:Type}{l:List α}{f:α->β}{i:Nat}{x:α}(h:l[i]? = some x):(l.map f)[i]? = some (f x):=by rw[getElem?_map,h];rfl
abbrev bA (ss:List Sg):List Kd:=ss.map Prod.fst
theorem oy {fs:List Int}{j:Nat}{v:Int}:(fs.map V.int).set j (V.int v)=(fs.set j v).map V.int:=by rw[List.map_set]
theorem big {n:Nat}(h:n<=1000):n<=sizeLine:=Nat.le_of_lt (a6 h)
theorem head_drop {α:Type}(l:List α)(i:Nat):(l.drop i).head? = l[i]?:=by
 rw[List.head?_drop]
def kn (m:Int):List Kd->List Bool
 |[]=>[]
 |k::t=>decide (nm m k=3)::kn (nm m k) t
theorem Vk (m:Int)(ks:List Kd):(kn m ks).length=ks.length:=by
 induction ks generalizing m with
 |nil=>rfl
 |cons k t ih=>simp[kn,ih]
def lead:List Bool->Nat
 |true::t=>lead t+1
 |_=>0
theorem Ys:∀ bs:List Bool,lead bs<=bs.length
 |[]=>Nat.le_refl _
 |true::t=>by simp only [lead,length_cons];have:=Ys t;omega
 |false::t=>Nat.zero_le _
theorem KA:∀(bs:List Bool)(at' first:Nat),first<at'+lead bs\/lead bs=0->first<=at'->fK at' first bs=(if first<at'+lead bs then [(first,at'+lead bs)] else [])++fK (at'+lead bs) (at'+lead bs) (bs.drop (lead bs))
 |[],at',first,_,h=>by
  show(if first<at' then [(first,at')] else [])=(if first<at' then [(first,at')] else [])++fK at' at' [];rw[show fK at' at' []=[] by unfold fK;rw[if_neg (Nat.lt_irrefl _)],append_nil]
 |true::t,at',first,h0,h=>by
  have ih:=KA t (at'+1) first (.inl (by omega)) (by omega)
  have e:at'+1+lead t=at'+(lead t+1):=by omega
  rw[e]at ih;simp only [fK,lead,List.drop_succ_cons];exact ih
 |false::t,at',first,_,h=>by
  show(if first<at' then [(first,at')] else [])++fK (at'+1) (at'+1) t=(if first<at' then [(first,at')] else [])++((if at'<at' then [(at',at')] else [])++fK (at'+1) (at'+1) t);rw[if_neg (Nat.lt_irrefl at'),nil_append]
theorem Yt {m:Int}(h:Ms m):∀(ks:List Kd)(i:Nat)(k:Kd),ks[i]? = some k->∃ b,(kn m ks)[i]? = some b/\(j4 m ks)[i]? = some (k.small&&b)
 |[],i,k,e=>by simp at e
 |c::t,0,k,e=>by
  have:c=k:=by simpa using e
  subst this;refine⟨decide (nm m c=3),rfl,?_⟩;simp only [j4,List.getElem?_cons_zero,inR];have hm:=h.nm c;rcases hm with e|e <;> rw[e] <;> cases c <;> rfl
 |c::t,i+1,k,e=>by
  obtain⟨b,h1,h2⟩:=Yt (h.nm c) t i k (by simpa using e);exact⟨b,by simpa [kn] using h1,by simpa [j4] using h2⟩
theorem Yu:∀(bs:List Bool)(j:Nat),j<=lead bs->(j<lead bs ↔ bs[j]? = some true)
 |[],j,h=>by simp[lead]
 |true::t,0,h=>by simp[lead]
 |true::t,j+1,h=>by
  have:=Yu t j (by simp only [lead]at h;omega);simp only [lead,List.getElem?_cons_succ];rw[<-this];omega
 |false::t,j,h=>by
  have:j=0:=by simp only [lead]at h;omega
  subst this;simp[lead]
theorem age {m:Int}{ks:List Kd}{low j:Nat}:((j4 m ks).drop low)[j]? = (j4 m ks)[low+j]?:=by rw[getElem?_drop]
set_option maxHeartbeats 1000000
theorem afc (xs:List V)(n:Nat):C5 xs none (some (n:Int))=xs.take n:=by
 unfold C5;have e:HT.mH xs.length xs.length (some (n:Int))=min n xs.length:=HT.Yf xs.length xs.length n;rw[HT.Kn,e,Nat.sub_zero,List.drop_zero];rcases Nat.le_total n xs.length with h|h
 ·rw[Nat.min_eq_left h]
 ·rw[Nat.min_eq_right h,take_length,List.take_of_length_le h]
theorem Yv (xs:List V)(n:Nat)(h:n<=xs.length):C5 xs (some (n:Int)) none=xs.drop n:=by
 unfold C5;have e:HT.mH xs.length 0 (some (n:Int))=min n xs.length:=HT.Yf xs.length 0 n;rw[HT.Kn,e,Nat.min_eq_left h];exact List.take_of_length_le (by rw[length_drop];omega)
theorem aif {K:Frag}{H:Hp}{p p2:Addr}{s:Sg}(n:Nat)(h1:H p=some (.tup [.str s.1.str,.int s.2]))(h2:H p2=some (.tup [.str s.1.str,.int s.2])):Deq K H (n+1) (.ref p) (.ref p2):=by
 refine .tup (tV.of h1) (tV.of h2) rfl fun i x y e1 e2=>?_;have e:x=y:=Option.some.inj (e1.symm.trans e2);subst e
 match i,e1 with
 |0,e1=>cases e1;exact .flat rfl
 |1,e1=>cases e1;exact .flat rfl
 |n+2,e1=>simp at e1
def PrI (H:Hp)(v:V)(q:Int×Int):Prop:=∃ p,v=.ref p/\H p=some (.tup [.int q.1,.int q.2])
abbrev amQ (H:Hp):List V->List (Int×Int)->Prop:=Paired (PrI H)
structure aku (H0 H:Hp)(l:Addr)(xs:List V)(ss:List Sg):Prop where
 same:aq H0 H
 new:H0 l=none
 at':H l=some (.lst xs)
 sg:mQ H xs ss
def KC (K:Frag):Sp:=fun vs H Q _=>∃(a:Addr)(ns:List Int),vs=[.ref a]/\a7 K H a (ns.map V.int)/\ns.length<=63/\∀ H',Q (.bl true) H'
theorem Zn {K:Frag}{H:Hp}{a:Addr}{ns:List Int}(hl:ns.length<=63)(_:Only H)(hS:a7 K H a (ns.map V.int)):KC K [.ref a] H (fun v _=>v=.bl true) fun _ _ _=>False :=
 ⟨a,ns,rfl,hS,hl,fun _=>rfl⟩
set_option maxHeartbeats 1000000
theorem t4 {k:Str}{v:V}{r:List (Str×V)}:((k,v)::r).lookup k=some v:=by simp[List.lookup]
theorem aE {k g:Str}{v:V}{r:List (Str×V)}(h:¬ g=k):((k,v)::r).lookup g=r.lookup g:=by
 have:(g==k)=false:=beq_eq_false_iff_ne.mpr h;simp[List.lookup,this]
theorem j8 {k g:Str}{x y:V}{r:List (Str×V)}(h:¬ g=k):mI k y ((g,x)::r)=(g,x)::mI k y r:=if_neg h
def voF (n:Str)(tm:V)(L:Addr):List (Str×V):=[("name",V.str n),("terms",tm),("signs",V.ref L)]
theorem SA (n:Str)(tm:V)(L:Addr):(voF n tm L).lookup ("name":Str)=some (V.str n):=t4
theorem zw (n:Str)(tm:V)(L:Addr):(voF n tm L).lookup ("terms":Str)=some (tm):=(aE (by lk)).trans (t4)
theorem uH (n:Str)(tm:V)(L:Addr):(voF n tm L).lookup ("signs":Str)=some (V.ref L):=(aE (by lk)).trans ((aE (by lk)).trans (t4))
theorem O2 (v0:V):mI "name" v0 ([]:List (Str×V))=([("name",v0)]:List (Str×V)):=rfl
theorem Yw (v0 v1:V):mI "terms" v1 ([("name",v0)]:List (Str×V))=([("name",v0),("terms",v1)]:List (Str×V)):=(j8 (by lk)).trans (congrArg _ (rfl))
theorem adS (v0 v1 v2:V):mI "signs" v2 ([("name",v0),("terms",v1)]:List (Str×V))=([("name",v0),("terms",v1),("signs",v2)]:List (Str×V)):=(j8 (by lk)).trans (congrArg _ ((j8 (by lk)).trans (congrArg _ (rfl))))
def IW (T:Addr)(at_:Int)(B A:Addr):List (Str×V):=[("things",V.ref T),("at",V.int at_),("before",V.ref B),("after",V.ref A)]
theorem KG (T:Addr)(at_:Int)(B A:Addr):(IW T at_ B A).lookup ("things":Str)=some (V.ref T):=t4
theorem O3 (T:Addr)(at_:Int)(B A:Addr):(IW T at_ B A).lookup ("at":Str)=some (V.int at_):=(aE (by lk)).trans (t4)
theorem KH (T:Addr)(at_:Int)(B A:Addr):(IW T at_ B A).lookup ("before":Str)=some (V.ref B):=(aE (by lk)).trans ((aE (by lk)).trans (t4))
theorem N7 (T:Addr)(at_:Int)(B A:Addr):(IW T at_ B A).lookup ("after":Str)=some (V.ref A):=(aE (by lk)).trans ((aE (by lk)).trans ((aE (by lk)).trans (t4)))
theorem N8 (T:Addr)(at_:Int)(B A:Addr):(IW T at_ B A).lookup ("do":Str)=none:=(aE (by lk)).trans ((aE (by lk)).trans ((aE (by lk)).trans ((aE (by lk)).trans (rfl))))
theorem SD (T:Addr)(at_:Int)(B A:Addr):(IW T at_ B A).lookup ("undo":Str)=none:=(aE (by lk)).trans ((aE (by lk)).trans ((aE (by lk)).trans ((aE (by lk)).trans (rfl))))
theorem Ke (v0:V):mI "things" v0 ([]:List (Str×V))=([("things",v0)]:List (Str×V)):=rfl
theorem O4 (v0 v1:V):mI "at" v1 ([("things",v0)]:List (Str×V))=([("things",v0),("at",v1)]:List (Str×V)):=(j8 (by lk)).trans (congrArg _ (rfl))
theorem Yx (v0 v1 v2:V):mI "before" v2 ([("things",v0),("at",v1)]:List (Str×V))=([("things",v0),("at",v1),("before",v2)]:List (Str×V)):=(j8 (by lk)).trans (congrArg _ ((j8 (by lk)).trans (congrArg _ (rfl))))
theorem adT (v0 v1 v2 v3:V):mI "after" v3 ([("things",v0),("at",v1),("before",v2)]:List (Str×V))=([("things",v0),("at",v1),("before",v2),("after",v3)]:List (Str×V)):=(j8 (by lk)).trans (congrArg _ ((j8 (by lk)).trans (congrArg _ ((j8 (by lk)).trans (congrArg _ (rfl))))))
def Az (V_ D U:Addr):List (Str×V):=[("voices",V.ref V_),("done",V.ref D),("undone",V.ref U)]
theorem ko (V_ D U:Addr):(Az V_ D U).lookup ("voices":Str)=some (V.ref V_):=t4
theorem Dh (V_ D U:Addr):(Az V_ D U).lookup ("done":Str)=some (V.ref D):=(aE (by lk)).trans (t4)
theorem vA (V_ D U:Addr):(Az V_ D U).lookup ("undone":Str)=some (V.ref U):=(aE (by lk)).trans ((aE (by lk)).trans (t4))
theorem mR (V_ D U:Addr):(Az V_ D U).lookup ("add_voice":Str)=none:=(aE (by lk)).trans ((aE (by lk)).trans ((aE (by lk)).trans (rfl)))
theorem mS (V_ D U:Addr):(Az V_ D U).lookup ("add_canon":Str)=none:=(aE (by lk)).trans ((aE (by lk)).trans ((aE (by lk)).trans (rfl)))
theorem SE (V_ D U:Addr):(Az V_ D U).lookup ("drop":Str)=none:=(aE (by lk)).trans ((aE (by lk)).trans ((aE (by lk)).trans (rfl)))
theorem Vl (V_ D U:Addr):(Az V_ D U).lookup ("put":Str)=none:=(aE (by lk)).trans ((aE (by lk)).trans ((aE (by lk)).trans (rfl)))
theorem Vm (V_ D U:Addr):(Az V_ D U).lookup ("cut":Str)=none:=(aE (by lk)).trans ((aE (by lk)).trans ((aE (by lk)).trans (rfl)))
theorem SF (V_ D U:Addr):(Az V_ D U).lookup ("swap":Str)=none:=(aE (by lk)).trans ((aE (by lk)).trans ((aE (by lk)).trans (rfl)))
theorem SG (V_ D U:Addr):(Az V_ D U).lookup ("undo":Str)=none:=(aE (by lk)).trans ((aE (by lk)).trans ((aE (by lk)).trans (rfl)))
theorem SH (V_ D U:Addr):(Az V_ D U).lookup ("redo":Str)=none:=(aE (by lk)).trans ((aE (by lk)).trans ((aE (by lk)).trans (rfl)))
theorem qg (V_ D U:Addr):(Az V_ D U).lookup ("names":Str)=none:=(aE (by lk)).trans ((aE (by lk)).trans ((aE (by lk)).trans (rfl)))
theorem oP (V_ D U:Addr):(Az V_ D U).lookup ("line":Str)=none:=(aE (by lk)).trans ((aE (by lk)).trans ((aE (by lk)).trans (rfl)))
theorem IX (V_ D U:Addr):(Az V_ D U).lookup ("kept":Str)=none:=(aE (by lk)).trans ((aE (by lk)).trans ((aE (by lk)).trans (rfl)))
theorem qh (V_ D U:Addr):(Az V_ D U).lookup ("canon":Str)=none:=(aE (by lk)).trans ((aE (by lk)).trans ((aE (by lk)).trans (rfl)))
theorem jm (V_ D U:Addr):(Az V_ D U).lookup ("perform":Str)=none:=(aE (by lk)).trans ((aE (by lk)).trans ((aE (by lk)).trans (rfl)))
theorem Ad (V_ D U:Addr):(Az V_ D U).lookup ("put_in":Str)=none:=(aE (by lk)).trans ((aE (by lk)).trans ((aE (by lk)).trans (rfl)))
theorem sv (V_ D U:Addr):(Az V_ D U).lookup ("refuse_new":Str)=none:=(aE (by lk)).trans ((aE (by lk)).trans ((aE (by lk)).trans (rfl)))
theorem d8 (V_ D U:Addr):(Az V_ D U).lookup ("voice_called":Str)=none:=(aE (by lk)).trans ((aE (by lk)).trans ((aE (by lk)).trans (rfl)))
theorem ic (V_ D U:Addr):(Az V_ D U).lookup ("plain_voice":Str)=none:=(aE (by lk)).trans ((aE (by lk)).trans ((aE (by lk)).trans (rfl)))
theorem O5 (v0:V):mI "voices" v0 ([]:List (Str×V))=([("voices",v0)]:List (Str×V)):=rfl
theorem Yy (v0 v1:V):mI "done" v1 ([("voices",v0)]:List (Str×V))=([("voices",v0),("done",v1)]:List (Str×V)):=(j8 (by lk)).trans (congrArg _ (rfl))
theorem adU (v0 v1 v2:V):mI "undone" v2 ([("voices",v0),("done",v1)]:List (Str×V))=([("voices",v0),("done",v1),("undone",v2)]:List (Str×V)):=(j8 (by lk)).trans (congrArg _ ((j8 (by lk)).trans (congrArg _ (rfl))))
set_option maxHeartbeats 1000000
theorem qN {a b:TS}{D:Ends}{σ:St}{H:Hp}(h:∀ N:St->Hp->Prop,(∀ σ H,b D σ H->N σ H)->a { D with nx:=N } σ H):adk a b D σ H:=h (b D) fun _ _ z=>z
structure Vx where
 o:Addr
 d:Addr
 n:Str
 tm:V
 l:Addr
def adV (C:Addr)(H:Hp)(v:V)(a:Vx):Prop:=v=.ref a.o/\H a.o=some (.ins C a.d (voF a.n a.tm a.l))
structure Dd where
 o:Addr
 d:Addr
 T:Addr
 i:Nat
 B:Addr
 A:Addr
 bs:List V
 as:List V
def mK (C:Addr)(H:Hp)(v:V)(e:Dd):Prop:=v=.ref e.o/\H e.o=some (.ins C e.d (IW e.T (e.i:Int) e.B e.A))/\H e.B=some (.lst e.bs)/\H e.A=some (.lst e.as)
abbrev MM:=Addr->List V
def putAt (S:MM)(T:Addr)(zs:List V):MM:=fun b=>if b=T then zs else S b
theorem gB {S:MM}{T:Addr}{zs:List V}:putAt S T zs T=zs:=if_pos rfl
theorem oQ {S:MM}{T b:Addr}{zs:List V}(h:b≠T):putAt S T zs b=S b:=if_neg h
def vi (e:Dd)(S:MM):MM:=putAt S e.T ((S e.T).take e.i++e.as++(S e.T).drop (e.i+e.bs.length))
def unD (e:Dd)(S:MM):MM:=putAt S e.T ((S e.T).take e.i++e.bs++(S e.T).drop (e.i+e.as.length))
def Fits (e:Dd)(S:MM):Prop:=e.i+e.bs.length<=(S e.T).length/\((S e.T).drop e.i).take e.bs.length=e.bs
theorem aih {α:Type}{xs bs as:List α}{i:Nat}(h:i+bs.length<=xs.length):(xs.take i++as++xs.drop (i+bs.length)).take i=xs.take i/\(xs.take i++as++xs.drop (i+bs.length)).drop (i+as.length)=xs.drop (i+bs.length):=by
 have h1:(xs.take i).length=i:=by rw[length_take];omega
 constructor
 ·rw[List.append_assoc];exact List.take_left' h1
 ·exact List.drop_left' (by rw[length_append,h1])
theorem aii {e:Dd}{S:MM}(h:Fits e S):unD e (vi e S)=S:=by
 funext b
 unfold unD
 by_cases hb:b=e.T
 ·subst hb;rw[gB];unfold vi;rw[gB,(aih h.1).1,(aih h.1).2];have h2:e.bs++(S e.T).drop (e.i+e.bs.length)=(S e.T).drop e.i:=by
   rw[<-List.drop_drop];have:=List.take_append_drop e.bs.length ((S e.T).drop e.i);rw[h.2]at this;exact this
  rw[List.append_assoc,h2,List.take_append_drop]
 ·rw[oQ hb];unfold vi;rw[oQ hb]
theorem adW {e:Dd}{S:MM}(h:Fits e S):e.i+e.as.length<=(vi e S e.T).length:=by
 unfold vi;rw[gB,length_append,length_append,length_take];have:=h.1;omega
inductive Path:List MM->List Dd->MM->Prop
 |nil {M:MM}:Path [] [] M
 |snoc {Ps:List MM} {es:List Dd} {S:MM} {e:Dd}:Path Ps es S->Fits e S->Path (Ps++[S]) (es++[e]) (vi e S)
inductive Fut:MM->List Dd->List MM->Prop
 |nil {M:MM}:Fut M [] []
 |snoc {M:MM} {us:List Dd} {Fs:List MM} {e:Dd}:Fits e M->Fut (vi e M) us Fs->Fut M (us++[e]) (Fs++[vi e M])
theorem SI {α:Type}{a b:List α}{x y:α}(h:a++[x]=b++[y]):a=b/\x=y:=by
 have:=List.append_inj' h rfl;exact⟨this.1,by simpa using this.2⟩
theorem Path.last {Ps:List MM}{es:List Dd}{e:Dd}{M:MM}(h:Path Ps (es++[e]) M):∃ Ps' S,Ps=Ps'++[S]/\Path Ps' es S/\Fits e S/\M=vi e S:=by
 generalize he:es++[e]=es' at h;cases h with
 |nil=>simp at he
 |snoc p f =>
  obtain⟨rfl,rfl⟩:=SI he;exact⟨_,_,rfl,p,f,rfl⟩
theorem Fut.last {us:List Dd}{e:Dd}{M:MM}{Fs:List MM}(h:Fut M (us++[e]) Fs):∃ Fs',Fs=Fs'++[vi e M]/\Fits e M/\Fut (vi e M) us Fs':=by
 generalize he:us++[e]=us' at h;cases h with
 |nil=>simp at he
 |snoc f p =>
  obtain⟨rfl,rfl⟩:=SI he;exact⟨_,rfl,f,p⟩
theorem Path.len {Ps:List MM}{es:List Dd}{M:MM}(h:Path Ps es M):Ps.length=es.length:=by
 induction h with
 |nil=>rfl
 |snoc _ _ ih=>rw[length_append,length_append,ih];rfl
theorem Fut.len {us:List Dd}{M:MM}{Fs:List MM}(h:Fut M us Fs):Fs.length=us.length:=by
 induction h with
 |nil=>rfl
 |snoc _ _ ih=>rw[length_append,length_append,ih];rfl
def N9 (s:Sg):Prop:=(s.1.FA=true->0<=s.2/\s.2<100)/\(s.1.FA=false->s.2=0)
def GV (H:Hp)(v:V):Prop:=∃ s,Sw H v s/\N9 s
structure WF (H:Hp)(L:Addr)(all:List Vx)(S:MM):Prop where
 vs:∃ vx:List Vx,Paired (fun v a=>v=V.ref a.o/\a∈all) (S L) vx
 ln:∀ a∈all,(S a.l).length<=200/\∀ v∈S a.l,GV H v
 len:(S L).length<=12
 out:∀ b,b≠L->(∀ a∈all,b≠a.l)->S b=[]
inductive Th where
 |pl (ss:List Sg)
 |cn (ld:Str) (lt sl:Int) (tn:Bool)
abbrev Vw:=List (Str×Th)
def abW (H:Hp)(S:MM)(a:Vx):Th->Prop
 |.pl ss=>a.tm=.non/\mQ H (S a.l) ss
 |.cn ld lt sl tn=>∃ p,a.tm=.ref p/\H p=some (.tup [.str ld,.int lt,.int sl,.bl tn])
def Vn (H:Hp)(all:List Vx)(S:MM)(v:V)(q:Str×Th):Prop:=∃ a∈all,v=.ref a.o/\a.n=q.1/\abW H S a q.2
abbrev Is (H:Hp)(L:Addr)(all:List Vx)(S:MM)(vw:Vw):Prop:=Paired (Vn H all S) (S L) vw
structure xk (vw:Vw):Prop where
 nd:(vw.map (·.1)).Nodup
 ld:∀ n ld lt sl tn,(n,Th.cn ld lt sl tn)∈vw->(∃ ss,(ld,Th.pl ss)∈vw)/\0<=lt/\lt<=999/\1<=sl/\sl<=9
 gd:∀ n ss,(n,Th.pl ss)∈vw->ss.length<=200/\∀ s∈ss,N9 s
 len:vw.length<=12
structure Nf (CB CV CD:Addr)(H:Hp)(x L D U:Addr)(all:List Vx)(M:MM)(Ps Fs:List MM)(es us:List Dd):Prop where
 hx:∃ dx,H x=some (.ins CB dx (Az L D U))
 hL:H L=some (.lst (M L))
 hD:∃ xs,H D=some (.lst xs)/\Paired (mK CD H) xs es
 hU:∃ xs,H U=some (.lst xs)/\Paired (mK CD H) xs us
 ha:∀ a∈all,H a.o=some (.ins CV a.d (voF a.n a.tm a.l))/\H a.l=some (.lst (M a.l))
 LD:L≠D
 LU:L≠U
 DU:D≠U
 nl:∀ a∈all,a.l≠L/\a.l≠D/\a.l≠U
 ni:∀ a∈all,∀ b∈all,a.l=b.l->a=b
 no:∀ a∈all,∀ b∈all,a.o=b.o->a=b
 dd:∀ e,e∈es\/e∈us->(e.T=L\/∃ a∈all,e.T=a.l)/\(e.B≠L/\e.B≠D/\e.B≠U/\∀ a∈all,e.B≠a.l)/\(e.A≠L/\e.A≠D/\e.A≠U/\∀ a∈all,e.A≠a.l)/\e.bs.length<=1/\e.as.length<=1
 past:Path Ps es M
 fut:Fut M us Fs
 wf:∀ S,S∈Ps\/S=M\/S∈Fs->WF H L all S
structure SJ (F:Addr->Prop)(L D U:Addr)(all:List Vx)(es us:List Dd):Prop where
 L:F L
 D:F D
 U:F U
 l:∀ a∈all,F a.l
 d:∀ e,e∈es\/e∈us->F e.B/\F e.A
structure Bk (CB CV CD:Addr)(H:Hp)(x:Addr)(F:Addr->Prop)(vw:Vw)(ps fs:List Vw):Prop where
 ex:∃(L D U:Addr)(all:List Vx)(M:MM)(Ps Fs:List MM)(es us:List Dd),Nf CB CV CD H x L D U all M Ps Fs es us/\Is H L all M vw/\Paired (Is H L all) Ps ps/\Paired (Is H L all) Fs fs/\SJ F L D U all es us
 wv:∀ v,v∈ps\/v=vw\/v∈fs->xk v
def Kept (F:Addr->Prop)(H H':Hp):Prop:=∀ y o,H y=some o->(F y\/∀ xs,o≠.lst xs)->H' y=some o
theorem Kept.same {F:Addr->Prop}{H H':Hp}(s:aq H H'):Kept F H H':=fun y o e _=>s y o e
section
variable {CB CV CD:Addr} {H H':Hp} {x L D U:Addr} {all:List Vx} {M S:MM} {Ps Fs:List MM} {es us:List Dd} {F:Addr->Prop} {vw:Vw} {ps fs:List Vw}
theorem Kept.sgs (k:Kept F H H'){xs:List V}{ss:List Sg}(h:mQ H xs ss):mQ H' xs ss:=bZ (fun _ _ ⟨p,e1,e2⟩=>⟨p,e1,k _ _ e2 (.inr fun _ z=>nomatch z)⟩) h
theorem Kept.gv (k:Kept F H H'){v:V}(h:GV H v):GV H' v:=by
 obtain⟨s,⟨p,e1,e2⟩,g⟩:=h;exact⟨s,⟨p,e1,k _ _ e2 (.inr fun _ z=>nomatch z)⟩,g⟩
theorem WF.kept (k:Kept F H H')(h:WF H L all S):WF H' L all S:=⟨h.vs,fun a ha=>⟨(h.ln a ha).1,fun v hv=>k.gv ((h.ln a ha).2 v hv)⟩,h.len,h.out⟩
theorem Vn.kept (k:Kept F H H'){v:V}{q:Str×Th}(h:Vn H all S v q):Vn H' all S v q:=by
 obtain⟨a,ha,e1,e2,t⟩:=h;refine⟨a,ha,e1,e2,?_⟩;cases hq:q.2 with
 |pl ss=>rw[hq]at t;exact⟨t.1,k.sgs t.2⟩
 |cn ld lt sl tn =>
  rw[hq]at t;obtain⟨p,e3,e4⟩:=t;exact⟨p,e3,k _ _ e4 (.inr fun _ z=>nomatch z)⟩
theorem Is.kept (k:Kept F H H')(h:Is H L all S vw):Is H' L all S vw:=bZ (fun _ _ q=>Vn.kept k q) h
theorem jD (k:Kept F H H'){v:V}{e:Dd}(f:F e.B/\F e.A)(h:mK CD H v e):mK CD H' v e:=⟨h.1,k _ _ h.2.1 (.inr fun _ z=>nomatch z),k _ _ h.2.2.1 (.inl f.1),k _ _ h.2.2.2 (.inl f.2)⟩
theorem pb {α β:Type}{F G:α->β->Prop}:∀{xs:List α} {ys:List β},(∀ x y,y∈ys->F x y->G x y)->Paired F xs ys->Paired G xs ys
 |_,_,_,.nil=>.nil
 |_,_,h,.cons a b=>.cons (h _ _ (mem_cons_self ..) a) (pb (fun x y hy=>h x y (mem_cons_of_mem _ hy)) b)
theorem Nf.kept (h:Nf CB CV CD H x L D U all M Ps Fs es us)(f:SJ F L D U all es us)(k:Kept F H H'):Nf CB CV CD H' x L D U all M Ps Fs es us :=
 {
  h with
  hx:=let ⟨dx,e⟩:=h.hx;⟨dx,k _ _ e (.inr fun _ z=>nomatch z)⟩
  hL:=k _ _ h.hL (.inl f.L)
  hD:=let ⟨xs,e,p⟩:=h.hD;⟨xs,k _ _ e (.inl f.D),pb (fun _ e he q=>jD k (f.d e (.inl he)) q) p⟩
  hU:=let ⟨xs,e,p⟩:=h.hU;⟨xs,k _ _ e (.inl f.U),pb (fun _ e he q=>jD k (f.d e (.inr he)) q) p⟩
  ha:=fun a m=>⟨k _ _ (h.ha a m).1 (.inr fun _ z=>nomatch z),k _ _ (h.ha a m).2 (.inl (f.l a m))⟩
  wf:=fun S hS=>(h.wf S hS).kept k }
theorem Bk.kept (h:Bk CB CV CD H x F vw ps fs)(k:Kept F H H'):Bk CB CV CD H' x F vw ps fs:=by
 obtain⟨L,D,U,all,M,Ps,Fs,es,us,b,i,pp,pf,f⟩:=h.ex;exact⟨⟨L,D,U,all,M,Ps,Fs,es,us,b.kept f k,Is.kept k i,bZ (fun _ _ q=>Is.kept k q) pp,bZ (fun _ _ q=>Is.kept k q) pf,f⟩,h.wv⟩
theorem Bk.same (h:Bk CB CV CD H x F vw ps fs)(s:aq H H'):Bk CB CV CD H' x F vw ps fs:=h.kept (.same s)
theorem Nf.vB (b:Nf CB CV CD H x L D U all M Ps Fs es us)(i:Is H L all M vw):∃ vx:List Vx,Paired (adV CV H) (M L) vx/\Paired (fun a q=>a∈all/\a.n=q.1/\abW H M a q.2) vx vw:=by
 have go:∀{xs:List V} {vw:Vw},Paired (Vn H all M) xs vw->∃ vx:List Vx,Paired (adV CV H) xs vx/\Paired (fun a q=>a∈all/\a.n=q.1/\abW H M a q.2) vx vw:=by
  intro xs vw h
  induction h with
  |nil=>exact⟨[],.nil,.nil⟩
  |cons q _ ih =>
   obtain⟨a,ha,e1,e2,e3⟩:=q;obtain⟨vx,p1,p2⟩:=ih;exact⟨a::vx,.cons ⟨e1,(b.ha a ha).1⟩ p1,.cons ⟨ha,e2,e3⟩ p2⟩
 exact go i
def Zo (L D U:Addr)(all:List Vx)(e:Dd):Prop:=(e.T=L\/∃ a∈all,e.T=a.l)/\(e.B≠L/\e.B≠D/\e.B≠U/\∀ a∈all,e.B≠a.l)/\(e.A≠L/\e.A≠D/\e.A≠U/\∀ a∈all,e.A≠a.l)/\e.bs.length<=1/\e.as.length<=1
theorem Nf.lists (b:Nf CB CV CD H x L D U all M Ps Fs es us){T:Addr}(tg:T=L\/∃ a∈all,T=a.l):H T=some (.lst (M T))/\T≠D/\T≠U:=by
 rcases tg with rfl|⟨a,ha,rfl⟩
 ·exact⟨b.hL,b.LD,b.LU⟩
 ·exact⟨(b.ha a ha).2,(b.nl a ha).2.1,(b.nl a ha).2.2⟩
theorem Nf.chg (b:Nf CB CV CD H x L D U all M Ps Fs es us){T:Addr}(tg:T=L\/∃ a∈all,T=a.l){H2:Hp}(fr:∀ y o,H y=some o->y≠T->y≠D->y≠U->H2 y=some o){M':MM}(m1:∀ c,c≠T->M' c=M c)(hT:H2 T=some (.lst (M' T)))
  {dx:List V} {es':List Dd} (hD:H2 D=some (.lst dx)) (pD:Paired (mK CD H) dx es') {ux:List V} {us':List Dd} (hU:H2 U=some (.lst ux)) (pU:Paired (mK CD H) ux us') (UM:∀ e,e∈es'\/e∈us'->Zo L D U all e)
  {Ps' Fs':List MM} (aij:Path Ps' es' M') (akx:Fut M' us' Fs') (wf':∀ S,S∈Ps'\/S=M'\/S∈Fs'->WF H L all S):Nf CB CV CD H2 x L D U all M' Ps' Fs' es' us'/\Kept (fun _=>False) H H2:=by
 obtain⟨hT0,TD,TU⟩:=b.lists tg;obtain⟨dx0,hD0,_⟩:=b.hD;obtain⟨ux0,RY,_⟩:=b.hU;have kN:∀ y o,H y=some o->(∀ zs,o≠.lst zs)->H2 y=some o:=fun y o hy hn=>fr y o hy
  (fun e=>by rw[e,hT0]at hy;cases hy;exact hn _ rfl) (fun e=>by rw[e,hD0]at hy;cases hy;exact hn _ rfl) (fun e=>by rw[e,RY]at hy;cases hy;exact hn _ rfl)
 have k:Kept (fun _=>False) H H2:=fun y o hy h=>kN y o hy (h.elim False.elim id);have dk:∀{v e},Zo L D U all e->mK CD H v e->mK CD H2 v e:=fun {v e} ok h=>by
  have nT:∀{c:Addr},c≠L/\c≠D/\c≠U/\(∀ a∈all,c≠a.l)->c≠T:=fun {c} q z=>by
   rcases tg with rfl|⟨a,ha,rfl⟩
   ·exact q.1 z
   ·exact q.2.2.2 a ha z
  exact⟨h.1,kN _ _ h.2.1 (fun _ z=>nomatch z),fr _ _ h.2.2.1 (nT ok.2.1) ok.2.1.2.1 ok.2.1.2.2.1,fr _ _ h.2.2.2 (nT ok.2.2.1) ok.2.2.1.2.1 ok.2.2.1.2.2.1⟩
 have at_:∀{c:Addr},(c=L\/∃ a∈all,c=a.l)->H2 c=some (.lst (M' c)):=fun {c} hc=>by
  by_cases e:c=T
  ·rw[e];exact hT
  ·obtain⟨h1,h2,h3⟩:=b.lists hc;rw[m1 c e];exact fr _ _ h1 e h2 h3
 refine⟨{
      hx:=let ⟨dx,e⟩:=b.hx;⟨dx,kN _ _ e (fun _ z=>nomatch z)⟩
      hL:=at_ (.inl rfl)
      hD:=⟨_,hD,pb (fun _ e he q=>dk (UM e (.inl he)) q) pD⟩
      hU:=⟨_,hU,pb (fun _ e he q=>dk (UM e (.inr he)) q) pU⟩
      ha:=fun a ha=>⟨kN _ _ (b.ha a ha).1 (fun _ z=>nomatch z),at_ (.inr ⟨a,ha,rfl⟩)⟩
      LD:=b.LD,LU:=b.LU,DU:=b.DU,nl:=b.nl,ni:=b.ni,no:=b.no,dd:=UM
      past:=aij
      fut:=akx
      wf:=fun S hS=>(wf' S hS).kept k },k⟩
theorem Nf.grow (b:Nf CB CV CD H x L D U all M Ps Fs es us){a:Vx}{H1:Hp}(s:aq H H1)(n1:H a.o=none)(n2:H a.l=none)(h1:H1 a.o=some (.ins CV a.d (voF a.n a.tm a.l)))(h2:H1 a.l=some (.lst [])):Nf CB CV CD H1 x L D U (all++[a]) M Ps Fs es us:=by
 have b1:=b.kept (F:=fun _=>True) ⟨trivial,trivial,trivial,fun _ _=>trivial,fun _ _=>⟨trivial,trivial⟩⟩ (.same s);obtain⟨dx0,hD0,pD0⟩:=b.hD;obtain⟨ux0,RY,pU0⟩:=b.hU;have nL:a.l≠L:=Ne.symm (ao b.hL n2);have nD:a.l≠D:=Ne.symm (ao hD0 n2);have nU:a.l≠U:=Ne.symm (ao RY n2);have nA:∀ c∈all,a.l≠c.l:=fun c hc=>Ne.symm (ao (b.ha c hc).2 n2);have nO:∀ c∈all,a.o≠c.o:=fun c hc=>Ne.symm (ao (b.ha c hc).1 n1);have mem:∀{c:Vx},c∈all++[a]->c∈all\/c=a:=fun h=>by simpa using h
 have wf2:∀ S,WF H1 L all S->WF H1 L (all++[a]) S:=fun S w =>
  {
   vs:=let ⟨vx,p⟩:=w.vs;⟨vx,bZ (fun _ _ q=>⟨q.1,mem_append_left _ q.2⟩) p⟩
   ln:=fun c hc=>by
    rcases mem hc with hc|rfl
    ·exact w.ln c hc
    ·have e:S c.l=[]:=w.out c.l nL fun d hd=>nA d hd;rw[e];exact⟨Nat.zero_le _,fun _ z=>nomatch z⟩
   len:=w.len
   out:=fun c h h'=>w.out c h fun d hd=>h' d (mem_append_left _ hd) }
 have dds:∀{v e},mK CD H v e->e.B≠a.l/\e.A≠a.l:=fun h=>⟨ao h.2.2.1 n2,ao h.2.2.2 n2⟩;have ddn:∀ e,e∈es\/e∈us->e.B≠a.l/\e.A≠a.l:=fun e he=>by
  rcases he with he|he
  ·obtain⟨i,hi⟩:=getElem?_of_mem he;obtain⟨v,_,q⟩:=uF pD0 hi;exact dds q
  ·obtain⟨i,hi⟩:=getElem?_of_mem he;obtain⟨v,_,q⟩:=uF pU0 hi;exact dds q
 exact { b1 with
  ha:=fun c hc=>by
   rcases mem hc with hc|rfl
   ·exact b1.ha c hc
   ·refine⟨h1,?_⟩;rw[(b.wf M (.inr (.inl rfl))).out c.l nL fun d hd=>nA d hd];exact h2
  nl:=fun c hc=>by
   rcases mem hc with hc|rfl
   ·exact b1.nl c hc
   ·exact⟨nL,nD,nU⟩
  ni:=fun c hc d hd e=>by
   rcases mem hc with z1|z1 <;> rcases mem hd with z2|z2
   ·exact b1.ni c z1 d z2 e
   ·rw[z2]at e;exact absurd e.symm (nA c z1)
   ·rw[z1]at e;exact absurd e (nA d z2)
   ·rw[z1,z2]
  no:=fun c hc d hd e=>by
   rcases mem hc with z1|z1 <;> rcases mem hd with z2|z2
   ·exact b1.no c z1 d z2 e
   ·rw[z2]at e;exact absurd e.symm (nO c z1)
   ·rw[z1]at e;exact absurd e (nO d z2)
   ·rw[z1,z2]
  dd:=fun e he=>by
   obtain⟨q1,q2,q3,q4⟩:=b1.dd e he;refine⟨q1.imp id fun⟨c,hc,z⟩=>⟨c,mem_append_left _ hc,z⟩,⟨q2.1,q2.2.1,q2.2.2.1,fun c hc=>?_⟩,⟨q3.1,q3.2.1,q3.2.2.1,fun c hc=>?_⟩,q4⟩
   ·rcases mem hc with hc|rfl
    ·exact q2.2.2.2 c hc
    ·exact(ddn e he).1
   ·rcases mem hc with hc|rfl
    ·exact q3.2.2.2 c hc
    ·exact(ddn e he).2
  wf:=fun S hS=>wf2 S (b1.wf S hS) }
theorem Is.grow {a:Vx}(h:Is H L all S vw):Is H L (all++[a]) S vw:=bZ (fun _ _ ⟨c,hc,q⟩=>⟨c,mem_append_left _ hc,q⟩) h
end
set_option maxHeartbeats 1000000
section
variable {CB CV CD:Addr} {H H1 H2 H':Hp} {x L D U:Addr} {all:List Vx} {M S:MM} {Ps Fs:List MM} {es us:List Dd} {F:Addr->Prop} {vw vw':Vw} {ps fs:List Vw}
theorem Bk.deed (b:Nf CB CV CD H1 x L D U all M Ps Fs es us)(i:Is H1 L all M vw)(pp:Paired (Is H1 L all) Ps ps)(f:SJ F L D U all es us)(wv:∀ v,v∈ps\/v=vw->xk v){e:Dd}(hd:mK CD H1 (.ref e.o) e)(ok:Zo L D U all e)(ft:Fits e M)(w:WF H1 L all (vi e M))
  (i':Is H1 L all (vi e M) vw') (wv':xk vw') {dx:List V} (pD:Paired (mK CD H1) dx es) (fr:∀ y o,H1 y=some o->y≠e.T->y≠D->y≠U->H2 y=some o) (hT:H2 e.T=some (.lst (vi e M e.T))) (hD2:H2 D=some (.lst (dx++[.ref e.o]))) (hU2:H2 U=some (.lst [])) :
  Bk CB CV CD H2 x (fun y=>F y\/y=e.B\/y=e.A) vw' (ps++[vw]) []:=by
 obtain⟨b2,k⟩:=b.chg ok.1 fr (M':=vi e M) (fun c hc=>oQ hc) hT hD2 (kL pD hd) hU2 .nil (fun e' he=>by
  rcases he with he|he
  ·rcases mem_append.mp he with he|he
   ·exact b.dd e' (.inl he)
   ·rw[mem_singleton.mp he];exact ok
  ·cases he) (b.past.snoc ft) .nil (fun S hS=>by
  rcases hS with hS|hS|hS
  ·rcases mem_append.mp hS with hS|hS
   ·exact b.wf S (.inl hS)
   ·exact b.wf S (.inr (.inl (mem_singleton.mp hS)))
  ·rw[hS];exact w
  ·cases hS)
 refine⟨⟨L,D,U,all,_,_,_,_,_,b2,Is.kept k i',kL (bZ (fun _ _ q=>Is.kept k q) pp) (Is.kept k i),.nil,⟨.inl f.L,.inl f.D,.inl f.U,fun a ha=>.inl (f.l a ha),fun e' he=>?_⟩⟩,fun v hv=>?_⟩
 ·rcases he with he|he
  ·rcases mem_append.mp he with he|he
   ·exact⟨.inl (f.d e' (.inl he)).1,.inl (f.d e' (.inl he)).2⟩
   ·rw[mem_singleton.mp he];exact⟨.inr (.inl rfl),.inr (.inr rfl)⟩
  ·cases he
 ·rcases hv with hv|hv|hv
  ·rcases mem_append.mp hv with hv|hv
   ·exact wv v (.inl hv)
   ·exact wv v (.inr (mem_singleton.mp hv))
  ·rw[hv];exact wv'
  ·cases hv
theorem KJ {α β:Type}{F:α->β->Prop}:∀{xs:List α} {x:α} {zs:List β},Paired F (xs++[x]) zs->∃ ys y,zs=ys++[y]/\Paired F xs ys/\F x y
 |[],_,_,.cons r .nil=>⟨[],_,rfl,.nil,r⟩
 |_::_,_,_,.cons r t=>by
  obtain⟨ys,y,rfl,p,q⟩:=KJ t;exact⟨_::ys,y,rfl,.cons r p,q⟩
theorem Bk.agh (b:Nf CB CV CD H x L D U all M Ps Fs es us)(i:Is H L all M vw)(pp:Paired (Is H L all) Ps ps)(pf:Paired (Is H L all) Fs fs)(f:SJ F L D U all es us)(wv:∀ v,v∈ps\/v=vw\/v∈fs->xk v){e:Dd}{es0:List Dd}(he:es=es0++[e]){dx ux:List V}(pD:Paired (mK CD H) dx es0)(hd:mK CD H (.ref e.o) e)(pU:Paired (mK CD H) ux us)
  (fr:∀ y o,H y=some o->y≠e.T->y≠D->y≠U->H2 y=some o) (hT:H2 e.T=some (.lst (unD e M e.T))) (hD2:H2 D=some (.lst dx)) (hU2:H2 U=some (.lst (ux++[.ref e.o]))) :
  ∃ Vo v,ps=Vo++[v]/\Bk CB CV CD H2 x F v Vo (fs++[vw]):=by
 subst he;obtain⟨Ps0,S,rfl,p0,ft,rfl⟩:=b.past.last;have ok:=b.dd e (.inl (mem_append_right _ (List.mem_singleton_self _)));rw[aii ft]at hT;obtain⟨b2,k⟩:=b.chg ok.1 fr (M':=S) (fun c hc=>(oQ hc).symm) hT hD2 pD hU2 (kL pU hd) (fun e' he=>by
  rcases he with he|he
  ·exact b.dd e' (.inl (mem_append_left _ he))
  ·rcases mem_append.mp he with he|he
   ·exact b.dd e' (.inr he)
   ·rw[mem_singleton.mp he];exact ok) p0 (Fut.snoc ft b.fut) (fun T hT=>by
  rcases hT with hT|hT|hT
  ·exact b.wf T (.inl (mem_append_left _ hT))
  ·exact b.wf T (.inl (mem_append_right _ (mem_singleton.mpr hT)))
  ·rcases mem_append.mp hT with hT|hT
   ·exact b.wf T (.inr (.inr hT))
   ·exact b.wf T (.inr (.inl (mem_singleton.mp hT))))
 obtain⟨Vo,v,rfl,pp0,iv⟩:=KJ pp;refine⟨Vo,v,rfl,⟨⟨L,D,U,all,_,_,_,_,_,b2,Is.kept k iv,bZ (fun _ _ q=>Is.kept k q) pp0,kL (bZ (fun _ _ q=>Is.kept k q) pf) (Is.kept k i),⟨f.L,f.D,f.U,f.l,fun e' he=>?_⟩⟩,fun u hu=>?_⟩⟩
 ·rcases he with he|he
  ·exact f.d e' (.inl (mem_append_left _ he))
  ·rcases mem_append.mp he with he|he
   ·exact f.d e' (.inr he)
   ·rw[mem_singleton.mp he];exact f.d e (.inl (mem_append_right _ (List.mem_singleton_self _)))
 ·rcases hu with hu|hu|hu
  ·exact wv u (.inl (mem_append_left _ hu))
  ·exact wv u (.inl (mem_append_right _ (mem_singleton.mpr hu)))
  ·rcases mem_append.mp hu with hu|hu
   ·exact wv u (.inr (.inr hu))
   ·exact wv u (.inr (.inl (mem_singleton.mp hu)))
theorem Bk.agi (b:Nf CB CV CD H x L D U all M Ps Fs es us)(i:Is H L all M vw)(pp:Paired (Is H L all) Ps ps)(pf:Paired (Is H L all) Fs fs)(f:SJ F L D U all es us)(wv:∀ v,v∈ps\/v=vw\/v∈fs->xk v){e:Dd}{us0:List Dd}(he:us=us0++[e]){dx ux:List V}(pD:Paired (mK CD H) dx es)(hd:mK CD H (.ref e.o) e)(pU:Paired (mK CD H) ux us0)
  (fr:∀ y o,H y=some o->y≠e.T->y≠D->y≠U->H2 y=some o) (hT:H2 e.T=some (.lst (vi e M e.T))) (hD2:H2 D=some (.lst (dx++[.ref e.o]))) (hU2:H2 U=some (.lst ux)) :
  ∃ Zp v,fs=Zp++[v]/\Bk CB CV CD H2 x F v (ps++[vw]) Zp:=by
 subst he;obtain⟨Fs0,rfl,ft,p0⟩:=b.fut.last;have ok:=b.dd e (.inr (mem_append_right _ (List.mem_singleton_self _)));obtain⟨b2,k⟩:=b.chg ok.1 fr (M':=vi e M) (fun c hc=>oQ hc) hT hD2 (kL pD hd) hU2 pU (fun e' he=>by
  rcases he with he|he
  ·rcases mem_append.mp he with he|he
   ·exact b.dd e' (.inl he)
   ·rw[mem_singleton.mp he];exact ok
  ·exact b.dd e' (.inr (mem_append_left _ he))) (b.past.snoc ft) p0 (fun T hT=>by
  rcases hT with hT|hT|hT
  ·rcases mem_append.mp hT with hT|hT
   ·exact b.wf T (.inl hT)
   ·exact b.wf T (.inr (.inl (mem_singleton.mp hT)))
  ·exact b.wf T (.inr (.inr (mem_append_right _ (mem_singleton.mpr hT))))
  ·exact b.wf T (.inr (.inr (mem_append_left _ hT))))
 obtain⟨Zp,v,rfl,pf0,iv⟩:=KJ pf;refine⟨Zp,v,rfl,⟨⟨L,D,U,all,_,_,_,_,_,b2,Is.kept k iv,kL (bZ (fun _ _ q=>Is.kept k q) pp) (Is.kept k i),bZ (fun _ _ q=>Is.kept k q) pf0,⟨f.L,f.D,f.U,f.l,fun e' he=>?_⟩⟩,fun u hu=>?_⟩⟩
 ·rcases he with he|he
  ·rcases mem_append.mp he with he|he
   ·exact f.d e' (.inl he)
   ·rw[mem_singleton.mp he];exact f.d e (.inr (mem_append_right _ (List.mem_singleton_self _)))
  ·exact f.d e' (.inr (mem_append_left _ he))
 ·rcases hu with hu|hu|hu
  ·rcases mem_append.mp hu with hu|hu
   ·exact wv u (.inl hu)
   ·exact wv u (.inr (.inl (mem_singleton.mp hu)))
  ·exact wv u (.inr (.inr (mem_append_right _ (mem_singleton.mpr hu))))
  ·exact wv u (.inr (.inr (mem_append_left _ hu)))
def aR (vw:Vw)(n:Str):Option Th:=(vw.find? fun q=>decide (q.1=n)).map (·.2)
def zP (vw:Vw)(n:Str)(th:Th):Vw:=vw.map fun q=>if q.1=n then(n,th) else q
theorem dg {n:Str}{th:Th}(h:aR vw n=some th):(n,th)∈vw:=by
 unfold aR at h;cases e:vw.find? (fun q=>decide (q.1=n)) with
 |none=>rw[e]at h;cases h
 |some q =>
  rw[e]at h;have h1:=List.mem_of_find?_eq_some e;have h2:=List.find?_some e;have h3:q.1=n:=of_decide_eq_true h2;have h4:q.2=th:=Option.some.inj h;rw[<-h3,<-h4];exact h1
theorem qO {n:Str}(h:aR vw n=none):∀ q∈vw,q.1≠n:=by
 unfold aR at h;rw[Option.map_eq_none_iff]at h;intro q hq e;exact List.find?_eq_none.mp h q hq (decide_eq_true e)
theorem Di:∀{l:List Str} {i j:Nat} {n:Str},l.Nodup->l[i]? = some n->l[j]? = some n->i=j
 |[],_,_,_,_,h,_=>by simp at h
 |a::l,i,j,n,nd,h1,h2=>by
  obtain⟨na,nd'⟩:=List.nodup_cons.mp nd
  match i,j,h1,h2 with
  |0,0,_,_=>rfl
  |0,j+1,h1,h2 =>
   rw[List.getElem?_cons_zero]at h1;rw[List.getElem?_cons_succ]at h2;cases h1;exact absurd (mem_of_getElem? h2) na
  |i+1,0,h1,h2 =>
   rw[List.getElem?_cons_zero]at h2;rw[List.getElem?_cons_succ]at h1;cases h2;exact absurd (mem_of_getElem? h1) na
  |i+1,j+1,h1,h2 =>
   rw[List.getElem?_cons_succ]at h1 h2;rw[Di nd' h1 h2]
theorem xk.uniq (w:xk vw){q q':Str×Th}(h:q∈vw)(h':q'∈vw)(e:q.1=q'.1):q=q':=by
 obtain⟨i,hi⟩:=getElem?_of_mem h;obtain⟨j,hj⟩:=getElem?_of_mem h';have h1:(vw.map (·.1))[i]? = some q.1:=by rw[getElem?_map,hi];rfl
 have h2:(vw.map (·.1))[j]? = some q.1:=by rw[getElem?_map,hj,e];rfl
 have:=Di w.nd h1 h2;subst this;rw[hi]at hj;exact Option.some.inj hj
theorem xk.find (w:xk vw){n:Str}{th:Th}(h:(n,th)∈vw):aR vw n=some th:=by
 cases e:aR vw n with
 |none=>exact absurd rfl (qO e _ h)
 |some t =>
  have:=w.uniq (dg e) h rfl;rw[Prod.mk.injEq]at this;rw[this.2]
theorem KL (n:Str)(th:Th):(zP vw n th).map (·.1)=vw.map (·.1):=by
 unfold zP;rw[List.map_map];refine List.map_congr_left fun q _=>?_;show(if q.1=n then(n,th) else q).1=q.1;split
 ·next h=>exact h.symm
 ·rfl
theorem SK {n:Str}{th:Th}{q:Str×Th}(h:q∈zP vw n th):(q=(n,th)/\∃ q'∈vw,q'.1=n)\/(q∈vw/\q.1≠n):=by
 obtain⟨q',h1,h2⟩:=mem_map.mp h;split at h2
 ·next e=>exact .inl ⟨h2.symm,q',h1,e⟩
 ·next e=>rw[<-h2];exact .inr ⟨h1,e⟩
theorem Vp {n:Str}{th:Th}{q:Str×Th}(h:q∈vw)(hn:q.1≠n):q∈zP vw n th:=mem_map.mpr ⟨q,h,if_neg hn⟩
theorem abX {n:Str}{th t:Th}(h:(n,t)∈vw):(n,th)∈zP vw n th:=mem_map.mpr ⟨(n,t),h,if_pos rfl⟩
theorem xk.set (w:xk vw){n:Str}{ss ss':List Sg}(h:(n,Th.pl ss)∈vw)(h1:ss'.length<=200)(h2:∀ s∈ss',N9 s):xk (zP vw n (.pl ss')) where
 nd:=by rw[KL];exact w.nd
 ld:=fun m ld lt sl tn hm=>by
  rcases SK hm with ⟨e,_⟩|⟨hm',_⟩
  ·cases e
  ·obtain⟨⟨s0,h0⟩,r⟩:=w.ld m ld lt sl tn hm';refine⟨?_,r⟩
   by_cases e:ld=n
   ·rw[e];exact⟨ss',abX h⟩
   ·exact⟨s0,Vp h0 e⟩
 gd:=fun m s0 hm=>by
  rcases SK hm with ⟨e,_⟩|⟨hm',_⟩
  ·cases e;exact⟨h1,h2⟩
  ·exact w.gd m s0 hm'
 len:=by
  have:=congrArg List.length (KL (vw:=vw) n (.pl ss'));rw[length_map,length_map]at this;rw[this];exact w.len
theorem xk.aik (w:xk vw){n:Str}(hn:∀ q∈vw,q.1≠n)(hl:vw.length<12):xk (vw++[(n,.pl [])]) where
 nd:=by
  rw[map_append,List.nodup_append];refine⟨w.nd,by simp,?_⟩;intro a ha c hc e;obtain⟨q,hq,e1⟩:=mem_map.mp ha;have:c=n:=by simpa using hc
  exact hn q hq (by rw[e1,e,this])
 ld:=fun m ld lt sl tn hm=>by
  rcases mem_append.mp hm with hm|hm
  ·obtain⟨⟨s0,h0⟩,r⟩:=w.ld m ld lt sl tn hm;exact⟨⟨s0,mem_append_left _ h0⟩,r⟩
  ·have:=mem_singleton.mp hm;cases this
 gd:=fun m s0 hm=>by
  rcases mem_append.mp hm with hm|hm
  ·exact w.gd m s0 hm
  ·have:=mem_singleton.mp hm;cases this;exact⟨Nat.zero_le _,fun _ z=>nomatch z⟩
 len:=by rw[length_append];exact hl
theorem xk.ail (w:xk vw){n ld:Str}{lt sl:Int}{tn:Bool}{ss:List Sg}(hn:∀ q∈vw,q.1≠n)(hl:vw.length<12)(h:(ld,Th.pl ss)∈vw)(h1:0<=lt)(h2:lt<=999)(h3:1<=sl)(h4:sl<=9):xk (vw++[(n,.cn ld lt sl tn)]) where
 nd:=by
  rw[map_append,List.nodup_append];refine⟨w.nd,by simp,?_⟩;intro a ha c hc e;obtain⟨q,hq,e1⟩:=mem_map.mp ha;have:c=n:=by simpa using hc
  exact hn q hq (by rw[e1,e,this])
 ld:=fun m l2 t2 s2 n2 hm=>by
  rcases mem_append.mp hm with hm|hm
  ·obtain⟨⟨s0,h0⟩,r⟩:=w.ld m l2 t2 s2 n2 hm;exact⟨⟨s0,mem_append_left _ h0⟩,r⟩
  ·have:=mem_singleton.mp hm;cases this;exact⟨⟨ss,mem_append_left _ h⟩,h1,h2,h3,h4⟩
 gd:=fun m s0 hm=>by
  rcases mem_append.mp hm with hm|hm
  ·exact w.gd m s0 hm
  ·have:=mem_singleton.mp hm;cases this
 len:=by rw[length_append];exact hl
theorem afg {α β γ:Type}{F:α->β->Prop}{G:α->γ->Prop}{f:β->γ}:∀{xs:List α} {ys:List β},Paired F xs ys->(∀(k:Nat) x y,xs[k]? = some x->ys[k]? = some y->F x y->G x (f y))->Paired G xs (ys.map f)
 |_,_,.nil,_=>.nil
 |_,_,.cons a b,h=>.cons (h 0 _ _ rfl rfl a) (afg b fun k x y e1 e2=>h (k+1) x y (by simpa using e1) (by simpa using e2))
theorem Is.line (b:Nf CB CV CD H x L D U all M Ps Fs es us)(i:Is H L all M vw)(w:xk vw){a:Vx}(ha:a∈all){j:Nat}{th:Th}{ss':List Sg}(hj:(M L)[j]? = some (.ref a.o))(hm:vw[j]? = some (a.n,th))(RZ:a.tm=.non){M':MM}(m1:∀ c,c≠a.l->M' c=M c)(g:mQ H (M' a.l) ss'):Is H L all M' (zP vw a.n (.pl ss')):=by
 show Paired _ (M' L) _;rw[m1 L (Ne.symm (b.nl a ha).1)];refine afg i fun k v q hk hq hvq=>?_;obtain⟨c,hc,rfl,e1,t⟩:=hvq;split
 ·next e =>
  have h1:(vw.map (·.1))[k]? = some a.n:=by rw[getElem?_map,hq,<-e];rfl
  have h2:(vw.map (·.1))[j]? = some a.n:=by rw[getElem?_map,hm];rfl
  have hkj:=Di w.nd h1 h2;subst hkj;rw[hj]at hk;have:a.o=c.o:=V.ref.inj (Option.some.inj hk);have:=b.no a ha c hc this;subst this;exact⟨a,hc,rfl,rfl,RZ,g⟩
 ·next e =>
  refine⟨c,hc,rfl,e1,?_⟩;have ne:c.l≠a.l:=fun z=>e (by rw[<-e1,b.ni c hc a ha z]);cases hq2:q.2 with
  |pl s0=>rw[hq2]at t;exact⟨t.1,by rw[m1 _ ne];exact t.2⟩
  |cn ld lt sl tn=>rw[hq2]at t;exact t
end
set_option maxHeartbeats 1000000
abbrev Sn:=Str×Int
def mT:List V:=[.str "G",.str "D",.str "s",.str "d"]
def j9:List V:=[.str "R",.str "r",.str ".",.str "3",.str "2"]
def iC (s:Sn):Bool:=if inV (.str s.1) mT=true then(if decide (0<=s.2)=true then decide (s.2<=99) else false) else(if inV (.str s.1) j9=true then decide (s.2=0) else false)
set_option maxHeartbeats 1000000
inductive Rf where
 |sx|Kf|zx|Full|dQ|gR|qi|sy|AA|mU
structure Cs where
 B:Addr
 V:Addr
 D:Addr
 on:Bool
 x:Rf->Addr
def RX (E:XK)(c:Cs)(r:Rf)(H:Hp):Prop:=c.on=true/\E (.ref (c.x r)) none H
abbrev xE (c:Cs):=Bk c.B c.V c.D
def Fr (F:Addr->Prop)(H H':Hp):Prop:=∀ y o,H y=some o->¬ F y->H' y=some o
def Gr (F F':Addr->Prop)(H:Hp):Prop:=∀ y,F' y->F y\/H y=none
theorem Gr.refl (F:Addr->Prop)(H:Hp):Gr F F H:=fun _ h=>.inl h
theorem Gr.old {F F':Addr->Prop}{H H':Hp}(s:aq H H')(g:Gr F F' H'):Gr F F' H:=fun y z=>(g y z).imp id fun q=>s.free q
def nameB (x:Str):Bool:=decide (1<=x.length)&&(decide (x.length<=8)&&x.cps.toList.all fun c=>N6 ⟨#[c]⟩ "abcdefghijklmnopqrstuvwxyz")
theorem kinds_of {k:Str}(h:inV (.str k) mT=true\/inV (.str k) j9=true):∃ d:Kd,d.str=k:=by
 have go:∀ l:List V,(∀ v∈l,∃ d:Kd,v=.str d.str)->inV (.str k) l=true->∃ d:Kd,d.str=k:=fun l hl h=>by
  unfold inV at h;obtain⟨y,hy,e⟩:=any_eq_true.mp h;obtain⟨d,rfl⟩:=hl y hy;have:d.str=k:=by simpa [Yj] using e
  exact⟨d,this⟩
 have c:∀(l:List Kd),∀ v∈l.map (fun d=>V.str d.str),∃ d:Kd,v=.str d.str:=fun l v hv=>by
  obtain⟨d,_,e⟩:=mem_map.mp hv;exact⟨d,e.symm⟩
 rcases h with h|h
 ·exact go mT (c [.G,.D,.s,.d]) h
 ·exact go j9 (c [.R,.r,.dot,.three,.two]) h
theorem aim (d:Kd):inV (.str d.str) mT=d.FA:=by cases d <;> decide +kernel
theorem ain (d:Kd):inV (.str d.str) j9 = !d.FA:=by cases d <;> decide +kernel
theorem O6 {sn:Sn}(h:iC sn=true):∃ s:Sg,s.1.str=sn.1/\s.2=sn.2/\N9 s:=by
 unfold iC at h;split at h
 ·next h1 =>
  obtain⟨d,hd⟩:=kinds_of (.inl h1);rw[<-hd,aim]at h1;split at h
  ·next h2=>exact⟨(d,sn.2),hd,rfl,⟨(fun _=>⟨of_decide_eq_true h2,by have:=of_decide_eq_true h;show sn.2<100;omega⟩),fun z=>by rw[show d.FA=false from z]at h1;cases h1⟩⟩
  ·cases h
 ·next h1 =>
  split at h
  ·next h2 =>
   obtain⟨d,hd⟩:=kinds_of (.inr h2);rw[<-hd,ain]at h2;exact⟨(d,sn.2),hd,rfl,⟨(fun z=>by rw[show d.FA=true from z]at h2;cases h2),fun _=>of_decide_eq_true h⟩⟩
  ·cases h
def Oa:Kd->Kd
 |.three=>.two
 |.two=>.three
 |k=>k
def sA (s:Sg):Sg:=(Oa s.1,s.2)
def Dj (vw:Vw)(n:Str):List Sg:=match aR vw n with
 |some (.pl ss)=>ss
 |some (.cn ld _ _ tn)=>match aR vw ld with
  |some (.pl ss)=>if tn then ss.map sA else ss
  |_=>[]
 |none=>[]
def wZ (vw:Vw)(n:Str):List Int:=match aR vw n with
 |some (.pl ss)=>(kM 3 (bA ss)).1
 |some (.cn ld _ sl tn)=>match aR vw ld with
  |some (.pl ss)=>(kM (if tn then 2 else 3) (bA (if tn then ss.map sA else ss))).1.map fun w=>sl * w
  |_=>[]
 |none=>[]
theorem xF {vw:Vw}{n:Str}{ss:List Sg}(h:aR vw n=some (.pl ss)):Dj vw n=ss:=by
 unfold Dj;rw[h]
theorem xG {vw:Vw}{n ld:Str}{lt sl:Int}{tn:Bool}{ss:List Sg}(h:aR vw n=some (.cn ld lt sl tn))(h':aR vw ld=some (.pl ss)):Dj vw n=if tn=true then ss.map sA else ss:=by
 unfold Dj;rw[h];show(match aR vw ld with|some (.pl ss)=>if tn=true then ss.map sA else ss|_=>[])=_;rw[h']
theorem KN {vw:Vw}{n:Str}{ss:List Sg}(h:aR vw n=some (.pl ss)):wZ vw n=(kM 3 (bA ss)).1:=by
 unfold wZ;rw[h]
theorem KO {vw:Vw}{n ld:Str}{lt sl:Int}{tn:Bool}{ss:List Sg}(h:aR vw n=some (.cn ld lt sl tn))(h':aR vw ld=some (.pl ss)):wZ vw n=(kM (if tn then 2 else 3) (bA (if tn then ss.map sA else ss))).1.map fun w=>sl * w:=by
 unfold wZ;rw[h];show(match aR vw ld with|some (.pl ss)=>(kM (if tn then 2 else 3) (bA (if tn then ss.map sA else ss))).1.map fun w=>sl * w|_=>[])=_;rw[h']
theorem agj {H H':Hp}{x dx C:Addr}(hx:H x=none)(hdx:H dx=none)(kp:∀ y o,(upd (upd H dx (.own x)) x (.ins C dx [])) y=some o->y≠x->H' y=some o):aq H H':=fun y o hy =>
 kp y o (by rw[ak (ao hy hx),ak (ao hy hdx)];exact hy) (ao hy hx)
theorem KP {H:Hp}{x dx D:Addr}{o1 o2:HO}(h:upd (upd H dx o1) x o2 D=none):H D=none:=by
 unfold upd at h;split at h
 ·cases h
 ·split at h
  ·cases h
  ·exact h
theorem Dk {H:Hp}{B A:Addr}{o:HO}(h:upd H B o A=none):H A=none:=by
 unfold upd at h;split at h
 ·cases h
 ·exact h
theorem abY (z:Int){k:Int}(hk:0<k):∃ m:Nat,z % k=(m:Int)/\(m:Int)<k:=by
 have z1:=Int.emod_nonneg z (show k≠0 by omega);have z2:=Int.emod_lt_of_pos z hk;exact⟨(z % k).toNat,by omega,by omega⟩
theorem Bk.new {c:Cs}{H:Hp}{x dx L D U:Addr}(hx:H x=some (.ins c.B dx (Az L D U)))(hL:H L=some (.lst []))(hD:H D=some (.lst []))(hU:H U=some (.lst []))(LD:L≠D)(LU:L≠U)(DU:D≠U):xE c H x (fun y=>y=L\/y=D\/y=U) [] [] [] where
 ex:=⟨L,D,U,[],fun _=>[],[],[],[],[],
  {
   hx:=⟨dx,hx⟩,hL:=hL,hD:=⟨[],hD,.nil⟩,hU:=⟨[],hU,.nil⟩,ha:=fun _ h=>(nomatch h),LD:=LD,LU:=LU,DU:=DU,nl:=fun _ h=>(nomatch h),ni:=fun _ h=>(nomatch h),no:=fun _ h=>(nomatch h)
   dd:=fun _ h=>h.elim (fun z=>(nomatch z)) fun z=>(nomatch z)
   past:=.nil
   fut:=.nil
   wf:=fun S hS=>by
    rcases hS with hS|hS|hS
    ·cases hS
    ·subst hS;exact⟨⟨[],.nil⟩,fun _ h=>(nomatch h),Nat.zero_le _,fun _ _ _=>rfl⟩
    ·cases hS },
  .nil,.nil,.nil,⟨.inl rfl,.inr (.inl rfl),.inr (.inr rfl),fun _ h=>(nomatch h),fun _ h=>h.elim (fun z=>(nomatch z)) fun z=>(nomatch z)⟩⟩
 wv:=fun v hv=>by
  rcases hv with hv|hv|hv
  ·cases hv
  ·subst hv;exact⟨.nil,fun _ _ _ _ _ h=>(nomatch h),fun _ _ h=>(nomatch h),Nat.zero_le _⟩
  ·cases hv
theorem agk {R:Vx->Str×Th->Prop}{vx:List Vx}{vw:Vw}(h:Paired R vx vw)(hn:∀ a q,R a q->a.n=q.1):vx.map (fun a=>V.str a.n)=vw.map (fun a=>V.str a.1):=by
 induction h with
 |nil=>rfl
 |cons r _ ih=>rw[map_cons,map_cons,ih,hn _ _ r]
theorem IY {vx:List Vx}{vw:Vw}{R:Vx->Str×Th->Prop}(h:Paired R vx vw)(hn:∀ a q,R a q->a.n=q.1)(n:Str) :
  (vx.find? (fun a=>decide (a.n=n))=none/\aR vw n=none)\/∃ a th,∃ j:Nat,vx.find? (fun a=>decide (a.n=n))=some a/\aR vw n=some th/\R a (n,th)/\a.n=n/\vx[j]? = some a/\vw[j]? = some (n,th):=by
 induction h with
 |nil=>exact .inl ⟨rfl,rfl⟩
 | @cons a q as qs r t ih =>
  have e:=hn a q r
  by_cases hq:q.1=n
  ·refine .inr ⟨a,q.2,0,?_,?_,?_,e.trans hq,rfl,by rw[<-hq];rfl⟩
   ·rw[List.find?_cons_of_pos];exact decide_eq_true (e.trans hq)
   ·unfold aR;rw[List.find?_cons_of_pos (p:=fun q:Str×Th=>decide (q.1=n)) (decide_eq_true hq)];rfl
   ·rw[<-hq];exact r
  ·have h1:¬ decide (a.n=n)=true:=fun z=>hq (e ▸ of_decide_eq_true z);have h2:¬ decide (q.1=n)=true:=fun z=>hq (of_decide_eq_true z);have f1:(a::as).find? (fun a=>decide (a.n=n))=as.find? (fun a=>decide (a.n=n)):=List.find?_cons_of_neg h1;have f2:aR (q::qs) n=aR qs n:=by
    unfold aR;rw[List.find?_cons_of_neg (p:=fun q:Str×Th=>decide (q.1=n)) h2]
   rw[f1,f2];exact ih.imp id fun⟨a,th,j,h1,h2,h3,h4,h5,h6⟩=>⟨a,th,j+1,h1,h2,h3,h4,by simpa using h5,by simpa using h6⟩
theorem Bk.added {c:Cs}{H H1 H2 H':Hp}{x L D U:Addr}{all:List Vx}{M:MM}{Ps Fs:List MM}{es us:List Dd}{F:Addr->Prop}{vw:Vw}{ps fs:List Vw}(b:Nf c.B c.V c.D H x L D U all M Ps Fs es us)(i:Is H L all M vw)(pp:Paired (Is H L all) Ps ps)(f:SJ F L D U all es us)(wv:∀ v,v∈ps\/v=vw\/v∈fs->xk v)
  {a:Vx} {th:Th} (s1:aq H H1) (n1:H a.o=none) (n2:H a.l=none) (h1:H1 a.o=some (.ins c.V a.d (voF a.n a.tm a.l))) (h2:H1 a.l=some (.lst [])) (ht:∀ M',M' a.l=[]->abW H1 M' a th) (w':xk (vw++[(a.n,th)]))
  {e:Dd} (eT:e.T=L) (ei:e.i=(M L).length) (eb:e.bs=[]) (ea:e.as=[.ref a.o]) (s2:aq H1 H2) (nB:H1 e.B=none) (nA:H1 e.A=none) (hd:mK c.D H2 (.ref e.o) e) {ds:List V} (hD:H D=some (.lst ds)) (pD:Paired (mK c.D H) ds es)
  (fr:∀ y o,H2 y=some o->y≠L->y≠D->y≠U->H' y=some o) (hL':H' L=some (.lst (M L++[.ref a.o]))) (hD':H' D=some (.lst (ds++[.ref e.o]))) (hU':H' U=some (.lst [])) :
  ∃ F',Gr F F' H/\Fr F H H'/\xE c H' x F' (vw++[(a.n,th)]) (ps++[vw]) []:=by
 have s12:=s1.trans s2;have kT:Kept (fun _=>True) H H2:=.same s12;have b2:=(b.grow s1 n1 n2 h1 h2).kept (F:=fun _=>True) ⟨trivial,trivial,trivial,fun _ _=>trivial,fun _ _=>⟨trivial,trivial⟩⟩ (.same s2);have w2:=w'.len;rw[length_append]at w2;have ll:=cj i;have w2':vw.length+1<=12:=w2;have hM:vi e M L=M L++[.ref a.o]:=by
  unfold vi;rw[eT,gB,ei,eb,ea];simp
 have mo:∀ y,y≠L->vi e M y=M y:=fun y hy=>by
  unfold vi;exact oQ (by rw[eT];exact hy)
 have wM:=b2.wf M (.inr (.inl rfl));have naL:∀ z∈all++[a],z.l≠L:=fun z hz=>(b2.nl z hz).1;obtain⟨ux,hU,_⟩:=b2.hU;have old:∀{y:Addr},H1 y=none->∀{z o},H z=some o->y≠z:=fun {y} hy {z o} hz q=>by rw[q,s1 _ _ hz]at hy;cases hy
 have oA:∀{y:Addr},H1 y=none->y≠L/\y≠D/\y≠U/\∀ z∈all++[a],y≠z.l:=fun {y} hy=>by
  obtain⟨u0,RY,_⟩:=b.hU;refine⟨old hy b.hL,old hy hD,old hy RY,fun z hz=>?_⟩;rcases mem_append.mp hz with hz|hz
  ·exact old hy (b.ha z hz).2
  ·rw[mem_singleton.mp hz];exact fun q=>by rw[q,h2]at hy;cases hy
 have ok:Zo L D U (all++[a]) e:=⟨.inl eT,oA nB,oA nA,by rw[eb];simp,by rw[ea];simp⟩;have ft:Fits e M:=⟨by rw[ei,eb,eT];simp,by rw[eb];simp⟩;have wf2:WF H2 L (all++[a]) (vi e M) :=
  {
   vs:=(let ⟨vx,p⟩:=wM.vs;⟨vx++[a],by rw[hM];exact kL p ⟨rfl,mem_append_right _ (List.mem_singleton_self _)⟩⟩)
   ln:=fun z hz=>by rw[mo _ (naL z hz)];exact wM.ln z hz
   len:=by rw[hM,length_append,ll];exact w2'
   out:=fun y h1 h2=>by rw[mo y h1];exact wM.out y h1 h2 }
 have i2:Is H2 L (all++[a]) M vw:=Is.kept kT (Is.grow i);have i':Is H2 L (all++[a]) (vi e M) (vw++[(a.n,th)]):=by
  show Paired _ (vi e M L) _;rw[hM];refine kL ?_ ?_
  ·refine bZ (fun v q hq=>?_) i2;obtain⟨z,hz,e1,e2,e3⟩:=hq;refine⟨z,hz,e1,e2,?_⟩;cases hq2:q.2 with
   |pl ss=>rw[hq2]at e3;exact⟨e3.1,by rw[mo _ (naL z hz)];exact e3.2⟩
   |cn ld lt sl tn=>rw[hq2]at e3;exact e3
  ·refine⟨a,mem_append_right _ (List.mem_singleton_self _),rfl,rfl,?_⟩;have nal:a.l≠L:=naL a (mem_append_right _ (List.mem_singleton_self _));have:=ht (vi e M) (by rw[mo _ nal];exact(b.wf M (.inr (.inl rfl))).out _ nal fun z hz q=>by rw[q,(b.ha z hz).2]at n2;cases n2);show abW H2 (vi e M) a th;cases th with
   |pl ss=>exact⟨this.1,this.2.same s2⟩
   |cn ld lt sl tn=>obtain⟨p,e1,e2⟩:=this;exact⟨p,e1,s2 _ _ e2⟩
 have B:=Bk.deed b2 i2 (bZ (fun _ _ q=>Is.kept kT (Is.grow q)) pp) (F:=fun y=>F y\/y=a.l) ⟨.inl f.L,.inl f.D,.inl f.U,fun z hz=>by
   rcases mem_append.mp hz with hz|hz
   ·exact .inl (f.l z hz)
   ·rw[mem_singleton.mp hz];exact .inr rfl,fun e' he=>⟨.inl (f.d e' he).1,.inl (f.d e' he).2⟩⟩ (fun v hv=>wv v (hv.imp id .inl)) hd ok ft wf2 i' w' (pb (fun _ e' he q=>jD (F:=fun _=>True) kT ⟨trivial,trivial⟩ q) pD) (H2:=H')
  (fun y o hy y1 y2 y3=>fr y o hy (by rw[<-eT];exact y1) y2 y3) (by rw[eT,hM];exact hL') hD' hU'
 refine⟨_,fun y hy=>?_,fun y o hy hn=>fr y o (s12 y o hy) (fun q=>hn (q ▸ f.L)) (fun q=>hn (q ▸ f.D)) (fun q=>hn (q ▸ f.U)),B⟩;rcases hy with (hy|hy)|hy|hy
 ·exact .inl hy
 ·rw[hy];exact .inr n2
 ·rw[hy];exact .inr (s1.free nB)
 ·rw[hy];exact .inr (s1.free nA)
theorem Bk.abZ {c:Cs}{H H1 H':Hp}{x L D U:Addr}{all:List Vx}{M:MM}{Ps Fs:List MM}{es us:List Dd}{F:Addr->Prop}{vw:Vw}{ps fs:List Vw}(b:Nf c.B c.V c.D H x L D U all M Ps Fs es us)(i:Is H L all M vw)(pp:Paired (Is H L all) Ps ps)(f:SJ F L D U all es us)(wv:∀ v,v∈ps\/v=vw\/v∈fs->xk v)
  {a:Vx} (ha:a∈all) {j:Nat} {ss ss':List Sg} (hj:(M L)[j]? = some (.ref a.o)) (hm:vw[j]? = some (a.n,.pl ss)) (RZ:a.tm=.non) {e:Dd} (eT:e.T=a.l) (ft:Fits e M) (lb:e.bs.length<=1) (la:e.as.length<=1) (s1:aq H H1) (nB:H e.B=none) (nA:H e.A=none) (hd:mK c.D H1 (.ref e.o) e)
  (g':mQ H1 (vi e M a.l) ss') (gl:ss'.length<=200) (gg:∀ s∈ss',N9 s) {ds:List V} (hD:H D=some (.lst ds)) (pD:Paired (mK c.D H) ds es)
  (fr:∀ y o,H1 y=some o->y≠a.l->y≠D->y≠U->H' y=some o) (hl':H' a.l=some (.lst (vi e M a.l))) (hD':H' D=some (.lst (ds++[.ref e.o]))) (hU':H' U=some (.lst [])) :
  ∃ F',Gr F F' H/\Fr F H H'/\xE c H' x F' (zP vw a.n (.pl ss')) (ps++[vw]) []:=by
 have kT:Kept (fun _=>True) H H1:=.same s1;have b2:=b.kept (F:=fun _=>True) ⟨trivial,trivial,trivial,fun _ _=>trivial,fun _ _=>⟨trivial,trivial⟩⟩ kT;have mo:∀ y,y≠a.l->vi e M y=M y:=fun y hy=>oQ (by rw[eT];exact hy);have wM:=b2.wf M (.inr (.inl rfl));have wvw:=wv vw (.inr (.inl rfl));have oA:∀{y:Addr},H y=none->y≠L/\y≠D/\y≠U/\∀ z∈all,y≠z.l:=fun {y} hy=>by
  obtain⟨u0,RY,_⟩:=b.hU;exact⟨Ne.symm (ao b.hL hy),Ne.symm (ao hD hy),Ne.symm (ao RY hy),fun z hz=>Ne.symm (ao (b.ha z hz).2 hy)⟩
 have ok:Zo L D U all e:=⟨.inr ⟨a,ha,eT⟩,oA nB,oA nA,lb,la⟩;have nal:L≠a.l:=Ne.symm (b.nl a ha).1;have wf2:WF H1 L all (vi e M) :=
  {
   vs:=by rw[mo L nal];exact wM.vs
   ln:=fun z hz=>by
    by_cases hza:z.l=a.l
    ·rw[hza];refine⟨by rw[cj g'];exact gl,fun v hv=>?_⟩;obtain⟨k,hk⟩:=getElem?_of_mem hv;obtain⟨sg,e1,e2⟩:=zO g' hk;exact⟨sg,e2,gg sg (mem_of_getElem? e1)⟩
    ·rw[mo _ hza];exact wM.ln z hz
   len:=by rw[mo L nal];exact wM.len
   out:=fun y h1 h2=>by rw[mo y (h2 a ha)];exact wM.out y h1 h2 }
 have i2:Is H1 L all M vw:=Is.kept kT i;have B:=Bk.deed b2 i2 (bZ (fun _ _ q=>Is.kept kT q) pp) f (fun v hv=>wv v (hv.imp id .inl)) hd ok ft wf2 (Is.line b2 i2 wvw ha hj hm RZ mo g') (wvw.set (mem_of_getElem? hm) gl gg) (pb (fun _ e' he q=>jD (F:=fun _=>True) kT ⟨trivial,trivial⟩ q) pD) (H2:=H')
  (fun y o hy y1 y2 y3=>fr y o hy (by rw[<-eT];exact y1) y2 y3) (by rw[eT];exact hl') hD' hU'
 refine⟨_,fun y hy=>?_,fun y o hy hn=>fr y o (s1 y o hy) (fun q=>hn (q ▸ f.l a ha)) (fun q=>hn (q ▸ f.D)) (fun q=>hn (q ▸ f.U)),B⟩;rcases hy with hy|hy|hy
 ·exact .inl hy
 ·rw[hy];exact .inr nB
 ·rw[hy];exact .inr nA
def ThV (H:Hp)(v:V):Th->Prop
 |.pl ss=>∃ l ys,v=.ref l/\H l=some (.lst ys)/\mQ H ys ss
 |.cn ld lt sl tn=>∃ p,v=.ref p/\H p=some (.tup [.str ld,.int lt,.int sl,.bl tn])
def KQ (H:Hp)(kv:Key×V)(q:Str×Th):Prop:=kv.1=Sum.inr q.1/\ThV H kv.2 q.2
def t5 (H:Hp)(d:Addr)(vw:Vw):Prop:=∃ kvs,H d=some (.dK kvs)/\Paired (KQ H) kvs vw
theorem ThV.same {H H':Hp}(s:aq H H'){v:V}{th:Th}(h:ThV H v th):ThV H' v th:=by
 cases th with
 |pl ss=>obtain⟨l,ys,e1,e2,e3⟩:=h;exact⟨l,ys,e1,s _ _ e2,e3.same s⟩
 |cn ld lt sl tn=>obtain⟨p,e1,e2⟩:=h;exact⟨p,e1,s _ _ e2⟩
theorem KQ.same {H H':Hp}(s:aq H H'){kv:Key×V}{q:Str×Th}(h:KQ H kv q):KQ H' kv q:=⟨h.1,h.2.same s⟩
theorem t5.same {H H':Hp}(s:aq H H'){d:Addr}{vw:Vw}(h:t5 H d vw):t5 H' d vw:=by
 obtain⟨kvs,e,p⟩:=h;exact⟨kvs,s _ _ e,bZ (fun _ _ q=>q.same s) p⟩
theorem Vq {H:Hp}{kvs:List (Key×V)}{vw:Vw}(h:Paired (KQ H) kvs vw){n:Str}{th:Th}(hf:aR vw n=some th):∃ v,oN kvs (Sum.inr n)=some v/\ThV H v th:=by
 induction h with
 |nil=>cases hf
 | @cons kv q as qs r t ih =>
  by_cases hq:q.1=n
  ·have e:aR (q::qs) n=some q.2:=by
    unfold aR;rw[List.find?_cons_of_pos (p:=fun q:Str×Th=>decide (q.1=n)) (decide_eq_true hq)];rfl
   rw[e]at hf;cases hf;refine⟨kv.2,?_,r.2⟩;unfold oN;rw[List.find?_cons_of_pos (p:=fun kv:Key×V=>decide (kv.1=Sum.inr n)) (decide_eq_true (by rw[r.1,hq]))];rfl
  ·have e:aR (q::qs) n=aR qs n:=by
    unfold aR;rw[List.find?_cons_of_neg (p:=fun q:Str×Th=>decide (q.1=n)) (fun z=>hq (of_decide_eq_true z))]
   rw[e]at hf;obtain⟨v,h1,h2⟩:=ih hf;refine⟨v,?_,h2⟩;unfold oN at h1 ⊢;rw[List.find?_cons_of_neg (p:=fun kv:Key×V=>decide (kv.1=Sum.inr n)) (fun z=>hq (Sum.inr.inj (r.1.symm.trans (of_decide_eq_true z))))];exact h1
theorem t5.get {H:Hp}{d:Addr}{vw:Vw}(h:t5 H d vw){n:Str}{th:Th}(hf:aR vw n=some th):∃ v,sf H d (.str n) (some v)/\ThV H v th:=by
 obtain⟨kvs,e,p⟩:=h;obtain⟨v,h1,h2⟩:=Vq p hf;refine⟨v,?_,h2⟩;have:=sf.k (k:=Sum.inr n) e;rw[h1]at this;exact this
theorem t5.keys {H:Hp}{d:Addr}{vw:Vw}(h:t5 H d vw):∃ kvs,H d=some (.dK kvs)/\(kvs.map fun kv=>kV kv.1)=vw.map fun q=>V.str q.1:=by
 obtain⟨kvs,e,p⟩:=h;refine⟨kvs,e,?_⟩;clear e
 induction p with
 |nil=>rfl
 |cons r _ ih=>rw[map_cons,map_cons,ih,r.1];rfl
set_option maxHeartbeats 1000000
theorem Bk.aip {CB CV CD:Addr}{H:Hp}{x:Addr}{F:Addr->Prop}{vw:Vw}{ps fs:List Vw}(h:Bk CB CV CD H x F vw ps fs):∃ F0:Addr->Prop,(∀ y,F0 y->F y)/\(∀ y,F0 y->∃ xs,H y=some (.lst xs))/\Bk CB CV CD H x F0 vw ps fs:=by
 obtain⟨L,D,U,all,M,Ps,Fs,es,us,b,i,pp,pf,f⟩:=h.ex;obtain⟨ds,hD,pD⟩:=b.hD;obtain⟨ux,hU,pU⟩:=b.hU;have dd:∀ e,e∈es\/e∈us->H e.B=some (.lst e.bs)/\H e.A=some (.lst e.as):=fun e he=>by
  rcases he with he|he
  ·obtain⟨k,hk⟩:=getElem?_of_mem he;obtain⟨v,_,q⟩:=uF pD hk;exact⟨q.2.2.1,q.2.2.2⟩
  ·obtain⟨k,hk⟩:=getElem?_of_mem he;obtain⟨v,_,q⟩:=uF pU hk;exact⟨q.2.2.1,q.2.2.2⟩
 refine⟨fun y=>y=L\/y=D\/y=U\/(∃ a∈all,y=a.l)\/∃ e,(e∈es\/e∈us)/\(y=e.B\/y=e.A),fun y hy=>?_,fun y hy=>?_,⟨⟨L,D,U,all,M,Ps,Fs,es,us,b,i,pp,pf,⟨.inl rfl,.inr (.inl rfl),.inr (.inr (.inl rfl)),fun a ha=>.inr (.inr (.inr (.inl ⟨a,ha,rfl⟩))),fun e he=>⟨.inr (.inr (.inr (.inr ⟨e,he,.inl rfl⟩))),.inr (.inr (.inr (.inr ⟨e,he,.inr rfl⟩)))⟩⟩⟩,h.wv⟩⟩
 ·rcases hy with rfl|rfl|rfl|⟨a,ha,rfl⟩|⟨e,he,rfl|rfl⟩
  ·exact f.L
  ·exact f.D
  ·exact f.U
  ·exact f.l a ha
  ·exact(f.d e he).1
  ·exact(f.d e he).2
 ·rcases hy with rfl|rfl|rfl|⟨a,ha,rfl⟩|⟨e,he,rfl|rfl⟩
  ·exact⟨_,b.hL⟩
  ·exact⟨_,hD⟩
  ·exact⟨_,hU⟩
  ·exact⟨_,(b.ha a ha).2⟩
  ·exact⟨_,(dd e he).1⟩
  ·exact⟨_,(dd e he).2⟩
structure Bq (c:Cs)(H:Hp)(x:Addr)(own:List Addr)(vw:Vw)(ps fs:List Vw):Prop where
 ex:∃ F,xE c H x F vw ps fs/\(∀ y,F y->∃ xs,H y=some (.lst xs))/\∀ a∈own,¬ F a/\∃ o,H a=some o
def aiq (own:List Addr)(H H':Hp):Prop:=∀ y o,H y=some o->((∀ xs,o≠.lst xs)\/y∈own)->H' y=some o
section
variable {c:Cs} {H H' H1:Hp} {x:Addr} {own:List Addr} {vw vw':Vw} {ps ps' fs fs':List Vw} {F F':Addr->Prop}
end
theorem agl {a b:Str}(h:a≠b)(v w:V):Av [] [((Sum.inr a:Key),v),((Sum.inr b:Key),w)]=[((Sum.inr a:Key),v),((Sum.inr b:Key),w)]:=by
 unfold Av;simp only [List.foldl];have h1:oN ([]:List (Key×V)) (Sum.inr a)=none:=rfl;rw[xB v h1];have h2:oN ([]++[((Sum.inr a:Key),v)]) (Sum.inr b)=none:=by
  unfold oN;simp[h]
 rw[xB w h2];rfl
set_option maxHeartbeats 1000000
structure alJ (vw:Vw):Prop where
 w:xk vw
 nm:∀ q∈vw,nameB q.1=true/\q.1 ≠ "zed"/\q.1.length<=1000
 ld:∀(i:Nat) n ld lt sl tn,vw[i]? = some (n,Th.cn ld lt sl tn)->∃ ss,(ld,Th.pl ss)∈vw.take i
 sh:∀ n ss,(n,Th.pl ss)∈vw->ss.length<=24
end Fz
set_option maxHeartbeats 1000000
namespace L2
open PySem PySem.Spec PyProof.Rows
variable {X:Cx}
def agm:V->List V->Hp->VK->Prop:=fun x vs H Q=>∃(l:Addr)(ys:List Str)(z:Str)(j:Nat),x=.ref l/\vs=[.str z]/\H l=some (.lst (ys.map V.str))/\ys[j]? = some z/\(∀ i,i<j->ys[i]? ≠ some z)/\Q (.int j) H
theorem ab0:MtM X "list.index" agm:=by
 intro pins s σ H x vs v us Q I rx rv h;obtain⟨l,ys,k,j,rfl,rfl,hH,hj,hno,q⟩:=h;cases rx;obtain⟨u,rfl,t,rfl⟩:=rv.one;obtain⟨z,its,n,r,hl,e⟩:=I.Nb hH;have ha:=Vb r;have at_:∀{i:Nat} {y:Str},ys[i]? = some y->∃ t',its[i]? = some (.str y t'):=fun {i y} hy=>by
  obtain⟨u,hu,t',rfl⟩:=r.get (i:=i) (x:=.str y) (by rw[getElem?_map,hy];rfl);exact⟨t',hu⟩
 have ln:its.length=ys.length:=by rw[<-length_map (f:=V.str) (as:=ys)];exact hl.symm
 have hjl:j<ys.length:=(List.getElem?_eq_some_iff.mp hj).1;obtain⟨tj,ej⟩:=at_ hj;have b:sizeLine<2 ^ 60:=by decide
 have z':ys.length<=sizeLine:=by rw[<-length_map (f:=V.str) (as:=ys)];exact z
 refine call_meets F.slot_list_index ⟨_,e,rfl⟩ F.entry_list_index (F.args_list_index_2 _ _)
  (MeetsSeq.list_index l its.toArray n (.str k t) (isStrOf k) (fun y hy=>eq_isStrOf k t ha y (by simpa using hy)) j (by rw[size_toArray];omega) (by omega) ?_ ?_) ⟨e,?_⟩
 ·have:its.toArray[j]'(by rw[size_toArray];omega)=.str k tj:=by
   have:=(List.getElem?_eq_some_iff.mp ej).2
   simpa using this
  rw[this];exact beq_self_eq_true k
 ·intro i hi hlt;have hil:i<ys.length:=by omega
  have hy:ys[i]? = some ys[i]:=getElem?_eq_getElem hil;obtain⟨ti,ei⟩:=at_ hy;have:its.toArray[i]'hi=.str ys[i] ti:=by
   have:=(List.getElem?_eq_some_iff.mp ei).2
   simpa using this
  rw[this];exact beq_eq_false_iff_ne.mpr fun z=>hno i hlt (by rw[hy,z])
 ·exact⟨.int j,H,I.tok _,⟨_,rfl⟩,q⟩
end L2
namespace Fz
open PySem L2
theorem Bk.dropped {c:Cs}{H H1 H':Hp}{x L D U:Addr}{all:List Vx}{M:MM}{Ps Fs:List MM}{es us:List Dd}{F:Addr->Prop}{vw:Vw}{ps fs:List Vw}(b:Nf c.B c.V c.D H x L D U all M Ps Fs es us)(i:Is H L all M vw)(pp:Paired (Is H L all) Ps ps)(f:SJ F L D U all es us)(wv:∀ v,v∈ps\/v=vw\/v∈fs->xk v)
  {j:Nat} {v:V} (hj:(M L)[j]? = some v) (w':xk (vw.take j++vw.drop (j+1))) {e:Dd} (eT:e.T=L) (ei:e.i=j) (eb:e.bs=[v]) (ea:e.as=[]) (s1:aq H H1) (nB:H e.B=none) (nA:H e.A=none) (hd:mK c.D H1 (.ref e.o) e)
  {ds:List V} (hD:H D=some (.lst ds)) (pD:Paired (mK c.D H) ds es)
  (fr:∀ y o,H1 y=some o->y≠L->y≠D->y≠U->H' y=some o) (hL':H' L=some (.lst ((M L).take j++(M L).drop (j+1)))) (hD':H' D=some (.lst (ds++[.ref e.o]))) (hU':H' U=some (.lst [])) :
  ∃ F',Gr F F' H/\Fr F H H'/\xE c H' x F' (vw.take j++vw.drop (j+1)) (ps++[vw]) []:=by
 have kT:Kept (fun _=>True) H H1:=.same s1;have b2:=b.kept (F:=fun _=>True) ⟨trivial,trivial,trivial,fun _ _=>trivial,fun _ _=>⟨trivial,trivial⟩⟩ kT;have hjl:j<(M L).length:=(List.getElem?_eq_some_iff.mp hj).1;have hM:vi e M L=(M L).take j++(M L).drop (j+1):=by
  unfold vi;rw[eT,gB,ei,eb,ea];simp
 have mo:∀ y,y≠L->vi e M y=M y:=fun y hy=>oQ (by rw[eT];exact hy);have wM:=b2.wf M (.inr (.inl rfl));have naL:∀ z∈all,z.l≠L:=fun z hz=>(b2.nl z hz).1;have oA:∀{y:Addr},H y=none->y≠L/\y≠D/\y≠U/\∀ z∈all,y≠z.l:=fun {y} hy=>by
  obtain⟨u0,RY,_⟩:=b.hU;exact⟨Ne.symm (ao b.hL hy),Ne.symm (ao hD hy),Ne.symm (ao RY hy),fun z hz=>Ne.symm (ao (b.ha z hz).2 hy)⟩
 have ok:Zo L D U all e:=⟨.inl eT,oA nB,oA nA,by rw[eb];simp,by rw[ea];simp⟩;have ft:Fits e M:=by
  refine⟨by rw[ei,eb,eT];exact hjl,?_⟩;rw[eb,eT,ei];show((M L).drop j).take 1=[v];rw[List.drop_eq_getElem_cons hjl,List.take_succ_cons,List.take_zero];rw[(List.getElem?_eq_some_iff.mp hj).2]
 have wf2:WF H1 L all (vi e M) :=
  {
   vs:=(let ⟨vx,p⟩:=wM.vs;⟨vx.take j++vx.drop (j+1),by rw[hM];exact Jw (IV j p) (IU (j+1) p)⟩)
   ln:=fun z hz=>by rw[mo _ (naL z hz)];exact wM.ln z hz
   len:=by rw[hM,length_append,length_take,length_drop];have:=wM.len;omega
   out:=fun y h1 h2=>by rw[mo y h1];exact wM.out y h1 h2 }
 have i2:Is H1 L all M vw:=Is.kept kT i;have i3:Paired (Vn H1 all (vi e M)) (M L) vw:=by
  refine bZ (fun v q hq=>?_) i2;obtain⟨z,hz,e1,e2,e3⟩:=hq;refine⟨z,hz,e1,e2,?_⟩;cases hq2:q.2 with
  |pl ss=>rw[hq2]at e3;exact⟨e3.1,by rw[mo _ (naL z hz)];exact e3.2⟩
  |cn ld lt sl tn=>rw[hq2]at e3;exact e3
 have i':Is H1 L all (vi e M) (vw.take j++vw.drop (j+1)):=by
  show Paired _ (vi e M L) _;rw[hM];exact Jw (IV j i3) (IU (j+1) i3)
 have B:=Bk.deed b2 i2 (bZ (fun _ _ q=>Is.kept kT q) pp) f (fun v hv=>wv v (hv.imp id .inl)) hd ok ft wf2 i' w' (pb (fun _ e' he q=>jD (F:=fun _=>True) kT ⟨trivial,trivial⟩ q) pD) (H2:=H')
  (fun y o hy y1 y2 y3=>fr y o hy (by rw[<-eT];exact y1) y2 y3) (by rw[eT,hM];exact hL') hD' hU'
 refine⟨_,fun y hy=>?_,fun y o hy hn=>fr y o (s1 y o hy) (fun q=>hn (q ▸ f.L)) (fun q=>hn (q ▸ f.D)) (fun q=>hn (q ▸ f.U)),B⟩;rcases hy with hy|hy|hy
 ·exact .inl hy
 ·rw[hy];exact .inr nB
 ·rw[hy];exact .inr nA
def qP (n:Str)(q:Str×Th):Bool:=match q.2 with
 |.cn ld _ _ _=>decide (ld=n)
 |.pl _=>false
def leans (vw:Vw)(n:Str):Bool:=vw.any (qP n)
def sC (vw:Vw)(n:Str):Vw:=vw.filter fun q=>!decide (q.1=n)
theorem Vr {n:Str}:∀{vw:Vw},(∀ q∈vw,q.1≠n)->sC vw n=vw:=fun {vw} h =>
 List.filter_eq_self.mpr fun q hq=>by rw[decide_eq_false (h q hq)];rfl
theorem KR {n:Str}{th:Th}:∀{vw:Vw} {j:Nat},(vw.map (·.1)).Nodup->vw[j]? = some (n,th)->sC vw n=vw.take j++vw.drop (j+1)
 |[],_,_,h=>by simp at h
 |q::vw,0,nd,h=>by
  simp only [List.getElem?_cons_zero,Option.some.injEq]at h;rw[map_cons]at nd;obtain⟨n1,_⟩:=List.nodup_cons.mp nd;unfold sC;rw[List.filter_cons_of_neg (by rw[h];simp)];refine Vr fun q' hq' e=>n1 ?_;rw[h];exact e ▸ mem_map.mpr ⟨q',hq',rfl⟩
 |q::vw,j+1,nd,h=>by
  rw[List.getElem?_cons_succ]at h;rw[map_cons]at nd;obtain⟨n1,n2⟩:=List.nodup_cons.mp nd;have ne:q.1≠n:=fun e=>n1 (e ▸ mem_map.mpr ⟨(n,th),mem_of_getElem? h,rfl⟩);unfold sC;rw[List.filter_cons_of_pos (by rw[decide_eq_false ne];rfl)];have:=KR n2 h;unfold sC at this;rw[this];rfl
theorem FE {vw:Vw}{n:Str}{q:Str×Th}:q∈sC vw n ↔ q∈vw/\q.1≠n:=by
 unfold sC;rw[List.mem_filter];simp
theorem xk.dropped {vw:Vw}(w:xk vw){n:Str}(h:leans vw n=false):xk (sC vw n) where
 nd:=List.Sublist.nodup (List.Sublist.map _ List.filter_sublist) w.nd
 ld:=fun m ld lt sl tn hm=>by
  obtain⟨hm,_⟩:=FE.mp hm;obtain⟨⟨ss,hs⟩,r⟩:=w.ld m ld lt sl tn hm;refine⟨⟨ss,FE.mpr ⟨hs,fun e=>?_⟩⟩,r⟩;have:=List.any_eq_false.mp h _ hm;exact this (decide_eq_true e)
 gd:=fun m ss hm=>w.gd m ss (FE.mp hm).1
 len:=Nat.le_trans (List.length_filter_le _ _) w.len
end Fz
set_option maxHeartbeats 1000000
namespace L2
open PySem PySem.Spec PyProof.Rows
theorem adX {z:Str}{g:TG}{tb:TS}{D:Ends}{σ:St}{H:Hp}(Pv:Nat->St->Hp->Prop)(h0:Pv 0 σ H)
  (hs:∀ i c σ H,z.cps[i]? = some c->Pv i σ H->g (.str ⟨#[c]⟩) σ H fun σ2 H2=>tb { D with nx:=Pv (i+1),ct:=Pv (i+1),bk:=D.nx } σ2 H2) (hd:∀ σ H,Pv z.cps.size σ H->D.nx σ H) :
  ∃ W:Nat->Nat->St->Hp->Prop,(∃ m,W 0 m σ H)/\∀ i m σ H,W i m σ H ->
   ((Its z).stop i H/\D.nx σ H)\/((Its z).go i H/\∃ N:St->Hp->Prop,(∀ σ' H',N σ' H'->∃ m',m'<m/\W (i+1) m' σ' H')/\∀ x H',(Its z).YX i H x H'->g x σ H' fun σ2 H2=>tb { D with nx:=N,ct:=N,bk:=D.nx } σ2 H2):=by
 refine⟨fun i m σ H=>m=z.cps.size-i/\i<=z.cps.size/\Pv i σ H,⟨z.cps.size,by simp,Nat.zero_le _,h0⟩,?_⟩;rintro i m σ H ⟨rfl,hi,p⟩
 by_cases hlt:i<z.cps.size
 ·refine .inr ⟨hlt,Pv (i+1),fun σ' H' p'=>⟨z.cps.size-(i+1),by omega,rfl,hlt,p'⟩,fun x H' y=>?_⟩;obtain⟨e,c,hc,rfl⟩:=y;subst e;exact hs i c σ _ hc p
 ·have e:i=z.cps.size:=by omega
  subst e;exact .inl ⟨Nat.le_refl _,hd σ H p⟩
end L2
namespace Fz
open PySem L2
def Ae (ks:List Kd):Nat->Nat->Nat
 |0,_=>0
 |p+1,met=>if(if(ks.getD p .dot).small=true then met else met+1)=2 then p else Ae ks p (if(ks.getD p .dot).small=true then met else met+1)
def Ob (wide:Bool)(k:Kd):Bool:=if wide=true then k.meas else k.parting
def Oc (ks:List Kd)(i:Nat)(wide:Bool):Nat:=i+((ks.drop i).takeWhile fun k=>!Ob wide k).length
def Vs (wide:Bool):List V:=if wide=true then [.str "3",.str "2"] else [.str ".",.str "3",.str "2"]
theorem ab1 (wide:Bool)(k:Kd):inV (.str k.str) (Vs wide)=Ob wide k:=by cases wide <;> cases k <;> decide +kernel
def Vt (ss:List Sg)(i b:Nat)(ch:List Sg):List V:=[.int (Ae (bA ss) i 0:Nat),.int (Oc (bA ss) b (ch.any fun s=>s.1.meas):Nat)]
theorem SM {p:Kd->Bool}:∀{l:List Kd} {j:Nat} {k:Kd},(∀ m x,m<j->l[m]? = some x->p x=true)->l[j]? = some k->p k=false->(l.takeWhile p).length=j
 |[],_,_,_,h,_=>by simp at h
 |x::l,0,k,_,h,hk=>by
  simp only [List.getElem?_cons_zero,Option.some.injEq]at h;rw[h,List.takeWhile_cons_of_neg (by rw[hk];decide)];rfl
 |x::l,j+1,k,hi,h,hk=>by
  rw[List.takeWhile_cons_of_pos (hi 0 x (Nat.succ_pos _) rfl),length_cons,SM (l:=l) (j:=j) (fun m y hm hy=>hi (m+1) y (Nat.succ_lt_succ hm) (by simpa using hy)) (by simpa using h) hk]
theorem Od {p:Kd->Bool}:∀{l:List Kd},(∀(m:Nat)(x:Kd),l[m]? = some x->p x=true)->(l.takeWhile p).length=l.length
 |[],_=>rfl
 |x::l,h=>by
  rw[List.takeWhile_cons_of_pos (h 0 x rfl),length_cons,length_cons,Od (l:=l) fun m y hy=>h (m+1) y (by simpa using hy)]
theorem adY {ks:List Kd}{i j:Nat}{wide:Bool}{k:Kd}(hi:∀ m x,m<j->ks[i+m]? = some x->Ob wide x=false)(h:ks[i+j]? = some k)(hk:Ob wide k=true):Oc ks i wide=i+j:=by
 unfold Oc;rw[SM (j:=j) (k:=k) (fun m x hm hx=>by rw[getElem?_drop]at hx;rw[hi m x hm hx];rfl) (by rw[getElem?_drop];exact h) (by rw[hk];rfl)]
theorem ab2 {ks:List Kd}{i:Nat}{wide:Bool}(hl:i<=ks.length)(hi:∀(m:Nat)(x:Kd),ks[i+m]? = some x->Ob wide x=false):Oc ks i wide=ks.length:=by
 unfold Oc;rw[Od (fun m x hx=>by rw[getElem?_drop]at hx;rw[hi m x hx];rfl),length_drop];omega
def kdOf (k:Str):Kd:=if k = "G" then .G else if k = "D" then .D else if k = "R" then .R else if k = "s" then .s else if k = "d" then .d else if k = "r" then .r else if k = "." then .dot else if k = "3" then .three else .two
theorem ab3 (k:Kd):kdOf k.str=k:=by cases k <;> decide +kernel
def KS (s:Sn):Sg:=(kdOf s.1,s.2)
theorem Dl {s:Sg}{n:Sn}(h1:s.1.str=n.1)(h2:s.2=n.2):KS n=s:=by
 unfold KS;rw[<-h1,<-h2,ab3]
theorem ab4 {n:Sn}(h:iC n=true):(KS n).1.str=n.1/\(KS n).2=n.2/\N9 (KS n):=by
 obtain⟨s,h1,h2,g⟩:=O6 h;rw[Dl h1 h2];exact⟨h1,h2,g⟩
inductive Wy where
 |put|cut|swap|add|canon|drop|undo|zQ
 deriving DecidableEq
def Wy.str:Wy->Str
 |.put=>"put" | .cut=>"cut" | .swap=>"swap" | .add=>"add" | .canon=>"canon" | .drop=>"drop" | .undo=>"undo" | .zQ=>"redo"
structure De where
 wy:Wy
 n:Str
 ld:Str
 pl:Int
 sg:Sn
 lt:Int
 sl:Int
 tn:Bool
structure DeS (H:Hp)(v:V)(d:De):Prop where
 ex:∃ p xs,v=.ref p/\H p=some (.tup xs)/\xs[0]? = some (.str d.wy.str)/\xs[1]? = some (.str d.n)/\(d.wy=.put\/d.wy=.swap->∃ ps,xs[4]? = some (.ref ps)/\H ps=some (.tup [.str d.sg.1,.int d.sg.2]))/\(d.wy=.canon->xs[2]? = some (.str d.ld)/\xs[5]? = some (.int d.lt)/\xs[6]? = some (.int d.sl)/\xs[7]? = some (.bl d.tn))
def zR (H:Hp)(v:V)(d:De):Prop:=∃ p ps,v=.ref p/\H p=some (.tup [.str d.wy.str,.str d.n,.str d.ld,.int d.pl,.ref ps,.int d.lt,.int d.sl,.bl d.tn])/\H ps=some (.tup [.str d.sg.1,.int d.sg.2])
theorem zR.short {H:Hp}{v:V}{d:De}(h:zR H v d):DeS H v d:=by
 obtain⟨p,ps,e,h1,h2⟩:=h;exact⟨p,_,e,h1,rfl,rfl,fun _=>⟨ps,rfl,h2⟩,fun _=>⟨rfl,rfl,rfl,rfl⟩⟩
theorem zR.same {H H':Hp}(s:aq H H'){v:V}{d:De}(h:zR H v d):zR H' v d:=by
 obtain⟨p,ps,e,h1,h2⟩:=h;exact⟨p,ps,e,s _ _ h1,s _ _ h2⟩
def DvR (H:Hp)(v:V)(vw:Vw):Prop:=∃ d,v=.ref d/\t5 H d vw
theorem DvR.same {H H':Hp}(s:aq H H'){v:V}{vw:Vw}(h:DvR H v vw):DvR H' v vw:=by
 obtain⟨d,e,h⟩:=h;exact⟨d,e,h.same s⟩
structure Std where
 vw:Vw
 ps:List Vw
 fs:List Vw
def KU (H:Hp)(v:V)(st:Std):Prop:=∃ p d a b xs ys,v=.ref p/\H p=some (.tup [.ref d,.ref a,.ref b])/\t5 H d st.vw/\H a=some (.lst xs)/\Paired (DvR H) xs st.ps/\H b=some (.lst ys)/\Paired (DvR H) ys st.fs
theorem KU.same {H H':Hp}(s:aq H H'){v:V}{st:Std}(h:KU H v st):KU H' v st:=by
 obtain⟨p,d,a,b,xs,ys,e,h1,h2,h3,h4,h5,h6⟩:=h;exact⟨p,d,a,b,xs,ys,e,s _ _ h1,h2.same s,s _ _ h3,bZ (fun _ _ q=>q.same s) h4,s _ _ h5,bZ (fun _ _ q=>q.same s) h6⟩
def ie (lt sl:Int):Prop:=0<=lt/\lt<=999/\1<=sl/\sl<=9
instance (lt sl:Int):Decidable (ie lt sl):=by unfold ie;exact inferInstance
def b9 (vw:Vw)(n:Str):Option Rf:=if nameB n=false then some .Kf else if(aR vw n).isSome then some .zx else if 12<=vw.length then some .Full else none
def gS (vw:Vw)(ld:Str)(lt sl:Int):Option Rf:=match aR vw ld with
 |none=>some .dQ
 |some (.cn _ _ _ _)=>some .gR
 |some (.pl _)=>if ie lt sl then none else some .sy
def oB (vw:Vw)(n:Str):Option Rf:=match aR vw n with
 |none=>some .dQ
 |some _=>if leans vw n=true then some .AA else none
def qj (vw:Vw)(wy:Wy)(n:Str)(at_:Int)(sg:Sn):Option Rf:=match aR vw n with
 |none=>some .dQ
 |some (.cn _ _ _ _)=>some .gR
 |some (.pl ss)=>if at_<0\/(ss.length:Int)+(if wy=.put then 1 else 0)<=at_ then some .qi else if wy≠.cut/\iC sg=false then some .sx else if wy=.put/\200<=ss.length then some .Full else none
def ig (st:Std)(d:De)(at_:Int):Option Rf:=match d.wy with
 |.undo=>if st.ps=[] then some .mU else none
 |.zQ=>if st.fs=[] then some .mU else none
 |.drop=>oB st.vw d.n
 |.add=>b9 st.vw d.n
 |.canon=>match b9 st.vw d.n with
  |some r=>some r
  |none=>gS st.vw d.ld d.lt d.sl
 |w=>qj st.vw w d.n at_ d.sg
def fU (ss:List Sg)(wy:Wy)(sg:Sn)(i:Nat):List Sg:=match wy with
 |.cut=>ss.take i++[]++ss.drop (i+1)
 |.swap=>ss.take i++[KS sg]++ss.drop (i+1)
 |_=>ss.take i++[KS sg]++ss.drop i
def qQ (vw:Vw)(n:Str):List Sg:=match aR vw n with
 |some (.pl ss)=>ss
 |_=>[]
def gI (st:Std)(d:De)(at_:Int):Std:=match d.wy with
 |.undo=>⟨st.ps.getLast?.getD [],st.ps.dropLast,st.fs++[st.vw]⟩
 |.zQ=>⟨st.fs.getLast?.getD [],st.ps++[st.vw],st.fs.dropLast⟩
 |.drop=>⟨sC st.vw d.n,st.ps++[st.vw],[]⟩
 |.add=>⟨st.vw++[(d.n,.pl [])],st.ps++[st.vw],[]⟩
 |.canon=>⟨st.vw++[(d.n,.cn d.ld d.lt d.sl d.tn)],st.ps++[st.vw],[]⟩
 |w=>⟨zP st.vw d.n (.pl (fU (qQ st.vw d.n) w d.sg at_.toNat)),st.ps++[st.vw],[]⟩
def qR (H:Hp)(st:Std)(d:De)(at_:Int)(v:V):Prop:=match d.wy with
 |.put=>∃ w,v=.ref w/\H w=some (.tup (Vt (fU (qQ st.vw d.n) .put d.sg at_.toNat) at_.toNat (at_.toNat+1) [KS d.sg]))
 |.cut=>∃ w,v=.ref w/\∃ s,(qQ st.vw d.n)[at_.toNat]? = some s/\H w=some (.tup (Vt (fU (qQ st.vw d.n) .cut d.sg at_.toNat) at_.toNat at_.toNat [s]))
 |.swap=>∃ w,v=.ref w/\∃ s,(qQ st.vw d.n)[at_.toNat]? = some s/\H w=some (.tup (Vt (fU (qQ st.vw d.n) .swap d.sg at_.toNat) at_.toNat (at_.toNat+1) [s,KS d.sg]))
 |_=>v=.non
def Rf.str:Rf->Str
 |.sx=>"BadSign" | .Kf=>"BadName" | .zx=>"NameTaken" | .Full=>"Full" | .dQ=>"NoVoice" | .gR=>"NotPlain" | .qi=>"NoPlace" | .sy=>"BadTerm" | .AA=>"Leaned" | .mU=>"NoMore"
def Dm:Option Rf->Str
 |none=>""
 |some r=>r.str
def Dn (vw:Vw)(n:Str):Int:=match aR vw n with
 |some (.pl ss)=>ss.length
 |_=>5
def bU (vw:Vw)(d:De):Int:=if d.pl % 16=7 then([-1,-Dn vw d.n-1,Dn vw d.n+40,10 ^ 12].getD (d.pl / 16 % 4).toNat 0) else d.pl / 16 % (Dn vw d.n+2)
theorem cA {K:Frag}{H:Hp}{p:Addr}{xs:List V}{i:Nat}{v:V}{Q:VK}(h:H p=some (.tup xs))(e:xs[i]? = some v)(q:Q v H):OO K (.ref p) (.int (i:Int)) H Q\/OP K (.ref p) (.int (i:Int)) H Q\/OQ (.ref p) (.int (i:Int)) H Q:=.inr (.inl ⟨p,_,i,v,rfl,rfl,tV.of h,J9 e,q⟩)
theorem Vu {H:Hp}{kvs:List (Key×V)}{vw:Vw}(h:Paired (KQ H) kvs vw){n:Str}(hf:aR vw n=none):oN kvs (Sum.inr n)=none:=by
 cases e:oN kvs (Sum.inr n) with
 |none=>rfl
 |some v =>
  have hm:=adL e;obtain⟨kv,hk,hk2⟩:=mem_map.mp hm;obtain⟨i,hi⟩:=getElem?_of_mem hk;obtain⟨q,hq,r⟩:=zO h hi;exact absurd (Sum.inr.inj (r.1.symm.trans hk2)) (qO hf q (mem_of_getElem? hq))
theorem t5.look {H:Hp}{d:Addr}{vw:Vw}(h:t5 H d vw)(n:Str):(aR vw n=none/\sf H d (.str n) none)\/∃ th v,aR vw n=some th/\sf H d (.str n) (some v)/\ThV H v th:=by
 cases e:aR vw n with
 |none =>
  obtain⟨kvs,e1,p⟩:=h;have:=sf.k (k:=Sum.inr n) e1;rw[Vu p e]at this;exact .inl ⟨rfl,this⟩
 |some th =>
  obtain⟨v,h1,h2⟩:=h.get e;exact .inr ⟨th,v,rfl,h1,h2⟩
theorem t5.len {H:Hp}{d:Addr}{vw:Vw}(h:t5 H d vw):∃ kvs,H d=some (.dK kvs)/\kvs.length=vw.length:=by
 obtain⟨kvs,e,p⟩:=h;exact⟨kvs,e,cj p⟩
theorem SN {H H':Hp}{a:Addr}{y:V}{r:Option V}(s:aq H H')(h:sf H a y r):sf H' a y r:=by
 have rd:∀{u},Rd H a u->Rd H' a u:=fun z=>z.imp (fun e=>s _ _ e) fun⟨o,e⟩=>⟨o,s _ _ e⟩;rcases h with ⟨kvs,k,e,e2,e3⟩|⟨kvs,k,b,e,e2,e3,e4⟩
 ·exact .inl ⟨kvs,k,rd e,e2,e3⟩
 ·exact .inr ⟨kvs,k,b,rd e,e2,s _ _ e3,e4⟩
theorem lh {vw:Vw}{wy:Wy}{n:Str}{a:Int}{sg:Sn}(h:aR vw n=none):qj vw wy n a sg=some .dQ:=by unfold qj;rw[h]
theorem qS {vw:Vw}{wy:Wy}{n ld:Str}{a lt sl:Int}{tn:Bool}{sg:Sn}(h:aR vw n=some (.cn ld lt sl tn)):qj vw wy n a sg=some .gR:=by unfold qj;rw[h]
theorem qT {vw:Vw}{wy:Wy}{n:Str}{a:Int}{sg:Sn}{ss:List Sg}(h:aR vw n=some (.pl ss)):qj vw wy n a sg=if a<0\/(ss.length:Int)+(if wy=.put then 1 else 0)<=a then some .qi else if wy≠.cut/\iC sg=false then some .sx else if wy=.put/\200<=ss.length then some .Full else none:=by unfold qj;rw[h]
theorem j6 (a b:Wy):decide (V.str a.str=V.str b.str)=decide (a=b):=by cases a <;> cases b <;> decide +kernel
def zy:List Str:=["G","D","R","s","d","r",".","3","2","g",""]
theorem ab5 {k:Str}(h:k∈zy):(decide (k.length=1)&&N6 k "GDRsdr.32")=(inV (.str k) mT||inV (.str k) j9)/\(inV (.str k) mT=true->N6 k "Rr.32" = false)/\(inV (.str k) j9=true->N6 k "Rr.32" = true/\inV (.str k) mT=false):=by
 have:zy.all (fun k=>decide ((decide (k.length=1)&&N6 k "GDRsdr.32")=(inV (.str k) mT||inV (.str k) j9))&&(!inV (.str k) mT || !N6 k "Rr.32")&&(!inV (.str k) j9||(N6 k "Rr.32" && !inV (.str k) mT)))=true:=by lk
 have:=all_eq_true.mp this k h;simp only [Bool.and_eq_true,decide_eq_true_eq,Bool.or_eq_true,Bool.not_eq_true']at this;obtain⟨⟨h1,h2⟩,h3⟩:=this;refine⟨h1,fun z=>?_,fun z=>?_⟩
 ·rcases h2 with h2|h2
  ·rw[z]at h2;cases h2
  ·exact h2
 ·rcases h3 with h3|h3
  ·rw[z]at h3;cases h3
  ·exact h3
theorem agn {k:Str}(h:k∈zy):k.length<=1:=by
 have:zy.all (fun k=>decide (k.length<=1))=true:=by lk
 exact of_decide_eq_true (all_eq_true.mp this k h)
def SO (s:Sn):Bool:=decide (s.1.length=1)&&(N6 s.1 "GDRsdr.32" && (decide (0<=s.2)&&decide (s.2<100)))
theorem Zq {s:Sn}(h:s.1∈zy):(!SO s||(!decide (s.2=0)&&N6 s.1 "Rr.32")) = !iC s:=by
 obtain⟨h1,h2,h3⟩:=ab5 h;unfold SO iC;rw[<-Bool.and_assoc,h1];cases e1:inV (.str s.1) mT with
 |true =>
  rw[h2 e1,Bool.and_false,Bool.or_false,Bool.true_or,Bool.true_and]
  by_cases a:0<=s.2
  ·rw[decide_eq_true a,Bool.true_and];simp only [if_true]
   congr 1
   exact decide_eq_decide.mpr (by omega)
  ·rw[decide_eq_false a];simp
 |false =>
  rw[Bool.false_or];cases e2:inV (.str s.1) j9 with
  |true =>
   rw[(h3 e2).1,Bool.and_true,Bool.true_and]
   by_cases a:s.2=0
   ·rw[a];decide
   ·rw[decide_eq_false a];simp[a]
  |false=>simp
structure adZ (d:De):Prop where
 nl:d.n.length<=1000
 ll:d.ld.length<=1000
 sk:d.sg.1∈zy
end Fz
set_option maxHeartbeats 1000000
local macro_rules | `(tactic| tm_up) => `(tactic| repeat w_up)
local macro_rules | `(tactic| w_up) => `(tactic| first
 |refine⟨_,rfl,?_⟩
 |refine⟨_,_,rfl,rfl,⟨by decide,by decide⟩,?_⟩
 |refine⟨_,_,rfl,rfl,(by first|decide|(show(0:Int)<_;decide)),?_⟩
 |refine .inl ⟨_,_,rfl,rfl,.inr ⟨by decide,by decide⟩,?_⟩
 |refine⟨_,_,rfl,rfl,?_⟩
 |refine .inl ⟨_,_,rfl,rfl,?_⟩
 |refine .inl ⟨rfl,?_⟩
 |refine .inr ⟨_,_,rfl,rfl,?_⟩
 |refine Fz.ix0 (by assumption) ?_
 |refine Fz.ix1 (by assumption) ?_)
namespace Fz
open PySem L2
def top (i:Nat):Stmt:=PySem.Challenge.pw_noteworth_k39_terms_of_canons.main.body.getD i (.Pass ⟨0,0,0,0⟩)
abbrev fM:Stmt:=inClass (top 61) 0
abbrev qu:Stmt:=top 55
abbrev jE:Stmt:=inClass (top 61) 9
abbrev bR:Stmt:=inClass (top 61) 16
abbrev qv:Stmt:=inClass (top 54) 1
abbrev gT:Stmt:=inClass (top 61) 14
abbrev fN:Stmt:=inClass (top 54) 0
abbrev iL:Stmt:=inClass (top 61) 15
abbrev eN:Stmt:=inClass (top 53) 0
abbrev dh:Stmt:=inClass (top 61) 1
abbrev cm:Stmt:=inClass (top 61) 17
abbrev bX:Stmt:=inClass (top 61) 18
abbrev cb:Stmt:=inClass (top 61) 2
abbrev eO:Stmt:=top 64
abbrev dR:Stmt:=top 65
abbrev qw:Stmt:=top 66
abbrev eP:Stmt:=top 67
abbrev kO:Stmt:=top 68
abbrev kP:Stmt:=top 63
abbrev fO:Stmt:=top 69
abbrev mV:Stmt:=top 70
abbrev ij:Stmt:=inClass (top 61) 12
abbrev qx:Stmt:=top 79
abbrev qy:Stmt:=top 81
abbrev uI:Stmt:=top 80
abbrev gU:Stmt:=top 23
abbrev mW:Stmt:=top 26
abbrev qz:Stmt:=top 37
abbrev iN:Stmt:=top 36
abbrev cB:Stmt:=top 38
abbrev zA:Stmt:=top 22
abbrev FF:Stmt:=top 27
abbrev fP:Stmt:=top 39
abbrev eQ:Stmt:=top 40
abbrev dS:Stmt:=top 41
abbrev dU:Stmt:=top 42
abbrev jF:Stmt:=top 43
abbrev qA:Stmt:=top 44
abbrev uJ:Stmt:=top 45
abbrev uK:Stmt:=top 28
abbrev dy:Stmt:=inClass (top 61) 10
abbrev fV:Stmt:=inClass (top 61) 11
abbrev kQ:Stmt:=top 73
abbrev uL:Stmt:=top 75
abbrev qB:Stmt:=top 76
abbrev zB:Stmt:=top 77
abbrev uM:Stmt:=top 78
abbrev kR:Stmt:=top 74
abbrev mX:Stmt:=top 82
abbrev bN:Stmt:=top 56
abbrev FG:Stmt:=top 21
abbrev cL:Stmt:=top 57
abbrev qC:Stmt:=top 58
abbrev mY:Stmt:=top 59
abbrev uN:Stmt:=top 60
abbrev gC:Stmt:=inClass (top 61) 4
abbrev jn:Stmt:=inClass (top 61) 5
abbrev fW:Stmt:=inClass (top 61) 6
abbrev hV:Stmt:=inClass (top 61) 3
abbrev kS:Stmt:=inClass (top 54) 2
abbrev jo:Stmt:=inClass (top 61) 7
abbrev jq:Stmt:=inClass (top 61) 8
abbrev kq:Stmt:=top 71
abbrev mZ:Stmt:=top 72
abbrev uO:Stmt:=top 83
theorem FH:aD ["self"] ["self"] (ah fM):=⟨rfl,rfl,rfl,by lk,rfl,by lk,by lk⟩
theorem Vv:aD ["name"] ["name"] (ah qu):=⟨rfl,rfl,rfl,by lk,rfl,by lk,by lk⟩
theorem Ng:aD ["self"] ["self"] (ah jE):=⟨rfl,rfl,rfl,by lk,rfl,by lk,by lk⟩
theorem AB:aD ["self","name"] ["self","name"] (ah bR):=⟨rfl,rfl,rfl,by lk,rfl,by lk,by lk⟩
theorem Vy:aD ["self"] ["self"] (ah qv):=⟨rfl,rfl,rfl,by lk,rfl,by lk,by lk⟩
theorem Jx:aD ["self","deed"] ["self","deed"] (ah gT):=⟨rfl,rfl,rfl,by lk,rfl,by lk,by lk⟩
theorem FI:aD ["self","things","at","before","after"] ["self","things","at","before","after"] (ah fN):=⟨rfl,rfl,rfl,by lk,rfl,by lk,by lk⟩
theorem KW:aD ["self","voice"] ["self","voice"] (ah iL):=⟨rfl,rfl,rfl,by lk,rfl,by lk,by lk⟩
theorem Dp:aD ["self","name","terms"] ["self","name","terms"] (ah eN):=⟨rfl,rfl,rfl,by lk,rfl,by lk,by lk⟩
theorem Dq:aD ["self","name"] ["self","name"] (ah dh):=⟨rfl,rfl,rfl,by lk,rfl,by lk,by lk⟩
theorem oR:aD ["self","name","voice"] ["self","name"] (ah cm):=⟨rfl,rfl,rfl,by lk,rfl,by lk,by lk⟩
theorem qb:aD ["self","name","voice"] ["self","name"] (ah bX):=⟨rfl,rfl,rfl,by lk,rfl,by lk,by lk⟩
theorem Dr:aD ["self","name","leader","later","slow","is_turned"] ["self","name","leader","later","slow","is_turned"] (ah cb):=⟨rfl,rfl,rfl,by lk,rfl,by lk,by lk⟩
theorem sE:aD ["_law_voices","_law_name","_law_sign"] ["_law_voices","_law_name"] (ah eO):=⟨rfl,rfl,rfl,by lk,rfl,by lk,by lk⟩
theorem qU:aD ["_law_voices","_law_deed","_law_fine"] ["_law_voices","_law_deed"] (ah dR):=⟨rfl,rfl,rfl,by lk,rfl,by lk,by lk⟩
theorem KY:aD ["_law_voices","_law_deed","_law_size"] ["_law_voices","_law_deed"] (ah qw):=⟨rfl,rfl,rfl,by lk,rfl,by lk,by lk⟩
theorem i8:aD ["_law_voices","_law_deed","_law_way","_law_name","_law_sign","_law_at","_law_fine"] ["_law_voices","_law_deed"] (ah eP):=⟨rfl,rfl,rfl,by lk,rfl,by lk,by lk⟩
theorem qk:aD ["_law_stand","_law_deed","_law_voices","_law_led","_law_why"] ["_law_stand","_law_deed"] (ah kO):=⟨rfl,rfl,rfl,by lk,rfl,by lk,by lk⟩
theorem O7:aD ["_law_script","_law_k"] ["_law_script","_law_k"] (ah kP):=⟨rfl,rfl,rfl,by lk,rfl,by lk,by lk⟩
theorem FJ:aD ["_law_line","_law_deed","_law_at"] ["_law_line","_law_deed","_law_at"] (ah fO):=⟨rfl,rfl,rfl,by lk,rfl,by lk,by lk⟩
theorem oS:aD ["_law_stand","_law_deed","_law_voices","_law_past","_law_future","_law_other"] ["_law_stand","_law_deed"] (ah mV):=⟨rfl,rfl,rfl,by lk,rfl,by lk,by lk⟩
theorem Nh:aD ["self","name"] ["self","name"] (ah ij):=⟨rfl,rfl,rfl,by lk,rfl,by lk,by lk⟩
theorem Vz:aD ["_law_found"] ["_law_found"] (ah qx):=⟨rfl,rfl,rfl,by lk,rfl,by lk,by lk⟩
theorem AD:aD ["_law_found","_law_due","_law_one","_law_other"] ["_law_found","_law_due"] (ah qy):=⟨rfl,rfl,rfl,by lk,rfl,by lk,by lk⟩
theorem Oe:aD ["_law_found","_law_due","_law_k"] ["_law_found","_law_due"] (ah uI):=⟨rfl,rfl,rfl,by lk,rfl,by lk,by lk⟩
theorem Jy:aD ["sign"] ["sign"] (ah gU):=⟨rfl,rfl,rfl,by lk,rfl,by lk,by lk⟩
theorem oT:aD ["line","begin","found","measure","sign"] ["line","begin"] (ah mW):=⟨rfl,rfl,rfl,by lk,rfl,by lk,by lk⟩
theorem VA:aD ["line","at"] ["line","at"] (ah qz):=⟨rfl,rfl,rfl,by lk,rfl,by lk,by lk⟩
theorem KZ:aD ["kind","measure"] ["kind","measure"] (ah iN):=⟨rfl,rfl,rfl,by lk,rfl,by lk,by lk⟩
theorem eC:aD ["line","begin","found","at","measure"] ["line","begin"] (ah cB):=⟨rfl,rfl,rfl,by lk,rfl,by lk,by lk⟩
theorem ab6:aD ["sign"] ["sign"] (ah zA):=⟨rfl,rfl,rfl,by lk,rfl,by lk,by lk⟩
theorem vC:aD ["line","begin","found","first","at","sign","measure"] ["line","begin"] (ah FF):=⟨rfl,rfl,rfl,by lk,rfl,by lk,by lk⟩
theorem FK:aD ["line","found","first"] ["line","found","first"] (ah fP):=⟨rfl,rfl,rfl,by lk,rfl,by lk,by lk⟩
theorem Ds:aD ["line","behind"] ["line","behind"] (ah eQ):=⟨rfl,rfl,rfl,by lk,rfl,by lk,by lk⟩
theorem AE:aD ["line","found","first","behind"] ["line","found","first","behind"] (ah dS):=⟨rfl,rfl,rfl,by lk,rfl,by lk,by lk⟩
theorem AF:aD ["line","found","first","behind"] ["line","found","first","behind"] (ah dU):=⟨rfl,rfl,rfl,by lk,rfl,by lk,by lk⟩
theorem Af:aD ["line","found","first","behind","rest"] ["line","found","first","behind"] (ah jF):=⟨rfl,rfl,rfl,by lk,rfl,by lk,by lk⟩
theorem qV:aD ["line","begin","found","loose_runs","first","behind"] ["line","begin"] (ah qA):=⟨rfl,rfl,rfl,by lk,rfl,by lk,by lk⟩
theorem Zr:aD ["line","begin"] ["line","begin"] (ah uJ):=⟨rfl,rfl,rfl,by lk,rfl,by lk,by lk⟩
theorem Zs:aD ["line"] ["line"] (ah uK):=⟨rfl,rfl,rfl,by lk,rfl,by lk,by lk⟩
theorem bS:aD ["self","name","terms","leader","later","slow","is_turned","heard"] ["self","name"] (ah dy):=⟨rfl,rfl,rfl,by lk,rfl,by lk,by lk⟩
theorem ik:aD ["self","name","terms","leader","later","slow","is_turned","begin"] ["self","name"] (ah fV):=⟨rfl,rfl,rfl,by lk,rfl,by lk,by lk⟩
theorem lj:aD ["_law_voices","_law_name","_law_thing","_law_told","_law_sign","_law_kind"] ["_law_voices","_law_name"] (ah kQ):=⟨rfl,rfl,rfl,by lk,rfl,by lk,by lk⟩
theorem qD:aD ["_law_line","_law_begin","_law_told","_law_now","_law_at","_law_kind"] ["_law_line","_law_begin"] (ah uL):=⟨rfl,rfl,rfl,by lk,rfl,by lk,by lk⟩
theorem qW:aD ["_law_line","_law_begin","_law_told","_law_now","_law_sign"] ["_law_line","_law_begin"] (ah qB):=⟨rfl,rfl,rfl,by lk,rfl,by lk,by lk⟩
theorem uP:aD ["_law_line","_law_told","_law_low","_law_high","_law_rest","_law_behind_here","_law_after","_law_left","_law_right"] ["_law_line","_law_told","_law_low","_law_high"] (ah zB):=⟨rfl,rfl,rfl,by lk,rfl,by lk,by lk⟩
theorem kU:aD ["_law_line","_law_begin","_law_told","_law_three_here","_law_left","_law_low","_law_high"] ["_law_line","_law_begin"] (ah uM):=⟨rfl,rfl,rfl,by lk,rfl,by lk,by lk⟩
theorem vD:aD ["_law_voices","_law_name","_law_thing","_law_line"] ["_law_voices","_law_name"] (ah kR):=⟨rfl,rfl,rfl,by lk,rfl,by lk,by lk⟩
theorem sF:aD ["_law_book","_law_voices","_law_told","_law_name","_law_terms"] ["_law_book","_law_voices"] (ah mX):=⟨rfl,rfl,rfl,by lk,rfl,by lk,by lk⟩
theorem vE:aD ["at","last"] ["at","last"] (ah bN):=⟨rfl,rfl,rfl,by lk,rfl,by lk,by lk⟩
theorem O8:aD ["sign","kind","tone"] ["sign"] (ah FG):=⟨rfl,rfl,rfl,by lk,rfl,by lk,by lk⟩
theorem AG:aD ["sign"] ["sign"] (ah cL):=⟨rfl,rfl,rfl,by lk,rfl,by lk,by lk⟩
theorem vF:aD ["line","at","met","place"] ["line","at"] (ah qC):=⟨rfl,rfl,rfl,by lk,rfl,by lk,by lk⟩
theorem IZ:aD ["line","first","kinds","place"] ["line","first","kinds"] (ah mY):=⟨rfl,rfl,rfl,by lk,rfl,by lk,by lk⟩
theorem Of:aD ["line","at","behind","changed","kinds"] ["line","at","behind","changed"] (ah uN):=⟨rfl,rfl,rfl,by lk,rfl,by lk,by lk⟩
theorem Ja:aD ["self","name","at","sign","signs"] ["self","name","at","sign"] (ah gC):=⟨rfl,rfl,rfl,by lk,rfl,by lk,by lk⟩
theorem xH:aD ["self","name","at","signs","sign"] ["self","name","at"] (ah jn):=⟨rfl,rfl,rfl,by lk,rfl,by lk,by lk⟩
theorem vG:aD ["self","name","at","sign","signs","before"] ["self","name","at","sign"] (ah fW):=⟨rfl,rfl,rfl,by lk,rfl,by lk,by lk⟩
theorem Dt:aD ["self","name","dropped"] ["self","name"] (ah hV):=⟨rfl,rfl,rfl,by lk,rfl,by lk,by lk⟩
theorem O9:aD ["self"] ["self"] (ah kS):=⟨rfl,rfl,rfl,by lk,rfl,by lk,by lk⟩
theorem Du:aD ["self","deed"] ["self"] (ah jo):=⟨rfl,rfl,rfl,by lk,rfl,by lk,by lk⟩
theorem Dv:aD ["self","deed"] ["self"] (ah jq):=⟨rfl,rfl,rfl,by lk,rfl,by lk,by lk⟩
theorem Yz:aD ["_law_book","_law_deed","_law_at","_law_way","_law_name"] ["_law_book","_law_deed","_law_at"] (ah kq):=⟨rfl,rfl,rfl,by lk,rfl,by lk,by lk⟩
theorem VB:aD ["_law_book","_law_deed","_law_at"] ["_law_book","_law_deed","_law_at"] (ah mZ):=⟨rfl,rfl,rfl,by lk,rfl,by lk,by lk⟩
theorem kr:aD ["_law_script","_law_book","_law_stand","_law_names","_law_name","_law_leader","_law_later","_law_slow","_law_deed","_law_k","_law_why"] ["_law_script"] (ah uO):=⟨rfl,rfl,rfl,by lk,rfl,by lk,by lk⟩
theorem Pa:(["letter","name"]:List Str).Nodup:=by lk
theorem Jz:(["voice","self"]:List Str).Nodup:=by lk
theorem K0:(["_law_name","_law_stand","_law_deed","_law_voices","_law_led","_law_why"]:List Str).Nodup:=by lk
theorem Jb:(["kind","tone","line"]:List Str).Nodup:=by lk
theorem K1:(["worth","self","name","terms","leader","later","slow","is_turned","begin"]:List Str).Nodup:=by lk
theorem K2:(["_law_worth","_law_voices","_law_name","_law_thing","_law_line"]:List Str).Nodup:=by lk
theorem SQ:(["sign","line","at","behind","changed","kinds"]:List Str).Nodup:=by lk
theorem K3:(["voice","self","name","dropped"]:List Str).Nodup:=by lk
def xI:List (Str×Pos):=[("dora",⟨529,18,529,24⟩),("a",⟨529,26,529,29⟩),("zzzzzzzz",⟨529,31,529,41⟩),("ann",⟨529,43,529,48⟩),("bo",⟨529,50,529,54⟩),("cy",⟨529,56,529,60⟩),("",⟨529,62,529,64⟩),("aaaaaaaaa",⟨529,66,529,77⟩),("Ann",⟨529,79,529,84⟩),("a b",⟨529,86,529,91⟩),("a1",⟨529,93,529,97⟩),("ann ",⟨529,99,529,105⟩),("-",⟨529,107,529,110⟩),("an",⟨529,112,529,116⟩)]
def SR:List (Str×Pos):=[("ann",⟨532,19,532,24⟩),("cy",⟨532,26,532,30⟩),("bo",⟨532,32,532,36⟩),("dora",⟨532,38,532,44⟩),("ann",⟨532,46,532,51⟩)]
theorem VC {X:Cx}:OU X (Expr.List [] ⟨525,26,525,28⟩) (oM eM):=Vf Ku
theorem VD {X:Cx}:UL X [(Expr.Constant (.bool false) 0 ⟨525,50,525,55⟩)] (bf (tC (V.bl false)) eM):=C9 ah9 Ku
theorem VE {X:Cx}:UL X [(Expr.Constant (.int 2) 0 ⟨525,47,525,48⟩),(Expr.Constant (.bool false) 0 ⟨525,50,525,55⟩)] (bf (tC (V.int 2)) (bf (tC (V.bl false)) eM)):=C9 abx VD
theorem VF {X:Cx}:UL X [(Expr.Constant (.int 3) 0 ⟨525,44,525,45⟩),(Expr.Constant (.int 2) 0 ⟨525,47,525,48⟩),(Expr.Constant (.bool false) 0 ⟨525,50,525,55⟩)] (bf (tC (V.int 3)) (bf (tC (V.int 2)) (bf (tC (V.bl false)) eM))):=C9 abx VE
theorem VG {X:Cx}:UL X [(Expr.Constant (.str "ann") 0 ⟨525,37,525,42⟩),(Expr.Constant (.int 3) 0 ⟨525,44,525,45⟩),(Expr.Constant (.int 2) 0 ⟨525,47,525,48⟩),(Expr.Constant (.bool false) 0 ⟨525,50,525,55⟩)] (bf (tC (V.str "ann")) (bf (tC (V.int 3)) (bf (tC (V.int 2)) (bf (tC (V.bl false)) eM)))):=C9 Ve VF
theorem VH {X:Cx}:OU X (Expr.Tuple [(Expr.Constant (.str "ann") 0 ⟨525,37,525,42⟩),(Expr.Constant (.int 3) 0 ⟨525,44,525,45⟩),(Expr.Constant (.int 2) 0 ⟨525,47,525,48⟩),(Expr.Constant (.bool false) 0 ⟨525,50,525,55⟩)] 0 ⟨525,36,525,56⟩) (Ap (bf (tC (V.str "ann")) (bf (tC (V.int 3)) (bf (tC (V.int 2)) (bf (tC (V.bl false)) eM))))):=aby VG
theorem VI {X:Cx}:PDw X ⟨525,18,525,57⟩ [some (Expr.Constant (.str "bo") 0 ⟨525,30,525,34⟩)] [(Expr.Tuple [(Expr.Constant (.str "ann") 0 ⟨525,37,525,42⟩),(Expr.Constant (.int 3) 0 ⟨525,44,525,45⟩),(Expr.Constant (.int 2) 0 ⟨525,47,525,48⟩),(Expr.Constant (.bool false) 0 ⟨525,50,525,55⟩)] 0 ⟨525,36,525,56⟩)] [((tC (V.str "bo")),(Ap (bf (tC (V.str "ann")) (bf (tC (V.int 3)) (bf (tC (V.int 2)) (bf (tC (V.bl false)) eM))))))]:=Su Ve VH adM
theorem VJ {X:Cx}:PDw X ⟨525,18,525,57⟩ [some (Expr.Constant (.str "ann") 0 ⟨525,19,525,24⟩),some (Expr.Constant (.str "bo") 0 ⟨525,30,525,34⟩)] [(Expr.List [] ⟨525,26,525,28⟩),(Expr.Tuple [(Expr.Constant (.str "ann") 0 ⟨525,37,525,42⟩),(Expr.Constant (.int 3) 0 ⟨525,44,525,45⟩),(Expr.Constant (.int 2) 0 ⟨525,47,525,48⟩),(Expr.Constant (.bool false) 0 ⟨525,50,525,55⟩)] 0 ⟨525,36,525,56⟩)] [((tC (V.str "ann")),(oM eM)),((tC (V.str "bo")),(Ap (bf (tC (V.str "ann")) (bf (tC (V.int 3)) (bf (tC (V.int 2)) (bf (tC (V.bl false)) eM))))))]:=Su Ve VC VI
theorem VL {X:Cx}:OU X (Expr.Dict [some (Expr.Constant (.str "ann") 0 ⟨525,19,525,24⟩),some (Expr.Constant (.str "bo") 0 ⟨525,30,525,34⟩)] [(Expr.List [] ⟨525,26,525,28⟩),(Expr.Tuple [(Expr.Constant (.str "ann") 0 ⟨525,37,525,42⟩),(Expr.Constant (.int 3) 0 ⟨525,44,525,45⟩),(Expr.Constant (.int 2) 0 ⟨525,47,525,48⟩),(Expr.Constant (.bool false) 0 ⟨525,50,525,55⟩)] 0 ⟨525,36,525,56⟩)] ⟨525,18,525,57⟩) (IT [((tC (V.str "ann")),(oM eM)),((tC (V.str "bo")),(Ap (bf (tC (V.str "ann")) (bf (tC (V.int 3)) (bf (tC (V.int 2)) (bf (tC (V.bl false)) eM))))))]):=adN VJ rfl rfl (List.cons_ne_nil _ _) (by decide)
theorem SU {X:Cx}:OU X (Expr.List [] ⟨525,59,525,61⟩) (oM eM):=Vf Ku
theorem SV {X:Cx}:OU X (Expr.List [] ⟨525,63,525,65⟩) (oM eM):=Vf Ku
theorem SW {X:Cx}:UL X [(Expr.List [] ⟨525,63,525,65⟩)] (bf (oM eM) eM):=Sm SV Ku
theorem SX {X:Cx}:UL X [(Expr.List [] ⟨525,59,525,61⟩),(Expr.List [] ⟨525,63,525,65⟩)] (bf (oM eM) (bf (oM eM) eM)):=Sm SU SW
theorem SY {X:Cx}:UL X [(Expr.Dict [some (Expr.Constant (.str "ann") 0 ⟨525,19,525,24⟩),some (Expr.Constant (.str "bo") 0 ⟨525,30,525,34⟩)] [(Expr.List [] ⟨525,26,525,28⟩),(Expr.Tuple [(Expr.Constant (.str "ann") 0 ⟨525,37,525,42⟩),(Expr.Constant (.int 3) 0 ⟨525,44,525,45⟩),(Expr.Constant (.int 2) 0 ⟨525,47,525,48⟩),(Expr.Constant (.bool false) 0 ⟨525,50,525,55⟩)] 0 ⟨525,36,525,56⟩)] ⟨525,18,525,57⟩),(Expr.List [] ⟨525,59,525,61⟩),(Expr.List [] ⟨525,63,525,65⟩)] (bf (IT [((tC (V.str "ann")),(oM eM)),((tC (V.str "bo")),(Ap (bf (tC (V.str "ann")) (bf (tC (V.int 3)) (bf (tC (V.int 2)) (bf (tC (V.bl false)) eM))))))]) (bf (oM eM) (bf (oM eM) eM))):=abN VL SX
theorem Ta {X:Cx}:OU X (Expr.Tuple [(Expr.Dict [some (Expr.Constant (.str "ann") 0 ⟨525,19,525,24⟩),some (Expr.Constant (.str "bo") 0 ⟨525,30,525,34⟩)] [(Expr.List [] ⟨525,26,525,28⟩),(Expr.Tuple [(Expr.Constant (.str "ann") 0 ⟨525,37,525,42⟩),(Expr.Constant (.int 3) 0 ⟨525,44,525,45⟩),(Expr.Constant (.int 2) 0 ⟨525,47,525,48⟩),(Expr.Constant (.bool false) 0 ⟨525,50,525,55⟩)] 0 ⟨525,36,525,56⟩)] ⟨525,18,525,57⟩),(Expr.List [] ⟨525,59,525,61⟩),(Expr.List [] ⟨525,63,525,65⟩)] 0 ⟨525,17,525,66⟩) (Ap (bf (IT [((tC (V.str "ann")),(oM eM)),((tC (V.str "bo")),(Ap (bf (tC (V.str "ann")) (bf (tC (V.int 3)) (bf (tC (V.int 2)) (bf (tC (V.bl false)) eM))))))]) (bf (oM eM) (bf (oM eM) eM)))):=aby SY
@[irreducible] def oU:Expr:=(Expr.Tuple [(Expr.Dict [some (Expr.Constant (.str "ann") 0 ⟨525,19,525,24⟩),some (Expr.Constant (.str "bo") 0 ⟨525,30,525,34⟩)] [(Expr.List [] ⟨525,26,525,28⟩),(Expr.Tuple [(Expr.Constant (.str "ann") 0 ⟨525,37,525,42⟩),(Expr.Constant (.int 3) 0 ⟨525,44,525,45⟩),(Expr.Constant (.int 2) 0 ⟨525,47,525,48⟩),(Expr.Constant (.bool false) 0 ⟨525,50,525,55⟩)] 0 ⟨525,36,525,56⟩)] ⟨525,18,525,57⟩),(Expr.List [] ⟨525,59,525,61⟩),(Expr.List [] ⟨525,63,525,65⟩)] 0 ⟨525,17,525,66⟩)
theorem ab7 {X:Cx}:OU X oU (Ap (bf (IT [((tC (V.str "ann")),(oM eM)),((tC (V.str "bo")),(Ap (bf (tC (V.str "ann")) (bf (tC (V.int 3)) (bf (tC (V.int 2)) (bf (tC (V.bl false)) eM))))))]) (bf (oM eM) (bf (oM eM) eM)))):=by unfold oU;exact Ta
theorem zS (p:Pos)(l:Nat)(env:Env):swapsWith oU (some (.Name "_law_stand" p)) l env=pure false:=by unfold oU;rfl
@[irreducible] def Dw:TE:=(Ap (bf (IT [((tC (V.str "ann")),(oM eM)),((tC (V.str "bo")),(Ap (bf (tC (V.str "ann")) (bf (tC (V.int 3)) (bf (tC (V.int 2)) (bf (tC (V.bl false)) eM))))))]) (bf (oM eM) (bf (oM eM) eM))))
theorem Jc:Dw=(Ap (bf (IT [((tC (V.str "ann")),(oM eM)),((tC (V.str "bo")),(Ap (bf (tC (V.str "ann")) (bf (tC (V.int 3)) (bf (tC (V.int 2)) (bf (tC (V.bl false)) eM))))))]) (bf (oM eM) (bf (oM eM) eM)))):=by unfold Dw;rfl
theorem ab8 {X:Cx}:OU X oU Dw:=by rw[Jc];exact ab7
theorem ab9 {X:Cx}:PE X oU Dw:=ab8.out
set_option genInjectivity false in
set_option genSizeOf false in
structure Adr where
 cT:Addr
 ph:FuncData
 m7:Addr
 FL:FuncData
 fX:Addr
 vH:FuncData
 bC:Addr
 lp:FuncData
 kW:Addr
 FN:FuncData
 dz:Addr
 qX:FuncData
 cU:Addr
 pj:FuncData
 eG:Addr
 t6:FuncData
 cG:Addr
 m8:FuncData
 cf:Addr
 m9:FuncData
 bG:Addr
 jV:FuncData
 bD:Addr
 ku:FuncData
 bI:Addr
 gW:FuncData
 i9:Addr
 eU:Tok
 eV:Tok
 di:Addr
 nc:FuncData
 cM:Addr
 lq:FuncData
 ng:Addr
 FO:FuncData
 dj:Addr
 nh:FuncData
 jr:Addr
 xJ:FuncData
 js:Addr
 xK:FuncData
 dX:Addr
 pq:FuncData
 kx:Addr
 AH:FuncData
 eD:Addr
 vI:FuncData
 nj:Addr
 FP:FuncData
 nk:Addr
 FQ:FuncData
 qY:Addr
 K4:FuncData
 eW:Addr
 qZ:FuncData
 ky:Addr
 vJ:FuncData
 sG:Addr
 lr:Tok
 nq:Addr
 FR:FuncData
 gD:Addr
 t7:FuncData
 bO:Addr
 iS:FuncData
 vK:Addr
 Pb:FuncData
 AI:Addr
 Pc:FuncData
 Kg:Addr
 xM:Tok
 dY:Addr
 pA:FuncData
 dm:Addr
 nr:FuncData
 cN:Addr
 lu:FuncData
 cO:Addr
 lx:FuncData
 il:Addr
 vL:FuncData
 nu:Addr
 FT:FuncData
 q0:Addr
 Dx:FuncData
 zC:Addr
 q8:Tok
 q9:Addr
 K5:FuncData
 cw:Addr
 sH:FuncData
 dA:Addr
 xN:FuncData
 jt:Addr
 xO:FuncData
 rb:Addr
 K6:FuncData
 nC:Addr
 FU:FuncData
 vM:Addr
 Pd:FuncData
 rf:Addr
 K7:FuncData
 ju:Addr
 xP:FuncData
 kz:Addr
 AJ:FuncData
 bF:Addr
 iT:FuncData
 AK:Addr
 VM:FuncData
 cy:Addr
 ly:FuncData
 nE:Addr
 FV:FuncData
 kA:Addr
 AL:FuncData
 rg:Addr
 K8:FuncData
 dZ:Addr
 AM:FuncData
 gE:Addr
 AN:FuncData
 dB:Addr
 xQ:FuncData
 eI:Addr
 xR:FuncData
 hX:Addr
 xS:FuncData
 fY:Addr
 xV:FuncData
 fZ:Addr
 xW:FuncData
 jW:Addr
 VN:FuncData
 kX:Addr
 FW:FuncData
 K9:Addr
 aca:FuncData
 eJ:Addr
 gF:Addr
 d3:Addr
 cV:Addr
 dn:Addr
 eX:Addr
 lz:Tok
 dC:Addr
 dD:Addr
 cg:Addr
 qm:Tok
 ja:Tok
 kc:Tok
 lB:Tok
 zD:Tok
 lC:Tok
 oC:Tok
 qo:Tok
 Dy:Tok
 zE:Tok
 dr:Addr
 bq:Addr
 aY:Addr
 aT:Addr
 aK:Addr
 cq:Addr
 aU:Addr
 aP:Addr
 aV:Addr
 aW:Addr
 aX:Addr
 bj:Addr
 bo:Addr
structure Txt (K:Frag)(w:World)(mg:Str->Option Value)(t:Adr):Prop where
 kd:jT K "__init__" "Book.__init__" fM t.cT t.ph
 pB:Binds K t.ph ["self"] []
 uQ:jT K "is_name" "is_name" qu t.m7 t.FL
 FX:Binds K t.FL ["name"] []
 VO:mg "is_name"=some (.ref t.m7)
 qp:jT K "names" "Book.names" jE t.fX t.vH
 jG:Binds K t.vH ["self"] []
 oE:Meth K t.aY "names" t.fX
 jb:jT K "refuse_new" "Book.refuse_new" bR t.bC t.lp
 jc:Binds K t.lp ["self","name"] []
 rh:Meth K t.aY "refuse_new" t.bC
 zF:jT K "do" "Deed.do" qv t.kW t.FN
 zG:Binds K t.FN ["self"] []
 La:Meth K t.bq "do" t.kW
 lD:jT K "perform" "Book.perform" gT t.dz t.qX
 eY:Binds K t.qX ["self","deed"] []
 iD:Meth K t.aY "perform" t.dz
 ke:jT K "__init__" "Deed.__init__" fN t.cU t.pj
 d4:Binds K t.pj ["self","things","at","before","after"] []
 oF:jT K "put_in" "Book.put_in" iL t.eG t.t6
 oG:Binds K t.t6 ["self","voice"] []
 xX:Meth K t.aY "put_in" t.eG
 jH:jT K "__init__" "Voice.__init__" eN t.cG t.m8
 jI:Binds K t.m8 ["self","name","terms"] []
 jJ:jT K "add_voice" "Book.add_voice" dh t.cf t.m9
 gX:Binds K t.m9 ["self","name"] []
 lE:Meth K t.aY "add_voice" t.cf
 gK:jT K "voice_called" "Book.voice_called" cm t.bG t.jV
 cu:Binds K t.jV ["self","name"] []
 dE:Meth K t.aY "voice_called" t.bG
 ip:jT K "plain_voice" "Book.plain_voice" bX t.bD t.ku
 dq:Binds K t.ku ["self","name"] []
 gL:Meth K t.aY "plain_voice" t.bD
 eR:Ks K "add_canon" "Book.add_canon" cb t.bI t.gW (.ref t.i9)
 lF:Binds K t.gW ["self","name","leader","later","slow","is_turned"] [.int 0 t.eU,.int 1 t.eV,.bool false]
 kB:Binds K t.gW ["self","name","leader","later","slow","is_turned"] [.bool false]
 nF:Binds K t.gW ["self","name","leader","later","slow","is_turned"] []
 lG:Meth K t.aY "add_canon" t.bI
 gY:jT K "_law_name_refused" "_law_name_refused" eO t.di t.nc
 nG:Binds K t.nc ["_law_voices","_law_name"] []
 Dz:mg "_law_name_refused"=some (.ref t.di)
 f7:jT K "_law_canon_refused" "_law_canon_refused" dR t.cM t.lq
 lH:Binds K t.lq ["_law_voices","_law_deed"] []
 AO:mg "_law_canon_refused"=some (.ref t.cM)
 qE:jT K "_law_place" "_law_place" qw t.ng t.FO
 zH:Binds K t.FO ["_law_voices","_law_deed"] []
 Lb:mg "_law_place"=some (.ref t.ng)
 gZ:jT K "_law_line_refused" "_law_line_refused" eP t.dj t.nh
 nH:Binds K t.nh ["_law_voices","_law_deed"] []
 DA:mg "_law_line_refused"=some (.ref t.dj)
 oV:jT K "_law_refused" "_law_refused" kO t.jr t.xJ
 xY:Binds K t.xJ ["_law_stand","_law_deed"] []
 Pe:mg "_law_refused"=some (.ref t.jr)
 cz:jT K "_law_cell_at" "_law_cell_at" kP t.js t.xK
 cW:Binds K t.xK ["_law_script","_law_k"] []
 dt:mg "_law_cell_at"=some (.ref t.js)
 iE:jT K "_law_line_behind" "_law_line_behind" fO t.dX t.pq
 pC:Binds K t.pq ["_law_line","_law_deed","_law_at"] []
 FY:mg "_law_line_behind"=some (.ref t.dX)
 rj:jT K "_law_behind" "_law_behind" mV t.kx t.AH
 AQ:Binds K t.AH ["_law_stand","_law_deed"] []
 Tb:mg "_law_behind"=some (.ref t.kx)
 qq:jT K "canon" "Book.canon" ij t.eD t.vI
 jK:Binds K t.vI ["self","name"] []
 oH:Meth K t.aY "canon" t.eD
 kY:jT K "_law_whole" "_law_whole" qx t.nj t.FP
 qF:Binds K t.FP ["_law_found"] []
 vN:mg "_law_whole"=some (.ref t.nj)
 uR:jT K "_law_signs" "_law_signs" qy t.nk t.FQ
 FZ:Binds K t.FQ ["_law_found","_law_due"] []
 VP:mg "_law_signs"=some (.ref t.nk)
 xZ:jT K "_law_nums" "_law_nums" uI t.qY t.K4
 Lc:Binds K t.K4 ["_law_found","_law_due"] []
 Zt:mg "_law_nums"=some (.ref t.qY)
 g4:jT K "sets_measure" "sets_measure" gU t.eW t.qZ
 lI:Binds K t.qZ ["sign"] []
 w4:mg "sets_measure"=some (.ref t.eW)
 kC:Ks K "measures" "measures" mW t.ky t.vJ (.ref t.sG)
 Jd:Binds K t.vJ ["line","begin"] [.int 3 t.lr]
 vO:Binds K t.vJ ["line","begin"] []
 Je:mg "measures"=some (.ref t.ky)
 fQ:jT K "kind_at" "kind_at" qz t.nq t.FR
 iO:Binds K t.FR ["line","at"] []
 jv:mg "kind_at"=some (.ref t.nq)
 j7:jT K "plain_worth" "plain_worth" iN t.gD t.t7
 ua:Binds K t.t7 ["kind","measure"] []
 Ld:mg "plain_worth"=some (.ref t.gD)
 cZ:jT K "worths_without_runs" "worths_without_runs" cB t.bO t.iS
 iU:Binds K t.iS ["line","begin"] []
 vP:mg "worths_without_runs"=some (.ref t.bO)
 zI:jT K "small" "small" zA t.vK t.Pb
 Kh:Binds K t.Pb ["sign"] []
 Tc:mg "small"=some (.ref t.vK)
 F1:Ks K "runs" "runs" FF t.AI t.Pc (.ref t.Kg)
 YA:Binds K t.Pc ["line","begin"] [.int 3 t.xM]
 VQ:Binds K t.Pc ["line","begin"] []
 ad0:mg "runs"=some (.ref t.AI)
 fR:jT K "has_left_note" "has_left_note" fP t.dY t.pA
 kf:Binds K t.pA ["line","found","first"] []
 uS:mg "has_left_note"=some (.ref t.dY)
 eS:jT K "has_right_note" "has_right_note" eQ t.dm t.nr
 jL:Binds K t.nr ["line","behind"] []
 sI:mg "has_right_note"=some (.ref t.dm)
 gb:jT K "settle_one_over" "settle_one_over" dS t.cN t.lu
 lJ:Binds K t.lu ["line","found","first","behind"] []
 AR:mg "settle_one_over"=some (.ref t.cN)
 gf:jT K "settle_two_over" "settle_two_over" dU t.cO t.lx
 lK:Binds K t.lx ["line","found","first","behind"] []
 AS:mg "settle_two_over"=some (.ref t.cO)
 lL:jT K "settle_run" "settle_run" jF t.il t.vL
 vQ:Binds K t.vL ["line","found","first","behind"] []
 Ni:mg "settle_run"=some (.ref t.il)
 uT:jT K "reading" "reading" qA t.nu t.FT
 F2:Binds K t.FT ["line","begin"] []
 VR:mg "reading"=some (.ref t.nu)
 rl:Ks K "worths" "worths" uJ t.q0 t.Dx (.ref t.zC)
 Og:Binds K t.Dx ["line","begin"] [.int 3 t.q8]
 DB:Binds K t.Dx ["line","begin"] []
 Oh:mg "worths"=some (.ref t.q0)
 uU:jT K "turned" "turned" uK t.q9 t.K5
 DC:Binds K t.K5 ["line"] []
 Oi:mg "turned"=some (.ref t.q9)
 oW:jT K "line" "Book.line" dy t.cw t.sH
 jw:Binds K t.sH ["self","name"] []
 lM:Meth K t.aY "line" t.cw
 sJ:jT K "kept" "Book.kept" fV t.dA t.xN
 sL:Binds K t.xN ["self","name"] []
 DD:Meth K t.aY "kept" t.dA
 kZ:jT K "_law_line_of" "_law_line_of" kQ t.jt t.xO
 sM:Binds K t.xO ["_law_voices","_law_name"] []
 DE:mg "_law_line_of"=some (.ref t.jt)
 x3:jT K "_law_base" "_law_base" uL t.rb t.K6
 Le:Binds K t.K6 ["_law_line","_law_begin"] []
 Zu:mg "_law_base"=some (.ref t.rb)
 uV:jT K "_law_three" "_law_three" qB t.nC t.FU
 F8:Binds K t.FU ["_law_line","_law_begin"] []
 VS:mg "_law_three"=some (.ref t.nC)
 DF:jT K "_law_run" "_law_run" zB t.vM t.Pd
 Pf:Binds K t.Pd ["_law_line","_law_told","_law_low","_law_high"] []
 acb:mg "_law_run"=some (.ref t.vM)
 uW:jT K "_law_read" "_law_read" uM t.rf t.K7
 DG:Binds K t.K7 ["_law_line","_law_begin"] []
 Oj:mg "_law_read"=some (.ref t.rf)
 oX:jT K "_law_kept_of" "_law_kept_of" kR t.ju t.xP
 x6:Binds K t.xP ["_law_voices","_law_name"] []
 Pg:mg "_law_kept_of"=some (.ref t.ju)
 rm:jT K "_law_stands" "_law_stands" mX t.kz t.AJ
 AU:Binds K t.AJ ["_law_book","_law_voices"] []
 Td:mg "_law_stands"=some (.ref t.kz)
 bP:jT K "refuse_other_places" "refuse_other_places" bN t.bF t.iT
 c0:Binds K t.iT ["at","last"] []
 iq:mg "refuse_other_places"=some (.ref t.bF)
 Lf:jT K "good" "good" FG t.AK t.VM
 VT:Binds K t.VM ["sign"] []
 ad1:mg "good"=some (.ref t.AK)
 dW:jT K "refuse_bad_sign" "refuse_bad_sign" cL t.cy t.ly
 jd:Binds K t.ly ["sign"] []
 rp:mg "refuse_bad_sign"=some (.ref t.cy)
 uX:jT K "low_end" "low_end" qC t.nE t.FV
 F9:Binds K t.FV ["line","at"] []
 VU:mg "low_end"=some (.ref t.nE)
 rq:jT K "high_end" "high_end" mY t.kA t.AL
 AV:Binds K t.AL ["line","first","kinds"] []
 Te:mg "high_end"=some (.ref t.kA)
 rA:jT K "window" "window" uN t.rg t.K8
 x8:Binds K t.K8 ["line","at","behind","changed"] []
 Ga:mg "window"=some (.ref t.rg)
 vR:jT K "put" "Book.put" gC t.dZ t.AM
 AW:Binds K t.AM ["self","name","at","sign"] []
 Tf:Meth K t.aY "put" t.dZ
 vS:jT K "cut" "Book.cut" jn t.gE t.AN
 AX:Binds K t.AN ["self","name","at"] []
 Tg:Meth K t.aY "cut" t.gE
 sN:jT K "swap" "Book.swap" fW t.dB t.xQ
 x9:Binds K t.xQ ["self","name","at","sign"] []
 Ph:Meth K t.aY "swap" t.dB
 sO:jT K "drop" "Book.drop" hV t.eI t.xR
 ya:Binds K t.xR ["self","name"] []
 Pj:Meth K t.aY "drop" t.eI
 sP:jT K "undo" "Deed.undo" kS t.hX t.xS
 yb:Binds K t.xS ["self"] []
 Pk:Meth K t.bq "undo" t.hX
 sQ:jT K "undo" "Book.undo" jo t.fY t.xV
 yc:Binds K t.xV ["self"] []
 Pl:Meth K t.aY "undo" t.fY
 sR:jT K "redo" "Book.redo" jq t.fZ t.xW
 yd:Binds K t.xW ["self"] []
 Pm:Meth K t.aY "redo" t.fZ
 Lg:jT K "_law_do" "_law_do" kq t.jW t.VN
 VW:Binds K t.VN ["_law_book","_law_deed","_law_at"] []
 ad2:mg "_law_do"=some (.ref t.jW)
 uY:jT K "_law_tried" "_law_tried" mZ t.kX t.FW
 Gb:Binds K t.FW ["_law_book","_law_deed","_law_at"] []
 VX:mg "_law_tried"=some (.ref t.kX)
 YB:jT K "law" "law" uO t.K9 t.aca
 afi:Binds K t.aca ["_law_script"] []
 akE:mg "law"=some (.ref t.K9)
 ago:mg "all"=none
 acd:mg "any"=none
 YC:mg "bool"=none
 ad3:mg "dict"=none
 DH:mg "enumerate"=none
 Gd:mg "int"=none
 bu:mg "isinstance"=none
 bY:mg "len"=none
 ir:mg "list"=none
 agp:mg "max"=none
 agq:mg "min"=none
 ye:mg "range"=none
 agr:mg "str"=none
 Lh:mg "tuple"=none
 ace:mg "zip"=none
 Ag:mg "GREAT_KINDS"=some (.ref t.eJ)
 Ah:∀ H,tV K H t.eJ [.str "G",.str "D",.str "R"]
 Nj:mg "SMALL_KINDS"=some (.ref t.gF)
 Nk:∀ H,tV K H t.gF [.str "s",.str "d",.str "r"]
 JA:mg "PARTING_KINDS"=some (.ref t.d3)
 JB:∀ H,tV K H t.d3 [.str ".",.str "3",.str "2"]
 w5:mg "MEASURE_KINDS"=some (.ref t.cV)
 w6:∀ H,tV K H t.cV [.str "3",.str "2"]
 Ge:mg "SOUNDING_KINDS"=some (.ref t.dn)
 Gf:∀ H,tV K H t.dn [.str "G",.str "D",.str "s",.str "d"]
 Li:mg "SILENT_KINDS"=some (.ref t.eX)
 Lj:∀ H,tV K H t.eX [.str "R",.str "r",.str ".",.str "3",.str "2"]
 Lk:mg "HIGHEST_TONE"=some (.int 99 t.lz)
 Ll:mg "TURNED_KINDS"=some (.ref t.dC)
 JC:KD K w t.dC [("3",.str "2"),("2",.str "3")]
 Lm:mg "PLAIN_WORTHS"=some (.ref t.dD)
 JD:KD K w t.dD [("G",.int 3),("D",.int 2),("R",.int 3),("s",.int 1),("d",.int 1),("r",.int 1),(".",.int 0),("3",.int 0),("2",.int 0)]
 uZ:mg "TWOFOLD_WORTHS"=some (.ref t.cg)
 sS:KD K w t.cg [("G",.int 2),("R",.int 2)]
 Pn:mg "FULL_WORTH"=some (.int 3 t.qm)
 je:mg "SHORTENED_WORTH"=some (.int 2 t.ja)
 JE:mg "DOUBLED_WORTH"=some (.int 2 t.kc)
 Ln:mg "DOTTED_WORTH"=some (.int 3 t.lB)
 Zv:mg "LETTERS"=some (.str "abcdefghijklmnopqrstuvwxyz" t.zD)
 Lo:mg "LONGEST_NAME"=some (.int 8 t.lC)
 Nl:mg "MOST_VOICES"=some (.int 12 t.oC)
 Po:mg "MOST_SIGNS"=some (.int 200 t.qo)
 acf:mg "LATEST"=some (.int 999 t.Dy)
 Zw:mg "SLOWEST"=some (.int 9 t.zE)
 Ti:mg "Voice"=some (.ref t.dr)
 Tj:Mk K t.dr t.cG
 gh:UT K t.dr
 gG:jU K t.dr "name"
 cP:jU K t.dr "terms"
 cC:jU K t.dr "signs"
 DI:mg "Deed"=some (.ref t.bq)
 DJ:Mk K t.bq t.cU
 gi:UT K t.bq
 eZ:jU K t.bq "things"
 iu:jU K t.bq "at"
 e8:jU K t.bq "before"
 gH:jU K t.bq "after"
 ad4:mg "Book"=some (.ref t.aY)
 ad5:Mk K t.aY t.cT
 aJ:UT K t.aY
 bL:jU K t.aY "voices"
 eE:jU K t.aY "done"
 cQ:jU K t.aY "undone"
 Lp:mg "BadName"=some (.ref t.aT)
 DK:mg "NameTaken"=some (.ref t.aK)
 Pp:mg "Full"=some (.ref t.cq)
 Lq:mg "NoVoice"=some (.ref t.aU)
 Jf:mg "NotPlain"=some (.ref t.aP)
 Lr:mg "BadTerm"=some (.ref t.aV)
 Ls:mg "NoPlace"=some (.ref t.aW)
 Lu:mg "BadSign"=some (.ref t.aX)
 Ol:mg "Leaned"=some (.ref t.bj)
 Gg:mg "NoMore"=some (.ref t.bo)
 VY:ExA K t.aT
 Pq:ExA K t.aK
 YD:ExA K t.cq
 VZ:ExA K t.aU
 Tn:ExA K t.aP
 V0:ExA K t.aV
 V1:ExA K t.aW
 V2:ExA K t.aX
 Zx:ExA K t.bj
 Om:ExA K t.bo
 e9:exmOne K (.ref t.aT) (.ref t.aT)=some true
 dF:exmOne K (.ref t.aK) (.ref t.aT)=some false
 cR:exmOne K (.ref t.aK) (.ref t.aK)=some true
 iF:exmOne K (.ref t.cq) (.ref t.aT)=some false
 gj:exmOne K (.ref t.cq) (.ref t.aK)=some false
 lN:exmOne K (.ref t.cq) (.ref t.cq)=some true
 fb:exmOne K (.ref t.aU) (.ref t.aT)=some false
 dG:exmOne K (.ref t.aU) (.ref t.aK)=some false
 iG:exmOne K (.ref t.aU) (.ref t.cq)=some false
 fc:exmOne K (.ref t.aU) (.ref t.aU)=some true
 d9:exmOne K (.ref t.aP) (.ref t.aT)=some false
 c6:exmOne K (.ref t.aP) (.ref t.aK)=some false
 g5:exmOne K (.ref t.aP) (.ref t.cq)=some false
 ee:exmOne K (.ref t.aP) (.ref t.aU)=some false
 dH:exmOne K (.ref t.aP) (.ref t.aP)=some true
 ff:exmOne K (.ref t.aV) (.ref t.aT)=some false
 dJ:exmOne K (.ref t.aV) (.ref t.aK)=some false
 iH:exmOne K (.ref t.aV) (.ref t.cq)=some false
 fg:exmOne K (.ref t.aV) (.ref t.aU)=some false
 eh:exmOne K (.ref t.aV) (.ref t.aP)=some false
 fh:exmOne K (.ref t.aV) (.ref t.aW)=some false
 fi:exmOne K (.ref t.aV) (.ref t.aX)=some false
 fk:exmOne K (.ref t.aV) (.ref t.aV)=some true
 fm:exmOne K (.ref t.aW) (.ref t.aT)=some false
 dM:exmOne K (.ref t.aW) (.ref t.aK)=some false
 iI:exmOne K (.ref t.aW) (.ref t.cq)=some false
 fo:exmOne K (.ref t.aW) (.ref t.aU)=some false
 en:exmOne K (.ref t.aW) (.ref t.aP)=some false
 fq:exmOne K (.ref t.aW) (.ref t.aW)=some true
 fu:exmOne K (.ref t.aX) (.ref t.aT)=some false
 dN:exmOne K (.ref t.aX) (.ref t.aK)=some false
 iJ:exmOne K (.ref t.aX) (.ref t.cq)=some false
 fA:exmOne K (.ref t.aX) (.ref t.aU)=some false
 et:exmOne K (.ref t.aX) (.ref t.aP)=some false
 fB:exmOne K (.ref t.aX) (.ref t.aW)=some false
 fD:exmOne K (.ref t.aX) (.ref t.aX)=some true
 gk:exmOne K (.ref t.bj) (.ref t.aT)=some false
 eA:exmOne K (.ref t.bj) (.ref t.aK)=some false
 jx:exmOne K (.ref t.bj) (.ref t.cq)=some false
 gm:exmOne K (.ref t.bj) (.ref t.aU)=some false
 fE:exmOne K (.ref t.bj) (.ref t.aP)=some false
 gn:exmOne K (.ref t.bj) (.ref t.aW)=some false
 gp:exmOne K (.ref t.bj) (.ref t.aX)=some false
 gq:exmOne K (.ref t.bj) (.ref t.aV)=some false
 g6:exmOne K (.ref t.bj) (.ref t.bj)=some true
 gs:exmOne K (.ref t.bo) (.ref t.aT)=some false
 eB:exmOne K (.ref t.bo) (.ref t.aK)=some false
 jy:exmOne K (.ref t.bo) (.ref t.cq)=some false
 gu:exmOne K (.ref t.bo) (.ref t.aU)=some false
 fF:exmOne K (.ref t.bo) (.ref t.aP)=some false
 gw:exmOne K (.ref t.bo) (.ref t.aW)=some false
 gx:exmOne K (.ref t.bo) (.ref t.aX)=some false
 gy:exmOne K (.ref t.bo) (.ref t.aV)=some false
 g7:exmOne K (.ref t.bo) (.ref t.bj)=some false
 g8:exmOne K (.ref t.bo) (.ref t.bo)=some true
def cs (t:Adr):Cs:=⟨t.aY,t.dr,t.bq,true,fun r=>match r with
 |.sx=>t.aX
 |.Kf=>t.aT
 |.zx=>t.aK
 |.Full=>t.cq
 |.dQ=>t.aU
 |.gR=>t.aP
 |.qi=>t.aW
 |.sy=>t.aV
 |.AA=>t.bj
 |.mU=>t.bo⟩
inductive DM (C:Addr)(vs:List V)(H:Hp)(Q:VK)(E:XK):Prop
 |mk (x dx:Addr) (fI:vs=[.ref x]) (fJ:H x=some (.ins C dx [])) (hI:∀(L D U:Addr)(H':Hp),(∀ y o,H y=some o->y≠x->H' y=some o)->H L=none->H D=none->H U=none->L≠D->L≠U->D≠U->H' x=some (.ins C dx (Az L D U))->H' L=some (.lst [])->H' D=some (.lst [])->H' U=some (.lst [])->Q .non H'):DM C vs H Q E
variable {P:Program} {w:World} {K:Frag} {mg:Str->Option Value} {base:Heap} {t:Adr}
theorem Gh (T:Txt K w mg t):bE P w K mg base mJ (0+1) t.cT t.ph ["self"] (DM t.aY):=by
 refine T.kd.ok FH (fun vs H Q E h=>?_) (fun cdv A outer s H vs Q E hr h=>?_)
 ·obtain⟨_,_,rfl,_⟩:=h;rfl
 ·obtain⟨x,dx,rfl,hx,q⟩:=h;refine aQ (ag (tX (pv 0) (bx ae) rfl) (ag (tX (pv 0) (bx ae) rfl) (aj (tX (pv 0) (bx ae) rfl)))) ?_;refine⟨big (by show 0<=1000;omega),fun L hL=>?_⟩;have xL:x≠L:=ao hx hL;refine⟨_,rfl,x,_,dx,_,rfl,by rw[ak xL];exact hx,T.aJ,T.bL,by show 0<1000;decide,?_⟩;refine⟨big (by show 0<=1000;omega),fun D hD=>?_⟩;have xD:x≠D:=ao af hD;have DL:L≠D:=ao (show upd (upd H L (.lst [])) x _ L=some (.lst []) by rw[ak (Ne.symm xL)];exact af) hD;have hD0:H D=none:=by rw[ak (Ne.symm xD),ak (Ne.symm DL)]at hD;exact hD
  refine⟨_,rfl,x,_,dx,_,rfl,by rw[ak xD];exact af,T.aJ,T.eE,by rw[O5];show 1<1000;decide,?_⟩;refine⟨big (by show 0<=1000;omega),fun U hU=>?_⟩;have xU:x≠U:=ao af hU;have DU:D≠U:=by
   rintro rfl;rw[ak (Ne.symm xU),af]at hU;cases hU
  have LU:L≠U:=by
   rintro rfl;rw[ak (Ne.symm xU),ak DL,ak (Ne.symm xU),af]at hU;cases hU
  have RY:H U=none:=by rw[ak (Ne.symm xU),ak (Ne.symm DU),ak (Ne.symm xU),ak (Ne.symm LU)]at hU;exact hU
  refine⟨_,rfl,x,_,dx,_,rfl,by rw[ak xU];exact af,T.aJ,T.cQ,by rw[O5,Yy];show 2<1000;decide,?_⟩;rw[O5,Yy,adU];refine q L D U _ (fun y o hy ny=>?_) hL hD0 RY DL LU DU af ?_ ?_ ?_
  ·rw[ak ny,ak (ao hy RY),ak ny,ak (ao hy hD0),ak ny,ak (ao hy hL)];exact hy
  ·rw[ak (Ne.symm xL),ak LU,ak (Ne.symm xL),ak DL,ak (Ne.symm xL)];exact af
  ·rw[ak (Ne.symm xD),ak DU,ak (Ne.symm xD)];exact af
  ·rw[ak (Ne.symm xU)];exact af
inductive Lv (vs:List V)(H:Hp)(Q:VK)(E:XK):Prop
 |mk (x:Str) (fI:vs=[.str x]) (fJ:x.length<=1000) (hI:∀ H',aq H H'->Q (.bl (nameB x)) H'):Lv vs H Q E
theorem V3 (T:Txt K w mg t):bE P w K mg base mJ (0+1) t.m7 t.FL ["name"] Lv:=by
 refine T.uQ.ok Vv (fun vs H Q E h=>?_) (fun cdv A outer s H vs Q E hr h=>?_)
 ·obtain⟨_,rfl,_⟩:=h;rfl
 ·obtain⟨x,rfl,hx,q⟩:=h;refine aQ (aj (av (cI (iP (R8 uw uw ai (aI (aG.or aH) rfl T.bY bV (aa (pv 0) ae)) (cv (v:=.int 8) rfl T.Lo ⟨_,rfl⟩)) (k7 (aI abC rfl T.ago afX (aa (vy (cn:=["letter"]) rfl (h8.of rfl) (abc (pv 0)) (fun _=>(aZ (i:=0) Pa rfl (Or.inl rfl))) (fun _=>Aq) (fun _=>(bK (dc.or c9) (pv 0) (cv (v:=.str "abcdefghijklmnopqrstuvwxyz") rfl T.Zv ⟨_,rfl⟩) rfl))) ae))))))) ?_;have xb:x.length<=sizeLine:=Nat.le_trans hx (by decide);refine⟨fun v H'=>v=.bl (nameB x)/\aq H H',?_,fun _ _ ⟨e1,e2⟩=>by rw[e1];exact q _ e2⟩;unfold nameB;refine⟨_,rfl,.inr ⟨_,rfl,xb,_,_,rfl,rfl,_,rfl,?_⟩⟩;refine a8 (fun h1=>?_) (fun h1=>?_)
  rotate_left
  ·have e1:decide (1<=x.length)=false:=decide_eq_false fun z=>h1 (decide_eq_true (by omega));rw[e1];exact⟨_,rfl,bJ ⟨rfl,aq.refl _⟩⟩
  have e1:decide (1<=x.length)=true:=decide_eq_true (by have:=of_decide_eq_true h1;omega);rw[e1,Bool.true_and];refine⟨_,_,rfl,rfl,_,rfl,?_⟩;refine a8 (fun h2=>?_) (fun h2=>?_)
  rotate_left
  ·have e2:decide (x.length<=8)=false:=decide_eq_false fun z=>h2 (decide_eq_true (by omega));rw[e2];exact⟨rfl,aq.refl _⟩
  have n2:x.length<=8:=by have:=of_decide_eq_true h2;omega
  have e2:decide (x.length<=8)=true:=decide_eq_true n2;rw[e2,Bool.true_and];refine⟨_,rfl,_,rfl,fun D b hD=>?_⟩;refine abo (fun i ys σ H'=>∃ v,σ=[v,some (.str x)]/\H'=upd H D (.lst ys)/\ys=((x.cps.toList.take i).map fun c=>N6 ⟨#[c]⟩ "abcdefghijklmnopqrstuvwxyz").map V.bl/\i<=x.cps.size) ⟨none,rfl,rfl,rfl,Nat.zero_le _⟩ ?_ ?_
  ·rintro i ys c σ H' hc ⟨v,rfl,rfl,rfl,hi⟩ N hN;have hi2:i<x.cps.size:=(Array.getElem?_eq_some_iff.mp hc).1;have hcm:x.cps.toList[i]? = some c:=by simpa using hc
   have sz:x.cps.size<=8:=n2;refine mP ?_;refine⟨_,rfl,.inr ⟨_,_,rfl,rfl,af,?_,?_⟩⟩
   ·rw[length_map,length_map,length_take];exact a6 (by omega)
   ·refine hN _ _ _ ⟨_,rfl,dP,?_,hi2⟩;rw[take_succ,hcm,map_append,map_append];rfl
  ·rintro ys σ H' ⟨v,rfl,rfl,rfl,hi⟩;refine⟨rfl,D,_,rfl,a7.of af,?_,aq.upd hD⟩;rw[show x.cps.size=x.cps.toList.length from rfl,take_length];refine congrArg V.bl ?_;rw[List.all_map];rfl
inductive Ai (c:Cs)(vs:List V)(H:Hp)(Q:VK)(E:XK):Prop
 |mk (x:Addr) (F:Addr->Prop) (vw:Vw) (ps fs:List Vw) (fI:vs=[.ref x]) (fJ:xE c H x F vw ps fs) (hI:∀(l:Addr)(H':Hp),H l=none->aq H H'->H' l=some (.lst (vw.map fun a=>V.str a.1))->Q (.ref l) H'):Ai c vs H Q E
theorem ub (T:Txt K w mg t):bE P w K mg base mJ (0+1) t.fX t.vH ["self"] (Ai (cs t)):=by
 refine T.qp.ok Ng (fun vs H Q E h=>?_) (fun cdv A outer s H vs Q E hr h=>?_)
 ·obtain⟨_,_,_,_,_,rfl,_⟩:=h;rfl
 ·obtain⟨x,F,vw,ps,fs,rfl,B,q⟩:=h;refine aQ (aj (av (vy (cn:=["voice"]) rfl (h8.of rfl) (jA (bT (pv 0) rfl)) (fun _=>(aZ (i:=0) Jz rfl (Or.inl rfl))) (fun _=>Aq) (fun _=>(bT (pv 0) rfl))))) ?_;obtain⟨L,D,U,all,M,Ps,Fs,es,us,b,i,pp,pf,f⟩:=B.ex;obtain⟨dx,hx⟩:=b.hx;obtain⟨vx,g,gv⟩:=b.vB i;have hL:=b.hL;have xl:=cj g;have vl:=cj gv;have ln:=(b.wf M (.inr (.inl rfl))).len;have hn:=agk gv fun _ _ r=>r.2.1;refine⟨_,rfl,x,_,dx,_,_,rfl,hx,T.aJ,T.bL,ko _ _ _,L,rfl,⟨_,a7.of hL⟩,fun D' b' hD'=>?_⟩;refine mO (K:=K) (xs:=M L) (fun i ys σ H'=>∃ v,σ=[v,some (.ref x)]/\H'=upd H D' (.lst ys)/\ys=(vx.take i).map fun a=>V.str a.n) ⟨none,rfl,rfl,by simp⟩ ?_ ?_ ?_
  ·rintro i ys σ H' ⟨v,rfl,rfl,_⟩;exact jC (a7.of hL) hD'
  ·rintro i ys y σ H' hy ⟨v,rfl,rfl,rfl⟩ N hN;obtain⟨a,e1,rfl,ha⟩:=zO g hy;have hi:i<vx.length:=(List.getElem?_eq_some_iff.mp e1).1;refine mP ?_;refine⟨_,rfl,a.o,_,a.d,_,_,rfl,by rw[ak (ao ha hD')];exact ha,T.gh,T.gG,SA _ _ _,af,?_,?_⟩
   ·rw[length_map,length_take];exact a6 (by omega)
   ·refine hN _ _ _ ⟨_,rfl,dP,?_⟩;rw[take_succ,e1];simp
  ·rintro ys σ H' ⟨v,rfl,rfl,rfl⟩;rw[xl,take_length,hn];exact q D' _ hD' (aq.upd hD') af
theorem acg {x:Str}{l:List V}(h:inV (.str x) l=true):V.str x∈l:=by
 unfold inV at h;obtain⟨y,hy,e⟩:=any_eq_true.mp h;cases y with
 |str z =>
  have:z=x:=by simpa [Yj] using e
  rw[<-this];exact hy
 |_=>simp[Yj]at e
theorem V4 {x:Str}{l:List V}(h:V.str x∈l):inV (.str x) l=true:=by
 unfold inV;exact any_eq_true.mpr ⟨_,h,by simp[Yj]⟩
theorem sU {vw:Vw}{n:Str}(h:b9 vw n=none):nameB n=true/\aR vw n=none/\vw.length<12:=by
 unfold b9 at h;split at h
 ·cases h
 ·next h1 =>
  split at h
  ·cases h
  ·next h2 =>
   split at h
   ·cases h
   ·next h3=>exact⟨by simpa using h1,by cases e:aR vw n with|none=>rfl|some _=>rw[e]at h2;exact absurd rfl h2,by omega⟩
inductive rB (c:Cs)(vs:List V)(H:Hp)(Q:VK)(E:XK):Prop
 |mk (x:Addr) (F:Addr->Prop) (vw:Vw) (ps fs:List Vw) (n:Str) (fI:vs=[.ref x,.str n]) (fJ:xE c H x F vw ps fs) (hI:n.length<=1000) (kK:match b9 vw n with
 |some r=>∀ H',aq H H'->RX E c r H'
 |none=>∀ H',aq H H'->Q .non H'):rB c vs H Q E
theorem rC (T:Txt K w mg t):bE P w K mg base (iA P w) (0+2) t.bC t.lp ["self","name"] (rB (cs t)):=by
 have Zy:=V3 (P:=P) (base:=base) T;have jM:=ub (P:=P) (base:=base) T;refine T.jb.OV AB (fun vs H Q E h=>?_) (fun cdv A outer s H vs Q E hr h=>?_)
 ·obtain⟨_,_,_,_,_,_,rfl,_⟩:=h;rfl
 ·obtain⟨x,F,vw,ps,fs,n,rfl,B,hlen,q⟩:=h;refine aQ (ag (aM (cX (bg (aF Zy (hr.mono (by decide)) rfl T.VO T.uQ.kp T.FX .nil aO (aa (pv 1) ae)))) (aj (iB (X:=(cJ (iA P w) P w K mg base ["self","name"] "Book.refuse_new" (ah bR) t.bC cdv A outer s H E)) (fun _ _ z=>z) rfl T.VY.exc rfl T.Lp (aa ax ae))) az) (ag (aM (ar (dc.or c9) (pv 1) (qJ (pv 0) T.aJ T.oE jM (hr.mono (by decide)) T.jG .nil aO) rfl) (aj (iB (X:=(cJ (iA P w) P w K mg base ["self","name"] "Book.refuse_new" (ah bR) t.bC cdv A outer s H E)) (fun _ _ z=>z) rfl T.Pq.exc rfl T.DK (aa ax ae))) az) (aj (aM (ar aaO (aI (aG.or aH) rfl T.bY bV (aa (bT (pv 0) rfl) ae)) (cv (v:=.int 12) rfl T.Nl ⟨_,rfl⟩) (aw _)) (aj (iB (X:=(cJ (iA P w) P w K mg base ["self","name"] "Book.refuse_new" (ah bR) t.bC cdv A outer s H E)) (fun _ _ z=>z) rfl T.YD.exc rfl T.Pp (aa ax ae))) az)))) ?_;refine⟨_,rfl,n,rfl,hlen,fun H1 s1=>?_⟩;unfold b9 at q;refine⟨_,rfl,?_⟩;cases hnb:nameB n with
  |false =>
   rw[if_pos hnb]at q;have q:=q H1 s1;exact cY ⟨by show 1<=sizeLine;decide,q.2⟩
  |true =>
   rw[if_neg (by rw[hnb];decide)]at q;refine bJ ?_;have B1:=B.same s1;obtain⟨L,D,U,all,M,Ps,Fs,es,us,b,i,pp,pf,f⟩:=B1.ex;obtain⟨dx,hx⟩:=b.hx;refine⟨_,rfl,_,rfl,x,dx,_,rfl,hx,qg _ _ _,?_⟩;refine⟨x,F,vw,ps,fs,rfl,B1,fun l H2 hl s2 hl2=>?_⟩;refine .inl ⟨l,_,rfl,.inl (a7.of hl2),rfl,?_,_,rfl,?_⟩
   ·rw[List.all_map];exact all_eq_true.mpr fun _ _=>rfl
   have mem:inV (.str n) (vw.map fun a=>V.str a.1)=true ↔ (aR vw n).isSome=true:=by
    constructor
    ·intro h;obtain⟨a,ha,e⟩:=mem_map.mp (acg h);cases e2:aR vw n with
     |some _=>rfl
     |none=>exact absurd (V.str.inj e) (qO e2 a ha)
    ·intro h;cases e2:aR vw n with
     |none=>rw[e2]at h;cases h
     |some th=>exact V4 (mem_map.mpr ⟨_,dg e2,rfl⟩)
   refine a8 (fun h=>?_) (fun h=>?_)
   ·rw[if_pos (mem.mp h)]at q;have q:=q H2 (s1.trans s2);exact⟨by show 1<=sizeLine;decide,q.2⟩
   rw[if_neg (fun z=>h (mem.mpr z))]at q;refine⟨_,rfl,x,_,dx,_,_,rfl,s2 _ _ hx,T.aJ,T.bL,ko _ _ _,?_⟩;refine .inl ⟨L,M L,rfl,.inl (a7.of (s2 _ _ b.hL)),?_⟩;refine⟨_,_,rfl,rfl,_,rfl,?_⟩;have ll:=cj i;refine a8 (fun h=>?_) (fun h=>?_)
   ·have h':=of_decide_eq_true h;rw[if_pos (by omega)]at q;have q:=q H2 (s1.trans s2);exact⟨by show 1<=sizeLine;decide,q.2⟩
   ·rw[if_neg (fun z=>h (decide_eq_true (by omega)))]at q;exact q _ (s1.trans s2)
inductive Lw (C:Addr)(vs:List V)(H:Hp)(Q:VK)(E:XK):Prop
 |mk (x dx T_ B A:Addr) (i:Nat) (xs bs as:List V) (fI:vs=[.ref x]) (fJ:H x=some (.ins C dx (IW T_ (i:Int) B A))) (hI:H T_=some (.lst xs)) (kK:H B=some (.lst bs)) (sd:H A=some (.lst as)) (OM:T_≠A) (h6_:i+bs.length<=xs.length) (h7_:xs.length+as.length<=1000) (h8_:Q .non (upd H T_ (.lst (xs.take i++as++xs.drop (i+bs.length))))):Lw C vs H Q E
theorem Lx (T:Txt K w mg t):bE P w K mg base mJ (0+1) t.kW t.FN ["self"] (Lw t.bq):=by
 refine T.zF.ok Vy (fun vs H Q E h=>?_) (fun cdv A outer s H vs Q E hr h=>?_)
 ·obtain⟨_,_,_,_,_,_,_,_,_,rfl,_⟩:=h;rfl
 ·obtain⟨x,dx,T_,B,A_,i,xs,bs,as,rfl,hx,hT,hB,hA,hne,hi,hz,q⟩:=h;refine aQ (aj (kg (bT (pv 0) rfl) (So (bT (pv 0) rfl) (oz (bT (pv 0) rfl)) (oz (bh (du.or (ba.or dw)) (bT (pv 0) rfl) (aI (aG.or aH) rfl T.bY bV (aa (bT (pv 0) rfl) ae))))))) ?_;refine⟨_,rfl,x,_,dx,_,_,rfl,hx,T.gi,T.gH,N7 _ _ _ _,?_⟩;refine⟨_,rfl,x,_,dx,_,_,rfl,hx,T.gi,T.eZ,KG _ _ _ _,?_⟩;refine⟨_,rfl,x,_,dx,_,_,rfl,hx,T.gi,T.iu,O3 _ _ _ _,_,rfl,?_⟩;refine⟨_,rfl,x,_,dx,_,_,rfl,hx,T.gi,T.iu,O3 _ _ _ _,?_⟩;refine⟨_,rfl,x,_,dx,_,_,rfl,hx,T.gi,T.e8,KH _ _ _ _,?_⟩;refine .inl ⟨B,bs,rfl,.inl (a7.of hB),.inl ⟨_,_,rfl,rfl,_,rfl,?_⟩⟩;refine⟨T_,A_,xs,as,(i:Int),((i+bs.length:Nat):Int),rfl,rfl,rfl,by simp,hT,hA,hne,by omega,by omega,by omega,Nat.le_trans hz (by decide),?_⟩;rw[Int.toNat_natCast,Int.toNat_natCast];exact q
inductive xa (CB CD:Addr)(vs:List V)(H:Hp)(Q:VK)(E:XK):Prop
 |mk (x dx L D U d dd T_ B A:Addr) (i:Nat) (ds us xs bs as:List V) (fI:vs=[.ref x,.ref d]) (fJ:H x=some (.ins CB dx (Az L D U))) (hI:H D=some (.lst ds)) (kK:H U=some (.lst us)) (sd:H d=some (.ins CD dd (IW T_ (i:Int) B A))) (OM:H T_=some (.lst xs)) (h6_:H B=some (.lst bs)) (h7_:H A=some (.lst as)) (h8_:T_≠A) (h9_:T_≠D) (akG:T_≠U) (am1:D≠U) (am2:i+bs.length<=xs.length) (am3:xs.length+as.length<=1000) (am4:ds.length<=900) (am5:Q .non (upd (upd (upd H T_ (.lst (xs.take i++as++xs.drop (i+bs.length)))) D (.lst (ds++[.ref d]))) U (.lst []))):xa CB CD vs H Q E
theorem iK (T:Txt K w mg t):bE P w K mg base mJ (0+2) t.dz t.qX ["self","deed"] (xa t.aY t.bq):=by
 have Gi:=Lx (P:=P) (base:=base) T;refine T.lD.ok Jx (fun vs H Q E h=>?_) (fun cdv A outer s H vs Q E hr h=>?_)
 ·obtain⟨_,_,_,_,_,_,_,_,_,_,_,_,_,_,_,_,rfl,_⟩:=h;rfl
 ·obtain⟨x,dx,L,D,U,d,dd,T_,B,A_,i,ds,us,xs,bs,as,rfl,hx,hD,hU,hd,hT,hB,hA,n1,n2,n3,n4,hi,hz,hds,q⟩:=h;refine aQ (ag (a9 (qJ (pv 1) T.gi T.La Gi (hr.mono (by decide)) T.zG .nil aO)) (ag (a9 (j1 plainAttrs_list slot_list_append type_list_append bM (bT (pv 0) rfl) (aa (pv 1) ae))) (aj (a9 (OS plainAttrs_list PySem.F.slot_list_clear PySem.F.type_list_clear aa5 (bT (pv 0) rfl)))))) ?_;have xT:x≠T_:=jS hx hT (by intro z;cases z);have xD:x≠D:=jS hx hD (by intro z;cases z);refine⟨_,rfl,d,dd,_,rfl,hd,N8 _ _ _ _,?_⟩;refine⟨d,dd,T_,B,A_,i,xs,bs,as,rfl,hd,hT,hB,hA,n1,hi,hz,?_⟩;refine⟨_,rfl,x,_,dx,_,_,rfl,by rw[ak xT];exact hx,T.aJ,T.eE,Dh _ _ _,?_⟩;refine⟨.inl ⟨rfl,_,a7.of (show upd H T_ _ D=some (.lst ds) by rw[ak (Ne.symm n2)];exact hD)⟩,_,rfl,D,_,_,rfl,rfl,by rw[ak (Ne.symm n2)];exact hD,a6 (by omega),?_⟩;refine⟨_,rfl,x,_,dx,_,_,rfl,by rw[ak xD,ak xT];exact hx,T.aJ,T.cQ,vA _ _ _,?_⟩;have hU2:upd (upd H T_ (.lst (xs.take i++as++xs.drop (i+bs.length)))) D (.lst (ds++[.ref d])) U=some (.lst us):=by rw[ak (Ne.symm n4),ak (Ne.symm n3)];exact hU
  exact⟨.inl ⟨rfl,_,a7.of hU2⟩,U,_,rfl,rfl,hU2,q⟩
inductive DN (C:Addr)(vs:List V)(H:Hp)(Q:VK)(E:XK):Prop
 |mk (x dx:Addr) (T_:Addr) (i:Int) (B A:Addr) (fI:vs=[.ref x,.ref T_,.int i,.ref B,.ref A]) (fJ:H x=some (.ins C dx [])) (hI:Q .non (upd H x (.ins C dx (IW T_ i B A)))):DN C vs H Q E
theorem g9 (T:Txt K w mg t):bE P w K mg base mJ (0+1) t.cU t.pj ["self","things","at","before","after"] (DN t.bq):=by
 refine T.ke.ok FI (fun vs H Q E h=>?_) (fun cdv A outer s H vs Q E hr h=>?_)
 ·obtain⟨_,_,_,_,_,_,rfl,_⟩:=h;rfl
 ·obtain⟨x,dx,T_,i,B,A_,rfl,hx,q⟩:=h;refine aQ (ag (tX (pv 0) (pv 1) rfl) (ag (tX (pv 0) (pv 2) rfl) (ag (tX (pv 0) (pv 3) rfl) (aj (tX (pv 0) (pv 4) rfl))))) ?_;refine⟨_,rfl,_,rfl,x,_,dx,_,rfl,hx,T.gi,T.eZ,by show 0<1000;decide,?_⟩;refine⟨_,rfl,_,rfl,x,_,dx,_,rfl,af,T.gi,T.iu,by rw[Ke];show 1<1000;decide,?_⟩;refine⟨_,rfl,_,rfl,x,_,dx,_,rfl,af,T.gi,T.e8,by rw[Ke,O4];show 2<1000;decide,?_⟩;refine⟨_,rfl,_,rfl,x,_,dx,_,rfl,af,T.gi,T.gH,by rw[Ke,O4,Yx];show 3<1000;decide,?_⟩;rw[Ke,O4,Yx,adT];simp only [dP];exact q
inductive yf (c:Cs)(vs:List V)(H:Hp)(Q:VK)(E:XK):Prop
 |mk (x dx L D U v:Addr) (xs ds us:List V) (fI:vs=[.ref x,.ref v]) (fJ:H x=some (.ins c.B dx (Az L D U))) (hI:H L=some (.lst xs)) (kK:H D=some (.lst ds)) (sd:H U=some (.lst us)) (OM:L≠D) (h6_:L≠U) (h7_:D≠U) (h8_:xs.length<=12) (h9_:ds.length<=900) (akG:∀(e:Dd)(H1 H':Hp),e.T=L->e.i=xs.length->e.bs=[]->e.as=[.ref v]->aq H H1->H e.B=none->H e.A=none->mK c.D H1 (.ref e.o) e->(∀ y o,H1 y=some o->y≠L->y≠D->y≠U->H' y=some o)->H' L=some (.lst (xs++[.ref v]))->H' D=some (.lst (ds++[.ref e.o]))->H' U=some (.lst [])->Q .non H'):yf c vs H Q E
theorem yg (T:Txt K w mg t):bE P w K mg base mJ (0+3) t.eG t.t6 ["self","voice"] (yf (cs t)):=by
 have cS:=iK (P:=P) (base:=base) T;have cE:=g9 (P:=P) (base:=base) T;refine T.oF.ok KW (fun vs H Q E h=>?_) (fun cdv A outer s H vs Q E hr h=>?_)
 ·obtain⟨_,_,_,_,_,_,_,_,_,rfl,_⟩:=h;rfl
 ·obtain⟨x,dx,L,D,U,v,xs,ds,us,rfl,hx,hL,hD,hU,n1,n2,n3,hxs,hds,q⟩:=h;refine aQ (aj (a9 (hZ (pv 0) T.aJ T.iD cS (hr.mono (by decide)) T.eY .nil aO (aa (vo T.DJ cE (hr.mono (by decide)) rfl T.DI T.d4 .nil aO (aa (bT (pv 0) rfl) (aa (aI (aG.or aH) rfl T.bY bV (aa (bT (pv 0) rfl) ae)) (aa (bx ae) (aa (bx (aa (pv 1) ae)) ae))))) ae)))) ?_;refine⟨_,rfl,x,dx,_,rfl,hx,jm _ _ _,?_⟩;refine⟨_,rfl,x,_,dx,_,_,rfl,hx,T.aJ,T.bL,ko _ _ _,?_⟩;refine⟨_,rfl,x,_,dx,_,_,rfl,hx,T.aJ,T.bL,ko _ _ _,?_⟩;refine .inl ⟨L,xs,rfl,.inl (a7.of hL),?_⟩;refine⟨big (by show 0<=1000;omega),fun B hB=>?_⟩;refine⟨_,rfl,big (by show 1<=1000;omega),fun A_ hA=>?_⟩;have V5:=Dk hA;have LA:L≠A_:=ao (aq.upd (o:=.lst []) hB _ _ hL) hA;have sB:=(aq.upd (o:=.lst []) hB).trans (aq.upd (o:=.lst [V.ref v]) hA);have hB2:=aq.upd (o:=.lst [V.ref v]) hA _ _ (af (H:=H) (a:=B) (o:=.lst []));have Pr:=af (H:=upd H B (.lst [])) (a:=A_) (o:=.lst [V.ref v]);generalize upd (upd H B (.lst [])) A_ (.lst [V.ref v])=H2 at sB hB2 Pr;intro d dd nd ndd ne;refine⟨d,dd,L,(xs.length:Int),B,A_,rfl,af,rfl,?_⟩;rw[dP];have s3:aq H2 (upd (upd H2 dd (.own d)) d (.ins t.bq dd (IW L (xs.length:Int) B A_))):=fun y o hy=>by
   rw[ak (ao hy nd),ak (ao hy ndd)];exact hy
  have Pt:=af (H:=upd H2 dd (.own d)) (a:=d) (o:=.ins t.bq dd (IW L (xs.length:Int) B A_));generalize upd (upd H2 dd (.own d)) d (.ins t.bq dd (IW L (xs.length:Int) B A_))=H3 at s3 Pt;have s4:=sB.trans s3;refine⟨x,dx,L,D,U,d,dd,L,B,A_,xs.length,ds,us,xs,[],[.ref v],rfl,s4 _ _ hx,s4 _ _ hD,s4 _ _ hU,Pt,s4 _ _ hL,s3 _ _ hB2,s3 _ _ Pr,LA,n1,n2,n3,by simp,by simp;omega,hds,?_⟩;refine q ⟨d,dd,L,xs.length,B,A_,[],[.ref v]⟩ H3 _ rfl rfl rfl rfl s4 hB V5 ⟨rfl,Pt,s3 _ _ hB2,s3 _ _ Pr⟩ (fun y o hy y1 y2 y3=>?_) ?_ ?_ af
  ·rw[ak y3,ak y2,ak y1];exact hy
  ·rw[ak n2,ak n1,af];simp
  ·rw[ak n3,af]
inductive Aj (C:Addr)(vs:List V)(H:Hp)(Q:VK)(E:XK):Prop
 |mk (x dx:Addr) (n:Str) (tm:V) (fI:vs=[.ref x,.str n,tm]) (fJ:H x=some (.ins C dx [])) (hI:∀(L:Addr)(H':Hp),(∀ y o,H y=some o->y≠x->H' y=some o)->H L=none->L≠x->H' x=some (.ins C dx (voF n tm L))->H' L=some (.lst [])->Q .non H'):Aj C vs H Q E
theorem sV (T:Txt K w mg t):bE P w K mg base mJ (0+1) t.cG t.m8 ["self","name","terms"] (Aj t.dr):=by
 refine T.jH.ok Dp (fun vs H Q E h=>?_) (fun cdv A outer s H vs Q E hr h=>?_)
 ·obtain⟨_,_,_,_,rfl,_⟩:=h;rfl
 ·obtain⟨x,dx,n,tm,rfl,hx,q⟩:=h;refine aQ (ag (tX (pv 0) (pv 1) rfl) (ag (tX (pv 0) (pv 2) rfl) (aj (tX (pv 0) (bx ae) rfl)))) ?_;refine⟨_,rfl,_,rfl,x,_,dx,_,rfl,hx,T.gh,T.gG,by show 0<1000;decide,?_⟩;refine⟨_,rfl,_,rfl,x,_,dx,_,rfl,af,T.gh,T.cP,by rw[O2];show 1<1000;decide,?_⟩;refine⟨big (by show 0<=1000;omega),fun L hL=>?_⟩;rw[dP]at hL;have nx:x≠L:=fun e=>by rw[<-e,af]at hL;cases hL
  have hL0:H L=none:=by rw[ak (Ne.symm nx)]at hL;exact hL
  refine⟨_,rfl,x,_,dx,_,rfl,by rw[ak nx,dP];exact af,T.gh,T.cC,by rw[O2,Yw];show 2<1000;decide,?_⟩;rw[O2,Yw,adS];simp only [dP];refine q L _ (fun y o hy ny=>?_) hL0 (Ne.symm nx) af ?_
  ·rw[ak ny,ak (ao hy hL0),ak ny];exact hy
  ·rw[ak (Ne.symm nx)];exact af
inductive sW (c:Cs)(vs:List V)(H:Hp)(Q:VK)(E:XK):Prop
 |mk (x:Addr) (F:Addr->Prop) (vw:Vw) (ps fs:List Vw) (n:Str) (fI:vs=[.ref x,.str n]) (fJ:xE c H x F vw ps fs) (hI:n.length<=1000) (kK:ps.length<=900) (sd:match b9 vw n with
 |some r=>∀ H',aq H H'->RX E c r H'
 |none=>∀ F' H',Gr F F' H->Fr F H H'->xE c H' x F' (vw++[(n,.pl [])]) (ps++[vw]) []->Q .non H'):sW c vs H Q E
theorem sX (T:Txt K w mg t):bE P w K mg base (iA P w) (0+4) t.cf t.m9 ["self","name"] (sW (cs t)):=by
 have lO:=rC (P:=P) (base:=base) T;have uc:=yg (P:=P) (base:=base) T;have nI:=sV (P:=P) (base:=base) T;refine T.jJ.OV Dq (fun vs H Q E h=>?_) (fun cdv A outer s H vs Q E hr h=>?_)
 ·obtain⟨_,_,_,_,_,_,rfl,_⟩:=h;rfl
 ·obtain⟨x,F,vw,ps,fs,n,rfl,B,hlen,hps,q⟩:=h;refine aQ (ag (a9 (bQ (X:=(cJ (iA P w) P w K mg base ["self","name"] "Book.add_voice" (ah dh) t.cf cdv A outer s H E)) (pv 0) T.aJ T.rh lO (hr.mono (by decide)) T.jc .nil (fun _ _ z=>Or.inl z) (aa (pv 1) ae))) (aj (a9 (hZ (pv 0) T.aJ T.xX uc (hr.mono (by decide)) T.oG .nil aO (aa (vo T.Tj nI (hr.mono (by decide)) rfl T.Ti T.jI .nil aO (aa (pv 1) (aa jg ae))) ae))))) ?_;obtain⟨L,D,U,all,M,Ps,Fs,es,us,b,i,pp,pf,f⟩:=B.ex;obtain⟨dx,hx⟩:=b.hx;refine⟨_,rfl,x,dx,_,rfl,hx,sv _ _ _,_,rfl,x,F,vw,ps,fs,n,rfl,B,hlen,?_⟩;cases ho:b9 vw n with
  |some r =>
   rw[ho]at q;intro H' s';have q:=q H' s';exact q
  |none =>
   rw[ho]at q;obtain⟨_,hf,ags⟩:=sU ho;intro H1 s1;have b1:=b.kept f (.same s1);obtain⟨ds,hD,pD⟩:=b1.hD;obtain⟨ux,hU,pU⟩:=b1.hU;have ll:=cj i;have dl:=cj pD;have pl:=cj pp;have pe:=b.past.len;refine⟨_,rfl,x,dx,_,rfl,s1 _ _ hx,Ad _ _ _,_,rfl,?_⟩;intro v dv nv ndv ne;refine⟨v,dv,n,.non,rfl,af,fun l H2 kp hl hlv hv2 hl2=>⟨rfl,?_⟩⟩;have s2:aq H1 H2:=fun y o hy=>kp y o (by rw[ak (ao hy nv),ak (ao hy ndv)];exact hy) (ao hy nv);have hl1:H1 l=none:=KP hl;refine⟨x,dx,L,D,U,v,M L,ds,ux,rfl,s2 _ _ (s1 _ _ hx),s2 _ _ b1.hL,s2 _ _ hD,s2 _ _ hU,b.LD,b.LU,b.DU,by omega,by omega,fun e H3 H' eT ei eb ea s3 nB nA hd fr hL' hD' hU'=>?_⟩;obtain⟨F',g,fr',B'⟩:=Bk.added b1 (Is.kept (F:=F) (.same s1) i) (bZ (fun _ _ q=>Is.kept (F:=F) (.same s1) q) pp) f B.wv (a:=⟨v,dv,n,.non,l⟩) (th:=.pl []) s2 nv hl1 hv2 hl2 (fun M' h0=>⟨rfl,by rw[h0];exact .nil⟩) ((B.wv vw (.inr (.inl rfl))).aik (qO hf) ags) eT ei eb ea s3 nB nA hd hD pD fr hL' hD' hU';exact q F' H' (g.old s1) (fun y o hy hn=>fr' y o (s1 y o hy) hn) B'
inductive oY (c:Cs)(vs:List V)(H:Hp)(Q:VK)(E:XK):Prop
 |mk (x dx L D U:Addr) (xs:List V) (vx:List Vx) (n:Str) (fI:vs=[.ref x,.str n]) (fJ:H x=some (.ins c.B dx (Az L D U))) (hI:H L=some (.lst xs)) (kK:Paired (adV c.V H) xs vx) (sd:match vx.find? (fun a=>decide (a.n=n)) with
 |none=>RX E c .dQ H
 |some a=>Q (.ref a.o) H):oY c vs H Q E
theorem Zz {vx:List Vx}{n:Str}:∀{i:Nat},(∀ j a,j<i->vx[j]? = some a->a.n≠n)->∀{b},vx[i]? = some b->b.n=n->vx.find? (fun a=>decide (a.n=n))=some b:=by
 induction vx with
 |nil=>intro i _ b h;simp at h
 |cons v vs ih =>
  intro i hi b hb he;cases i with
  |zero =>
   simp at hb;subst hb;exact List.find?_cons_of_pos (decide_eq_true he)
  |succ i =>
   have h0:=hi 0 v (by omega) rfl;have h1:(v::vs).find? (fun a=>decide (a.n=n))=vs.find? (fun a=>decide (a.n=n)):=List.find?_cons_of_neg (fun z=>h0 (of_decide_eq_true z));rw[h1];exact ih (i:=i) (fun j a hj ha=>hi (j+1) a (Nat.succ_lt_succ hj) (by simpa using ha)) (by simpa using hb) he
theorem dO (T:Txt K w mg t):bE P w K mg base (iA P w) (0+1) t.bG t.jV ["self","name"] (oY (cs t)):=by
 refine T.gK.OV oR (fun vs H Q E h=>?_) (fun cdv A outer s H vs Q E hr h=>?_)
 ·obtain⟨_,_,_,_,_,_,_,_,rfl,_⟩:=h;rfl
 ·obtain⟨x,dx,L,D,U,xs,vx,n,rfl,hx,hL,g,q⟩:=h;refine aQ (ag (agd (kh PassesOwn.never rfl (jA (bT (pv 0) rfl)) (aZ (i:=2) oR.nd rfl (Or.inl rfl)) (aj (aM (ar (bc.or (aN (ay hr))) (bT (pv 2) rfl) (pv 1) (aw _)) (aj (av (pv 2))) az)))) (aj (iB (X:=(cJ (iA P w) P w K mg base ["self","name","voice"] "Book.voice_called" (ah cm) t.bG cdv A outer s H E)) (fun _ _ z=>z) rfl T.VZ.exc rfl T.Lq (aa ax ae)))) ?_;have xl:=cj g;refine⟨_,rfl,x,_,dx,_,_,rfl,hx,T.aJ,T.bL,ko _ _ _,L,rfl,⟨_,a7.of hL⟩,ur (K:=K) (xs:=xs) (fun i σ H'=>∃ v,σ=[some (.ref x),some (.str n),v]/\H'=H/\∀ j a,j<i->vx[j]? = some a->a.n≠n) ⟨none,rfl,rfl,fun j a hj=>by omega⟩ ?_ ?_ ?_⟩
  ·rintro i σ H1 _ ⟨v,rfl,eH,_⟩;rw[eH];exact a7.of hL
  ·rintro i y σ H1 hy ⟨v,rfl,eH,hi⟩;have eH:=eH.symm;subst eH;obtain⟨b,e1,rfl,hb⟩:=zO g hy;refine⟨_,rfl,b.o,_,b.d,_,_,rfl,hb,T.gh,T.gG,SA _ _ _,?_⟩;refine⟨_,rfl,.inl ⟨rfl,_,rfl,?_⟩⟩;refine a8 (fun h=>?_) (fun h=>?_)
   ·have e:b.n=n:=V.str.inj (of_decide_eq_true h);rw[Zz hi e1 e]at q;exact⟨_,rfl,q⟩
   ·refine⟨_,rfl,rfl,fun j a hj ha=>?_⟩;rcases Nat.lt_or_ge j i with z|z
    ·exact hi j a z ha
    ·have hij:j=i:=by omega
     rw[hij,e1]at ha;cases ha;exact fun z=>h (decide_eq_true (congrArg V.str z))
  ·rintro σ H1 ⟨v,rfl,eH,hi⟩;have eH:=eH.symm;subst eH;have hn:vx.find? (fun a=>decide (a.n=n))=none:=List.find?_eq_none.mpr fun a ha z=>by
    obtain⟨j,hj⟩:=getElem?_of_mem ha;have hjl:j<vx.length:=(List.getElem?_eq_some_iff.mp hj).1;exact hi j a (by omega) hj (of_decide_eq_true z)
   rw[hn]at q;exact⟨by show 1<=sizeLine;decide,q.2⟩
inductive qc (c:Cs)(vs:List V)(H:Hp)(Q:VK)(E:XK):Prop
 |mk (x dx L D U:Addr) (xs:List V) (vx:List Vx) (n:Str) (fI:vs=[.ref x,.str n]) (fJ:H x=some (.ins c.B dx (Az L D U))) (hI:H L=some (.lst xs)) (kK:Paired (adV c.V H) xs vx) (sd:match vx.find? (fun a=>decide (a.n=n)) with
 |none=>RX E c .dQ H
 |some a=>(a.tm=.non->Q (.ref a.o) H)/\(∀ p,a.tm=.ref p->RX E c .gR H)/\(a.tm=.non\/∃ p,a.tm=.ref p)):qc c vs H Q E
theorem gM (T:Txt K w mg t):bE P w K mg base (iA P w) (0+2) t.bD t.ku ["self","name"] (qc (cs t)):=by
 have bH:=dO (P:=P) (base:=base) T;refine T.ip.OV qb (fun vs H Q E h=>?_) (fun cdv A outer s H vs Q E hr h=>?_)
 ·obtain⟨_,_,_,_,_,_,_,_,rfl,_⟩:=h;rfl
 ·obtain⟨x,dx,L,D,U,xs,vx,n,rfl,hx,hL,g,q⟩:=h;refine aQ (ag (aL (i:=2) qb.nd rfl (Or.inl rfl) (bQ (X:=(cJ (iA P w) P w K mg base ["self","name","voice"] "Book.plain_voice" (ah bX) t.bD cdv A outer s H E)) (pv 0) T.aJ T.dE bH (hr.mono (by decide)) T.cu .nil (fun _ _ z=>Or.inl z) (aa (pv 1) ae))) (ag (aM (ar OL (bT (pv 2) rfl) jg (aw _)) (aj (iB (X:=(cJ (iA P w) P w K mg base ["self","name","voice"] "Book.plain_voice" (ah bX) t.bD cdv A outer s H E)) (fun _ _ z=>z) rfl T.Tn.exc rfl T.Jf (aa ax ae))) az) (aj (av (pv 2))))) ?_;refine⟨_,rfl,x,dx,_,rfl,hx,d8 _ _ _,_,rfl,x,dx,L,D,U,xs,vx,n,rfl,hx,hL,g,?_⟩;cases hf:vx.find? (fun a=>decide (a.n=n)) with
  |none =>
   rw[hf]at q;exact q
  |some a =>
   rw[hf]at q;obtain⟨q1,q2,q3⟩:=q;obtain⟨j,hj⟩:=getElem?_of_mem (List.mem_of_find?_eq_some hf);obtain⟨v,hv,rfl,ha⟩:=uF g hj;refine⟨_,rfl,a.o,_,a.d,_,_,rfl,ha,T.gh,T.cP,zw _ _ _,?_⟩;rcases q3 with e|⟨p,e⟩
   ·rw[e];refine⟨rfl,_,rfl,?_⟩;exact a8 (fun h=>absurd h (by decide)) (fun _=>⟨_,rfl,q1 e⟩)
   ·have q:=q2 p e;rw[e];refine⟨rfl,_,rfl,?_⟩;exact a8 (fun _=>⟨by show 1<=sizeLine;decide,q.2⟩) (fun h=>absurd (show(!decide (V.ref p=V.non))=true by rw[decide_eq_false (fun z=>nomatch z)];rfl) h)
inductive sY (c:Cs)(vs:List V)(H:Hp)(Q:VK)(E:XK):Prop
 |mk (x:Addr) (F:Addr->Prop) (vw:Vw) (ps fs:List Vw) (n ld:Str) (lt sl:Int) (tn:Bool) (fI:vs=[.ref x,.str n,.str ld,.int lt,.int sl,.bl tn]) (fJ:xE c H x F vw ps fs) (hI:n.length<=1000) (kK:ps.length<=900) (sd:match b9 vw n with
 |some r=>∀ H',aq H H'->RX E c r H'
 |none=>match aR vw ld with
  |none=>∀ H',aq H H'->RX E c .dQ H'
  |some (.cn _ _ _ _)=>∀ H',aq H H'->RX E c .gR H'
  |some (.pl _)=>(¬ ie lt sl->∀ H',aq H H'->RX E c .sy H')/\(ie lt sl->∀ F' H',Gr F F' H->Fr F H H'->xE c H' x F' (vw++[(n,.cn ld lt sl tn)]) (ps++[vw]) []->Q .non H')):sY c vs H Q E
theorem sZ (T:Txt K w mg t):bE P w K mg base (iA P w) (0+4) t.bI t.gW ["self","name","leader","later","slow","is_turned"] (sY (cs t)):=by
 have lO:=rC (P:=P) (base:=base) T;have cF:=gM (P:=P) (base:=base) T;have uc:=yg (P:=P) (base:=base) T;have nI:=sV (P:=P) (base:=base) T;refine T.eR.OV Dr (fun vs H Q E h=>?_) (fun cdv A outer s H vs Q E hr h=>?_)
 ·obtain⟨_,_,_,_,_,_,_,_,_,_,rfl,_⟩:=h;rfl
 ·obtain⟨x,F,vw,ps,fs,n,ld,lt,sl,tn,rfl,B,hlen,hps,q⟩:=h;refine aQ (ag (a9 (bQ (X:=(cJ (iA P w) P w K mg base ["self","name","leader","later","slow","is_turned"] "Book.add_canon" (ah cb) t.bI cdv A outer s H E)) (pv 0) T.aJ T.rh lO (hr.mono (by decide)) T.jc .nil (fun _ _ z=>Or.inl z) (aa (pv 1) ae))) (ag (a9 (bQ (X:=(cJ (iA P w) P w K mg base ["self","name","leader","later","slow","is_turned"] "Book.add_canon" (ah cb) t.bI cdv A outer s H E)) (pv 0) T.aJ T.gL cF (hr.mono (by decide)) T.dq .nil (fun _ _ z=>Or.inl z) (aa (pv 2) ae))) (ag (aM (cX (bW (PW.pt (c8 (C3 uw uw ai (pv 3) (cv (v:=.int 999) rfl T.acf ⟨_,rfl⟩)) (fG (C3 uw uw ai (pv 4) (cv (v:=.int 9) rfl T.Zw ⟨_,rfl⟩))))))) (aj (iB (X:=(cJ (iA P w) P w K mg base ["self","name","leader","later","slow","is_turned"] "Book.add_canon" (ah cb) t.bI cdv A outer s H E)) (fun _ _ z=>z) rfl T.V0.exc rfl T.Lr (aa ax ae))) az) (aj (a9 (hZ (pv 0) T.aJ T.xX uc (hr.mono (by decide)) T.oG .nil aO (aa (vo T.Tj nI (hr.mono (by decide)) rfl T.Ti T.jI .nil aO (aa (pv 1) (aa (cH (aa (pv 2) (aa (pv 3) (aa (pv 4) (aa (pv 5) ae))))) ae))) ae))))))) ?_;obtain⟨L,D,U,all,M,Ps,Fs,es,us,b,i,pp,pf,f⟩:=B.ex;obtain⟨dx,hx⟩:=b.hx;have wv:=B.wv vw (.inr (.inl rfl));refine⟨_,rfl,x,dx,_,rfl,hx,sv _ _ _,_,rfl,x,F,vw,ps,fs,n,rfl,B,hlen,?_⟩;cases ho:b9 vw n with
  |some r =>
   rw[ho]at q;intro H' s';have q:=q H' s';exact q
  |none =>
   rw[ho]at q;obtain⟨_,hf,ags⟩:=sU ho;intro H1 s1;have b1:=b.kept f (.same s1);have i1:Is H1 L all M vw:=Is.kept (F:=F) (.same s1) i;obtain⟨vx,g,gv⟩:=b1.vB i1;have hx1:=s1 _ _ hx;refine⟨_,rfl,x,dx,_,rfl,hx1,ic _ _ _,_,rfl,x,dx,L,D,U,M L,vx,ld,rfl,hx1,b1.hL,g,?_⟩;rcases IY gv (fun _ _ r=>r.2.1) ld with ⟨f1,f2⟩|⟨a,th,j,f1,f2,r,an,fj,fw⟩
   ·rw[f1];rw[f2]at q;have q:=q H1 s1;exact q
   rw[f1];rw[f2]at q;cases th with
   |cn ld2 lt2 sl2 tn2 =>
    obtain⟨pt,Oo,_⟩:=r.2.2;have q:=q H1 s1;refine⟨(fun z=>by rw[Oo]at z;cases z),(fun _ _=>q),.inr ⟨pt,Oo⟩⟩
   |pl ss =>
    obtain⟨RZ,hg⟩:=r.2.2;obtain⟨q1,q2⟩:=q;refine⟨fun _=>?_,(fun pz z=>by rw[RZ]at z;cases z),.inl RZ⟩;refine⟨fun bb H'=>bb=decide (ie lt sl)/\H'=H1,?_,?_⟩
    ·refine⟨_,rfl,_,_,rfl,rfl,_,rfl,?_⟩;refine a8 (fun h1=>?_) (fun h1=>?_)
     rotate_left
     ·have e:decide (ie lt sl)=false:=decide_eq_false fun z=>h1 (decide_eq_true z.1);rw[e];exact⟨_,rfl,bJ ⟨rfl,rfl⟩⟩
     refine⟨_,_,rfl,rfl,_,rfl,?_⟩;refine a8 (fun h2=>?_) (fun h2=>?_)
     rotate_left
     ·have e:decide (ie lt sl)=false:=decide_eq_false fun z=>h2 (decide_eq_true z.2.1);rw[e];exact⟨rfl,rfl⟩
     refine⟨_,rfl,_,_,rfl,rfl,_,rfl,?_⟩;refine a8 (fun h3=>?_) (fun h3=>?_)
     rotate_left
     ·have e:decide (ie lt sl)=false:=decide_eq_false fun z=>h3 (decide_eq_true z.2.2.1);rw[e];exact⟨_,rfl,rfl,rfl⟩
     refine⟨_,_,rfl,rfl,_,rfl,?_,rfl⟩;refine decide_eq_decide.mpr ⟨fun z=>⟨of_decide_eq_true h1,of_decide_eq_true h2,of_decide_eq_true h3,z⟩,fun z=>z.2.2.2⟩
    intro bb H1' ⟨e1,e2⟩;rw[e1,e2]
    by_cases hok:ie lt sl
    rotate_left
    ·rw[decide_eq_false hok];have q:=q1 hok H1 s1;exact cY ⟨by show 1<=sizeLine;decide,q.2⟩
    rw[decide_eq_true hok];refine bJ ?_;obtain⟨ds,hD,pD⟩:=b1.hD;obtain⟨ux,hU,pU⟩:=b1.hU;have ll:=cj i;have dl:=cj pD;have pl:=cj pp;have pe:=b.past.len;refine⟨_,rfl,x,dx,_,rfl,hx1,Ad _ _ _,_,rfl,_,rfl,_,rfl,_,rfl,_,rfl,(by show 4<=sizeLine;decide),fun tp htp=>?_⟩;have st:=aq.upd (o:=.tup [V.str ld,V.int lt,V.int sl,V.bl tn]) htp;have air:=af (H:=H1) (a:=tp) (o:=.tup [V.str ld,V.int lt,V.int sl,V.bl tn]);generalize upd H1 tp (.tup [V.str ld,V.int lt,V.int sl,V.bl tn])=H1t at st air;intro v dv nv ndv ne;refine⟨v,dv,n,.ref tp,rfl,af,fun l H2 kp hl hlv hv2 hl2=>⟨rfl,?_⟩⟩;have s2t:aq H1t H2:=fun y o hy=>kp y o (by rw[ak (ao hy nv),ak (ao hy ndv)];exact hy) (ao hy nv);have s2:=st.trans s2t;have hl1:H1 l=none:=st.free (KP hl);refine⟨x,dx,L,D,U,v,M L,ds,ux,rfl,s2 _ _ hx1,s2 _ _ b1.hL,s2 _ _ hD,s2 _ _ hU,b.LD,b.LU,b.DU,by omega,by omega,fun e H3 H' eT ei eb ea s3 nB nA hd fr hL' hD' hU'=>?_⟩;obtain⟨F',gr,fr',B'⟩:=Bk.added b1 i1 (bZ (fun _ _ q=>Is.kept (F:=F) (.same s1) q) pp) f B.wv (a:=⟨v,dv,n,.ref tp,l⟩) (th:=.cn ld lt sl tn) s2 (st.free nv) hl1 hv2 hl2 (fun M' h0=>⟨tp,rfl,s2t _ _ air⟩) (wv.ail (qO hf) ags (dg f2) hok.1 hok.2.1 hok.2.2.1 hok.2.2.2) eT ei eb ea s3 nB nA hd hD pD fr hL' hD' hU';exact q2 hok F' H' (gr.old s1) (fun y o hy hn=>fr' y o (s1 y o hy) hn) B'
inductive tf (vs:List V)(H:Hp)(Q:VK)(E:XK):Prop
 |mk (d:Addr) (vw:Vw) (n:Str) (fI:vs=[.ref d,.str n]) (fJ:t5 H d vw) (hI:n.length<=1000) (kK:vw.length<=12) (sd:Q (.str (Dm (b9 vw n))) H):tf vs H Q E
theorem DO (T:Txt K w mg t):bE P w K mg base mJ (0+1) t.di t.nc ["_law_voices","_law_name"] tf:=by
 refine T.gY.ok sE (fun vs H Q E h=>?_) (fun cdv A outer s H vs Q E hr h=>?_)
 ·obtain⟨_,_,_,rfl,_⟩:=h;rfl
 ·obtain⟨d,vw,n,rfl,hd,hn,hw,q⟩:=h;refine aQ (ag (aM (bW (PW.pt (kJ (ar qI (aI (aG.or aH) rfl T.bY bV (aa (pv 1) ae)) ai (aw _)) (jh (ar aaN (aI (aG.or aH) rfl T.bY bV (aa (pv 1) ae)) ai (aw _)))))) (aj (av ax)) az) (ag (kh PassesOwn.never rfl (abc (pv 1)) (aZ (i:=2) sE.nd rfl (Or.inl rfl)) (aj (aM (ar (vq.or vt) (pv 2) ax rfl) (aj (av ax)) az))) (ag (aM (OJ (af8 (jj hr) (pv 1) (pv 0))) (aj (av ax)) az) (aj (av (cI (d5 (ar (bc.or (aN (ay hr))) (aI Zk rfl T.bY bV (aa (pv 0) ae)) ai (aw _)) ax ax))))))) ?_;have xb:n.length<=sizeLine:=Nat.le_trans hn (by decide);unfold b9 at q;refine km (!(decide (1<=n.length)&&decide (n.length<=8))) ?_ ?_
  ·refine⟨_,rfl,.inr ⟨_,rfl,xb,?_⟩⟩;tm_up;refine a8 (fun h1=>?_) (fun h1=>?_)
   ·have h1:=of_decide_eq_true h1;rw[decide_eq_false (show ¬ 1<=n.length by omega)];exact⟨rfl,rfl⟩
   ·have h1:1<=n.length:=Nat.lt_of_not_le fun z=>h1 (decide_eq_true (by omega));rw[decide_eq_true h1];refine⟨_,rfl,.inr ⟨_,rfl,xb,?_⟩⟩;tm_up;refine⟨?_,rfl⟩;rw[Bool.true_and,<-decide_not];exact decide_eq_decide.mpr (by omega)
  refine a8 (fun h1=>?_) (fun h1=>?_)
  ·have hb:nameB n=false:=by
    unfold nameB;cases e1:decide (1<=n.length) with
    |false=>rfl
    |true =>
     rw[e1]at h1;cases e2:decide (n.length<=8) with
     |false=>rfl
     |true=>rw[e2]at h1;cases h1
   rw[if_pos hb]at q;exact q
  have hb1:(decide (1<=n.length)&&decide (n.length<=8))=true:=by
   cases z:(decide (1<=n.length)&&decide (n.length<=8)) with
   |true=>rfl
   |false=>rw[z]at h1;exact absurd rfl h1
  obtain⟨hb2,hb3⟩:=Bool.and_eq_true_iff.mp hb1;tm_up;refine adX (z:=n) (fun i σ H'=>∃ v,σ=[some (.ref d),some (.str n),v]/\H'=H/\∀(j:Nat) c,j<i->n.cps[j]? = some c->N6 ⟨#[c]⟩ "abcdefghijklmnopqrstuvwxyz"=true) ⟨none,rfl,rfl,fun j c hj=>by omega⟩ ?_ ?_
  ·rintro i c σ H1 hc ⟨v,rfl,eH,hin⟩;have eH:=eH.symm;subst eH;tm_up;refine a8 (fun h2=>?_) (fun h2=>?_)
   ·have hb:nameB n=false:=by
     unfold nameB;rw[hb2,hb3,Bool.true_and,Bool.true_and];refine List.all_eq_false.mpr ⟨c,?_,?_⟩
     ·exact mem_of_getElem? (i:=i) (by simpa using hc)
     ·show ¬(!(Builtin.Str.occurrences _ _ 0 _ 1).isEmpty)=true;intro z;rw[z]at h2;cases h2
    rw[if_pos hb]at q;exact q
   ·refine⟨_,rfl,rfl,fun j c' hj hc'=>?_⟩;rcases Nat.lt_or_ge j i with z|z
    ·exact hin j c' z hc'
    ·have e:j=i:=by omega
     subst e;rw[hc]at hc';cases hc';show(!(Builtin.Str.occurrences _ _ 0 _ 1).isEmpty)=true;cases z:(Builtin.Str.occurrences (Str.ofString "abcdefghijklmnopqrstuvwxyz") ⟨#[c]⟩ 0 (Str.ofString "abcdefghijklmnopqrstuvwxyz").length 1).isEmpty with
     |false=>rfl
     |true=>exact absurd (show(!!(Builtin.Str.occurrences (Str.ofString "abcdefghijklmnopqrstuvwxyz") ⟨#[c]⟩ 0 (Str.ofString "abcdefghijklmnopqrstuvwxyz").length 1).isEmpty)=true by rw[z];rfl) h2
  ·rintro σ H1 ⟨v,rfl,eH,hin⟩;have eH:=eH.symm;subst eH;have hb:¬ nameB n=false:=by
    unfold nameB;rw[hb2,hb3,Bool.true_and,Bool.true_and];intro z;obtain⟨c,hc,hc2⟩:=List.all_eq_false.mp z;obtain⟨j,hj⟩:=getElem?_of_mem hc;have hj':n.cps[j]? = some c:=by simpa using hj
    exact hc2 (hin j c (Array.getElem?_eq_some_iff.mp hj').1 hj')
   rw[if_neg hb]at q;tm_up;rcases hd.look n with ⟨f1,g1⟩|⟨th,v1,f1,g1,_⟩
   ·rw[f1,if_neg (by simp)]at q;refine⟨d,_,rfl,g1,_,rfl,bJ ?_⟩;obtain⟨kvs,hk,kl⟩:=hd.len;refine zN (.str (if 12<=vw.length then "Full" else "")) ?_ ?_
    ·tm_up;refine⟨d,kvs,rfl,hk,?_⟩;tm_up;refine a8 (fun h2=>?_) (fun h2=>?_)
     ·have:=V.int.inj (of_decide_eq_true h2);rw[if_pos (by omega)];exact⟨rfl,rfl⟩
     ·rw[if_neg (fun z=>h2 (decide_eq_true (congrArg V.int (by omega))))];exact⟨rfl,rfl⟩
    ·by_cases hl:12<=vw.length
     ·rw[if_pos hl]at q ⊢;exact q
     ·rw[if_neg hl]at q ⊢;exact q
   ·rw[f1,if_pos (show(some th).isSome=true from rfl)]at q;exact⟨d,_,rfl,g1,_,rfl,cY q⟩
inductive rD (vs:List V)(H:Hp)(Q:VK)(E:XK):Prop
 |mk (d:Addr) (v:V) (vw:Vw) (de:De) (fI:vs=[.ref d,v]) (fJ:t5 H d vw) (hI:zR H v de) (kK:Q (.str (Dm (gS vw de.ld de.lt de.sl))) H):rD vs H Q E
theorem AY (T:Txt K w mg t):bE P w K mg base mJ (0+1) t.cM t.lq ["_law_voices","_law_deed"] rD:=by
 refine T.f7.ok qU (fun vs H Q E h=>?_) (fun cdv A outer s H vs Q E hr h=>?_)
 ·obtain⟨_,_,_,_,rfl,_⟩:=h;rfl
 ·obtain⟨d,v,vw,de,rfl,hd,⟨p,ps,rfl,hp,hps⟩,q⟩:=h;refine aQ (ag (aM (OJ (Fy (jj hr) (aB au (pv 1) ai (fun _ _=>rfl)) (pv 0))) (aj (av ax)) az) (ag (aM (cX (bg (aI d7 rfl T.bu br (aa (i6 (jj hr) (pv 0) (aB au (pv 1) ai (fun _ _=>rfl)) (fun _ _=>rfl)) (aa (gJ (v:=.ty "list") rfl T.ir ia rfl) ae))))) (aj (av ax)) az) (ag (aL (i:=2) qU.nd rfl (Or.inl rfl) (cI (iP (bK uw ai (aB au (pv 1) ai (fun _ _=>rfl)) (aw _)) (iP (bK qI (aB au (pv 1) ai (fun _ _=>rfl)) ai (aw _)) (iP (bK qI ai (aB au (pv 1) ai (fun _ _=>rfl)) (aw _)) (k7 (bK qI (aB au (pv 1) ai (fun _ _=>rfl)) ai (aw _)))))))) (aj (av (cI (d5 (bg (pv 2)) ax ax))))))) ?_;unfold gS at q;refine⟨_,rfl,cA (i:=2) hp rfl ?_⟩;rcases hd.look de.ld with ⟨f1,g1⟩|⟨th,v1,f1,g1,t1⟩
  ·rw[f1]at q;exact⟨_,rfl,d,_,rfl,g1,_,rfl,cY q⟩
  rw[f1]at q;refine⟨_,rfl,d,_,rfl,g1,_,rfl,bJ ?_⟩;refine⟨_,rfl,_,rfl,cA (i:=2) hp rfl ?_⟩;refine⟨d,_,rfl,g1,?_⟩;cases th with
  |cn ld lt sl tn =>
   obtain⟨pt,rfl,Oo⟩:=t1;exact⟨_,_,_,_,rfl,iQ.tup Oo,rfl,_,rfl,cY q⟩
  |pl ss =>
   obtain⟨l,ys,rfl,hl,_⟩:=t1;refine⟨_,_,_,_,rfl,iQ.lst hl,rfl,_,rfl,bJ ?_⟩;refine zN (.bl (decide (ie de.lt de.sl))) ?_ ?_
   ·refine⟨_,rfl,cA (i:=5) hp rfl ?_⟩;tm_up;refine a8 (fun h1=>?_) (fun h1=>?_)
    rotate_left
    ·rw[decide_eq_false (fun z:ie de.lt de.sl=>h1 (decide_eq_true z.1))];exact⟨rfl,rfl⟩
    refine⟨_,rfl,cA (i:=5) hp rfl ?_⟩;tm_up;refine a8 (fun h2=>?_) (fun h2=>?_)
    rotate_left
    ·rw[decide_eq_false (fun z:ie de.lt de.sl=>h2 (decide_eq_true (by have:=z.2.1;omega)))];exact⟨rfl,rfl⟩
    refine⟨_,rfl,cA (i:=6) hp rfl ?_⟩;tm_up;refine a8 (fun h3=>?_) (fun h3=>?_)
    rotate_left
    ·rw[decide_eq_false (fun z:ie de.lt de.sl=>h3 (decide_eq_true (by have:=z.2.2.1;omega)))];exact⟨rfl,rfl⟩
    refine⟨_,rfl,cA (i:=6) hp rfl ?_⟩;tm_up;refine⟨congrArg V.bl (decide_eq_decide.mpr ⟨fun z=>⟨of_decide_eq_true h1,?_,?_,?_⟩,fun z=>?_⟩),rfl⟩
    ·have:=of_decide_eq_true h2;omega
    ·have:=of_decide_eq_true h3;omega
    ·omega
    ·have:=z.2.2.2;omega
   ·refine zN (.str (Dm (if ie de.lt de.sl then none else some .sy))) ?_ q;refine⟨_,rfl,_,rfl,?_⟩
    by_cases z:ie de.lt de.sl
    ·rw[decide_eq_true z,if_pos z];exact cY ⟨rfl,rfl⟩
    ·rw[decide_eq_false z,if_neg z];exact bJ ⟨rfl,rfl⟩
inductive Ly (vs:List V)(H:Hp)(Q:VK)(E:XK):Prop
 |mk (d:Addr) (v:V) (vw:Vw) (de:De) (fI:vs=[.ref d,v]) (fJ:t5 H d vw) (hI:zR H v de) (kK:∀ H',aq H H'->Q (.int (bU vw de)) H'):Ly vs H Q E
theorem Lz (T:Txt K w mg t):bE P w K mg base mJ (0+1) t.ng t.FO ["_law_voices","_law_deed"] Ly:=by
 refine T.qE.ok KY (fun vs H Q E h=>?_) (fun cdv A outer s H vs Q E hr h=>?_)
 ·obtain⟨_,_,_,_,rfl,_⟩:=h;rfl
 ·obtain⟨d,v,vw,de,rfl,hd,⟨p,ps,rfl,hp,hps⟩,q⟩:=h;refine aQ (ag (aL (i:=2) KY.nd rfl (Or.inl rfl) (cI (d5 (bg (aI d7 rfl T.bu br (aa (abK (jj hr) (pv 0) (aB au (pv 1) ai (fun _ _=>rfl)) (cH ae) ⟨rfl,rfl,rfl,rfl⟩) (aa (gJ (v:=.ty "list") rfl T.ir ia rfl) ae)))) (aI (aG.or aH) rfl T.bY bV (aa (i6 (jj hr) (pv 0) (aB au (pv 1) ai (fun _ _=>rfl)) (fun _ _=>rfl)) ae)) ai))) (ag (aM (ar (bc.or (aN (ay hr))) (bh ki (aB au (pv 1) ai (fun _ _=>rfl)) ai) ai (aw _)) (aj (av (aB au (bx (aa (z9 tW ai) (aa (bh ji (z9 tW (pv 2)) ai) (aa (bh (du.or (ba.or dw)) (pv 2) ai) (aa (bh aaL ai ai) ae))))) (bh ki (bh C2 (aB au (pv 1) ai (fun _ _=>rfl)) ai) ai) (fun _ _=>rfl)))) az) (aj (av (bh ki (bh C2 (aB au (pv 1) ai (fun _ _=>rfl)) ai) (bh (du.or (ba.or dw)) (pv 2) ai)))))) ?_;refine⟨fun v H'=>v=.int (Dn vw de.n)/\aq H H',?_,?_⟩
  ·refine⟨_,rfl,d,rfl,.inl (let ⟨kvs,e,_⟩:=hd;⟨kvs,.inl e⟩),_,rfl,cA (i:=1) hp rfl ?_⟩;refine⟨by show 0<=sizeLine;decide,fun t0 ht0=>?_⟩;have s0:=aq.upd (o:=.tup []) ht0;have h0:=af (H:=H) (a:=t0) (o:=.tup []);generalize upd H t0 (.tup [])=H1 at s0 h0;unfold Dn;rcases (hd.same s0).look de.n with ⟨f1,g1⟩|⟨th,v1,f1,g1,t1⟩
   ·rw[f1];exact⟨_,g1,_,_,_,_,rfl,iQ.tup h0,rfl,_,rfl,bJ ⟨rfl,s0⟩⟩
   rw[f1];cases th with
   |cn ld lt sl tn =>
    obtain⟨pt,rfl,Oo⟩:=t1;exact⟨_,g1,_,_,_,_,rfl,iQ.tup Oo,rfl,_,rfl,bJ ⟨rfl,s0⟩⟩
   |pl ss =>
    obtain⟨l,ys,rfl,hl,g⟩:=t1;refine⟨_,g1,_,_,_,_,rfl,iQ.lst hl,rfl,_,rfl,cY ?_⟩;refine⟨_,rfl,_,rfl,cA (i:=1) (s0 _ _ hp) rfl ⟨d,_,rfl,g1,.inl ⟨l,ys,rfl,.inl (a7.of hl),?_,s0⟩⟩⟩;rw[cj g]
  ·rintro _ H1 ⟨rfl,s1⟩;have sz0:0<=Dn vw de.n:=by
    unfold Dn;split
    ·omega
    ·decide
   have hp1:=s1 _ _ hp;unfold bU at q;refine⟨_,rfl,cA (i:=3) hp1 rfl ?_⟩;tm_up;refine a8 (fun h1=>?_) (fun h1=>?_)
   ·rw[if_pos (V.int.inj (of_decide_eq_true h1))]at q;tm_up;refine⟨by show 4<=sizeLine;decide,fun l hl=>?_⟩;refine⟨_,rfl,cA (i:=3) (aq.upd hl _ _ hp1) rfl ?_⟩;tm_up;obtain⟨m,hm,hm4⟩:=abY (de.pl / 16) (k:=4) (by decide);rw[hm,Int.toNat_natCast]at q;have sl:=aq.upd (o:=.lst [V.int (-1),V.int (-Dn vw de.n-1),V.int (Dn vw de.n+40),V.int (10 ^ 12)]) hl;refine ixL (a7.of af) (n:=m) hm ?_ (q _ (s1.trans sl))
    match m,hm4 with
    |0,_=>rfl
    |1,_=>rfl
    |2,_=>rfl
    |3,_=>rfl
    |m+4,h=>exact absurd h (by omega)
   ·rw[if_neg (fun z=>h1 (decide_eq_true (congrArg V.int z)))]at q;refine⟨_,rfl,cA (i:=3) hp1 rfl ?_⟩;tm_up;exact⟨by omega,q _ s1⟩
inductive tq (vs:List V)(H:Hp)(Q:VK)(E:XK):Prop
 |mk (d:Addr) (v:V) (vw:Vw) (de:De) (fI:vs=[.ref d,v]) (fJ:t5 H d vw) (hI:zR H v de) (kK:adZ de) (sd:(de.wy=.put\/de.wy=.cut\/de.wy=.swap)) (OM:(∀ n ss,(n,Th.pl ss)∈vw->ss.length<=200)) (h6_:∀ H',aq H H'->Q (.str (Dm (qj vw de.wy de.n (bU vw de) de.sg))) H'):tq vs H Q E
theorem DP (T:Txt K w mg t):bE P w K mg base mJ (0+2) t.dj t.nh ["_law_voices","_law_deed"] tq:=by
 have Gj:=Lz (P:=P) (base:=base) T;refine T.gZ.ok i8 (fun vs H Q E h=>?_) (fun cdv A outer s H vs Q E hr h=>?_)
 ·obtain⟨_,_,_,_,rfl,_⟩:=h;rfl
 ·obtain⟨d,v,vw,de,rfl,hd,⟨p,ps,rfl,hp,hps⟩,ok,hwy,ad6,q⟩:=h;refine aQ (ag (adO (i:=2) (j:=3) (k:=4) rfl i8.nd rfl rfl rfl (by decide) (by decide) (by decide) rfl rfl rfl (aa (aB au (pv 1) ai (fun _ _=>rfl)) (aa (aB au (pv 1) ai (fun _ _=>rfl)) (aa (aB au (pv 1) ai (fun _ _=>rfl)) ae))) rfl) (ag (aM (OJ (Fy (jj hr) (pv 3) (pv 0))) (aj (av ax)) az) (ag (aM (cX (bg (aI d7 rfl T.bu br (aa (i6 (jj hr) (pv 0) (pv 3) (fun _ _=>rfl)) (aa (gJ (v:=.ty "list") rfl T.ir ia rfl) ae))))) (aj (av ax)) az) (ag (aL (i:=5) i8.nd rfl (Or.inl rfl) (aF Gj (hr.mono (by decide)) rfl T.Lb T.qE.kp T.zH .nil aO (aa (pv 0) (aa (pv 1) ae)))) (ag (aM (bW (PW.pt (kJ (ar qI (pv 5) ai (aw _)) (jh (ar aaO (pv 5) (bh (du.or (ba.or dw)) (aI (aG.or aH) rfl T.bY bV (aa (i6 (jj hr) (pv 0) (pv 3) (fun _ _=>rfl)) ae)) (fL (uy.or j2) rfl T.Gd Fw (aa (bK (bc.or (aN (ay hr))) (pv 2) ax (aw _)) ae))) (aw _)))))) (aj (av ax)) az) (ag (aL (i:=6) i8.nd rfl (Or.inl rfl) (cI (iP (bK (bc.or (aN (ay hr))) (aI (aG.or aH) rfl T.bY bV (aa (aB au (pv 4) ai (fun _ _=>rfl)) ae)) ai (aw _)) (iP (bK (dc.or c9) (aB au (pv 4) ai (fun _ _=>rfl)) ax rfl) (iP (bK uw ai (aB au (pv 4) ai (fun _ _=>rfl)) (aw _)) (k7 (bK qI (aB au (pv 4) ai (fun _ _=>rfl)) ai (aw _)))))))) (ag (aM (bW (PW.pt (c8 (ar (uv.or (mM (ay hr))) (pv 2) ax (aw _)) (fG (bW (PW.pt (kJ (cX (bg (pv 6))) (jh (bW (PW.pt (c8 (ar (uv.or (mM (ay hr))) (aB au (pv 4) ai (fun _ _=>rfl)) ai (aw _)) (fG (ar (dc.or c9) (aB au (pv 4) ai (fun _ _=>rfl)) ax rfl))))))))))))) (aj (av ax)) az) (aj (av (cI (d5 (bW (PW.pt (c8 (ar (bc.or (aN (ay hr))) (pv 2) ax (aw _)) (fG (ar (bc.or (aN (ay hr))) (aI (aG.or aH) rfl T.bY bV (aa (i6 (jj hr) (pv 0) (pv 3) (fun _ _=>rfl)) ae)) ai (aw _)))))) ax ax))))))))))) ?_;refine⟨_,rfl,cA (i:=0) hp rfl ⟨_,rfl,cA (i:=1) hp rfl ⟨_,rfl,cA (i:=4) hp rfl ⟨_,_,_,rfl,?_⟩⟩⟩⟩;rcases hd.look de.n with ⟨f1,g1⟩|⟨th,v1,f1,g1,t1⟩
  ·rw[lh f1]at q;exact⟨_,rfl,_,rfl,d,_,rfl,g1,_,rfl,cY (q _ (aq.refl _))⟩
  refine⟨_,rfl,_,rfl,d,_,rfl,g1,_,rfl,bJ ?_⟩;refine⟨_,rfl,_,rfl,d,_,rfl,g1,?_⟩;cases th with
  |cn ld lt sl tn =>
   obtain⟨pt,rfl,Oo⟩:=t1;rw[qS f1]at q;exact⟨_,_,_,_,rfl,iQ.tup Oo,rfl,_,rfl,cY (q _ (aq.refl _))⟩
  |pl ss =>
   obtain⟨l,ys,rfl,hl,g⟩:=t1;rw[qT f1]at q;have yl:=cj g;refine⟨_,_,_,_,rfl,iQ.lst hl,rfl,_,rfl,bJ ?_⟩;refine⟨_,rfl,_,rfl,d,_,vw,de,rfl,hd,⟨p,ps,rfl,hp,hps⟩,fun H1 s1=>?_⟩;have hl1:=s1 _ _ hl;have ZA:=s1 _ _ hps;have g2:=SN s1 g1;refine km (decide (bU vw de<0\/(ss.length:Int)+(if de.wy=.put then 1 else 0)<=bU vw de)) ?_ ?_
   ·tm_up;refine a8 (fun h1=>?_) (fun h1=>?_)
    ·rw[decide_eq_true (show bU vw de<0\/_ from .inl (of_decide_eq_true h1))];exact⟨rfl,rfl⟩
    refine⟨_,rfl,_,rfl,_,rfl,d,_,rfl,g2,.inl ⟨l,ys,rfl,.inl (a7.of hl1),?_⟩⟩;tm_up;refine .inl (.inr ⟨_,rfl,?_⟩);tm_up;refine⟨?_,rfl⟩;rw[show decide (V.str de.wy.str=V.str (Str.ofString "put"))=decide (de.wy=.put) from j6 de.wy .put,yl];have h1':¬ bU vw de<0:=fun z=>h1 (decide_eq_true z);refine decide_eq_decide.mpr ?_
    by_cases z:de.wy=.put
    ·rw[decide_eq_true z,if_pos rfl,if_pos z];exact⟨.inr,fun y=>y.resolve_left h1'⟩
    ·rw[decide_eq_false z,if_neg (by decide),if_neg z];exact⟨.inr,fun y=>y.resolve_left h1'⟩
   refine a8 (fun h1=>?_) (fun h1=>?_)
   ·rw[if_pos (of_decide_eq_true h1)]at q;exact q _ s1
   rw[if_neg (fun z=>h1 (decide_eq_true z))]at q;refine zN (.bl (SO de.sg)) ?_ ?_
   ·refine⟨_,rfl,cA (i:=0) ZA rfl (.inr ⟨_,rfl,Nat.le_trans (agn ok.sk) (by decide),?_⟩)⟩;unfold SO;refine .inl ⟨rfl,_,rfl,?_⟩;have e1:decide (V.int (de.sg.1.length:Int)=V.int 1)=decide (de.sg.1.length=1):=decide_eq_decide.mpr ⟨fun z=>by have:=V.int.inj z;omega,fun z=>congrArg V.int (by omega)⟩;rw[e1];cases b1:decide (de.sg.1.length=1) with
    |false=>exact bJ ⟨rfl,rfl⟩
    |true =>
     refine cY ?_;refine⟨_,rfl,cA (i:=0) ZA rfl ?_⟩;tm_up;show(if N6 de.sg.1 "GDRsdr.32" = true then _ else _);cases b2:N6 de.sg.1 "GDRsdr.32" with
     |false=>exact bJ ⟨rfl,rfl⟩
     |true =>
      refine cY ?_;refine⟨_,rfl,cA (i:=1) ZA rfl ?_⟩;tm_up;cases b3:decide (0<=de.sg.2) with
      |false=>exact bJ ⟨rfl,rfl⟩
      |true =>
       refine cY ?_;refine⟨_,rfl,cA (i:=1) ZA rfl ?_⟩;tm_up;exact⟨rfl,rfl⟩
   refine km (decide (de.wy≠.cut/\iC de.sg=false)) ?_ ?_
   ·tm_up;rw[show decide (V.str de.wy.str=V.str (Str.ofString "cut"))=decide (de.wy=.cut) from j6 de.wy .cut]
    by_cases z:de.wy=.cut
    ·rw[decide_eq_true z,decide_eq_false (show ¬(de.wy≠.cut/\iC de.sg=false) from fun y=>y.1 z)];exact bJ ⟨rfl,rfl⟩
    rw[decide_eq_false z];refine cY ?_;refine km (!iC de.sg) ?_ ?_
    ·rw[<-Zq ok.sk];refine⟨_,rfl,_,rfl,?_⟩;cases b1:SO de.sg with
     |false=>exact cY ⟨rfl,rfl⟩
     |true =>
      refine bJ ?_;refine km (!decide (de.sg.2=0)&&N6 de.sg.1 "Rr.32") ?_ ⟨rfl,rfl⟩;refine⟨_,rfl,cA (i:=1) ZA rfl ?_⟩;tm_up;have e1:decide (V.int de.sg.2=V.int 0)=decide (de.sg.2=0):=decide_eq_decide.mpr ⟨fun z=>V.int.inj z,fun z=>congrArg V.int z⟩;rw[e1];cases b2:decide (de.sg.2=0) with
      |true=>exact bJ ⟨rfl,rfl⟩
      |false =>
       refine cY ?_;refine⟨_,rfl,cA (i:=0) ZA rfl ?_⟩;tm_up;exact⟨rfl,rfl⟩
    ·refine⟨?_,rfl⟩;cases hg:iC de.sg with
     |true=>exact(decide_eq_false (fun y=>nomatch y.2)).symm
     |false=>exact(decide_eq_true (show de.wy≠.cut/\_ from⟨z,rfl⟩)).symm
   refine a8 (fun h2=>?_) (fun h2=>?_)
   ·rw[if_pos (of_decide_eq_true h2)]at q;exact q _ s1
   rw[if_neg (fun z=>h2 (decide_eq_true z))]at q;refine zN (.str (Dm (if de.wy=.put/\200<=ss.length then some .Full else none))) ?_ (q _ s1);refine km (decide (de.wy=.put/\200<=ss.length)) ?_ ?_
   ·tm_up;rw[show decide (V.str de.wy.str=V.str (Str.ofString "put"))=decide (de.wy=.put) from j6 de.wy .put]
    by_cases z:de.wy=.put
    ·rw[decide_eq_true z];refine cY ?_;refine⟨_,rfl,_,rfl,d,_,rfl,g2,.inl ⟨l,ys,rfl,.inl (a7.of hl1),?_⟩⟩;tm_up;refine⟨decide_eq_decide.mpr ⟨fun y=>⟨z,?_⟩,fun y=>congrArg V.int ?_⟩,rfl⟩
     ·have:=V.int.inj y;omega
     ·have h2:=ad6 _ _ (dg f1);have:=y.2;omega
    ·rw[decide_eq_false z,decide_eq_false (fun y=>z y.1)];exact bJ ⟨rfl,rfl⟩
   by_cases z:de.wy=.put/\200<=ss.length
   ·rw[decide_eq_true z,if_pos z];exact cY ⟨rfl,rfl⟩
   ·rw[decide_eq_false z,if_neg z];exact bJ ⟨rfl,rfl⟩
theorem va {st:Std}{d:De}{a:Int}(h:d.wy=.put\/d.wy=.cut\/d.wy=.swap):ig st d a=qj st.vw d.wy d.n a d.sg:=by
 unfold ig;rcases h with h|h|h <;> rw[h]
theorem YE (o:Option Rf):(decide (V.str (Dm o)=V.str (Str.ofString "")))=o.isNone:=by
 cases o with
 |none=>decide +kernel
 |some r=>cases r <;> decide +kernel
theorem ach {H:Hp}{xs:List V}{ws:List Vw}(h:Paired (DvR H) xs ws):xs.isEmpty=decide (ws=[]):=by
 cases h with
 |nil=>rfl
 |cons _ _=>exact(decide_eq_false (fun z=>nomatch z)).symm
inductive DQ (vs:List V)(H:Hp)(Q:VK)(E:XK):Prop
 |mk (v1 v2:V) (st:Std) (de:De) (fI:vs=[v1,v2]) (fJ:KU H v1 st) (hI:zR H v2 de) (kK:adZ de) (sd:xk st.vw) (OM:∀ H',aq H H'->Q (.str (Dm (ig st de (bU st.vw de)))) H'):DQ vs H Q E
theorem Pu (T:Txt K w mg t):bE P w K mg base mJ (0+3) t.jr t.xJ ["_law_stand","_law_deed"] DQ:=by
 have Gk:=DO (P:=P) (base:=base) T;have DR:=AY (P:=P) (base:=base) T;have Gm:=DP (P:=P) (base:=base) T;refine T.oV.ok qk (fun vs H Q E h=>?_) (fun cdv A outer s H vs Q E hr h=>?_)
 ·obtain⟨_,_,_,_,rfl,_⟩:=h;rfl
 ·obtain⟨v1,v2,st,de,rfl,⟨p,d,a,b,xs,ys,rfl,hp,hd,ha,px,hb,py⟩,hde,ok,w,q⟩:=h;obtain⟨p2,ps2,rfl,hp2,V6⟩:=id hde;refine aQ (ag (aL (i:=2) qk.nd rfl (Or.inr rfl) (aB au (pv 0) ai (fun _ _=>rfl))) (ag (aM (ar (bc.or (aN (ay hr))) (aB au (pv 1) ai (fun _ _=>rfl)) ax (aw _)) (aj (av (cI (d5 (ar (Kt (ay hr)) (aB au (pv 0) ai (fun _ _=>rfl)) (bx ae) (aw _)) ax ax)))) az) (ag (aM (ar (bc.or (aN (ay hr))) (aB au (pv 1) ai (fun _ _=>rfl)) ax (aw _)) (aj (av (cI (d5 (ar (Kt (ay hr)) (aB au (pv 0) ai (fun _ _=>rfl)) (bx ae) (aw _)) ax ax)))) az) (ag (aM (ar (bc.or (aN (ay hr))) (aB au (pv 1) ai (fun _ _=>rfl)) ax (aw _)) (ag (aM (OJ (Fy (jj hr) (aB au (pv 1) ai (fun _ _=>rfl)) (pv 2))) (aj (av ax)) az) (ag (Vd (i:=3) qk.nd rfl rfl (cn:=["_law_name"]) rfl (h8.of rfl) (jA (fL vz rfl T.ir ia (aa (pv 2) ae))) (fun _=>(aZ (i:=0) K0 rfl (Or.inl rfl))) (fun _=>(afS (bW (PW.pt (c8 (bg (aI d7 rfl T.bu br (aa (i6 (jj hr) (pv 3) (pv 0) (fun _ _=>rfl)) (aa (gJ (v:=.ty "tuple") rfl T.Lh Kr rfl) ae)))) (fG (ar (bc.or (aN (ay hr))) (aB au (i6 (jj hr) (pv 3) (pv 0) (fun _ _=>rfl)) ai (fun _ _=>rfl)) (aB au (pv 2) ai (fun _ _=>rfl)) (aw _)))))))) (fun _=>(pv 0))) (aj (av (cI (d5 (ar (Kt (ay hr)) (pv 3) (bx ae) (aw _)) ax ax)))))) az) (ag (aM (ar (dc.or c9) (aB au (pv 1) ai (fun _ _=>rfl)) (bx (aa ax (aa ax (aa ax ae)))) rfl) (aj (av (aF Gm (hr.mono (by decide)) rfl T.DA T.gZ.kp T.nH .nil aO (aa (pv 2) (aa (pv 1) ae))))) az) (ag (aL (i:=4) qk.nd rfl (Or.inl rfl) (aF Gk (hr.mono (by decide)) rfl T.Dz T.gY.kp T.nG .nil aO (aa (pv 2) (aa (aB au (pv 1) ai (fun _ _=>rfl)) ae)))) (ag (aM (bW (PW.pt (kJ (ar (uv.or (mM (ay hr))) (pv 4) ax (aw _)) (jh (ar (bc.or (aN (ay hr))) (aB au (pv 1) ai (fun _ _=>rfl)) ax (aw _)))))) (aj (av (pv 4))) az) (aj (av (aF DR (hr.mono (by decide)) rfl T.AO T.f7.kp T.lH .nil aO (aa (pv 2) (aa (pv 1) ae)))))))))))) ?_;have wl:=w.len;refine⟨_,rfl,cA (i:=0) hp rfl ?_⟩;refine⟨_,rfl,cA (i:=0) hp2 rfl ?_⟩;tm_up;rw[show decide (V.str de.wy.str=V.str (Str.ofString "undo"))=decide (de.wy=.undo) from j6 de.wy .undo]
  by_cases z1:de.wy=.undo
  ·rw[decide_eq_true z1];refine cY ?_;have e0:ig st de (bU st.vw de)=if st.ps=[] then some .mU else none:=by unfold ig;rw[z1]
   rw[e0]at q;refine⟨fun v H'=>v=.str (Dm (if st.ps=[] then some .mU else none))/\aq H H',?_,fun v H' ⟨e1,e2⟩=>by rw[e1];exact q _ e2⟩;refine⟨_,rfl,cA (i:=1) hp rfl ?_⟩;refine⟨big (by show 0<=1000;omega),fun e1 he1=>?_⟩;have s0:=aq.upd (o:=.lst []) he1;refine⟨a,e1,xs,rfl,rfl,a7.of (s0 _ _ ha),a7.of af,_,rfl,?_⟩;rw[ach px]
   by_cases zz:st.ps=[]
   ·rw[decide_eq_true zz,if_pos zz];exact cY ⟨rfl,s0⟩
   ·rw[decide_eq_false zz,if_neg zz];exact bJ ⟨rfl,s0⟩
  rw[decide_eq_false z1];refine bJ ?_;refine⟨_,rfl,cA (i:=0) hp2 rfl ?_⟩;tm_up;rw[show decide (V.str de.wy.str=V.str (Str.ofString "redo"))=decide (de.wy=.zQ) from j6 de.wy .zQ]
  by_cases z2:de.wy=.zQ
  ·rw[decide_eq_true z2];refine cY ?_;have e0:ig st de (bU st.vw de)=if st.fs=[] then some .mU else none:=by unfold ig;rw[z2]
   rw[e0]at q;refine⟨fun v H'=>v=.str (Dm (if st.fs=[] then some .mU else none))/\aq H H',?_,fun v H' ⟨e1,e2⟩=>by rw[e1];exact q _ e2⟩;refine⟨_,rfl,cA (i:=2) hp rfl ?_⟩;refine⟨big (by show 0<=1000;omega),fun e1 he1=>?_⟩;have s0:=aq.upd (o:=.lst []) he1;refine⟨b,e1,ys,rfl,rfl,a7.of (s0 _ _ hb),a7.of af,_,rfl,?_⟩;rw[ach py]
   by_cases zz:st.fs=[]
   ·rw[decide_eq_true zz,if_pos zz];exact cY ⟨rfl,s0⟩
   ·rw[decide_eq_false zz,if_neg zz];exact bJ ⟨rfl,s0⟩
  rw[decide_eq_false z2];refine bJ ?_;refine⟨_,rfl,cA (i:=0) hp2 rfl ?_⟩;tm_up;rw[show decide (V.str de.wy.str=V.str (Str.ofString "drop"))=decide (de.wy=.drop) from j6 de.wy .drop]
  by_cases z3:de.wy=.drop
  ·rw[decide_eq_true z3];refine cY ?_;have e0:ig st de (bU st.vw de)=oB st.vw de.n:=by unfold ig;rw[z3]
   rw[e0]at q;unfold oB at q;refine⟨_,rfl,cA (i:=1) hp2 rfl ?_⟩;rcases hd.look de.n with ⟨f1,g1⟩|⟨th,v1,f1,g1,t1⟩
   ·rw[f1]at q;exact⟨_,rfl,d,_,rfl,g1,_,rfl,cY (q _ (aq.refl _))⟩
   rw[f1]at q;refine⟨_,rfl,d,_,rfl,g1,_,rfl,bJ ?_⟩;obtain⟨kvs,hk,ek⟩:=hd.keys;refine⟨_,rfl,rfl,d,kvs,rfl,.inl hk,fun l0 hl0=>?_⟩;rw[ek];have s1:=aq.upd (o:=.lst (st.vw.map fun q=>V.str q.1)) hl0;have h1:=af (H:=H) (a:=l0) (o:=.lst (st.vw.map fun q=>V.str q.1));generalize upd H l0 (.lst (st.vw.map fun q=>V.str q.1))=H1 at s1 h1;refine⟨l0,rfl,⟨_,a7.of h1⟩,fun D b0 hD=>?_⟩;refine mO (K:=K) (xs:=st.vw.map fun q=>V.str q.1) (fun i zs σ H'=>∃ v,σ=[v,some (.ref p),some (.ref p2),some (.ref d),none,none]/\aq H1 H'/\H' D=some (.lst zs)/\zs=((st.vw.take i).filter (qP de.n)).map fun q=>V.str q.1) ⟨none,rfl,aq.upd hD,af,rfl⟩ ?_ ?_ ?_
   ·rintro i zs σ H' ⟨v,rfl,s2,_⟩;exact a7.of (s2 _ _ h1)
   ·rintro i zs y σ H' hy ⟨v,rfl,s2,hDl,rfl⟩ N hN;obtain⟨⟨m,th⟩,hq,rfl⟩:∃ qn,st.vw[i]? = some qn/\y=.str qn.1:=by
     rw[getElem?_map]at hy;cases e:st.vw[i]? with
     |none=>rw[e]at hy;cases hy
     |some z=>rw[e]at hy;exact⟨z,rfl,(Option.some.inj hy).symm⟩
    have hm:=mem_of_getElem? hq;have hi:i<st.vw.length:=(List.getElem?_eq_some_iff.mp hq).1;have s12:=s1.trans s2;obtain⟨v',g',t'⟩:=(hd.same s12).get (w.find hm);unfold Sk;refine km (qP de.n (m,th)) ?_ ?_
    ·refine⟨_,rfl,_,rfl,d,_,rfl,g',?_⟩;cases th with
     |pl ss =>
      obtain⟨l,zs,rfl,hl,_⟩:=t';exact⟨_,_,_,_,rfl,iQ.lst hl,rfl,_,rfl,bJ ⟨rfl,rfl⟩⟩
     |cn ld lt sl tn =>
      obtain⟨pt,rfl,Oo⟩:=t';refine⟨_,_,_,_,rfl,iQ.tup Oo,rfl,_,rfl,cY ?_⟩;refine⟨_,rfl,_,rfl,d,_,rfl,g',cA (i:=0) Oo rfl ?_⟩;refine⟨_,rfl,cA (i:=1) (s12 _ _ hp2) rfl ?_⟩;refine .inl ⟨rfl,_,rfl,?_,rfl⟩;exact decide_eq_decide.mpr ⟨fun z=>V.str.inj z,fun z=>congrArg V.str z⟩
    have e4:(st.vw.take (i+1)).filter (qP de.n)=(st.vw.take i).filter (qP de.n)++(if qP de.n (m,th)=true then [(m,th)] else []):=by
     rw[take_succ,hq,List.filter_append]
     congr 1
     show List.filter _ [(m,th)]=_;cases hb3:qP de.n (m,th) with
     |true=>rw[List.filter_cons_of_pos hb3];rfl
     |false=>rw[List.filter_cons_of_neg (by rw[hb3];decide)];rfl
    cases hb2:qP de.n (m,th) with
    |true =>
     rw[hb2,if_pos rfl]at e4;refine cY ⟨_,rfl,hDl,?_,hN _ _ _ ⟨_,rfl,fS s2 hD,af,?_⟩⟩
     ·rw[length_map];refine a6 (Nat.le_trans (List.length_filter_le _ _) ?_);rw[length_take];omega
     ·rw[e4,map_append];rfl
    |false =>
     rw[hb2,if_neg (by decide),append_nil]at e4;exact bJ (hN _ _ _ ⟨_,rfl,s2,hDl,by rw[e4]⟩)
   ·rintro zs σ H' ⟨v,rfl,s2,hDl,rfl⟩;rw[length_map,take_length]at hDl;refine⟨fun v JF=>v=.str (Dm (if leans st.vw de.n=true then some .AA else none))/\aq H' JF,?_,fun v JF ⟨e1,e2⟩=>by rw[e1];exact q _ ((s1.trans s2).trans e2)⟩;refine⟨_,rfl,big (by show 0<=1000;omega),fun e1 he1=>?_⟩;have s0:=aq.upd (o:=.lst []) he1;refine⟨D,e1,_,rfl,rfl,a7.of (s0 _ _ hDl),a7.of af,_,rfl,?_⟩;have e5:(((st.vw.filter (qP de.n)).map fun q=>V.str q.1).isEmpty=true) ↔ leans st.vw de.n=false:=by
     rw[List.isEmpty_iff,List.map_eq_nil_iff,List.filter_eq_nil_iff];exact⟨fun z=>List.any_eq_false.mpr z,fun z=>List.any_eq_false.mp z⟩
    refine a8 (fun z=>?_) (fun z=>?_)
    ·rw[e5.mp z];exact⟨rfl,s0⟩
    ·cases zl:leans st.vw de.n with
     |false=>exact absurd (e5.mpr zl) z
     |true=>exact⟨rfl,s0⟩
  rw[decide_eq_false z3];refine bJ ?_;refine⟨_,rfl,cA (i:=0) hp2 rfl ?_⟩;refine⟨big (by show 3<=1000;omega),fun l0 hl0=>?_⟩;have s1:=aq.upd (o:=.lst [V.str "put",V.str "cut",V.str "swap"]) hl0;have h1:=af (H:=H) (a:=l0) (o:=.lst [V.str "put",V.str "cut",V.str "swap"]);generalize upd H l0 (.lst [V.str "put",V.str "cut",V.str "swap"])=H1 at s1 h1;refine .inl ⟨l0,_,rfl,.inl (a7.of h1),rfl,rfl,_,rfl,?_⟩;have hd1:=hd.same s1;have ait:=hde.same s1;have aiu:=s1 _ _ hp2;rw[show inV (V.str de.wy.str) [V.str "put",V.str "cut",V.str "swap"]=decide (de.wy=.put\/de.wy=.cut\/de.wy=.swap) by cases de.wy <;> decide +kernel]
  by_cases z4:de.wy=.put\/de.wy=.cut\/de.wy=.swap
  ·rw[decide_eq_true z4];refine cY ?_;rw[va z4]at q;refine⟨_,rfl,_,rfl,d,_,st.vw,de,rfl,hd1,ait,ok,z4,fun n ss hm=>(w.gd n ss hm).1,fun H2 s2=>q _ (s1.trans s2)⟩
  rw[decide_eq_false z4];refine bJ ?_;refine⟨_,rfl,_,rfl,cA (i:=1) aiu rfl ?_⟩;refine⟨d,st.vw,de.n,rfl,hd1,ok.nl,wl,?_⟩;have z5:de.wy=.add\/de.wy=.canon:=by
   cases hw:de.wy with
   |put=>exact absurd (.inl hw) z4
   |cut=>exact absurd (.inr (.inl hw)) z4
   |swap=>exact absurd (.inr (.inr hw)) z4
   |add=>exact .inl rfl
   |canon=>exact .inr rfl
   |drop=>exact absurd hw z3
   |undo=>exact absurd hw z1
   |zQ=>exact absurd hw z2
  refine km (!(b9 st.vw de.n).isNone||decide (de.wy=.add)) ?_ ?_
  ·tm_up;rw[YE];cases hn:(b9 st.vw de.n).isNone with
   |false=>exact cY ⟨rfl,rfl⟩
   |true =>
    refine bJ ?_;refine⟨_,rfl,cA (i:=0) aiu rfl ?_⟩;tm_up;exact⟨j6 de.wy .add,rfl⟩
  cases hn:b9 st.vw de.n with
  |some r =>
   have e0:ig st de (bU st.vw de)=some r:=by
    unfold ig;rcases z5 with z|z <;> rw[z]
    ·exact hn
    ·show(match b9 st.vw de.n with|some r=>some r|none=>_)=_;rw[hn]
   rw[e0]at q;exact cY ⟨_,rfl,q _ s1⟩
  |none =>
   rcases z5 with z|z
   ·have e0:ig st de (bU st.vw de)=none:=by
     unfold ig;rw[z];exact hn
    rw[e0]at q;rw[decide_eq_true z];exact cY ⟨_,rfl,q _ s1⟩
   ·have e0:ig st de (bU st.vw de)=gS st.vw de.ld de.lt de.sl:=by
     unfold ig;rw[z];show(match b9 st.vw de.n with|some r=>some r|none=>_)=_;rw[hn]
    rw[e0]at q;rw[decide_eq_false (show ¬ de.wy=.add by rw[z];decide)];exact bJ ⟨_,rfl,_,rfl,d,_,st.vw,de,rfl,hd1,ait,q _ s1⟩
def yh (ns:List Int)(k:Nat):Int:=ns.getD k 0
inductive DS (K:Frag)(vs:List V)(H:Hp)(Q:VK)(E:XK):Prop
 |mk (a:Addr) (ns:List Int) (k:Nat) (fI:vs=[.ref a,.int (k:Int)]) (fJ:a7 K H a (ns.map V.int)) (hI:ns.length<=63) (kK:Q (.int (yh ns k)) H):DS K vs H Q E
theorem Pw (T:Txt K w mg t):bE P w K mg base mJ (0+1) t.js t.xK ["_law_script","_law_k"] (DS K):=by
 refine T.cz.ok O7 (fun vs H Q E h=>?_) (fun cdv A outer s H vs Q E hr h=>?_)
 ·obtain⟨a,ns,k,rfl,_⟩:=h;rfl
 ·obtain⟨a,ns,k,rfl,hS,hl,q⟩:=h;refine aQ (ag (aM (ar qI (pv 1) (aI (Y2 rfl) rfl T.agq afU (aa ai (aa (aI (aG.or aH) rfl T.bY bV (aa (pv 0) ae)) ae))) (aw _)) (aj (av (aB au (pv 0) (pv 1) (fun _ _=>rfl)))) az) (aj (av ai))) ?_;refine⟨_,rfl,_,rfl,.inl ⟨_,_,rfl,.inl hS,_,_,rfl,_,_,rfl,rfl,_,rfl,?_⟩⟩;rw[length_map];refine a8 (fun h=>?_) (fun h=>?_)
  ·have hk:k<ns.length:=by
    have:=of_decide_eq_true h;split at this <;> omega
   have e:(ns.map V.int)[k]? = some (V.int (yh ns k)):=by
    rw[getElem?_map,getElem?_eq_getElem hk];unfold yh;rw[List.getD_eq_getElem?_getD,getElem?_eq_getElem hk];rfl
   exact⟨_,rfl,_,rfl,.inl ⟨_,_,_,_,rfl,rfl,hS,J9 e,q⟩⟩
  ·have hk:ns.length<=k:=by
    have h':¬((k:Int)<if(ns.length:Int)<63 then(ns.length:Int) else 63):=fun z=>h (decide_eq_true z);split at h' <;> omega
   have e:yh ns k=0:=by
    unfold yh;rw[List.getD_eq_getElem?_getD,List.getElem?_eq_none hk];rfl
   rw[e]at q;exact q
inductive vb (K:Frag)(vs:List V)(H:Hp)(Q:VK)(E:XK):Prop
 |mk (l:Addr) (v:V) (ys:List V) (ss:List Sg) (de:De) (i:Nat) (fI:vs=[.ref l,v,.int (i:Int)]) (fJ:H l=some (.lst ys)) (hI:mQ H ys ss) (kK:ss.length<=200) (sd:zR H v de) (OM:(de.wy=.put\/de.wy=.cut\/de.wy=.swap)) (h6_:(de.wy≠.cut->iC de.sg=true)) (h7_:i<=ss.length) (h8_:(de.wy≠.put->i<ss.length)) (h9_:∀(l':Addr)(ys':List V)(H':Hp),H l'=none->aq H H'->H' l'=some (.lst ys')->mQ H' ys' (fU ss de.wy de.sg i)->Q (.ref l') H'):vb K vs H Q E
theorem Gn (T:Txt K w mg t):bE P w K mg base mJ (0+1) t.dX t.pq ["_law_line","_law_deed","_law_at"] (vb K):=by
 refine T.iE.ok FJ (fun vs H Q E h=>?_) (fun cdv A outer s H vs Q E hr h=>?_)
 ·obtain⟨_,_,_,_,_,_,rfl,_⟩:=h;rfl
 ·obtain⟨l,v,ys,ss,de,i,rfl,hl,g,ad6,hde,hwy,hgd,hi,hi2,q⟩:=h;obtain⟨p2,ps2,rfl,hp2,V6⟩:=id hde;refine aQ (ag (aM (ar (bc.or (aN (ay hr))) (aB au (pv 1) ai (fun _ _=>rfl)) ax (aw _)) (aj (av (bh (du.or (ba.or dw)) (uz (zt.or (Fu.or Fv)) (pv 0) zr (oz (pv 2))) (uz (zt.or (Fu.or Fv)) (pv 0) (oz (bh (du.or (ba.or dw)) (pv 2) ai)) zr)))) az) (aj (av (bh (du.or (ba.or dw)) (bh (du.or (ba.or dw)) (uz (zt.or (Fu.or Fv)) (pv 0) zr (oz (pv 2))) (bx (aa (aB au (pv 1) ai (fun _ _=>rfl)) ae))) (uz (zt.or (Fu.or Fv)) (pv 0) (oz (bh (du.or (ba.or dw)) (pv 2) (fL (uy.or j2) rfl T.Gd Fw (aa (bK (bc.or (aN (ay hr))) (aB au (pv 1) ai (fun _ _=>rfl)) ax (aw _)) ae)))) zr))))) ?_;have yl:=cj g;refine⟨_,rfl,cA (i:=0) hp2 rfl ?_⟩;tm_up;rw[show decide (V.str de.wy.str=V.str (Str.ofString "cut"))=decide (de.wy=.cut) from j6 de.wy .cut]
  by_cases z1:de.wy=.cut
  ·rw[decide_eq_true z1];refine cY ?_;have hi3:=hi2 (by rw[z1];decide);refine⟨_,rfl,_,rfl,i,rfl,.inl ⟨l,ys,rfl,a7.of hl,fun c1 hc1=>?_⟩⟩;rw[afc];have S1:=aq.upd (o:=.lst (ys.take i)) hc1;have k1:=af (H:=H) (a:=c1) (o:=.lst (ys.take i));generalize upd H c1 (.lst (ys.take i))=H15 at S1 k1;refine⟨_,rfl,_,rfl,.inl ⟨_,_,rfl,rfl,_,rfl,.inl ⟨l,ys,rfl,a7.of (S1 _ _ hl),fun c4 hc4=>?_⟩⟩⟩;rw[show C5 ys (some ((i:Int)+1)) none=ys.drop (i+1) from Yv ys (i+1) (by omega)];have S4:=aq.upd (o:=.lst (ys.drop (i+1))) hc4;have k4:=af (H:=H15) (a:=c4) (o:=.lst (ys.drop (i+1)));generalize upd H15 c4 (.lst (ys.drop (i+1)))=H16 at S4 k4;refine .inr (.inr ⟨c1,c4,_,_,rfl,rfl,S4 _ _ k1,k4,?_,fun c5 hc5=>?_⟩)
   ·exact big (by simp only [length_take,length_drop];omega)
   have S5:=aq.upd (o:=.lst (ys.take i++ys.drop (i+1))) hc5;have SS:=(S1.trans S4).trans S5;refine q c5 _ _ ((S1.trans S4).free hc5) SS af (mQ.same SS ?_);unfold fU;rw[z1];show mQ H _ (ss.take i++[]++ss.drop (i+1));rw[append_nil];exact Jw (IV i g) (IU (i+1) g)
  ·rw[decide_eq_false z1];refine bJ ?_;refine⟨_,rfl,_,rfl,i,rfl,.inl ⟨l,ys,rfl,a7.of hl,fun c1 hc1=>?_⟩⟩;rw[afc];have S1:=aq.upd (o:=.lst (ys.take i)) hc1;have k1:=af (H:=H) (a:=c1) (o:=.lst (ys.take i));generalize upd H c1 (.lst (ys.take i))=H13 at S1 k1;refine⟨_,rfl,cA (i:=4) (S1 _ _ hp2) rfl ?_⟩;refine⟨big (by show 1<=1000;omega),fun c2 hc2=>?_⟩;have S2:=aq.upd (o:=.lst [V.ref ps2]) hc2;have k2:=af (H:=H13) (a:=c2) (o:=.lst [V.ref ps2]);generalize upd H13 c2 (.lst [V.ref ps2])=H14 at S2 k2;refine .inr (.inr ⟨c1,c2,_,_,rfl,rfl,S2 _ _ k1,k2,?_,fun c3 hc3=>?_⟩)
   ·exact big (by rw[length_take];show _+1<=1000;omega)
   have S3':=aq.upd (o:=.lst (ys.take i++[V.ref ps2])) hc3;have k3:=af (H:=H14) (a:=c3) (o:=.lst (ys.take i++[V.ref ps2]));generalize upd H14 c3 (.lst (ys.take i++[V.ref ps2]))=H15 at S3' k3;have SS:=(S1.trans S2).trans S3';have g15:=g.same SS;obtain⟨es1,es2,_⟩:=ab4 (hgd z1);have akI:Sw H15 (.ref ps2) (KS de.sg):=⟨ps2,rfl,by rw[es1,es2];exact SS _ _ V6⟩;refine⟨_,rfl,_,rfl,_,rfl,cA (i:=0) (SS _ _ hp2) rfl ?_⟩;tm_up;refine .inl (.inr ⟨_,rfl,?_⟩);rw[show decide (V.str de.wy.str=V.str (Str.ofString "swap"))=decide (de.wy=.swap) from j6 de.wy .swap];obtain⟨k,hk,hkb,hki⟩:∃ k:Nat,((i:Int)+(if decide (de.wy=.swap)=true then 1 else 0))=((i+k:Nat):Int)/\fU ss de.wy de.sg i=ss.take i++[KS de.sg]++ss.drop (i+k)/\i+k<=ss.length:=by
    by_cases z2:de.wy=.swap
    ·refine⟨1,by rw[decide_eq_true z2,if_pos rfl];omega,by unfold fU;rw[z2],hi2 (by rw[z2];decide)⟩
    ·have z3:de.wy=.put:=by rcases hwy with z|z|z;exact z;exact absurd z z1;exact absurd z z2
     refine⟨0,by rw[decide_eq_false z2,if_neg (by decide)];omega,by unfold fU;rw[z3];rfl,hi⟩
   rw[hkb]at q;refine .inl ⟨_,_,rfl,rfl,_,rfl,.inl ⟨l,ys,rfl,a7.of (SS _ _ hl),fun c4 hc4=>?_⟩⟩;rw[show C5 ys (some ((i:Int)+(if decide (de.wy=.swap)=true then 1 else 0))) none=ys.drop (i+k) by rw[hk];exact Yv ys (i+k) (by omega)];have S4:=aq.upd (o:=.lst (ys.drop (i+k))) hc4;have k4:=af (H:=H15) (a:=c4) (o:=.lst (ys.drop (i+k)));generalize upd H15 c4 (.lst (ys.drop (i+k)))=H16 at S4 k4;refine .inr (.inr ⟨c3,c4,_,_,rfl,rfl,S4 _ _ k3,k4,?_,fun c5 hc5=>?_⟩)
   ·exact big (by simp only [length_append,length_take,length_drop,List.length_singleton];omega)
   have S5:=aq.upd (o:=.lst (ys.take i++[V.ref ps2]++ys.drop (i+k))) hc5;exact q c5 _ _ ((SS.trans S4).free hc5) ((SS.trans S4).trans S5) af (mQ.same (S4.trans S5) (Jw (Jw (IV i g15) (.cons akI .nil)) (IU (i+k) g15)))
structure Bw (c:Cs)(H0 H:Hp)(x:Addr)(own:List Addr)(vw:Vw)(ps fs:List Vw):Prop where
 ex:∃ F,xE c H x F vw ps fs/\(∀ y,F y->∃ xs,H y=some (.lst xs))/\(∀ y,F y->H0 y=none)/\∀ a∈own,¬ F a/\∃ o,H a=some o
 sm:aq H0 H
section
variable {c:Cs} {H0 H H' H1:Hp} {x:Addr} {own:List Addr} {vw vw':Vw} {ps ps' fs fs':List Vw} {F F':Addr->Prop}
theorem Bw.mk' (b:xE c H' x F' vw' ps' fs')(sm:aq H0 H)(hF:∀ y,F y->∃ xs,H y=some (.lst xs))(h0:∀ y,F y->H0 y=none)(ho:∀ a∈own,¬ F a/\∃ o,H a=some o)(g:Gr F F' H)(fr:Fr F H H'):Bw c H0 H' x own vw' ps' fs'/\aiq own H H':=by
 obtain⟨F0,h1,h2,b0⟩:=b.aip;refine⟨⟨⟨F0,b0,h2,fun y z=>?_,fun a ha=>?_⟩,fun y o e=>fr y o (sm y o e) fun z=>?_⟩,fun y o e k=>fr y o e fun z=>?_⟩
 ·rcases g y (h1 y z) with q|q
  ·exact h0 y q
  ·exact sm.free q
 ·obtain⟨n,o,e⟩:=ho a ha;refine⟨fun z=>?_,o,fr a o e n⟩;rcases g a (h1 a z) with q|q
  ·exact n q
  ·rw[e]at q;cases q
 ·rw[h0 y z]at e;cases e
 ·rcases k with k|k
  ·obtain⟨xs,q⟩:=hF y z;rw[e]at q;cases q;exact k _ rfl
  ·exact(ho y k).1 z
theorem Bw.same (h:Bw c H0 H x own vw ps fs)(s:aq H H'):Bw c H0 H' x own vw ps fs:=by
 obtain⟨F,b,hF,h0,ho⟩:=h.ex;exact⟨⟨F,b.same s,fun y z=>let ⟨xs,e⟩:=hF y z;⟨xs,s _ _ e⟩,h0,fun a ha=>⟨(ho a ha).1,let ⟨o,e⟩:=(ho a ha).2;⟨o,s _ _ e⟩⟩⟩,h.sm.trans s⟩
theorem Bw.add (h:Bw c H0 H x own vw ps fs)(s:aq H H'){l:Addr}(n:H l=none){o:HO}(e:H' l=some o):Bw c H0 H' x (l::own) vw ps fs:=by
 obtain⟨F,b,hF,h0,ho⟩:=h.ex;refine⟨⟨F,b.same s,fun y z=>let ⟨xs,e⟩:=hF y z;⟨xs,s _ _ e⟩,h0,fun a ha=>?_⟩,h.sm.trans s⟩;rcases List.mem_cons.mp ha with rfl|ha
 ·refine⟨fun z=>?_,o,e⟩;obtain⟨xs,q⟩:=hF _ z;rw[n]at q;cases q
 ·exact⟨(ho a ha).1,let ⟨o,e⟩:=(ho a ha).2;⟨o,s _ _ e⟩⟩
theorem Bw.wv (h:Bw c H0 H x own vw ps fs):xk vw:=by
 obtain⟨F,b,_⟩:=h.ex;exact b.wv vw (.inr (.inl rfl))
theorem Bw.hx (h:Bw c H0 H x own vw ps fs):∃ dx L D U,H x=some (.ins c.B dx (Az L D U)):=by
 obtain⟨F,b,_⟩:=h.ex;obtain⟨L,D,U,all,M,Ps,Fs,es,us,b,_⟩:=b.ex;obtain⟨dx,e⟩:=b.hx;exact⟨dx,L,D,U,e⟩
theorem Bw.new {dx L D U:Addr}(hx:H' x=some (.ins c.B dx (Az L D U)))(hL:H' L=some (.lst []))(hD:H' D=some (.lst []))(hU:H' U=some (.lst []))(LD:L≠D)(LU:L≠U)(DU:D≠U)(s:aq H H')(nL:H L=none)(nD:H D=none)(nU:H U=none):Bw c H H' x [] [] [] []:=by
 refine⟨⟨_,Bk.new hx hL hD hU LD LU DU,fun y hy=>?_,fun y hy=>?_,fun a ha=>nomatch ha⟩,s⟩
 ·rcases hy with rfl|rfl|rfl
  ·exact⟨_,hL⟩
  ·exact⟨_,hD⟩
  ·exact⟨_,hU⟩
 ·rcases hy with rfl|rfl|rfl
  ·exact nL
  ·exact nD
  ·exact nU
end
def mix (H0 H H':Hp):Hp:=fun y=>match H y with
 |none=>H' y
 |some (.lst _)=>H0 y
 |some o=>some o
section
variable {H0 H H' JF:Hp}
theorem Ki (s:aq H0 H):aq H0 (mix H0 H H'):=fun y o e=>by
 unfold mix;rw[s _ _ e];cases o with
 |lst xs=>exact e
 |_=>rfl
theorem jN {y:Addr}{o:HO}(n:H y=none)(e:H' y=some o):mix H0 H H' y=some o:=by
 unfold mix;rw[n];exact e
theorem zJ (s:aq H H'){y:Addr}{o:HO}(e:H' y=some o)(k:∀ xs,o≠.lst xs):mix H0 H H' y=some o:=by
 unfold mix;cases h:H y with
 |none=>exact e
 |some u =>
  have:o=u:=Option.some.inj (e.symm.trans (s _ _ h));subst this;cases o with
  |lst xs=>exact absurd rfl (k xs)
  |_=>rfl
theorem ad8 (s0:aq H0 H)(s:aq H H'):aq (mix H0 H H') H':=fun y o e=>by
 unfold mix at e;cases h:H y with
 |none=>rw[h]at e;exact e
 |some u =>
  rw[h]at e;cases u with
  |lst xs=>exact s _ _ (s0 _ _ e)
  |_=>exact(s _ _ h).trans e
theorem aci (s:aq H' JF):aq (mix H0 H H') (mix H0 H JF):=fun y o e=>by
 unfold mix at e ⊢;cases h:H y with
 |none=>rw[h]at e;exact s _ _ e
 |some u =>
  rw[h]at e;cases u with
  |lst xs=>exact e
  |_=>exact e
theorem Bw.mix {c:Cs}{x:Addr}{vw:Vw}{ps fs:List Vw}(h:Bw c H0 H x [] vw ps fs)(s:aq H H'):Bw c (Fz.mix H0 H H') H' x [] vw ps fs:=by
 obtain⟨F,b,hF,h0,ho⟩:=h.ex;refine⟨⟨F,b.same s,fun y z=>let ⟨xs,e⟩:=hF y z;⟨xs,s _ _ e⟩,fun y hy=>?_,fun a ha=>nomatch ha⟩,ad8 h.sm s⟩;obtain⟨xs,e⟩:=hF y hy;unfold Fz.mix;rw[e];exact h0 y hy
end
theorem agt {H:Hp}{n:Str}{kvs:List (Key×V)}{vw:Vw}(h:Paired (KQ H) kvs vw):Paired (KQ H) (Kv kvs (Sum.inr n)) (sC vw n):=by
 unfold Kv sC
 induction h with
 |nil=>exact .nil
 | @cons kv q as qs r t ih =>
  by_cases e:q.1=n
  ·rw[List.filter_cons_of_neg (by rw[r.1,e];simp),List.filter_cons_of_neg (by rw[decide_eq_true e];simp)];exact ih
  ·rw[List.filter_cons_of_pos (by rw[r.1];exact decide_eq_true fun z=>e (Sum.inr.inj z)),List.filter_cons_of_pos (by rw[decide_eq_false e];rfl)];exact .cons r ih
theorem aiv {H:Hp}{n:Str}{v:V}{th:Th}{kvs:List (Key×V)}{vw:Vw}(h:Paired (KQ H) kvs vw)(hs:(oN kvs (Sum.inr n)).isSome=true)(hv:ThV H v th):Paired (KQ H) (putK kvs (Sum.inr n) v) (zP vw n th):=by
 unfold putK;rw[xy,if_pos hs];clear hs;unfold zP
 induction h with
 |nil=>exact .nil
 | @cons kv q as qs r t ih =>
  refine .cons ?_ ih;show KQ H (if kv.1=Sum.inr n then(kv.1,v) else kv) (if q.1=n then(n,th) else q)
  by_cases e:q.1=n
  ·rw[if_pos (r.1.trans (congrArg Sum.inr e)),if_pos e];exact⟨r.1.trans (congrArg Sum.inr e),hv⟩
  ·rw[if_neg (fun z=>e (Sum.inr.inj (r.1.symm.trans z))),if_neg e];exact r
theorem Px {α β:Type}{F:α->β->Prop}:∀{ys:List α} {vs:List β} {q:β},Paired F ys (vs++[q])->∃ ys0 y,ys=ys0++[y]/\Paired F ys0 vs/\F y q
 |_,[],_,.cons r .nil=>⟨[],_,rfl,.nil,r⟩
 |_,_::vs,_,.cons r t=>by
  obtain⟨ys0,y,rfl,h1,h2⟩:=Px t;exact⟨_::ys0,y,rfl,.cons r h1,h2⟩
theorem To (xs:List V)(v:V):C5 (xs++[v]) none (some (-1))=xs:=by
 unfold C5;have e:HT.mH (xs++[v]).length (xs++[v]).length (some (-1))=xs.length:=by
  rw[length_append];show HT.mH (xs.length+1) (xs.length+1) (some (-1))=xs.length;unfold HT.mH
  first|omega|(simp;omega)|(split <;> omega)
 rw[HT.Kn,e,Nat.sub_zero,List.drop_zero,List.take_left'];rfl
theorem afj {α:Type}{l:List α}(h:l≠[]):∃ l0 x,l=l0++[x]:=⟨l.dropLast,l.getLast h,(List.dropLast_concat_getLast h).symm⟩
inductive Jg (vs:List V)(H:Hp)(Q:VK)(E:XK):Prop
 |mk (v1 v2:V) (st:Std) (de:De) (H0:Hp) (fI:vs=[v1,v2]) (fJ:aq H0 H) (hI:KU H0 v1 st) (kK:zR H v2 de) (sd:adZ de) (OM:xk st.vw) (h6_:st.ps.length+st.fs.length<=900) (h7_:ig st de (bU st.vw de)=none) (h8_:∀ v' H',aq H H'->KU (mix H0 H H') v' (gI st de (bU st.vw de))->Q v' H'):Jg vs H Q E
theorem Tp (T:Txt K w mg t):bE P w K mg base mJ (0+2) t.kx t.AH ["_law_stand","_law_deed"] Jg:=by
 have JG:=Gn (P:=P) (base:=base) T;have Gj:=Lz (P:=P) (base:=base) T;refine T.rj.ok oS (fun vs H Q E h=>?_) (fun cdv A outer s H vs Q E hr h=>?_)
 ·obtain⟨_,_,_,_,_,rfl,_⟩:=h;rfl
 ·obtain⟨v1,v2,st,de,H0',rfl,s0,⟨p,d,a,b,xs,ys,rfl,hp',hd',ha',px',hb',py'⟩,hde,ok,w,hlen,ho,q⟩:=h;obtain⟨p2,ps2,rfl,hp2,V6⟩:=id hde;have hp:=s0 _ _ hp';have hd:=hd'.same s0;have ha:=s0 _ _ ha';have hb:=s0 _ _ hb';have mo:∀{H'},aq H0' (mix H0' H H'):=fun {H'}=>Ki s0;refine aQ (ag (kg (pv 0) (qH rfl (bB (aZ (i:=2) oS.nd rfl (Or.inl rfl)) (bB (aZ (i:=3) oS.nd rfl (Or.inl rfl)) (bB (aZ (i:=4) oS.nd rfl (Or.inl rfl)) k8))))) (ag (aM (ar (bc.or (aN (ay hr))) (aB au (pv 1) ai (fun _ _=>rfl)) ax (aw _)) (aj (av (cH (aa (aB au (pv 3) (z9 tW ai) (fun _ _=>rfl)) (aa (uz (zt.or (Fu.or Fv)) (pv 3) zr (oz (z9 tW ai))) (aa (bh (du.or (ba.or dw)) (pv 4) (bx (aa (pv 2) ae))) ae)))))) az) (ag (aM (ar (bc.or (aN (ay hr))) (aB au (pv 1) ai (fun _ _=>rfl)) ax (aw _)) (aj (av (cH (aa (aB au (pv 4) (z9 tW ai) (fun _ _=>rfl)) (aa (bh (du.or (ba.or dw)) (pv 3) (bx (aa (pv 2) ae))) (aa (uz (zt.or (Fu.or Fv)) (pv 4) zr (oz (z9 tW ai))) ae)))))) az) (ag (aL (i:=5) oS.nd rfl (Or.inl rfl) (fL Vh rfl T.ad3 adw (aa (pv 2) ae))) (ag (lg (aM (ar (bc.or (aN (ay hr))) (aB au (pv 1) ai (fun _ _=>rfl)) ax (aw _)) (aj (a9 (abL (pv 5) (aB au (pv 1) ai (fun _ _=>rfl)) ⟨rfl,rfl,rfl,rfl⟩))) (aj (aM (ar (bc.or (aN (ay hr))) (aB au (pv 1) ai (fun _ _=>rfl)) ax (aw _)) (aj (Kc (jj hr) (pv 5) (aB au (pv 1) ai (fun _ _=>rfl)) (bx ae) rfl)) (aj (aM (ar (bc.or (aN (ay hr))) (aB au (pv 1) ai (fun _ _=>rfl)) ax (aw _)) (aj (Kc (jj hr) (pv 5) (aB au (pv 1) ai (fun _ _=>rfl)) (cH (aa (aB au (pv 1) ai (fun _ _=>rfl)) (aa (aB au (pv 1) ai (fun _ _=>rfl)) (aa (aB au (pv 1) ai (fun _ _=>rfl)) (aa (aB au (pv 1) ai (fun _ _=>rfl)) ae))))) rfl)) (aj (Kc (jj hr) (pv 5) (aB au (pv 1) ai (fun _ _=>rfl)) (aF JG (hr.mono (by decide)) rfl T.FY T.iE.kp T.pC .nil aO (aa (i6 (jj hr) (pv 2) (aB au (pv 1) ai (fun _ _=>rfl)) (fun _ _=>rfl)) (aa (pv 1) (aa (aF Gj (hr.mono (by decide)) rfl T.Lb T.qE.kp T.zH .nil aO (aa (pv 2) (aa (pv 1) ae))) ae)))) rfl)))))))) (aj (av (cH (aa (pv 5) (aa (bh (du.or (ba.or dw)) (pv 3) (bx (aa (pv 2) ae))) (aa (bx ae) ae))))))))))) ?_;have wl:=w.len;have xl:=cj px';have yl:=cj py';refine⟨_,rfl,p,_,rfl,tV.of hp,rfl,_,_,rfl,_,_,rfl,_,_,rfl,rfl,?_⟩;refine⟨_,rfl,cA (i:=0) hp2 rfl ?_⟩;tm_up;rw[show decide (V.str de.wy.str=V.str (Str.ofString "undo"))=decide (de.wy=.undo) from j6 de.wy .undo]
  by_cases z1:de.wy=.undo
  ·rw[decide_eq_true z1];refine cY ?_;have hne:st.ps≠[]:=fun z=>by unfold ig at ho;rw[z1]at ho;simp[z]at ho
   obtain⟨Vo,v0,eps⟩:=afj hne;rw[eps]at px';obtain⟨xs0,x0,rfl,px0,⟨d0,rfl,hd0⟩⟩:=Px px';have eb:gI st de (bU st.vw de)=⟨v0,Vo,st.fs++[st.vw]⟩:=by
    unfold gI;rw[z1,eps];simp
   rw[eb]at q;refine⟨_,rfl,1,rfl,.inl ⟨a,_,-1,_,rfl,rfl,a7.of ha,Sb _ _,?_⟩⟩;refine⟨_,rfl,_,rfl,-1,rfl,.inl ⟨a,_,rfl,a7.of ha,fun c1 hc1=>?_⟩⟩;rw[To];have S1:=aq.upd (o:=.lst xs0) hc1;have k1:=af (H:=H) (a:=c1) (o:=.lst xs0);generalize upd H c1 (.lst xs0)=H1 at S1 k1;refine⟨_,rfl,_,rfl,big (by show 1<=1000;omega),fun c2 hc2=>?_⟩;have S2:=aq.upd (o:=.lst [V.ref d]) hc2;have k2:=af (H:=H1) (a:=c2) (o:=.lst [V.ref d]);generalize upd H1 c2 (.lst [V.ref d])=H2 at S2 k2;refine .inr (.inr ⟨b,c2,ys,_,rfl,rfl,S2 _ _ (S1 _ _ hb),k2,big (by show _+1<=1000;omega),fun c3 hc3=>?_⟩);have S3:=aq.upd (o:=.lst (ys++[V.ref d])) hc3;have k3:=af (H:=H2) (a:=c3) (o:=.lst (ys++[V.ref d]));generalize upd H2 c3 (.lst (ys++[V.ref d]))=H3 at S3 k3;refine⟨by show 3<=sizeLine;decide,fun t0 ht0=>?_⟩;have S4:=aq.upd (o:=.tup [V.ref d0,V.ref c1,V.ref c3]) ht0;have Py:=(S1.trans S2).trans S3;have SS:=Py.trans S4;exact q _ _ SS ⟨t0,d0,c1,c3,_,_,rfl,zJ SS af (fun _ z=>nomatch z),hd0.same mo,jN hc1 (S4 _ _ (S3 _ _ (S2 _ _ k1))),bZ (fun _ _ z=>z.same mo) px0,jN ((S1.trans S2).free hc3) (S4 _ _ k3),kL (bZ (fun _ _ z=>z.same mo) py') ⟨d,rfl,hd'.same mo⟩⟩
  rw[decide_eq_false z1];refine bJ ?_;refine⟨_,rfl,cA (i:=0) hp2 rfl ?_⟩;tm_up;rw[show decide (V.str de.wy.str=V.str (Str.ofString "redo"))=decide (de.wy=.zQ) from j6 de.wy .zQ]
  by_cases z2:de.wy=.zQ
  ·rw[decide_eq_true z2];refine cY ?_;have hne:st.fs≠[]:=fun z=>by unfold ig at ho;rw[z2]at ho;simp[z]at ho
   obtain⟨Zp,v0,efs⟩:=afj hne;rw[efs]at py';obtain⟨ys0,y0,rfl,py0,⟨d0,rfl,hd0⟩⟩:=Px py';have eb:gI st de (bU st.vw de)=⟨v0,st.ps++[st.vw],Zp⟩:=by
    unfold gI;rw[z2,efs];simp
   rw[eb]at q;refine⟨_,rfl,1,rfl,.inl ⟨b,_,-1,_,rfl,rfl,a7.of hb,Sb _ _,?_⟩⟩;refine⟨_,rfl,_,rfl,big (by show 1<=1000;omega),fun c2 hc2=>?_⟩;have S2:=aq.upd (o:=.lst [V.ref d]) hc2;have k2:=af (H:=H) (a:=c2) (o:=.lst [V.ref d]);generalize upd H c2 (.lst [V.ref d])=H2 at S2 k2;refine .inr (.inr ⟨a,c2,xs,_,rfl,rfl,S2 _ _ ha,k2,big (by show _+1<=1000;omega),fun c3 hc3=>?_⟩);have S3:=aq.upd (o:=.lst (xs++[V.ref d])) hc3;have k3:=af (H:=H2) (a:=c3) (o:=.lst (xs++[V.ref d]));generalize upd H2 c3 (.lst (xs++[V.ref d]))=H3 at S3 k3;refine⟨_,rfl,_,rfl,-1,rfl,.inl ⟨b,_,rfl,a7.of (S3 _ _ (S2 _ _ hb)),fun c1 hc1=>?_⟩⟩;rw[To];have S1:=aq.upd (o:=.lst ys0) hc1;have k1:=af (H:=H3) (a:=c1) (o:=.lst ys0);generalize upd H3 c1 (.lst ys0)=H1 at S1 k1;refine⟨by show 3<=sizeLine;decide,fun t0 ht0=>?_⟩;have S4:=aq.upd (o:=.tup [V.ref d0,V.ref c3,V.ref c1]) ht0;have SS:=((S2.trans S3).trans S1).trans S4;exact q _ _ SS ⟨t0,d0,c3,c1,_,_,rfl,zJ SS af (fun _ z=>nomatch z),hd0.same mo,jN (S2.free hc3) (S4 _ _ (S1 _ _ k3)),kL (bZ (fun _ _ z=>z.same mo) px') ⟨d,rfl,hd'.same mo⟩,jN ((S2.trans S3).free hc1) (S4 _ _ k1),bZ (fun _ _ z=>z.same mo) py0⟩
  rw[decide_eq_false z2];refine bJ ?_;obtain⟨kvs,hk',pk⟩:=id hd';have hk:=s0 _ _ hk';have kl:=cj pk;refine⟨_,rfl,d,kvs,rfl,.inl hk,fun l0 hl0=>?_⟩;have S0:=aq.upd (o:=.dK kvs) hl0;have k0:=af (H:=H) (a:=l0) (o:=.dK kvs);have fz:∀{X:Hp} {o:HO},aq H X->aq H (upd X l0 o):=fun s=>fS s hl0;generalize upd H l0 (.dK kvs)=H0 at S0 k0;refine⟨fun σ H'=>σ=[some (.ref p),some (.ref p2),some (.ref d),some (.ref a),some (.ref b),some (.ref l0)]/\aq H H'/\t5 (mix H0' H H') l0 (gI st de (bU st.vw de)).vw,?_,?_⟩
  ·refine⟨_,rfl,cA (i:=0) (S0 _ _ hp2) rfl ?_⟩;tm_up;rw[show decide (V.str de.wy.str=V.str (Str.ofString "drop"))=decide (de.wy=.drop) from j6 de.wy .drop]
   by_cases z3:de.wy=.drop
   ·rw[decide_eq_true z3];refine cY ?_;have eb:(gI st de (bU st.vw de)).vw=sC st.vw de.n:=by unfold gI;rw[z3]
    rw[eb];have hs:∃ v,oN kvs (Sum.inr de.n)=some v:=by
     have ho':oB st.vw de.n=none:=by unfold ig at ho;rw[z3]at ho;exact ho
     unfold oB at ho';cases ef:aR st.vw de.n with
     |none=>rw[ef]at ho';cases ho'
     |some th=>obtain⟨v,e,_⟩:=Vq pk ef;exact⟨v,e⟩
    obtain⟨v,hv⟩:=hs;refine⟨_,rfl,l0,rfl,.inl ⟨kvs,.inl k0⟩,_,rfl,cA (i:=1) (S0 _ _ hp2) rfl ?_⟩;exact⟨kvs,Sum.inr de.n,v,k0,rfl,hv,rfl,fz S0,_,jN hl0 af,bZ (fun _ _ z=>z.same mo) (agt pk)⟩
   rw[decide_eq_false z3];refine bJ ?_;refine⟨_,rfl,cA (i:=0) (S0 _ _ hp2) rfl ?_⟩;tm_up;rw[show decide (V.str de.wy.str=V.str (Str.ofString "add"))=decide (de.wy=.add) from j6 de.wy .add]
   by_cases z4:de.wy=.add
   ·rw[decide_eq_true z4];refine cY ?_;have eb:(gI st de (bU st.vw de)).vw=st.vw++[(de.n,.pl [])]:=by unfold gI;rw[z4]
    rw[eb];have hn:b9 st.vw de.n=none:=by unfold ig at ho;rw[z4]at ho;exact ho
    have hv:=Vu pk (sU hn).2.1;refine⟨big (by show 0<=1000;omega),fun c1 hc1=>?_⟩;have S1:=aq.upd (o:=.lst []) hc1;have k1:=af (H:=H0) (a:=c1) (o:=.lst []);have n1:c1≠l0:=Ne.symm (ao k0 hc1);generalize upd H0 c1 (.lst [])=H1 at S1 k1;refine⟨_,rfl,_,rfl,cA (i:=1) (S1 _ _ (S0 _ _ hp2)) rfl ?_⟩;refine⟨l0,_,rfl,Sq.k (k:=Sum.inr de.n) (S1 _ _ k0) (a6 (by omega)),rfl,fz (S0.trans S1),_,jN hl0 af,?_⟩;rw[xB _ hv];exact kL (bZ (fun _ _ z=>z.same mo) pk) ⟨rfl,c1,[],rfl,jN (S0.free hc1) (by rw[ak n1];exact k1),.nil⟩
   rw[decide_eq_false z4];refine bJ ?_;refine⟨_,rfl,cA (i:=0) (S0 _ _ hp2) rfl ?_⟩;tm_up;rw[show decide (V.str de.wy.str=V.str (Str.ofString "canon"))=decide (de.wy=.canon) from j6 de.wy .canon]
   by_cases z5:de.wy=.canon
   ·rw[decide_eq_true z5];refine cY ?_;have eb:(gI st de (bU st.vw de)).vw=st.vw++[(de.n,.cn de.ld de.lt de.sl de.tn)]:=by unfold gI;rw[z5]
    rw[eb];have hn:b9 st.vw de.n=none:=by
     unfold ig at ho;rw[z5]at ho;cases hn:b9 st.vw de.n with
     |none=>rfl
     |some r =>
      have ho:(match b9 st.vw de.n with|some r=>some r|none=>gS st.vw de.ld de.lt de.sl)=none:=ho;rw[hn]at ho;cases ho
    have hv:=Vu pk (sU hn).2.1;refine⟨_,rfl,cA (i:=2) (S0 _ _ hp2) rfl ⟨_,rfl,cA (i:=5) (S0 _ _ hp2) rfl ⟨_,rfl,cA (i:=6) (S0 _ _ hp2) rfl ⟨_,rfl,cA (i:=7) (S0 _ _ hp2) rfl ?_⟩⟩⟩⟩;refine⟨by show 4<=sizeLine;decide,fun c1 hc1=>?_⟩;have S1:=aq.upd (o:=.tup [V.str de.ld,V.int de.lt,V.int de.sl,V.bl de.tn]) hc1;have k1:=af (H:=H0) (a:=c1) (o:=.tup [V.str de.ld,V.int de.lt,V.int de.sl,V.bl de.tn]);have n1:c1≠l0:=Ne.symm (ao k0 hc1);generalize upd H0 c1 (.tup [V.str de.ld,V.int de.lt,V.int de.sl,V.bl de.tn])=H1 at S1 k1;refine⟨_,rfl,_,rfl,cA (i:=1) (S1 _ _ (S0 _ _ hp2)) rfl ?_⟩;refine⟨l0,_,rfl,Sq.k (k:=Sum.inr de.n) (S1 _ _ k0) (a6 (by omega)),rfl,fz (S0.trans S1),_,jN hl0 af,?_⟩;rw[xB _ hv];exact kL (bZ (fun _ _ z=>z.same mo) pk) ⟨rfl,c1,rfl,jN (S0.free hc1) (by rw[ak n1];exact k1)⟩
   rw[decide_eq_false z5];refine bJ ?_;have z6:de.wy=.put\/de.wy=.cut\/de.wy=.swap:=by
    cases hw:de.wy with
    |put=>exact .inl rfl
    |cut=>exact .inr (.inl rfl)
    |swap=>exact .inr (.inr rfl)
    |add=>exact absurd hw z4
    |canon=>exact absurd hw z5
    |drop=>exact absurd hw z3
    |undo=>exact absurd hw z1
    |zQ=>exact absurd hw z2
   have eb:(gI st de (bU st.vw de)).vw=zP st.vw de.n (.pl (fU (qQ st.vw de.n) de.wy de.sg (bU st.vw de).toNat)):=by
    unfold gI;rcases z6 with z|z|z <;> rw[z]
   rw[eb];rw[va z6]at ho;rcases hd.look de.n with ⟨f1,_⟩|⟨th,v1,f1,g1,t1⟩
   ·rw[lh f1]at ho;cases ho
   cases th with
   |cn ld lt sl tn =>
    rw[qS f1]at ho;cases ho
   |pl ss =>
    rw[qT f1]at ho;have ep:qQ st.vw de.n=ss:=by unfold qQ;rw[f1]
    rw[ep];obtain⟨l,zs,rfl,hl,g⟩:=t1;have ad6:=(w.gd _ _ (dg f1)).1
    by_cases y1:bU st.vw de<0\/(ss.length:Int)+(if de.wy=.put then 1 else 0)<=bU st.vw de
    ·rw[if_pos y1]at ho;cases ho
    rw[if_neg y1]at ho
    by_cases y2:de.wy≠.cut/\iC de.sg=false
    ·rw[if_pos y2]at ho;cases ho
    have hgd:de.wy≠.cut->iC de.sg=true:=fun z=>by
     cases e:iC de.sg with
     |true=>rfl
     |false=>exact absurd ⟨z,e⟩ y2
    obtain⟨i,hi⟩:∃ i:Nat,bU st.vw de=(i:Int):=⟨(bU st.vw de).toNat,by omega⟩;rw[hi]at y1;have hi1:i<=ss.length:=by
     by_cases z:de.wy=.put
     ·rw[if_pos z]at y1;omega
     ·rw[if_neg z]at y1;omega
    have hi2:de.wy≠.put->i<ss.length:=fun z=>by rw[if_neg z]at y1;omega
    refine⟨_,rfl,_,rfl,cA (i:=1) (S0 _ _ hp2) rfl ⟨d,_,rfl,SN S0 g1,_,rfl,_,rfl,_,rfl,?_⟩⟩;refine⟨d,_,st.vw,de,rfl,hd.same S0,hde.same S0,fun H1 S1=>?_⟩;rw[hi,Int.toNat_natCast];have S01:=S0.trans S1;refine⟨l,_,zs,ss,de,i,rfl,S01 _ _ hl,g.same S01,ad6,hde.same S01,z6,hgd,hi1,hi2,fun l' ys' H2 nl' S2 hl' g'=>?_⟩;have S02:=S01.trans S2;have n1:l'≠l0:=jS hl' (S2 _ _ (S1 _ _ k0)) (by intro z;cases z);refine⟨_,rfl,_,rfl,cA (i:=1) (S02 _ _ hp2) rfl ?_⟩;refine⟨l0,_,rfl,Sq.k (k:=Sum.inr de.n) (S2 _ _ (S1 _ _ k0)) (a6 (by omega)),rfl,fz S02,_,jN hl0 af,?_⟩;obtain⟨v2,e2,_⟩:=Vq pk f1;refine aiv (bZ (fun _ _ z=>z.same mo) pk) (by rw[e2];rfl) ⟨l',ys',rfl,jN (S01.free nl') (by rw[ak n1];exact hl'),?_⟩;refine bZ (fun _ _ ⟨z,e1,e2⟩=>⟨z,e1,zJ (fz S02) ?_ (fun _ q=>nomatch q)⟩) g';rw[ak (jS e2 (S2 _ _ (S1 _ _ k0)) (by intro z;cases z))];exact e2
  rintro _ H1 ⟨rfl,S1,dv1⟩;have eb2:(gI st de (bU st.vw de)).ps=st.ps++[st.vw]/\(gI st de (bU st.vw de)).fs=[]:=by
   unfold gI;cases hw:de.wy with
   |undo=>exact absurd hw z1
   |zQ=>exact absurd hw z2
   |_=>exact⟨rfl,rfl⟩
  refine⟨_,rfl,_,rfl,_,rfl,big (by show 1<=1000;omega),fun c2 hc2=>?_⟩;have S2:=aq.upd (o:=.lst [V.ref d]) hc2;have k2:=af (H:=H1) (a:=c2) (o:=.lst [V.ref d]);generalize upd H1 c2 (.lst [V.ref d])=H2 at S2 k2;refine .inr (.inr ⟨a,c2,xs,_,rfl,rfl,S2 _ _ (S1 _ _ ha),k2,big (by show _+1<=1000;omega),fun c3 hc3=>?_⟩);have S3:=aq.upd (o:=.lst (xs++[V.ref d])) hc3;have k3:=af (H:=H2) (a:=c3) (o:=.lst (xs++[V.ref d]));generalize upd H2 c3 (.lst (xs++[V.ref d]))=H3 at S3 k3;refine⟨big (by show 0<=1000;omega),fun c4 hc4=>?_⟩;have S4:=aq.upd (o:=.lst []) hc4;have k4:=af (H:=H3) (a:=c4) (o:=.lst []);generalize upd H3 c4 (.lst [])=H4 at S4 k4;refine⟨by show 3<=sizeLine;decide,fun t0 ht0=>?_⟩;have S5:=aq.upd (o:=.tup [V.ref l0,V.ref c3,V.ref c4]) ht0;have S15:=((S2.trans S3).trans S4).trans S5;have SS:=S1.trans S15;refine q _ _ SS ⟨t0,l0,c3,c4,_,_,rfl,zJ SS af (fun _ z=>nomatch z),dv1.same (aci S15),jN ((S1.trans S2).free hc3) (S5 _ _ (S4 _ _ k3)),?_,jN (((S1.trans S2).trans S3).free hc4) (S5 _ _ k4),?_⟩
  ·rw[eb2.1];exact kL (bZ (fun _ _ z=>z.same mo) px') ⟨d,rfl,hd'.same mo⟩
  ·rw[eb2.2];exact .nil
inductive Ak (c:Cs)(vs:List V)(H:Hp)(Q:VK)(E:XK):Prop
 |mk (x:Addr) (F:Addr->Prop) (vw:Vw) (ps fs:List Vw) (n:Str) (fI:vs=[.ref x,.str n]) (fJ:xE c H x F vw ps fs) (hI:match aR vw n with
 |none=>RX E c .dQ H
 |some (.pl _)=>Q .non H
 |some (.cn ld lt sl tn)=>∀ p,H p=some (.tup [.str ld,.int lt,.int sl,.bl tn])->Q (.ref p) H):Ak c vs H Q E
theorem oI (T:Txt K w mg t):bE P w K mg base (iA P w) (0+2) t.eD t.vI ["self","name"] (Ak (cs t)):=by
 have bH:=dO (P:=P) (base:=base) T;refine T.qq.OV Nh (fun vs H Q E h=>?_) (fun cdv A outer s H vs Q E hr h=>?_)
 ·obtain⟨_,_,_,_,_,_,rfl,_⟩:=h;rfl
 ·obtain⟨x,F,vw,ps,fs,n,rfl,B,q⟩:=h;refine aQ (aj (av (bT (bQ (X:=(cJ (iA P w) P w K mg base ["self","name"] "Book.canon" (ah ij) t.eD cdv A outer s H E)) (pv 0) T.aJ T.dE bH (hr.mono (by decide)) T.cu .nil (fun _ _ z=>Or.inl z) (aa (pv 1) ae)) rfl))) ?_;obtain⟨L,D,U,all,M,Ps,Fs,es,us,b,iM,pp,pf,f⟩:=B.ex;obtain⟨dx,hx⟩:=b.hx;obtain⟨vx,g,gv⟩:=b.vB iM;refine⟨_,rfl,x,dx,_,rfl,hx,d8 _ _ _,_,rfl,x,dx,L,D,U,M L,vx,n,rfl,hx,b.hL,g,?_⟩;rcases IY gv (fun _ _ r=>r.2.1) n with ⟨f1,f2⟩|⟨a,th,j,f1,f2,r,an,fj,fw⟩
  ·rw[f1];rw[f2]at q;exact q
  rw[f1];rw[f2]at q;refine⟨a.o,_,a.d,_,_,rfl,(b.ha a r.1).1,T.gh,T.cP,zw _ _ _,?_⟩;cases th with
  |pl ss=>rw[r.2.2.1];exact q
  |cn ld lt sl tn =>
   obtain⟨p,e1,e2⟩:=r.2.2;rw[e1];exact q p e2
inductive LB (vs:List V)(H:Hp)(Q:VK)(E:XK):Prop
 |mk (n:Int) (fI:vs=[.int n]) (fJ:Q (.bl true) H):LB vs H Q E
theorem AZ (T:Txt K w mg t):bE P w K mg base mJ (0+1) t.nj t.FP ["_law_found"] LB:=by
 refine T.kY.ok Vz (fun vs H Q E h=>?_) (fun cdv A outer s H vs Q E hr h=>?_)
 ·obtain⟨_,rfl,_⟩:=h;rfl
 ·obtain⟨n,rfl,q⟩:=h;refine aQ (aj (av (cI (iP (aI d7 rfl T.bu br (aa (pv 0) (aa (gJ (v:=.ty "int") rfl T.Gd Fw rfl) ae))) (k7 (afA (aI d7 rfl T.bu br (aa (pv 0) (aa (gJ (v:=.ty "bool") rfl T.YC Yp rfl) ae))))))))) ?_;refine zN (.bl true) ?_ q;exact⟨_,rfl,_,_,_,_,rfl,iQ.int _,rfl,_,rfl,cY ⟨_,rfl,_,_,_,_,rfl,iQ.int _,rfl,_,rfl,qe rfl⟩⟩
inductive LC (K:Frag)(vs:List V)(H:Hp)(Q:VK)(E:XK):Prop
 |mk (l1 l2:Addr) (xs ys:List V) (ss:List Sg) (fI:vs=[.ref l1,.ref l2]) (fJ:H l1=some (.lst xs)) (hI:a7 K H l2 ys) (kK:mQ H xs ss) (sd:mQ H ys ss) (OM:∀ H',aq H H'->Q (.bl true) H'):LC K vs H Q E
theorem V7 (T:Txt K w mg t):bE P w K mg base mJ (0+2) t.nk t.FQ ["_law_found","_law_due"] (LC K):=by
 have qG:=AZ (P:=P) (base:=base) T;refine T.uR.ok AD (fun vs H Q E h=>?_) (fun cdv A outer s H vs Q E hr h=>?_)
 ·obtain⟨_,_,_,_,_,rfl,_⟩:=h;rfl
 ·obtain⟨l1,l2,xs,ys,ss,rfl,h1,h2,g1,g2,q⟩:=h;have el:xs.length=ys.length:=(cj g1).trans (cj g2).symm;refine aQ (ag (aM (bW (PW.pt (kJ (cX (bg (aI d7 rfl T.bu br (aa (pv 0) (aa (gJ (v:=.ty "list") rfl T.ir ia rfl) ae))))) (jh (ar (uv.or (mM (ay hr))) (aI (aG.or aH) rfl T.bY bV (aa (pv 0) ae)) (aI (aG.or aH) rfl T.bY bV (aa (pv 1) ae)) (aw _)))))) (aj (av gP)) az) (ag (kh PassesOwn.never rfl (af0 rfl T.ace (pv 0) (pv 1)) (qH rfl (bB (aZ (i:=2) AD.nd rfl (Or.inl rfl)) (bB (aZ (i:=3) AD.nd rfl (Or.inl rfl)) k8))) (ag (aM (bW (PW.pt (kJ (cX (bg (aI d7 rfl T.bu br (aa (pv 2) (aa (gJ (v:=.ty "tuple") rfl T.Lh Kr rfl) ae))))) (jh (ar (uv.or (mM (ay hr))) (aI (aG.or aH) rfl T.bY bV (aa (pv 2) ae)) ai (aw _)))))) (aj (av gP)) az) (aj (aM (bW (PW.pt (kJ (cX (bg (aI d7 rfl T.bu br (aa (aB au (pv 2) ai (fun _ _=>rfl)) (aa (gJ (v:=.ty "str") rfl T.agr afW rfl) ae))))) (kJ (cX (bg (aF qG (hr.mono (by decide)) rfl T.vN T.kY.kp T.qF .nil aO (aa (aB au (pv 2) ai (fun _ _=>rfl)) ae)))) (jh (ar (uv.or (mM (ay hr))) (pv 2) (pv 3) (aw _))))))) (aj (av gP)) az)))) (aj (av gP)))) ?_;refine km false ?_ ?_
  ·tm_up;refine⟨_,_,_,_,rfl,iQ.lst h1,rfl,_,rfl,bJ ?_⟩;tm_up;refine .inl ⟨_,_,rfl,.inl (a7.of h1),?_⟩;tm_up;refine .inl ⟨_,_,rfl,.inl h2,?_⟩;tm_up;exact fH (by rw[el];simp)
  refine bJ ?_;tm_up;refine⟨⟨_,a7.of h1⟩,⟨_,h2⟩,ady (K:=K) (xs:=xs) (ys:=ys) (fun i σ H'=>∃ v1 v2,σ=[some (.ref l1),some (.ref l2),v1,v2]/\aq H H') el ⟨none,none,rfl,aq.refl _⟩ ?_ ?_ ?_⟩
  ·rintro i σ H' ⟨v1,v2,rfl,s2⟩;exact⟨s2.seq (a7.of h1),s2.seq h2⟩
  ·rintro i x y tt σ H' hx hy ⟨v1,v2,rfl,s2⟩ hn;obtain⟨sg,e1,p,rfl,hp⟩:=zO g1 hx;obtain⟨sg',e2,p2,rfl,hp2⟩:=zO g2 hy;have es:sg'=sg:=Option.some.inj (e2.symm.trans e1);subst es;have s3:aq H (upd H' tt (.tup [.ref p,.ref p2])):=s2.trans (aq.upd hn);have hp':=s3 _ _ hp;have hp2':=s3 _ _ hp2;refine⟨tt,_,rfl,tV.of af,rfl,_,_,rfl,_,_,rfl,rfl,?_⟩;generalize upd H' tt (.tup [.ref p,.ref p2])=H3 at s3 hp' hp2';refine km false ?_ ?_
   ·tm_up;refine⟨_,_,_,_,rfl,iQ.tup hp',rfl,_,rfl,bJ ?_⟩;tm_up;refine .inl ⟨_,_,rfl,.inr (tV.of hp'),?_⟩;tm_up;exact fH rfl
   refine bJ ?_;refine km false ?_ ?_
   ·tm_up;refine⟨_,_,_,_,rfl,iQ.str _,rfl,_,rfl,bJ ?_⟩;tm_up;refine⟨aif 59 hp' hp2',?_⟩;tm_up;exact fH rfl
   refine bJ ?_;exact⟨_,_,rfl,s3⟩
  ·rintro σ H' ⟨v1,v2,rfl,s2⟩;exact q _ s2
inductive Oq (K:Frag)(vs:List V)(H:Hp)(Q:VK)(E:XK):Prop
 |mk (f d:Addr) (fs ds:List Int) (fI:vs=[.ref f,.ref d]) (fJ:H f=some (.lst (fs.map V.int))) (hI:a7 K H d (ds.map V.int)) (kK:ds.length<=1000) (sd:Q (.bl (decide (fs=ds))) H):Oq K vs H Q E
theorem ZC (T:Txt K w mg t):bE P w K mg base mJ (0+2) t.qY t.K4 ["_law_found","_law_due"] (Oq K):=by
 have qG:=AZ (P:=P) (base:=base) T;refine T.xZ.ok Oe (fun vs H Q E h=>?_) (fun cdv A outer s H vs Q E hr h=>?_)
 ·obtain⟨_,_,_,_,rfl,_⟩:=h;rfl
 ·obtain⟨f,d,fs,ds,rfl,hf,hd,hn,q⟩:=h;refine aQ (ag (aM (bW (PW.pt (kJ (cX (bg (aI d7 rfl T.bu br (aa (pv 0) (aa (gJ (v:=.ty "list") rfl T.ir ia rfl) ae))))) (jh (ar (uv.or (mM (ay hr))) (aI (aG.or aH) rfl T.bY bV (aa (pv 0) ae)) (aI (aG.or aH) rfl T.bY bV (aa (pv 1) ae)) (aw _)))))) (aj (av gP)) az) (ag (kh PassesOwn.never rfl (Fo rfl T.ye (aa (aI (aG.or aH) rfl T.bY bV (aa (pv 1) ae)) ae)) (aZ (i:=2) Oe.nd rfl (Or.inl rfl)) (aj (aM (bW (PW.pt (kJ (cX (bg (aF qG (hr.mono (by decide)) rfl T.vN T.kY.kp T.qF .nil aO (aa (aB au (pv 0) (pv 2) (fun _ _=>rfl)) ae)))) (jh (ar (uv.or (mM (ay hr))) (aB au (pv 0) (pv 2) (fun _ _=>rfl)) (aB au (pv 1) (pv 2) (fun _ _=>rfl)) (aw _)))))) (aj (av gP)) az))) (aj (av gP)))) ?_;refine km (decide (fs.length≠ds.length)) ?_ ?_
  ·tm_up;refine⟨_,_,_,_,rfl,iQ.lst hf,rfl,_,rfl,?_⟩;refine bJ ?_;tm_up;refine .inl ⟨_,_,rfl,.inl (a7.of hf),?_⟩;tm_up;refine .inl ⟨_,_,rfl,.inl hd,?_⟩;tm_up;rw[length_map,length_map];refine fH ?_;rw[gQ]
   by_cases e:fs.length=ds.length
   ·simp[e]
   ·have:¬((fs.length:Int)=(ds.length:Int)):=by omega
    simp[e,this]
  ·refine a8 (fun h=>?_) (fun h=>?_)
   ·have e:fs≠ds:=fun z=>by
     have:=of_decide_eq_true h;rw[z]at this;exact this rfl
    rw[decide_eq_false e]at q;exact q
   ·have el:fs.length=ds.length:=by
     by_cases e:fs.length=ds.length
     ·exact e
     ·exact absurd (decide_eq_true e) h
    tm_up;refine .inl ⟨_,_,rfl,.inl hd,?_⟩;rw[length_map];have p62:(2:Int) ^ 62=4611686018427387904:=by decide
    refine⟨(ds.length:Int),rfl,by rw[p62];omega,by rw[p62];omega,?_⟩;refine zq (n:=((ds.length:Int)).toNat) (fun i σ H'=>∃ v,σ=[some (.ref f),some (.ref d),v]/\H'=H/\fs.take i=ds.take i) ⟨none,rfl,rfl,rfl⟩ ?_ ?_
    ·rintro i σ H' hi ⟨v,rfl,rfl,ht⟩;have hid:i<ds.length:=by omega
     have hif:i<fs.length:=by omega
     refine km (decide (fs[i]≠ds[i])) ?_ ?_
     ·tm_up;refine abS (a7.of hf) (n:=i) (by omega) (getElem?_eq_getElem hif) ?_;tm_up;refine abS (a7.of hf) (n:=i) (by omega) (getElem?_eq_getElem hif) ?_;tm_up;refine abS hd (n:=i) (by omega) (getElem?_eq_getElem hid) ?_;tm_up;refine fH ?_;rw[gQ];simp
     ·refine a8 (fun h=>?_) (fun h=>?_)
      ·have e:fs≠ds:=fun z=>by
        subst z;exact(of_decide_eq_true h) rfl
       rw[decide_eq_false e]at q;exact q
      ·have e:fs[i]=ds[i]:=by
        by_cases z:fs[i]=ds[i]
        ·exact z
        ·exact absurd (decide_eq_true z) h
       refine⟨_,rfl,rfl,?_⟩;rw[List.take_succ_eq_append_getElem hif,List.take_succ_eq_append_getElem hid,ht,e]
    ·rintro σ H' ⟨v,rfl,rfl,ht⟩;have e:fs=ds:=by
      have h1:((ds.length:Int)).toNat=ds.length:=by omega
      rw[h1,take_length,<-el,take_length]at ht;exact ht
     rw[decide_eq_true e]at q;exact q
inductive xc (vs:List V)(H:Hp)(Q:VK)(E:XK):Prop
 |mk (p:Addr) (s:Sg) (fI:vs=[.ref p]) (fJ:H p=some (.tup [.str s.1.str,.int s.2])) (hI:Q (.bl s.1.meas) H):xc vs H Q E
theorem agv (k:Kd):inV (.str k.str) [.str "3",.str "2"]=k.meas:=by cases k <;> decide +kernel
theorem xf (T:Txt K w mg t):bE P w K mg base mJ (0+1) t.eW t.qZ ["sign"] xc:=by
 refine T.g4.ok Jy (fun vs H Q E h=>?_) (fun cdv A outer s H vs Q E hr h=>?_)
 ·obtain⟨_,_,rfl,_⟩:=h;rfl
 ·obtain⟨p,s,rfl,hp,q⟩:=h;rw[<-agv]at q;refine aQ (aj (av (bK (dc.or c9) (aB au (pv 0) ai (fun _ _=>rfl)) (cv (v:=.ref t.cV) rfl T.w5 rfl) rfl))) ?_;tm_up;exact .inl ⟨_,_,rfl,.inr (T.w6 _),rfl,rfl,q⟩
inductive Jh (K:Frag)(vs:List V)(H:Hp)(Q:VK)(E:XK):Prop
 |mk (l:Addr) (b:Int) (xs:List V) (ss:List Sg) (fI:vs=[.ref l,.int b]) (fJ:a7 K H l xs) (hI:mQ H xs ss) (kK:ss.length<=400) (sd:∀(f:Addr)(H':Hp),aq H H'->H f=none->H' f=some (.lst ((i7 b (bA ss)).map V.int))->Q (.ref f) H'):Jh K vs H Q E
theorem aiz {k:Kd}(h:k.meas=true)(m:Int):intText? k.str=some (nm m k)/\k.str.length<=640:=by
 cases k <;> first|(cases h;done)|exact⟨by first|exact(show intText? Kd.three.str=some 3 by lk)|exact(show intText? Kd.two.str=some 2 by lk),by lk⟩
theorem agw {k:Kd}(h:¬ k.meas=true)(m:Int):nm m k=m:=by
 cases k <;> first|rfl|exact absurd rfl h
theorem Ji (T:Txt K w mg t):bE P w K mg base mJ (0+2) t.ky t.vJ ["line","begin"] (Jh K):=by
 have rE:=xf (P:=P) (base:=base) T;refine T.kC.ok oT (fun vs H Q E h=>?_) (fun cdv A outer s H vs Q E hr h=>?_)
 ·obtain⟨_,_,_,_,rfl,_⟩:=h;rfl
 ·obtain⟨l,b,xs,ss,rfl,hS,hg,hn,q⟩:=h;refine aQ (ag (aL (i:=2) oT.nd rfl (Or.inl rfl) (bx ae)) (ag (aL (i:=3) oT.nd rfl (Or.inl rfl) (pv 1)) (ag (kh PassesOwn.never rfl (jA (pv 0)) (aZ (i:=4) oT.nd rfl (Or.inl rfl)) (ag (lg (aM (bg (aF rE (hr.mono (by decide)) rfl T.w4 T.g4.kp T.lI .nil aO (aa (pv 4) ae))) (aj (aL (i:=3) oT.nd rfl (Or.inl rfl) (fL (uy.or j2) rfl T.Gd Fw (aa (aB au (pv 4) ai (fun _ _=>rfl)) ae)))) az)) (aj (a9 (j1 plainAttrs_list slot_list_append type_list_append bM (pv 2) (aa (pv 3) ae)))))) (aj (av (pv 2)))))) ?_;refine⟨big (by show 0<=1000;omega),fun f hf=>?_⟩;tm_up;refine⟨⟨xs,jC hS hf⟩,ur (K:=K) (xs:=xs) (fun i σ H'=>∃(m:Int)(v:Option V)(fs:List Int),σ=[some (.ref l),some (.int b),some (.ref f),some (.int m),v]/\H'=upd H f (.lst (fs.map V.int))/\fs++i7 m ((bA ss).drop i)=i7 b (bA ss))
   ⟨b,none,[],rfl,rfl,rfl⟩ ?_ ?_ ?_⟩
  ·rintro i σ H' _ ⟨m,v,fs,rfl,rfl,_⟩;exact jC hS hf
  ·rintro i x σ H' hx ⟨m,v,fs,rfl,rfl,hm⟩;obtain⟨s,hs,p,rfl,hp⟩:=zO hg hx;have hd:=qf (xC (f:=Prod.fst) hs);rw[hd]at hm;have hp':upd H f (.lst (fs.map V.int)) p=some (.tup [.str s.1.str,.int s.2]):=by rw[ak (ao hp hf)];exact hp
   have hl:=congrArg List.length hm;simp only [length_append,i7,length_cons,FC,length_map]at hl;refine abw [some (.ref l),some (.int b),some (.ref f),some (.int (nm m s.1)),some (.ref p)] (upd H f (.lst (fs.map V.int))) ?_ ?_
   ·refine⟨_,rfl,p,s,rfl,hp',_,rfl,?_⟩;refine a8 (fun h=>?_) (fun h=>?_)
    ·obtain⟨e1,e2⟩:=aiz h m;tm_up;exact .inr ⟨_,_,rfl,e1,e2,rfl,rfl⟩
    ·rw[agw h];exact⟨rfl,rfl⟩
   ·tm_up;refine⟨.inl ⟨rfl,_,a7.of af⟩,?_⟩;tm_up;refine⟨_,_,_,rfl,rfl,af,by rw[length_map];exact a6 (by omega),?_⟩;exact⟨_,_,fs++[nm m s.1],rfl,by rw[dP,map_append];rfl,by rw[List.append_assoc];exact hm⟩
  ·rintro σ H' ⟨m,v,fs,rfl,rfl,hm⟩;rw[List.drop_eq_nil_of_le (by rw[length_map,cj hg];exact Nat.le_refl _)]at hm;tm_up;have e:fs=i7 b (bA ss):=by rw[<-hm];simp[i7]
   subst e;exact q f _ (aq.upd hf) hf af
inductive LF (K:Frag)(vs:List V)(H:Hp)(Q:VK)(E:XK):Prop
 |mk (l:Addr) (i:Int) (xs:List V) (ss:List Sg) (fI:vs=[.ref l,.int i]) (fJ:a7 K H l xs) (hI:mQ H xs ss) (kK:Q (.str (sj (O1 (bA ss) i))) H):LF K vs H Q E
theorem vT (T:Txt K w mg t):bE P w K mg base mJ (0+1) t.nq t.FR ["line","at"] (LF K):=by
 refine T.fQ.ok VA (fun vs H Q E h=>?_) (fun cdv A outer s H vs Q E hr h=>?_)
 ·obtain⟨_,_,_,_,rfl,_⟩:=h;rfl
 ·obtain⟨l,i,xs,ss,rfl,hS,hg,q⟩:=h;have out:¬(0<=i/\i<ss.length)->O1 (bA ss) i=none:=fun z=>by
   unfold O1;split
   ·exact List.getElem?_eq_none (by rw[length_map];omega)
   ·rfl
  refine aQ (ag (aM (C3 uw qI ai (pv 1) (aI (aG.or aH) rfl T.bY bV (aa (pv 0) ae))) (aj (av (aB au (aB au (pv 0) (pv 1) (fun _ _=>rfl)) ai (fun _ _=>rfl)))) az) (aj (av ax))) ?_;tm_up;refine a8 (fun h0=>?_) (fun h0=>?_)
  ·have h0':=of_decide_eq_true h0;tm_up;refine .inl ⟨_,_,rfl,.inl hS,?_⟩;rw[cj hg];tm_up;refine a8 (fun h1=>?_) (fun h1=>?_)
   ·have h1':=of_decide_eq_true h1;have hi:i.toNat<ss.length:=by omega
    have e:O1 (bA ss) i=some (ss[i.toNat]).1:=by
     unfold O1;rw[if_pos h0',getElem?_map,getElem?_eq_getElem hi];rfl
    rw[e]at q;tm_up;refine Nd hS hg (n:=i.toNat) (by omega) (getElem?_eq_getElem hi) fun b hb=>?_;tm_up;exact q
   ·rw[out fun z=>h1 (decide_eq_true z.2)]at q;exact q
  ·rw[out fun z=>h0 (decide_eq_true z.1)]at q;exact⟨_,rfl,bJ q⟩
inductive yi (vs:List V)(H:Hp)(Q:VK)(E:XK):Prop
 |mk (k:Kd) (m:Int) (fI:vs=[.str k.str,.int m]) (fJ:Q (.int (pw k m)) H):yi vs H Q E
theorem LG (T:Txt K w mg t):bE P w K mg base mJ (0+1) t.gD t.t7 ["kind","measure"] yi:=by
 refine T.j7.ok KZ (fun vs H Q E h=>?_) (fun cdv A outer s H vs Q E hr h=>?_)
 ·obtain⟨_,_,rfl,_⟩:=h;rfl
 ·obtain⟨k,m,rfl,q⟩:=h;refine aQ (ag (aM (bW (PW.pt (c8 (ar (bc.or (aN (ay hr))) (pv 1) ai (aw _)) (fG (ar abu (pv 0) (cv (v:=.ref t.cg) rfl T.uZ rfl) rfl))))) (aj (av (aB ae6 (cv (v:=.ref t.cg) rfl T.uZ rfl) (pv 0) (fun _ _=>rfl)))) az) (aj (av (aB ae6 (cv (v:=.ref t.dD) rfl T.Lm rfl) (pv 0) (fun _ _=>rfl))))) ?_;refine km (decide (m=2)&&(decide (k=.G)||decide (k=.R))) ?_ ?_
  ·tm_up;rw[gQ];refine a8 (fun h=>?_) (fun h=>?_)
   ·tm_up;refine⟨_,_,_,rfl,rfl,T.sS,_,rfl,fH ?_⟩;rw[h];cases k <;> decide +kernel
   ·exact fH (by rw[Bool.eq_false_iff.mpr h];rfl)
  ·refine a8 (fun h=>?_) (fun h=>?_)
   ·tm_up;obtain⟨h1,h2⟩:=Bool.and_eq_true_iff.mp h;have hm:=of_decide_eq_true h1;have e:[(Str.ofString "G",V.int 2),(Str.ofString "R",V.int 2)].lookup k.str=some (.int (pw k m)):=by
     rw[hm];cases k <;> first|decide +kernel|(exfalso;revert h2;decide)
    exact⟨_,_,_,_,rfl,rfl,T.sS,e,q⟩
   ·tm_up;have e:[(Str.ofString "G",V.int 3),(Str.ofString "D",V.int 2),(Str.ofString "R",V.int 3),(Str.ofString "s",V.int 1),(Str.ofString "d",V.int 1),(Str.ofString "r",V.int 1),(Str.ofString ".",V.int 0),(Str.ofString "3",V.int 0),(Str.ofString "2",V.int 0)].lookup k.str=some (.int (pw k m)):=by
     by_cases hm:m=2
     ·rw[hm]at h ⊢;cases k <;> first|decide +kernel|(exfalso;revert h;decide)
     ·cases k <;> first|decide +kernel|(simp only [pw,if_neg hm];decide +kernel)
    exact⟨_,_,_,_,rfl,rfl,T.JD,e,q⟩
inductive lP (K:Frag)(vs:List V)(H:Hp)(Q:VK)(E:XK):Prop
 |mk (l:Addr) (b:Int) (xs:List V) (ss:List Sg) (fI:vs=[.ref l,.int b]) (fJ:a7 K H l xs) (hI:mQ H xs ss) (kK:ss.length<=400) (sd:∀(f:Addr)(H':Hp),aq H H'->H f=none->H' f=some (.lst ((jk b (bA ss)).map V.int))->Q (.ref f) H'):lP K vs H Q E
theorem vU (T:Txt K w mg t):bE P w K mg base mJ (0+3) t.bO t.iS ["line","begin"] (lP K):=by
 have A0:=Ji (P:=P) (base:=base) T;have hG:=vT (P:=P) (base:=base) T;have Nm:=LG (P:=P) (base:=base) T;refine T.cZ.ok eC (fun vs H Q E h=>?_) (fun cdv A outer s H vs Q E hr h=>?_)
 ·obtain⟨_,_,_,_,rfl,_⟩:=h;rfl
 ·obtain⟨l,b,xs,ss,rfl,hS,hg,hn,q⟩:=h;refine aQ (ag (aL (i:=2) eC.nd rfl (Or.inl rfl) (bx ae)) (ag (kh PassesOwn.never rfl (adx rfl T.DH (aF A0 (hr.mono (by decide)) rfl T.Je T.kC.kp T.vO .nil aO (aa (pv 0) (aa (pv 1) ae)))) (qH rfl (bB (aZ (i:=3) eC.nd rfl (Or.inl rfl)) (bB (aZ (i:=4) eC.nd rfl (Or.inl rfl)) k8))) (aj (aM (bW (PW.pt (c8 (ar (bc.or (aN (ay hr))) (pv 4) ai (aw _)) (c8 (ar (bc.or (aN (ay hr))) (aF hG (hr.mono (by decide)) rfl T.jv T.fQ.kp T.iO .nil aO (aa (pv 0) (aa (pv 3) ae))) ax (aw _)) (fG (ar (bc.or (aN (ay hr))) (aF hG (hr.mono (by decide)) rfl T.jv T.fQ.kp T.iO .nil aO (aa (pv 0) (aa (bh (du.or (ba.or dw)) (pv 3) ai) ae))) ax (aw _))))))) (aj (a9 (j1 plainAttrs_list slot_list_append type_list_append bM (pv 2) (aa (cv (v:=.int 3) rfl T.Ln ⟨_,rfl⟩) ae)))) (aj (a9 (j1 plainAttrs_list slot_list_append type_list_append bM (pv 2) (aa (aF Nm (hr.mono (by decide)) rfl T.Ld T.j7.kp T.ua .nil aO (aa (aF hG (hr.mono (by decide)) rfl T.jv T.fQ.kp T.iO .nil aO (aa (pv 0) (aa (pv 3) ae))) (aa (pv 4) ae))) ae))))))) (aj (av (pv 2))))) ?_;refine⟨big (by show 0<=1000;omega),fun f hf=>?_⟩;tm_up;refine⟨l,b,xs,ss,rfl,jC hS hf,hg.same (aq.upd hf),hn,fun f2 H2 s2 n2 h2=>⟨_,rfl,⟨_,a7.of h2⟩,?_⟩⟩;have ml:(i7 b (bA ss)).length=ss.length:=by rw[FC,length_map]
  have nff:f2≠f:=fun e=>by rw[e,af]at n2;cases n2
  refine abp (K:=K) (xs:=(i7 b (bA ss)).map V.int) (fun i σ H'=>∃(v w:Option V)(fs:List Int),σ=[some (.ref l),some (.int b),some (.ref f),v,w]/\aq H H'/\H' f=some (.lst (fs.map V.int))/\H' f2=some (.lst ((i7 b (bA ss)).map V.int))/\fs++Aw ((bA ss).drop i) ((i7 b (bA ss)).drop i)=jk b (bA ss))
   ⟨none,none,[],rfl,(aq.upd hf).trans s2,s2 _ _ af,h2,Sx ..⟩ ?_ ?_ ?_
  ·rintro i σ H' ⟨v,w,fs,rfl,_,_,h3,_⟩;exact a7.of h3
  ·rintro i x t σ H' hx ⟨v,w,fs,rfl,s3,h3,h4,hm⟩ ht;obtain⟨m,hm1,rfl⟩:=O0 hx;have hil:i<ss.length:=by
    have:=(List.getElem?_eq_some_iff.mp hm1).1;omega
   have hk:(bA ss)[i]? = some (ss[i]).1:=xC (getElem?_eq_getElem hil);rw[qf hk,qf hm1]at hm;simp only [Aw,head_drop]at hm;have hl:=congrArg List.length hm;simp only [length_append,length_cons,uG,length_map]at hl;have sT:aq H' (upd H' t (.tup [.int i,.int m])):=aq.upd ht;have hS':a7 K (upd H' t (.tup [.int i,.int m])) l xs:=(s3.trans sT).seq hS;have hg':=hg.same (s3.trans sT);have h3':=sT _ _ h3;have ka:O1 (bA ss) (i:Int)=some (ss[i]).1:=by rw[sq];exact hk
   have kb:O1 (bA ss) ((i:Int)+1)=(bA ss)[i+1]?:=by rw[<-sq];rfl
   refine⟨t,_,rfl,tV.of af,rfl,_,_,rfl,_,_,rfl,rfl,?_⟩;have fin:∀ z:Int,z=bw m (ss[i]).1 (bA ss)[i+1]?->∃(v w:Option V)(fs':List Int),[some (V.ref l),some (V.int b),some (V.ref f),some (V.int (i:Int)),some (V.int m)]=[some (.ref l),some (.int b),some (.ref f),v,w]/\aq H (upd (upd H' t (.tup [.int i,.int m])) f (.lst (fs.map V.int++[V.int z]))) /\
     (upd (upd H' t (.tup [.int i,.int m])) f (.lst (fs.map V.int++[V.int z]))) f=some (.lst (fs'.map V.int))/\(upd (upd H' t (.tup [.int i,.int m])) f (.lst (fs.map V.int++[V.int z]))) f2=some (.lst ((i7 b (bA ss)).map V.int))/\fs'++Aw ((bA ss).drop (i+1)) ((i7 b (bA ss)).drop (i+1))=jk b (bA ss):=by
    intro z hz;refine⟨_,_,fs++[z],rfl,fS (s3.trans sT) hf,by rw[af,map_append];rfl,by rw[ak nff];exact sT _ _ h4,?_⟩;rw[List.append_assoc,hz];exact hm
   refine km (decide (m=2)&&(decide (sj (O1 (bA ss) (i:Int)) = "G")&&decide (sj (O1 (bA ss) ((i:Int)+1)) = "."))) ?_ ?_
   ·tm_up;rw[gQ];refine a8 (fun h=>?_) (fun h=>?_)
    ·tm_up;refine⟨l,_,xs,ss,rfl,hS',hg',?_⟩;tm_up;rw[adR];refine a8 (fun h2=>?_) (fun h2=>?_)
     ·tm_up;refine⟨l,_,xs,ss,rfl,hS',hg',?_⟩;tm_up;rw[adR];exact fH (by rw[h,h2];rfl)
     ·exact fH (by rw[h,Bool.eq_false_iff.mpr h2];rfl)
    ·exact fH (by rw[Bool.eq_false_iff.mpr h];rfl)
   ·refine a8 (fun h=>?_) (fun h=>?_)
    ·tm_up;refine⟨.inl ⟨rfl,_,a7.of h3'⟩,?_⟩;refine⟨_,_,_,rfl,rfl,h3',by rw[length_map];exact a6 (by omega),fin 3 ?_⟩;obtain⟨h1,h2⟩:=Bool.and_eq_true_iff.mp h;obtain⟨h2,h5⟩:=Bool.and_eq_true_iff.mp h2;have e1:(ss[i]).1=.G:=by
      have:=of_decide_eq_true h2;rw[ka]at this;exact str_inj.mp (this.trans (rfl:("G":Str)=Kd.G.str))
     have e2:(bA ss)[i+1]? = some .dot:=by
      have:=of_decide_eq_true h5;rw[kb]at this;exact Sv.mp (this.trans (rfl:(".":Str)=sj (some .dot)))
     unfold bw;rw[if_pos ⟨of_decide_eq_true h1,e1,e2⟩]
    ·tm_up;refine⟨.inl ⟨rfl,_,a7.of h3'⟩,?_⟩;tm_up;refine⟨l,_,xs,ss,rfl,hS',hg',?_⟩;tm_up;rw[ka];refine⟨_,_,rfl,?_⟩;refine⟨_,_,_,rfl,rfl,h3',by rw[length_map];exact a6 (by omega),fin _ ?_⟩;unfold bw;rw[if_neg];rintro⟨h1,h2,h5⟩;refine h ?_;rw[ka,kb,h2,h5,h1];decide +kernel
  ·rintro σ H' ⟨v,w,fs,rfl,s3,h3,_,hm⟩;rw[length_map,ml,List.drop_eq_nil_of_le (by rw[length_map];exact Nat.le_refl _)]at hm;tm_up;have e:fs=jk b (bA ss):=by rw[<-hm];simp[Aw]
   subst e;exact q f _ s3 hf h3
inductive Tq (vs:List V)(H:Hp)(Q:VK)(E:XK):Prop
 |mk (p:Addr) (s:Sg) (fI:vs=[.ref p]) (fJ:H p=some (.tup [.str s.1.str,.int s.2])) (hI:Q (.bl s.1.small) H):Tq vs H Q E
theorem DT (k:Kd):inV (.str k.str) [.str "s",.str "d",.str "r"]=k.small:=by cases k <;> decide +kernel
theorem Tr (T:Txt K w mg t):bE P w K mg base mJ (0+1) t.vK t.Pb ["sign"] Tq:=by
 refine T.zI.ok ab6 (fun vs H Q E h=>?_) (fun cdv A outer s H vs Q E hr h=>?_)
 ·obtain⟨_,_,rfl,_⟩:=h;rfl
 ·obtain⟨p,s,rfl,hp,q⟩:=h;rw[<-DT]at q;refine aQ (aj (av (bK (dc.or c9) (aB au (pv 0) ai (fun _ _=>rfl)) (cv (v:=.ref t.gF) rfl T.Nj rfl) rfl))) ?_;tm_up;exact .inl ⟨_,_,rfl,.inr (T.Nk _),rfl,rfl,q⟩
inductive YF (K:Frag)(vs:List V)(H:Hp)(Q:VK)(E:XK):Prop
 |mk (l:Addr) (b:Int) (xs:List V) (ss:List Sg) (fI:vs=[.ref l,.int b]) (fJ:a7 K H l xs) (hI:mQ H xs ss) (kK:ss.length<=400) (sd:∀(f:Addr)(ys:List V)(H':Hp),aq H H'->H f=none->H' f=some (.lst ys)->Vj H' ys (wY b (bA ss))->Q (.ref f) H'):YF K vs H Q E
theorem ad9 (T:Txt K w mg t):bE P w K mg base mJ (0+3) t.AI t.Pc ["line","begin"] (YF K):=by
 have A0:=Ji (P:=P) (base:=base) T;have Pz:=Tr (P:=P) (base:=base) T;refine T.F1.ok vC (fun vs H Q E h=>?_) (fun cdv A outer s H vs Q E hr h=>?_)
 ·obtain⟨_,_,_,_,rfl,_⟩:=h;rfl
 ·obtain⟨l,b,xs,ss,rfl,hS,hg,hn,q⟩:=h;refine aQ (ag (aL (i:=2) vC.nd rfl (Or.inl rfl) (bx ae)) (ag (aL (i:=3) vC.nd rfl (Or.inl rfl) ai) (ag (kh PassesOwn.never rfl (ahU rfl T.ace rfl T.DH (pv 0) (aF A0 (hr.mono (by decide)) rfl T.Je T.kC.kp T.vO .nil aO (aa (pv 0) (aa (pv 1) ae)))) (qH rfl (bB (aZ (i:=4) vC.nd rfl (Or.inl rfl)) (bB (qH rfl (bB (aZ (i:=5) vC.nd rfl (Or.inl rfl)) (bB (aZ (i:=6) vC.nd rfl (Or.inl rfl)) k8))) k8))) (aj (aM (bW (PW.pt (kJ (ar (bc.or (aN (ay hr))) (pv 6) ai (aw _)) (jh (cX (bg (aF Pz (hr.mono (by decide)) rfl T.Tc T.zI.kp T.Kh .nil aO (aa (pv 5) ae)))))))) (ag (lg (aM (ar qI (pv 3) (pv 4) (aw _)) (aj (a9 (j1 plainAttrs_list slot_list_append type_list_append bM (pv 2) (aa (cH (aa (pv 3) (aa (pv 4) ae))) ae)))) az)) (aj (aL (i:=3) vC.nd rfl (Or.inl rfl) (bh (du.or (ba.or dw)) (pv 4) ai)))) az))) (ag (lg (aM (ar qI (pv 3) (aI (aG.or aH) rfl T.bY bV (aa (pv 0) ae)) (aw _)) (aj (a9 (j1 plainAttrs_list slot_list_append type_list_append bM (pv 2) (aa (cH (aa (pv 3) (aa (aI (aG.or aH) rfl T.bY bV (aa (pv 0) ae)) ae))) ae)))) az)) (aj (av (pv 2))))))) ?_;refine⟨big (by show 0<=1000;omega),fun f hf=>?_⟩;tm_up;refine⟨l,b,xs,ss,rfl,jC hS hf,hg.same (aq.upd hf),hn,fun f2 H2 s2 n2 h2=>⟨_,_,rfl,rfl,⟨xs,((aq.upd hf).trans s2).seq hS⟩,⟨_,a7.of h2⟩,?_⟩⟩;have ml:(i7 b (bA ss)).length=ss.length:=by rw[FC,length_map]
  have nff:f2≠f:=fun e=>by rw[e,af]at n2;cases n2
  have cnt:(wY b (bA ss)).length<=401:=by
   have:=oO (j4 b (bA ss)) 0 0;rw[qL,length_map]at this;exact Nat.le_trans this (by omega)
  refine af2 (K:=K) (xs:=xs) (ys:=(i7 b (bA ss)).map V.int) (fun i σ H'=>∃(v w u:Option V)(first:Nat)(ys:List V)(qs:List (Nat×Nat)),σ=[some (.ref l),some (.int b),some (.ref f),some (.int (first:Int)),v,w,u]/\aq H H'/\H' f=some (.lst ys)/\Vj H' ys qs/\H' f2=some (.lst ((i7 b (bA ss)).map V.int))/\first<=i/\qs++fK i first (Sy ((bA ss).drop i) ((i7 b (bA ss)).drop i))=wY b (bA ss))
   (by rw[length_map,ml];exact cj hg) ⟨none,none,none,0,[],[],rfl,(aq.upd hf).trans s2,s2 _ _ af,.nil,h2,Nat.le_refl _,by rw[List.drop_zero,List.drop_zero,Vi];rfl⟩ ?_ ?_ ?_
  ·rintro i σ H' ⟨v,w,u,first,ys,qs,rfl,s3,_,_,h4,_⟩;exact⟨s3.seq hS,a7.of h4⟩
  ·rintro i x y t u' σ H' hx hy ⟨v,w,u,first,ys,qs,rfl,s3,h3,hq,h4,hfi,hm⟩ ht hu htu;obtain⟨s,hs,p,rfl,hp⟩:=zO hg hx;obtain⟨m,hm1,rfl⟩:=O0 hy;rw[qf (xC (f:=Prod.fst) hs),qf hm1]at hm;simp only [Sy]at hm;have sT:aq H' (upd (upd H' t (.tup [.ref p,.int m])) u' (.tup [.int i,.ref t])):=(aq.upd ht).trans (aq.upd (by rw[ak htu.symm];exact hu));have ut:upd (upd H' t (.tup [.ref p,.int m])) u' (.tup [.int i,.ref t]) t=some (.tup [.ref p,.int m]):=by rw[ak htu,af]
   refine⟨u',_,rfl,tV.of af,rfl,_,_,rfl,_,_,rfl,t,_,rfl,tV.of ut,rfl,_,_,rfl,_,_,rfl,rfl,rfl,?_⟩;generalize upd (upd H' t (.tup [.ref p,.int m])) u' (.tup [.int i,.ref t])=H3 at sT;have hp3:=(s3.trans sT) _ _ hp;have h33:=sT _ _ h3;have hq3:=sr sT hq;refine km (!inR m s.1) ?_ ?_
   ·tm_up;rw[gQ];refine a8 (fun h=>?_) (fun h=>?_)
    ·refine fH ?_;unfold inR;have:=of_decide_eq_true h;simp[this]
    ·tm_up;refine⟨p,s,rfl,hp3,_,rfl,fH ?_⟩;have hm2:m≠2:=fun e=>h (decide_eq_true e);unfold inR;simp[hm2]
   ·cases hin:inR m s.1 with
    |false =>
     rw[hin]at hm;refine cY ?_;refine⟨fun σ1 H1=>σ1=[some (.ref l),some (.int b),some (.ref f),some (.int (first:Int)),some (.int i),some (.ref p),some (.int m)]/\aq H H1/\(∃ ys',H1 f=some (.lst ys')/\Vj H1 ys' (qs++if first<i then [(first,i)] else []))/\H1 f2=some (.lst ((i7 b (bA ss)).map V.int)),?_,?_⟩
     ·tm_up;refine a8 (fun h=>?_) (fun h=>?_)
      ·have hlt:first<i:=by have:=of_decide_eq_true h;omega
       have ql:qs.length<=401:=by
        have:=congrArg List.length hm;simp only [length_append]at this;omega
       tm_up;refine⟨.inl ⟨rfl,_,a7.of h33⟩,?_⟩;tm_up;refine⟨by show 2<=sizeLine;decide,fun z hz=>?_⟩;have sz:aq H3 (upd H3 z (.tup [.int (first:Int),.int i])):=aq.upd hz;have h3z:=sz _ _ h33;refine⟨_,_,_,rfl,rfl,h3z,by rw[cj hq3];exact a6 (by omega),?_⟩;rw[if_pos hlt];exact⟨rfl,fS ((s3.trans sT).trans sz) hf,⟨_,af,kL (qM h3z (sr sz hq3)) (Sz h3z ⟨z,rfl,af⟩)⟩,by rw[ak nff];exact sz _ _ (sT _ _ h4)⟩
      ·have hlt:¬ first<i:=fun z=>h (decide_eq_true (by omega))
       rw[if_neg hlt,append_nil];exact⟨rfl,s3.trans sT,⟨_,h33,hq3⟩,sT _ _ h4⟩
     ·rintro σ1 H1 ⟨rfl,sa,⟨ys',hb,hc⟩,hd⟩;tm_up;refine⟨_,_,_,i+1,ys',_,rfl,sa,hb,hc,hd,Nat.le_refl _,?_⟩;rw[<-hm,List.append_assoc];rfl
    |true =>
     rw[hin]at hm;refine bJ ?_;exact⟨_,_,_,first,ys,qs,rfl,s3.trans sT,h33,hq3,sT _ _ h4,by omega,hm⟩
  ·rintro σ H' ⟨v,w,u,first,ys,qs,rfl,s3,h3,hq,h4,hfi,hm⟩;rw[cj hg]at hm hfi;rw[List.drop_eq_nil_of_le (by rw[length_map];exact Nat.le_refl _)]at hm;have hm':qs++(if first<ss.length then [(first,ss.length)] else [])=wY b (bA ss):=hm;have ql:qs.length<=401:=by
    have:=congrArg List.length hm;simp only [length_append]at this;omega
   refine⟨fun σ1 H1=>σ1=[some (.ref l),some (.int b),some (.ref f),some (.int (first:Int)),v,w,u]/\aq H H1/\∃ ys',H1 f=some (.lst ys')/\Vj H1 ys' (wY b (bA ss)),?_,?_⟩
   ·tm_up;refine .inl ⟨_,_,rfl,.inl (s3.seq hS),?_⟩;rw[cj hg];tm_up;refine a8 (fun h=>?_) (fun h=>?_)
    ·have hlt:first<ss.length:=by have:=of_decide_eq_true h;omega
     tm_up;refine⟨.inl ⟨rfl,_,a7.of h3⟩,?_⟩;tm_up;refine .inl ⟨_,_,rfl,.inl (s3.seq hS),?_⟩;rw[cj hg];refine⟨by show 2<=sizeLine;decide,fun z hz=>?_⟩;have sz:aq H' (upd H' z (.tup [.int (first:Int),.int (ss.length:Int)])):=aq.upd hz;have h3z:=sz _ _ h3;refine⟨_,_,_,rfl,rfl,h3z,by rw[cj hq];exact a6 (by omega),?_⟩;rw[if_pos hlt]at hm';rw[<-hm'];exact⟨rfl,fS (s3.trans sz) hf,_,af,kL (qM h3z (sr sz hq)) (Sz h3z ⟨z,rfl,af⟩)⟩
    ·have hlt:¬ first<ss.length:=fun z=>h (decide_eq_true (by omega))
     rw[if_neg hlt,append_nil]at hm';rw[<-hm'];exact⟨rfl,s3,_,h3,hq⟩
   ·rintro σ1 H1 ⟨rfl,sa,ys',hb,hc⟩;tm_up;exact q f ys' H1 sa hf hb hc
inductive vc (K:Frag)(vs:List V)(H:Hp)(Q:VK)(E:XK):Prop
 |mk (l f:Addr) (a:Nat) (xs:List V) (ss:List Sg) (fs:List Int) (fI:vs=[.ref l,.ref f,.int (a:Int)]) (fJ:a7 K H l xs) (hI:mQ H xs ss) (kK:H f=some (.lst (fs.map V.int))) (sd:fs.length=ss.length) (OM:Q (.bl (j5 (bA ss) fs a)) H):vc K vs H Q E
theorem vd (T:Txt K w mg t):bE P w K mg base mJ (0+2) t.dY t.pA ["line","found","first"] (vc K):=by
 have hG:=vT (P:=P) (base:=base) T;refine T.fR.ok FK (fun vs H Q E h=>?_) (fun cdv A outer s H vs Q E hr h=>?_)
 ·obtain⟨_,_,_,_,_,_,rfl,_⟩:=h;rfl
 ·obtain⟨l,f,a,xs,ss,fs,rfl,hS,hg,hf,hl,q⟩:=h;refine aQ (aj (av (cI (iP (bK (bc.or (aN (ay hr))) (aF hG (hr.mono (by decide)) rfl T.jv T.fQ.kp T.iO .nil aO (aa (pv 0) (aa (bh ji (pv 2) ai) ae))) ax (aw _)) (k7 (bK (bc.or (aN (ay hr))) (aB au (pv 1) (bh ji (pv 2) ai) (fun _ _=>rfl)) (cv (v:=.int 3) rfl T.Pn ⟨_,rfl⟩) (aw _))))))) ?_;refine zN (.bl (j5 (bA ss) fs a)) ?_ q;tm_up;refine⟨l,_,xs,ss,rfl,hS,hg,?_⟩;tm_up;rw[o_G];refine a8 (fun h=>?_) (fun h=>?_)
  ·have e:=of_decide_eq_true h;have e':1<=a/\a-1<ss.length:=by
    unfold O1 at e;split at e
    ·have:=(List.getElem?_eq_some_iff.mp e).1;rw[length_map]at this;omega
    ·cases e
   tm_up;refine abS (a7.of hf) (n:=a-1) (by omega) (getElem?_eq_getElem (by omega)) ?_;tm_up;rw[gQ];refine qe ?_;unfold j5;rw[h,List.getD_eq_getElem?_getD,getElem?_eq_getElem (by omega)];rfl
  ·refine qe ?_;unfold j5;rw[Bool.eq_false_iff.mpr h];rfl
inductive tw (K:Frag)(vs:List V)(H:Hp)(Q:VK)(E:XK):Prop
 |mk (l:Addr) (z:Nat) (xs:List V) (ss:List Sg) (fI:vs=[.ref l,.int (z:Int)]) (fJ:a7 K H l xs) (hI:mQ H xs ss) (kK:Q (.bl (ib (bA ss) z)) H):tw K vs H Q E
theorem YG (k:Option Kd):inV (.str (sj k)) [.str "G",.str "D",.str "R"]=tY k:=by
 cases k with
 |none=>decide +kernel
 |some k=>cases k <;> decide +kernel
theorem tD (T:Txt K w mg t):bE P w K mg base mJ (0+2) t.dm t.nr ["line","behind"] (tw K):=by
 have hG:=vT (P:=P) (base:=base) T;refine T.eS.ok Ds (fun vs H Q E h=>?_) (fun cdv A outer s H vs Q E hr h=>?_)
 ·obtain⟨_,_,_,_,rfl,_⟩:=h;rfl
 ·obtain⟨l,z,xs,ss,rfl,hS,hg,q⟩:=h;refine aQ (aj (av (cI (iP (bK (bc.or (aN (ay hr))) (aF hG (hr.mono (by decide)) rfl T.jv T.fQ.kp T.iO .nil aO (aa (pv 0) (aa (pv 1) ae))) ax (aw _)) (k7 (bK (vq.or vt) (aF hG (hr.mono (by decide)) rfl T.jv T.fQ.kp T.iO .nil aO (aa (pv 0) (aa (bh (du.or (ba.or dw)) (pv 1) ai) ae))) (cv (v:=.ref t.eJ) rfl T.Ag rfl) rfl)))))) ?_;refine zN (.bl (ib (bA ss) z)) ?_ q;tm_up;refine⟨l,_,xs,ss,rfl,hS,hg,?_⟩;tm_up;rw[o_G];refine a8 (fun h=>?_) (fun h=>?_)
  ·tm_up;refine⟨l,_,xs,ss,rfl,hS,hg,?_⟩;tm_up;refine .inl ⟨_,_,rfl,.inr (T.Ah _),rfl,rfl,qe ?_⟩;unfold ib;rw[sq]at h;have e:O1 (bA ss) ((z:Int)+1)=(bA ss)[z+1]?:=by rw[<-sq];rfl
   rw[h,<-YG,<-e];rfl
  ·refine qe ?_;unfold ib;rw[sq]at h;rw[Bool.eq_false_iff.mpr h];rfl
def acj (K:Frag)(g:List Kd->List Int->Nat->Nat->Bool×List Int):Sp:=fun vs H Q _=>∃(l f:Addr)(a z:Nat)(xs:List V)(ss:List Sg)(fs:List Int),vs=[.ref l,.ref f,.int (a:Int),.int (z:Int)]/\a7 K H l xs/\mQ H xs ss/\H f=some (.lst (fs.map V.int))/\fs.length=ss.length/\a<z/\z<=ss.length /\
 Q (.bl (g (bA ss) fs a z).1) (upd H f (.lst ((g (bA ss) fs a z).2.map V.int)))
theorem A1 (T:Txt K w mg t):bE P w K mg base mJ (0+3) t.cN t.lu ["line","found","first","behind"] (acj K Dc):=by
 have pE:=vd (P:=P) (base:=base) T;have nJ:=tD (P:=P) (base:=base) T;refine T.gb.ok AE (fun vs H Q E h=>?_) (fun cdv A outer s H vs Q E hr h=>?_)
 ·obtain⟨_,_,_,_,_,_,_,rfl,_⟩:=h;rfl
 ·obtain⟨l,f,a,z,xs,ss,fs,rfl,hS,hg,hf,hl,haz,hz,q⟩:=h;unfold Dc at q;refine aQ (ag (aM (bg (aF pE (hr.mono (by decide)) rfl T.uS T.fR.kp T.kf .nil aO (aa (pv 0) (aa (pv 1) (aa (pv 2) ae))))) (ag (kg (cv (v:=.int 2) rfl T.je ⟨_,rfl⟩) (xn (pv 1) (bh ji (pv 2) ai) set_list)) (aj (av gP))) az) (ag (aM (bg (aF nJ (hr.mono (by decide)) rfl T.sI T.eS.kp T.jL .nil aO (aa (pv 0) (aa (pv 3) ae)))) (ag (kg (cv (v:=.int 2) rfl T.je ⟨_,rfl⟩) (xn (pv 1) (pv 3) set_list)) (aj (av gP))) az) (aj (av gP)))) ?_;tm_up;refine⟨l,f,a,xs,ss,fs,rfl,hS,hg,hf,hl,_,rfl,?_⟩;refine a8 (fun h=>?_) (fun h=>?_)
  ·rw[if_pos h]at q;have hp:=FD h;rw[length_map]at hp;tm_up;refine⟨_,_,_,_,rfl,rfl,hf,su (j:=a-1) (by omega) (by rw[length_map];omega),?_⟩;rw[oy];exact q
  ·rw[if_neg h]at q;tm_up;refine⟨l,z,xs,ss,rfl,hS,hg,_,rfl,?_⟩;refine a8 (fun h2=>?_) (fun h2=>?_)
   ·rw[if_pos h2]at q;have hp:=Ay h2;rw[length_map]at hp;tm_up;refine⟨_,_,_,_,rfl,rfl,hf,su (j:=z) rfl (by rw[length_map];omega),?_⟩;rw[oy];exact q
   ·rw[if_neg h2,Dg hf]at q;exact q
theorem A2 (T:Txt K w mg t):bE P w K mg base mJ (0+3) t.cO t.lx ["line","found","first","behind"] (acj K Df):=by
 have pE:=vd (P:=P) (base:=base) T;have nJ:=tD (P:=P) (base:=base) T;have hG:=vT (P:=P) (base:=base) T;refine T.gf.ok AF (fun vs H Q E h=>?_) (fun cdv A outer s H vs Q E hr h=>?_)
 ·obtain⟨_,_,_,_,_,_,_,rfl,_⟩:=h;rfl
 ·obtain⟨l,f,a,z,xs,ss,fs,rfl,hS,hg,hf,hl,haz,hz,q⟩:=h;unfold Df at q;refine aQ (ag (aM (bW (PW.pt (c8 (ar (dc.or c9) (aF hG (hr.mono (by decide)) rfl T.jv T.fQ.kp T.iO .nil aO (aa (pv 0) (aa (pv 3) ae))) (cv (v:=.ref t.eJ) rfl T.Ag rfl) rfl) (fG (ar (bc.or (aN (ay hr))) (aF hG (hr.mono (by decide)) rfl T.jv T.fQ.kp T.iO .nil aO (aa (pv 0) (aa (bh ji (pv 3) ai) ae))) ax (aw _)))))) (ag (kg (cv (v:=.int 2) rfl T.JE ⟨_,rfl⟩) (xn (pv 1) (bh ji (pv 3) ai) set_list)) (aj (av gP))) az) (ag (aM (bW (PW.pt (c8 (bg (aF pE (hr.mono (by decide)) rfl T.uS T.fR.kp T.kf .nil aO (aa (pv 0) (aa (pv 1) (aa (pv 2) ae))))) (fG (bg (aF nJ (hr.mono (by decide)) rfl T.sI T.eS.kp T.jL .nil aO (aa (pv 0) (aa (pv 3) ae)))))))) (ag (kg (cv (v:=.int 2) rfl T.je ⟨_,rfl⟩) (xn (pv 1) (bh ji (pv 2) ai) set_list)) (ag (kg (cv (v:=.int 2) rfl T.je ⟨_,rfl⟩) (xn (pv 1) (pv 3) set_list)) (aj (av gP)))) az) (aj (av gP)))) ?_;refine km (tY (bA ss)[z]? && decide ((bA ss)[z-1]? = some .s)) ?_ ?_
  ·tm_up;refine⟨l,_,xs,ss,rfl,hS,hg,?_⟩;tm_up;refine .inl ⟨_,_,rfl,.inr (T.Ah _),rfl,rfl,_,rfl,?_⟩;show if inV (.str (sj (O1 (bA ss) (z:Int)))) [.str "G",.str "D",.str "R"]=true then _ else _;rw[YG,sq];refine a8 (fun h=>?_) (fun h=>?_)
   ·tm_up;refine⟨l,_,xs,ss,rfl,hS,hg,?_⟩;tm_up;rw[o_s];have e:O1 (bA ss) ((z:Int)-1)=(bA ss)[z-1]?:=by rw[<-sq];congr 1;omega
    rw[e];exact fH (by rw[h];rfl)
   ·exact fH (by rw[Bool.eq_false_iff.mpr h];rfl)
  ·refine a8 (fun h=>?_) (fun h=>?_)
   ·rw[if_pos h]at q;tm_up;refine⟨_,_,_,_,rfl,rfl,hf,su (j:=z-1) (by omega) (by rw[length_map];omega),?_⟩;rw[oy];exact q
   ·rw[if_neg h]at q;refine km (j5 (bA ss) fs a&&ib (bA ss) z) ?_ ?_
    ·tm_up;refine⟨l,f,a,xs,ss,fs,rfl,hS,hg,hf,hl,_,rfl,?_⟩;refine a8 (fun h=>?_) (fun h=>?_)
     ·tm_up;refine⟨l,z,xs,ss,rfl,hS,hg,_,rfl,fH ?_⟩;rw[h];rfl
     ·exact fH (by rw[Bool.eq_false_iff.mpr h];rfl)
    ·refine a8 (fun h2=>?_) (fun h2=>?_)
     ·rw[if_pos h2]at q;have hp:=FD (Bool.and_eq_true_iff.mp h2).1;have hr:=Ay (Bool.and_eq_true_iff.mp h2).2;rw[length_map]at hp hr;tm_up;refine⟨_,_,_,_,rfl,rfl,hf,su (j:=a-1) (by omega) (by rw[length_map];omega),?_⟩;rw[oy];tm_up;refine⟨_,_,_,_,rfl,rfl,af,su (j:=z) rfl (by rw[length_map,List.length_set];omega),?_⟩;rw[oy,dP];exact q
     ·rw[if_neg h2,Dg hf]at q;exact q
theorem Nn (T:Txt K w mg t):bE P w K mg base mJ (0+4) t.il t.vL ["line","found","first","behind"] (acj K settle):=by
 have DV:=A1 (P:=P) (base:=base) T;have DW:=A2 (P:=P) (base:=base) T;refine T.lL.ok Af (fun vs H Q E h=>?_) (fun cdv A outer s H vs Q E hr h=>?_)
 ·obtain⟨_,_,_,_,_,_,_,rfl,_⟩:=h;rfl
 ·obtain⟨l,f,a,z,xs,ss,fs,rfl,hS,hg,hf,hl,haz,hz,q⟩:=h;unfold settle at q;refine aQ (ag (aL (i:=4) Af.nd rfl (Or.inl rfl) (bh ki (bh ji (pv 3) (pv 2)) ai)) (ag (aM (ar (bc.or (aN (ay hr))) (pv 4) ai (aw _)) (aj (av (aF DV (hr.mono (by decide)) rfl T.AR T.gb.kp T.lJ .nil aO (aa (pv 0) (aa (pv 1) (aa (pv 2) (aa (pv 3) ae))))))) az) (ag (aM (ar (bc.or (aN (ay hr))) (pv 4) ai (aw _)) (aj (av (aF DW (hr.mono (by decide)) rfl T.AS T.gf.kp T.lK .nil aO (aa (pv 0) (aa (pv 1) (aa (pv 2) (aa (pv 3) ae))))))) az) (aj (av gP))))) ?_;tm_up;rw[gQ];have e:((z:Int)-(a:Int)) % 3=(((z-a) % 3:Nat):Int):=by omega
  refine a8 (fun h=>?_) (fun h=>?_)
  ·have h1:(z-a) % 3=1:=by have:((z:Int)-(a:Int)) % 3=1:=of_decide_eq_true h;omega
   rw[if_pos h1]at q;tm_up;exact⟨l,f,a,z,xs,ss,fs,rfl,hS,hg,hf,hl,haz,hz,q⟩
  ·have h1:¬(z-a) % 3=1:=fun c=>h (decide_eq_true (by show((z:Int)-(a:Int)) % 3=1;omega));rw[if_neg h1]at q;tm_up;rw[gQ];refine a8 (fun h=>?_) (fun h=>?_)
   ·have h2:(z-a) % 3=2:=by have:((z:Int)-(a:Int)) % 3=2:=of_decide_eq_true h;omega
    rw[if_pos h2]at q;tm_up;exact⟨l,f,a,z,xs,ss,fs,rfl,hS,hg,hf,hl,haz,hz,q⟩
   ·have h2:¬(z-a) % 3=2:=fun c=>h (decide_eq_true (by show((z:Int)-(a:Int)) % 3=2;omega));rw[if_neg h2,Dg hf]at q;exact q
inductive LH (K:Frag)(vs:List V)(H:Hp)(Q:VK)(E:XK):Prop
 |mk (l:Addr) (b:Int) (xs:List V) (ss:List Sg) (fI:vs=[.ref l,.int b]) (fJ:a7 K H l xs) (hI:mQ H xs ss) (kK:ss.length<=400) (sd:∀(p f lo:Addr)(ys:List V)(H':Hp),aq H H'->H f=none->H lo=none->f≠lo->H' p=some (.tup [.ref f,.ref lo])->H' f=some (.lst ((kM b (bA ss)).1.map V.int))->H' lo=some (.lst ys)->Vj H' ys (kM b (bA ss)).2->Q (.ref p) H'):LH K vs H Q E
theorem V8 (T:Txt K w mg t):bE P w K mg base mJ (0+5) t.nu t.FT ["line","begin"] (LH K):=by
 have xi:=vU (P:=P) (base:=base) T;have agy:=ad9 (P:=P) (base:=base) T;have PB:=Nn (P:=P) (base:=base) T;refine T.uT.ok qV (fun vs H Q E h=>?_) (fun cdv A outer s H vs Q E hr h=>?_)
 ·obtain⟨_,_,_,_,rfl,_⟩:=h;rfl
 ·obtain⟨l,b,xs,ss,rfl,hS,hg,hn,q⟩:=h;refine aQ (ag (aL (i:=2) qV.nd rfl (Or.inl rfl) (aF xi (hr.mono (by decide)) rfl T.vP T.cZ.kp T.iU .nil aO (aa (pv 0) (aa (pv 1) ae)))) (ag (aL (i:=3) qV.nd rfl (Or.inl rfl) (bx ae)) (ag (kh PassesOwn.never rfl (jA (aF agy (hr.mono (by decide)) rfl T.ad0 T.F1.kp T.VQ .nil aO (aa (pv 0) (aa (pv 1) ae)))) (qH rfl (bB (aZ (i:=4) qV.nd rfl (Or.inl rfl)) (bB (aZ (i:=5) qV.nd rfl (Or.inl rfl)) k8))) (aj (aM (cX (bg (aF PB (hr.mono (by decide)) rfl T.Ni T.lL.kp T.vQ .nil aO (aa (pv 0) (aa (pv 2) (aa (pv 4) (aa (pv 5) ae))))))) (aj (a9 (j1 plainAttrs_list slot_list_append type_list_append bM (pv 3) (aa (cH (aa (pv 4) (aa (pv 5) ae))) ae)))) az))) (aj (av (cH (aa (pv 2) (aa (pv 3) ae)))))))) ?_;tm_up;refine⟨l,b,xs,ss,rfl,hS,hg,hn,fun f H1 s1 n1 h1=>?_⟩;refine⟨big (by show 0<=1000;omega),fun lo hlo=>?_⟩;have s1':=s1.trans (aq.upd (o:=.lst []) hlo);tm_up;refine⟨l,b,xs,ss,rfl,s1'.seq hS,hg.same s1',hn,fun r zs H2 s2 n2 h2 hz=>⟨_,rfl,⟨_,a7.of h2⟩,?_⟩⟩;have ack:H lo=none:=s1.free hlo;have nfl:f≠lo:=ao h1 hlo;have nrf:r≠f:=fun e=>by
   have:=s1'.free n2;have h1':=aq.upd (o:=.lst []) hlo _ _ h1;rw[<-e,n2]at h1';cases h1'
  have nrl:r≠lo:=fun e=>by rw[e,af]at n2;cases n2
  have bl:(jk b (bA ss)).length=ss.length:=by rw[uG,length_map]
  have cnt:(wY b (bA ss)).length<=401:=by
   have:=oO (j4 b (bA ss)) 0 0;rw[qL,length_map]at this;exact Nat.le_trans this (by omega)
  refine ur (K:=K) (xs:=zs) (fun i σ H'=>∃(v w:Option V)(c:RdS)(ys:List V),σ=[some (.ref l),some (.int b),some (.ref f),some (.ref lo),v,w]/\aq H H'/\H' f=some (.lst (c.1.map V.int))/\H' lo=some (.lst ys)/\Vj H' ys c.2/\H' r=some (.lst zs)/\Vj H' zs (wY b (bA ss))/\c.1.length=ss.length/\c.2.length<=i/\((wY b (bA ss)).drop i).foldl (tZ (bA ss)) c=kM b (bA ss))
   ⟨none,none,(jk b (bA ss),[]),[],rfl,s1'.trans s2,s2 _ _ (aq.upd (o:=.lst []) hlo _ _ h1),s2 _ _ af,.nil,h2,hz,bl,Nat.le_refl _,rfl⟩ ?_ ?_ ?_
  ·rintro i σ H' _ ⟨v,w,c,ys,rfl,_,_,_,_,hr,_⟩;exact a7.of hr
  ·rintro i x σ H' hx ⟨v,w,c,ys,rfl,s3,hf3,agB,hys,hr3,hzs,hcl,hci,tE⟩;obtain⟨pr,hpr,p,rfl,hp⟩:=zO hzs hx;have hin:=abU b (bA ss) pr (mem_of_getElem? hpr);rw[length_map]at hin;rw[qf hpr,List.foldl_cons]at tE;have hil:i<401:=by
    have:=(List.getElem?_eq_some_iff.mp hpr).1;omega
   refine⟨p,_,rfl,tV.of hp,rfl,_,_,rfl,_,_,rfl,rfl,?_⟩;tm_up;refine⟨l,f,pr.1,pr.2,xs,ss,c.1,rfl,s3.seq hS,hg.same s3,hf3,hcl,hin.1,hin.2,?_⟩;have s4:aq H (upd H' f (.lst ((settle (bA ss) c.1 pr.1 pr.2).2.map V.int))):=fS s3 n1;have V9:upd H' f (.lst ((settle (bA ss) c.1 pr.1 pr.2).2.map V.int)) lo=some (.lst ys):=by rw[ak nfl.symm];exact agB
   have hr4:upd H' f (.lst ((settle (bA ss) c.1 pr.1 pr.2).2.map V.int)) r=some (.lst zs):=by rw[ak nrf];exact hr3
   have aiC:(settle (bA ss) c.1 pr.1 pr.2).2.length=ss.length:=by rw[Ax];exact hcl
   tm_up;refine a8 (fun h=>?_) (fun h=>?_)
   ·have hst:(settle (bA ss) c.1 pr.1 pr.2).1=false:=by
     cases e:(settle (bA ss) c.1 pr.1 pr.2).1
     ·rfl
     ·rw[e]at h;cases h
    tm_up;refine⟨.inl ⟨rfl,_,a7.of V9⟩,?_⟩;tm_up;refine⟨by show 2<=sizeLine;decide,fun z hz=>?_⟩;have sz:=aq.upd (o:=.tup [.int (pr.1:Int),.int (pr.2:Int)]) hz;have Ts:=sz _ _ V9;refine⟨_,_,_,rfl,rfl,Ts,by rw[cj hys];exact a6 (by omega),?_⟩;refine⟨_,_,((settle (bA ss) c.1 pr.1 pr.2).2,c.2++[pr]),_,rfl,fS (s4.trans sz) ack,by rw[ak nfl];exact sz _ _ af,af,kL (qM Ts (sr sz (qM hf3 hys))) (Sz Ts ⟨z,rfl,af⟩),
     by rw[ak nrl];exact sz _ _ hr4,qM Ts (sr sz (qM hf3 hzs)),aiC,by simp;omega,?_⟩
    rw[<-tE];unfold tZ;rw[hst];rfl
   ·have hst:(settle (bA ss) c.1 pr.1 pr.2).1=true:=by
     cases e:(settle (bA ss) c.1 pr.1 pr.2).1
     ·rw[e]at h;exact absurd rfl h
     ·rfl
    refine⟨_,_,((settle (bA ss) c.1 pr.1 pr.2).2,c.2),ys,rfl,s4,af,V9,qM hf3 hys,hr4,qM hf3 hzs,aiC,by show c.2.length<=i+1;omega,?_⟩;rw[<-tE];unfold tZ;rw[hst];rfl
  ·rintro σ H' ⟨v,w,c,ys,rfl,s3,hf3,agB,hys,hr3,hzs,hcl,hci,tE⟩;rw[cj hz,List.drop_length]at tE;have e:c=kM b (bA ss):=tE;subst e;tm_up;refine⟨by show 2<=sizeLine;decide,fun z hz=>?_⟩;have sz:=aq.upd (o:=.tup [.ref f,.ref lo]) hz;exact q z f lo ys _ (s3.trans sz) n1 ack nfl af (sz _ _ hf3) (sz _ _ agB) (sr sz hys)
inductive Ot (K:Frag)(vs:List V)(H:Hp)(Q:VK)(E:XK):Prop
 |mk (l:Addr) (b:Int) (xs:List V) (ss:List Sg) (fI:vs=[.ref l,.int b]) (fJ:a7 K H l xs) (hI:mQ H xs ss) (kK:ss.length<=400) (sd:∀(f:Addr)(H':Hp),aq H H'->H f=none->H' f=some (.lst ((kM b (bA ss)).1.map V.int))->Q (.ref f) H'):Ot K vs H Q E
theorem ZD (T:Txt K w mg t):bE P w K mg base mJ (0+6) t.q0 t.Dx ["line","begin"] (Ot K):=by
 have ZE:=V8 (P:=P) (base:=base) T;refine T.rl.ok Zr (fun vs H Q E h=>?_) (fun cdv A outer s H vs Q E hr h=>?_)
 ·obtain⟨_,_,_,_,rfl,_⟩:=h;rfl
 ·obtain⟨l,b,xs,ss,rfl,hS,hg,hn,q⟩:=h;refine aQ (aj (av (aB au (aF ZE (hr.mono (by decide)) rfl T.VR T.uT.kp T.F2 .nil aO (aa (pv 0) (aa (pv 1) ae))) ai (fun _ _=>rfl)))) ?_;tm_up;refine⟨l,b,xs,ss,rfl,hS,hg,hn,fun p f lo ys H' s1 n1 n2 _ hp hf _ _=>?_⟩;tm_up;exact q f H' s1 n1 hf
theorem acm (k:Kd):(([(Str.ofString "3",V.str "2"),(Str.ofString "2",V.str "3")]:List (Str×V)).lookup k.str).getD (.str k.str)=.str (Oa k).str:=by cases k <;> decide +kernel
inductive Ou (K:Frag)(vs:List V)(H:Hp)(Q:VK)(E:XK):Prop
 |mk (l:Addr) (xs:List V) (ss:List Sg) (fI:vs=[.ref l]) (fJ:a7 K H l xs) (hI:mQ H xs ss) (kK:ss.length<=400) (sd:∀(f:Addr)(ys:List V)(H':Hp),aq H H'->H f=none->H' f=some (.lst ys)->mQ H' ys (ss.map sA)->Q (.ref f) H'):Ou K vs H Q E
theorem Ov (T:Txt K w mg t):bE P w K mg base mJ (0+1) t.q9 t.K5 ["line"] (Ou K):=by
 refine T.uU.ok Zs (fun vs H Q E h=>?_) (fun cdv A outer s H vs Q E hr h=>?_)
 ·obtain⟨_,_,_,rfl,_⟩:=h;rfl
 ·obtain⟨l,xs,ss,rfl,hS,hg,hn,q⟩:=h;refine aQ (aj (av (vy (cn:=["kind","tone"]) rfl (h8.of rfl) (jA (pv 0)) (fun _=>(qH rfl (bB (aZ (i:=0) Jb rfl (Or.inl rfl)) (bB (aZ (i:=1) Jb rfl (Or.inl rfl)) k8)))) (fun _=>Aq) (fun _=>(cH (aa (abv (cv (v:=.ref t.dC) rfl T.Ll rfl) (pv 0) (pv 0)) (aa (pv 1) ae))))))) ?_;tm_up;refine⟨⟨xs,hS⟩,fun D b hD=>?_⟩;refine mO (K:=K) (xs:=xs) (fun i ys σ H'=>∃(v w:Option V),σ=[v,w,some (.ref l)]/\aq H H'/\H' D=some (.lst ys)/\mQ H' ys ((ss.take i).map sA))
   ⟨none,none,rfl,aq.upd hD,af,.nil⟩ ?_ ?_ ?_
  ·rintro i ys σ H' ⟨v,w,rfl,s2,_⟩;exact s2.seq hS
  ·rintro i ys x σ H' hx ⟨v,w,rfl,s2,hDl,hsg⟩ N hN;obtain⟨s,hs,p,rfl,hp⟩:=zO hg hx;have hi:i<ss.length:=(List.getElem?_eq_some_iff.mp hs).1;refine⟨p,_,rfl,tV.of (s2 _ _ hp),rfl,_,_,rfl,_,_,rfl,rfl,?_⟩;refine⟨_,_,rfl,T.JC,?_⟩;tm_up;rw[acm];refine⟨by show 2<=sizeLine;decide,fun z hz=>?_⟩;have sz:=aq.upd (o:=.tup [.str (Oa s.1).str,.int s.2]) hz;have hD3:=sz _ _ hDl;refine⟨hD3,?_,?_⟩
   ·rw[cj hsg,length_map,length_take];exact a6 (by omega)
   ·refine hN _ _ _ ⟨_,_,rfl,fS (s2.trans sz) hD,af,?_⟩;rw[take_succ,hs,map_append];exact kL (abR hD3 (hsg.same sz)) (abQ hD3 ⟨z,rfl,af⟩)
  ·rintro ys σ H' ⟨v,w,rfl,s2,hDl,hsg⟩;rw[cj hg,take_length]at hsg;exact q D ys H' s2 hD hDl hsg
inductive Al (c:Cs)(vs:List V)(H:Hp)(Q:VK)(E:XK):Prop
 |mk (x:Addr) (F:Addr->Prop) (vw:Vw) (ps fs:List Vw) (n:Str) (ss:List Sg) (fI:vs=[.ref x,.str n]) (fJ:xE c H x F vw ps fs) (hI:aR vw n=some (.pl ss)) (kK:∀(l:Addr)(ys:List V)(H':Hp),H l=none->aq H H'->H' l=some (.lst ys)->mQ H' ys ss->Q (.ref l) H'):Al c vs H Q E
theorem Np (T:Txt K w mg t):bE P w K mg base (iA P w) (0+3) t.cw t.sH ["self","name"] (Al (cs t)):=by
 have iw:=oI (P:=P) (base:=base) T;have LI:=Ov (P:=P) (base:=base) T;have bH:=dO (P:=P) (base:=base) T;refine T.oW.OV bS (fun vs H Q E h=>?_) (fun cdv A outer s H vs Q E hr h=>?_)
 ·obtain⟨_,_,_,_,_,_,_,rfl,_⟩:=h;rfl
 ·obtain⟨x,F,vw,ps,fs,n,ss,rfl,B,hf,q⟩:=h;refine aQ (ag (aL (i:=2) bS.nd rfl (Or.inl rfl) (bQ (X:=(cJ (iA P w) P w K mg base ["self","name","terms","leader","later","slow","is_turned","heard"] "Book.line" (ah dy) t.cw cdv A outer s H E)) (pv 0) T.aJ T.oH iw (hr.mono (by decide)) T.jK .nil (fun _ _ z=>Or.inl z) (aa (pv 1) ae))) (ag (aM (ar UR (pv 2) jg (aw _)) (aj (av (fL C7 rfl T.ir ia (aa (bT (bQ (X:=(cJ (iA P w) P w K mg base ["self","name","terms","leader","later","slow","is_turned","heard"] "Book.line" (ah dy) t.cw cdv A outer s H E)) (pv 0) T.aJ T.dE bH (hr.mono (by decide)) T.cu .nil (fun _ _ z=>Or.inl z) (aa (pv 1) ae)) rfl) ae)))) az) (ag (kg (pv 2) (qH rfl (bB (aZ (i:=3) bS.nd rfl (Or.inl rfl)) (bB (aZ (i:=4) bS.nd rfl (Or.inl rfl)) (bB (aZ (i:=5) bS.nd rfl (Or.inl rfl)) (bB (aZ (i:=6) bS.nd rfl (Or.inl rfl)) k8)))))) (ag (aL (i:=7) bS.nd rfl (Or.inl rfl) abE) (aj (av (cI (d5 (bg (pv 6)) (aF LI (hr.mono (by decide)) rfl T.Oi T.uU.kp T.DC .nil aO (aa (pv 7) ae)) (pv 7))))))))) ?_;obtain⟨L,D,U,all,M,Ps,Fs,es,us,b,iM,pp,pf,f⟩:=B.ex;obtain⟨dx,hx⟩:=b.hx;obtain⟨vx,g,gv⟩:=b.vB iM;refine⟨_,rfl,x,dx,_,rfl,hx,qh _ _ _,_,rfl,x,F,vw,ps,fs,n,rfl,B,?_⟩;rw[hf];refine⟨_,rfl,rfl,_,rfl,?_⟩;refine a8 (fun _=>?_) (fun h=>absurd (by decide) h);refine⟨_,rfl,x,dx,_,rfl,hx,d8 _ _ _,_,rfl,x,dx,L,D,U,M L,vx,n,rfl,hx,b.hL,g,?_⟩;rcases IY gv (fun _ _ r=>r.2.1) n with ⟨f1,f2⟩|⟨a,th,j,f1,f2,r,an,fj,fw⟩
  ·rw[f2]at hf;cases hf
  rw[f1];rw[f2]at hf;cases hf;refine⟨a.o,_,a.d,_,_,rfl,(b.ha a r.1).1,T.gh,T.cC,uH _ _ _,?_⟩;refine⟨_,_,rfl,.inl (a7.of (b.ha a r.1).2),fun l hl=>?_⟩;exact q l _ _ hl (aq.upd hl) af (r.2.2.2.same (aq.upd hl))
inductive DX (c:Cs)(vs:List V)(H:Hp)(Q:VK)(E:XK):Prop
 |mk (x:Addr) (F:Addr->Prop) (vw:Vw) (ps fs:List Vw) (n:Str) (fI:vs=[.ref x,.str n]) (fJ:xE c H x F vw ps fs) (hI:match aR vw n with
 |none=>RX E c .dQ H
 |some _=>∀(l:Addr)(ys:List V)(H':Hp),H l=none->aq H H'->H' l=some (.lst ys)->mQ H' ys (Dj vw n)->Q (.ref l) H'):DX c vs H Q E
theorem DY (T:Txt K w mg t):bE P w K mg base (iA P w) (0+4) t.cw t.sH ["self","name"] (DX (cs t)):=by
 have PD:=Np (P:=P) (base:=base) T;have iw:=oI (P:=P) (base:=base) T;have LI:=Ov (P:=P) (base:=base) T;have bH:=dO (P:=P) (base:=base) T;refine T.oW.OV bS (fun vs H Q E h=>?_) (fun cdv A outer s H vs Q E hr h=>?_)
 ·obtain⟨_,_,_,_,_,_,rfl,_⟩:=h;rfl
 ·obtain⟨x,F,vw,ps,fs,n,rfl,B,q⟩:=h;refine aQ (ag (aL (i:=2) bS.nd rfl (Or.inl rfl) (bQ (X:=(cJ (iA P w) P w K mg base ["self","name","terms","leader","later","slow","is_turned","heard"] "Book.line" (ah dy) t.cw cdv A outer s H E)) (pv 0) T.aJ T.oH iw (hr.mono (by decide)) T.jK .nil (fun _ _ z=>Or.inl z) (aa (pv 1) ae))) (ag (aM (ar UR (pv 2) jg (aw _)) (aj (av (fL C7 rfl T.ir ia (aa (bT (bQ (X:=(cJ (iA P w) P w K mg base ["self","name","terms","leader","later","slow","is_turned","heard"] "Book.line" (ah dy) t.cw cdv A outer s H E)) (pv 0) T.aJ T.dE bH (hr.mono (by decide)) T.cu .nil (fun _ _ z=>Or.inl z) (aa (pv 1) ae)) rfl) ae)))) az) (ag (kg (pv 2) (qH rfl (bB (aZ (i:=3) bS.nd rfl (Or.inl rfl)) (bB (aZ (i:=4) bS.nd rfl (Or.inl rfl)) (bB (aZ (i:=5) bS.nd rfl (Or.inl rfl)) (bB (aZ (i:=6) bS.nd rfl (Or.inl rfl)) k8)))))) (ag (aL (i:=7) bS.nd rfl (Or.inl rfl) (bQ (X:=(cJ (iA P w) P w K mg base ["self","name","terms","leader","later","slow","is_turned","heard"] "Book.line" (ah dy) t.cw cdv A outer s H E)) (pv 0) T.aJ T.lM PD (hr.mono (by decide)) T.jw .nil (fun _ _ z=>Or.inl z) (aa (pv 3) ae))) (aj (av (cI (d5 (bg (pv 6)) (aF LI (hr.mono (by decide)) rfl T.Oi T.uU.kp T.DC .nil aO (aa (pv 7) ae)) (pv 7))))))))) ?_;obtain⟨L,D,U,all,M,Ps,Fs,es,us,b,iM,pp,pf,f⟩:=B.ex;obtain⟨dx,hx⟩:=b.hx;obtain⟨vx,g,gv⟩:=b.vB iM;have wv:=B.wv vw (.inr (.inl rfl));refine⟨_,rfl,x,dx,_,rfl,hx,qh _ _ _,_,rfl,x,F,vw,ps,fs,n,rfl,B,?_⟩;cases hf:aR vw n with
  |none =>
   rw[hf]at q;exact q
  |some th =>
   rw[hf]at q;cases th with
   |pl ss =>
    refine⟨_,rfl,rfl,_,rfl,?_⟩;refine a8 (fun _=>?_) (fun h=>absurd (by decide) h);refine⟨_,rfl,x,dx,_,rfl,hx,d8 _ _ _,_,rfl,x,dx,L,D,U,M L,vx,n,rfl,hx,b.hL,g,?_⟩;rcases IY gv (fun _ _ r=>r.2.1) n with ⟨f1,f2⟩|⟨a,th,j,f1,f2,r,an,fj,fw⟩
    ·rw[f2]at hf;cases hf
    rw[f1];rw[f2]at hf;cases hf;refine⟨a.o,_,a.d,_,_,rfl,(b.ha a r.1).1,T.gh,T.cC,uH _ _ _,?_⟩;refine⟨_,_,rfl,.inl (a7.of (b.ha a r.1).2),fun l hl=>?_⟩;exact q l _ _ hl (aq.upd hl) af (by rw[xF f2];exact r.2.2.2.same (aq.upd hl))
   |cn ld lt sl tn =>
    intro p hp;refine⟨_,rfl,rfl,_,rfl,?_⟩;refine a8 (fun h=>by have:=of_decide_eq_true h;cases this) (fun _=>?_);obtain⟨⟨ss,PJ⟩,_⟩:=wv.ld n ld lt sl tn (dg hf);have hfl:=wv.find PJ;have gl:=(wv.gd _ _ PJ).1;rw[xG hf hfl]at q;refine⟨_,rfl,p,_,rfl,tV.of hp,rfl,_,_,rfl,_,_,rfl,_,_,rfl,_,_,rfl,rfl,?_⟩;refine⟨_,rfl,x,dx,_,rfl,hx,oP _ _ _,_,rfl,x,F,vw,ps,fs,ld,ss,rfl,B,hfl,fun l ys H1 hl s1 h1 g1=>?_⟩;refine⟨fun v H'=>∃ l' ys',v=.ref l'/\H l'=none/\aq H H'/\H' l'=some (.lst ys')/\mQ H' ys' (if tn=true then ss.map sA else ss),?_,?_⟩
    ·refine⟨_,rfl,_,rfl,?_⟩;cases tn with
     |true =>
      refine cY ⟨_,rfl,l,ys,ss,rfl,a7.of h1,g1,by omega,fun f' ys' H2 s2 hf' h2 g2=>⟨f',ys',rfl,s1.free hf',s1.trans s2,h2,g2⟩⟩
     |false=>exact bJ ⟨_,rfl,l,ys,rfl,hl,s1,h1,g1⟩
    ·rintro v H' ⟨l',ys',rfl,a1,a2,a3,a4⟩;exact q l' ys' H' a1 a2 a3 a4
inductive DZ (c:Cs)(vs:List V)(H:Hp)(Q:VK)(E:XK):Prop
 |mk (x:Addr) (F:Addr->Prop) (vw:Vw) (ps fs:List Vw) (n:Str) (fI:vs=[.ref x,.str n]) (fJ:xE c H x F vw ps fs) (hI:match aR vw n with
 |none=>RX E c .dQ H
 |some _=>∀(l:Addr)(H':Hp),H l=none->aq H H'->H' l=some (.lst ((wZ vw n).map V.int))->Q (.ref l) H'):DZ c vs H Q E
theorem PK (T:Txt K w mg t):bE P w K mg base (iA P w) (0+7) t.dA t.xN ["self","name"] (DZ (cs t)):=by
 have iw:=oI (P:=P) (base:=base) T;have Tt:=ZD (P:=P) (base:=base) T;have oZ:=DY (P:=P) (base:=base) T;refine T.sJ.OV ik (fun vs H Q E h=>?_) (fun cdv A outer s H vs Q E hr h=>?_)
 ·obtain⟨_,_,_,_,_,_,rfl,_⟩:=h;rfl
 ·obtain⟨x,F,vw,ps,fs,n,rfl,B,q⟩:=h;refine aQ (ag (aL (i:=2) ik.nd rfl (Or.inl rfl) (bQ (X:=(cJ (iA P w) P w K mg base ["self","name","terms","leader","later","slow","is_turned","begin"] "Book.kept" (ah fV) t.dA cdv A outer s H E)) (pv 0) T.aJ T.oH iw (hr.mono (by decide)) T.jK .nil (fun _ _ z=>Or.inl z) (aa (pv 1) ae))) (ag (aM (ar UR (pv 2) jg (aw _)) (aj (av (aF Tt (hr.mono (by decide)) rfl T.Oh T.rl.kp T.DB .nil aO (aa (bQ (X:=(cJ (iA P w) P w K mg base ["self","name","terms","leader","later","slow","is_turned","begin"] "Book.kept" (ah fV) t.dA cdv A outer s H E)) (pv 0) T.aJ T.lM oZ (hr.mono (by decide)) T.jw .nil (fun _ _ z=>Or.inl z) (aa (pv 1) ae)) (aa ai ae))))) az) (ag (kg (pv 2) (qH rfl (bB (aZ (i:=3) ik.nd rfl (Or.inl rfl)) (bB (aZ (i:=4) ik.nd rfl (Or.inl rfl)) (bB (aZ (i:=5) ik.nd rfl (Or.inr rfl)) (bB (aZ (i:=6) ik.nd rfl (Or.inl rfl)) k8)))))) (ag (aL (i:=7) ik.nd rfl (Or.inl rfl) (cI (d5 (bg (pv 6)) ai ai))) (aj (av (vy (cn:=["worth"]) rfl (h8.of rfl) (jA (aF Tt (hr.mono (by decide)) rfl T.Oh T.rl.kp T.DB .nil aO (aa (bQ (X:=(cJ (iA P w) P w K mg base ["self","name","terms","leader","later","slow","is_turned","begin"] "Book.kept" (ah fV) t.dA cdv A outer s H E)) (pv 0) T.aJ T.lM oZ (hr.mono (by decide)) T.jw .nil (fun _ _ z=>Or.inl z) (aa (pv 1) ae)) (aa (pv 7) ae)))) (fun _=>(aZ (i:=0) K1 rfl (Or.inl rfl))) (fun _=>Aq) (fun _=>(bh (aaK.or aa6) (pv 6) (pv 0)))))))))) ?_;obtain⟨L,D,U,all,M,Ps,Fs,es,us,b,iM,pp,pf,f⟩:=B.ex;obtain⟨dx,hx⟩:=b.hx;have wv:=B.wv vw (.inr (.inl rfl));refine⟨_,rfl,x,dx,_,rfl,hx,qh _ _ _,_,rfl,x,F,vw,ps,fs,n,rfl,B,?_⟩;cases hf:aR vw n with
  |none =>
   rw[hf]at q;exact q
  |some th =>
   rw[hf]at q;cases th with
   |pl ss =>
    have gl:=(wv.gd _ _ (dg hf)).1;refine⟨_,rfl,rfl,_,rfl,?_⟩;refine a8 (fun _=>?_) (fun h=>absurd (by decide) h);refine⟨_,rfl,x,dx,_,rfl,hx,oP _ _ _,_,rfl,x,F,vw,ps,fs,n,rfl,B,?_⟩;rw[hf];intro l ys H1 hl s1 h1 g1;rw[xF hf]at g1;refine⟨l,3,ys,ss,rfl,a7.of h1,g1,by omega,fun f' H2 s2 n2 h2=>?_⟩;exact q f' H2 (s1.free n2) (s1.trans s2) (by rw[KN hf];exact h2)
   |cn ld lt sl tn =>
    intro p hp;obtain⟨⟨ss,PJ⟩,lt0,lt1,sl0,sl1⟩:=wv.ld n ld lt sl tn (dg hf);have hfl:=wv.find PJ;have gl:=(wv.gd _ _ PJ).1;rw[KO hf hfl]at q;refine⟨_,rfl,rfl,_,rfl,?_⟩;refine a8 (fun h=>by have:=of_decide_eq_true h;cases this) (fun _=>?_);refine⟨_,rfl,p,_,rfl,tV.of hp,rfl,_,_,rfl,_,_,rfl,_,_,rfl,_,_,rfl,rfl,?_⟩;refine⟨fun v H'=>v=.int (if tn=true then 2 else 3)/\H'=H,?_,?_⟩
    ·refine⟨_,rfl,_,rfl,?_⟩;cases tn with
     |true=>exact cY ⟨rfl,rfl⟩
     |false=>exact bJ ⟨rfl,rfl⟩
    intro v0 H0 ⟨e1,e2⟩;rw[e1,e2];refine⟨_,rfl,x,dx,_,rfl,hx,oP _ _ _,_,rfl,x,F,vw,ps,fs,n,rfl,B,?_⟩;rw[hf];intro l ys H1 hl s1 h1 g1;rw[xG hf hfl]at g1;have gl2:(if tn=true then ss.map sA else ss).length<=400:=by
     split
     ·rw[length_map];omega
     ·omega
    refine⟨_,rfl,l,(if tn=true then 2 else 3),ys,_,rfl,a7.of h1,g1,gl2,fun f' H2 s2 n2 h2=>?_⟩;generalize hW:(kM (if tn=true then 2 else 3) (bA (if tn=true then ss.map sA else ss))).1=W at q h2;have hWl:W.length<=400:=by rw[<-hW,zu,length_map];exact gl2
    refine⟨f',rfl,⟨_,a7.of h2⟩,fun D' b' hD'=>?_⟩;generalize hbz:(if tn=true then(2:Int) else 3)=bz;refine mO (K:=K) (xs:=W.map V.int) (fun i ys σ H'=>∃ v,σ=[v,some (.ref x),some (.str n),some (.ref p),some (.str ld),some (.int lt),some (.int sl),some (.bl tn),some (.int bz)]/\H'=upd H2 D' (.lst ys)/\ys=((W.take i).map fun w=>sl * w).map V.int) ⟨none,rfl,rfl,by simp⟩ ?_ ?_ ?_
    ·rintro i ys σ H' ⟨v,rfl,rfl,_⟩;exact jC (a7.of h2) hD'
    ·rintro i ys y σ H' hy ⟨v,rfl,rfl,rfl⟩ N hN;obtain⟨z,hz,rfl⟩:=O0 hy;have hi:i<W.length:=(List.getElem?_eq_some_iff.mp hz).1;refine mP ?_;refine⟨_,rfl,_,rfl,.inl ⟨_,_,rfl,rfl,.inl ⟨by omega,by omega⟩,af,?_,?_⟩⟩
     ·rw[length_map,length_map,length_take];exact a6 (by omega)
     ·refine hN _ _ _ ⟨_,rfl,dP,?_⟩;rw[take_succ,hz,map_append,map_append];rfl
    ·rintro ys σ H' ⟨v,rfl,rfl,rfl⟩;rw[length_map,take_length];exact q D' _ (s1.free (s2.free hD')) ((s1.trans s2).trans (aq.upd hD')) af
theorem _root_.L2.sf.same {H H':Hp}{a:Addr}{y:V}{r:Option V}(s:aq H H')(h:sf H a y r):sf H' a y r:=by
 have rd:∀{u},Rd H a u->Rd H' a u:=fun z=>z.imp (fun e=>s _ _ e) fun⟨o,e⟩=>⟨o,s _ _ e⟩;rcases h with ⟨kvs,k,e,e2,e3⟩|⟨kvs,k,b,e,e2,e3,e4⟩
 ·exact .inl ⟨kvs,k,rd e,e2,e3⟩
 ·exact .inr ⟨kvs,k,b,rd e,e2,s _ _ e3,e4⟩
theorem PL {K:Frag}{H:Hp}{p:Addr}{a b c d:V}{i:Nat}{v:V}{Q:VK}(h:H p=some (.tup [a,b,c,d]))(e:[a,b,c,d][i]? = some v)(q:Q v H):OO K (.ref p) (.int (i:Int)) H Q\/OP K (.ref p) (.int (i:Int)) H Q\/OQ (.ref p) (.int (i:Int)) H Q:=.inr (.inl ⟨p,_,i,v,rfl,rfl,tV.of h,J9 e,q⟩)
inductive D0 (K:Frag)(vs:List V)(H:Hp)(Q:VK)(E:XK):Prop
 |mk (d:Addr) (vw:Vw) (n:Str) (th:Th) (fI:vs=[.ref d,.str n]) (fJ:t5 H d vw) (hI:xk vw) (kK:aR vw n=some th) (sd:∀(l:Addr)(ys:List V)(H':Hp),aq H H'->H' l=some (.lst ys)->mQ H' ys (Dj vw n)->Q (.ref l) H'):D0 K vs H Q E
theorem D1 (T:Txt K w mg t):bE P w K mg base mJ (0+1) t.jt t.xO ["_law_voices","_law_name"] (D0 K):=by
 refine T.kZ.ok lj (fun vs H Q E h=>?_) (fun cdv A outer s H vs Q E hr h=>?_)
 ·obtain⟨_,_,_,_,rfl,_⟩:=h;rfl
 ·obtain⟨d,vw,n,th,rfl,hd,wv,hf,q⟩:=h;refine aQ (ag (aL (i:=2) lj.nd rfl (Or.inl rfl) (i6 (jj hr) (pv 0) (pv 1) (fun _ _=>rfl))) (ag (aM (bg (aI d7 rfl T.bu br (aa (pv 2) (aa (gJ (v:=.ty "list") rfl T.ir ia rfl) ae)))) (aj (av (pv 2))) az) (ag (aM (cX (bg (aB au (pv 2) ai (fun _ _=>rfl)))) (aj (av (i6 (jj hr) (pv 0) (aB au (pv 2) ai (fun _ _=>rfl)) (fun _ _=>rfl)))) az) (ag (aL (i:=3) lj.nd rfl (Or.inl rfl) (bx ae)) (ag (kh PassesOwn.never rfl (jA (i6 (jj hr) (pv 0) (aB au (pv 2) ai (fun _ _=>rfl)) (fun _ _=>rfl))) (aZ (i:=4) lj.nd rfl (Or.inl rfl)) (ag (aL (i:=5) lj.nd rfl (Or.inl rfl) (cI (d5 (ar (bc.or (aN (ay hr))) (aB au (pv 4) ai (fun _ _=>rfl)) ax (aw _)) ax (cI (d5 (ar (bc.or (aN (ay hr))) (aB au (pv 4) ai (fun _ _=>rfl)) ax (aw _)) ax (aB au (pv 4) ai (fun _ _=>rfl))))))) (aj (a9 (j1 plainAttrs_list slot_list_append type_list_append bM (pv 3) (aa (cH (aa (pv 5) (aa (aB au (pv 4) ai (fun _ _=>rfl)) ae))) ae)))))) (aj (av (pv 3)))))))) ?_;obtain⟨v,hg,hv⟩:=hd.get hf;refine⟨_,rfl,_,rfl,d,v,rfl,hg,?_⟩;cases th with
  |pl ss =>
   obtain⟨l,ys,rfl,h1,h2⟩:=hv;tm_up;refine⟨_,_,_,_,rfl,iQ.lst h1,rfl,_,rfl,cY ?_⟩;exact⟨_,rfl,q l ys H (aq.refl _) h1 (by rw[xF hf];exact h2)⟩
  |cn ld lt sl tn =>
   obtain⟨p,rfl,hp⟩:=hv;obtain⟨⟨ss,PJ⟩,_⟩:=wv.ld n ld lt sl tn (dg hf);have hfl:=wv.find PJ;have gl:=(wv.gd _ _ PJ).1;rw[xG hf hfl]at q;obtain⟨v2,hg2,l,ys,rfl,h1,h2⟩:=hd.get hfl;tm_up;refine⟨_,_,_,_,rfl,iQ.tup hp,rfl,_,rfl,bJ ?_⟩;refine⟨_,rfl,PL (i:=3) hp rfl ?_⟩;refine⟨_,rfl,?_⟩;cases tn with
   |false =>
    refine cY ?_;refine⟨_,rfl,_,rfl,PL (i:=0) hp rfl ?_⟩;exact⟨d,_,rfl,hg2,q l ys H (aq.refl _) h1 h2⟩
   |true =>
    refine bJ ?_;refine⟨big (by show 0<=1000;omega),fun told acn=>?_⟩;have s1:=aq.upd (o:=.lst []) acn;have ht1:=af (H:=H) (a:=told) (o:=.lst []);generalize upd H told (.lst [])=H1 at s1 ht1;have y3:=cj h2;refine⟨_,rfl,_,rfl,PL (i:=0) (s1 _ _ hp) rfl ?_⟩;have nlt:l≠told:=ao h1 acn;have hg3:sf H1 d (.str ld) (some (.ref l)):=hg2.same s1;refine⟨d,_,rfl,hg3,l,rfl,⟨_,a7.of (s1 _ _ h1)⟩,ur (K:=K) (xs:=ys) (fun i σ H'=>∃(u k:Option V)(zs:List V),σ=[some (.ref d),some (.str n),some (.ref p),some (.ref told),u,k]/\aq H H'/\H' told=some (.lst zs)/\mQ H' zs ((ss.take i).map sA)) ⟨none,none,[],rfl,s1,ht1,.nil⟩ ?_ ?_ ?_⟩
    ·rintro i σ H' _ ⟨u,k,zs,rfl,s2,_⟩;exact a7.of (s2 _ _ h1)
    ·rintro i y σ H' hy ⟨u,k,zs,rfl,s2,ht2,gz⟩;obtain⟨sg,hsg,ps,rfl,hps⟩:=zO h2 hy;have hi:i<ss.length:=(List.getElem?_eq_some_iff.mp hsg).1;have aea:=s2 _ _ hps;have zl:=cj gz;rw[length_map,length_take]at zl;refine⟨fun v Hx=>v=.str (Oa sg.1).str/\Hx=H',?_,?_⟩
     ·refine⟨_,rfl,ix0 aea ?_⟩;refine .inl ⟨rfl,_,rfl,?_⟩;rw[abP];refine a8 (fun h=>?_) (fun h=>?_)
      ·rw[of_decide_eq_true h];exact⟨rfl,rfl⟩
      ·have h':sg.1≠.two:=fun z=>h (decide_eq_true z);refine⟨fun v Hx=>v=.str (Oa sg.1).str/\Hx=H',?_,fun _ _ z=>z⟩;refine⟨_,rfl,ix0 aea ?_⟩;refine .inl ⟨rfl,_,rfl,?_⟩;rw[OZ];refine a8 (fun h3=>?_) (fun h3=>?_)
       ·rw[of_decide_eq_true h3];exact⟨rfl,rfl⟩
       ·have h3':sg.1≠.three:=fun z=>h3 (decide_eq_true z);refine⟨_,rfl,ix0 aea ⟨?_,rfl⟩⟩;cases hk:sg.1 <;> first|rfl|exact absurd hk h'|exact absurd hk h3'
     intro v Hx ⟨e1,e2⟩;rw[e1,e2];refine⟨_,rfl,.inl ⟨rfl,_,a7.of ht2⟩,_,rfl,_,rfl,ix1 aea ?_⟩;refine⟨by show 2<=sizeLine;decide,fun tp htp=>?_⟩;have s3:=aq.upd (o:=.tup [V.str (Oa sg.1).str,V.int sg.2]) htp;refine⟨told,_,_,rfl,rfl,s3 _ _ ht2,a6 (by omega),?_⟩;refine⟨_,_,zs++[.ref tp],rfl,fS (s2.trans s3) acn,af,?_⟩;rw[take_succ,hsg,map_append];exact kL (abR (s3 _ _ ht2) (gz.same s3)) (abQ (s3 _ _ ht2) ⟨tp,rfl,af⟩)
    ·rintro σ H' ⟨u,k,zs,rfl,s2,ht2,gz⟩;rw[y3,take_length]at gz;exact⟨_,rfl,q told zs H' s2 ht2 gz⟩
theorem agC {k:Kd}(h:k.meas=true)(m:Int):intText? k.str=some (nm m k)/\k.str.length<=640:=by
 cases k <;> first|(cases h;done)|exact⟨by first|exact(show intText? Kd.three.str=some 3 by lk)|exact(show intText? Kd.two.str=some 2 by lk),by lk⟩
theorem aiE {k:Kd}(h:¬ k.meas=true)(m:Int):nm m k=m:=by
 cases k <;> first|rfl|exact absurd rfl h
theorem Tu (k:Kd):k.meas=(decide (k=.three)||decide (k=.two)):=by cases k <;> rfl
theorem YH (k:Kd):N6 k.str ".32" = k.parting:=by cases k <;> decide +kernel
theorem D2 (k:Kd):N6 k.str "sdr"=k.small:=by cases k <;> decide +kernel
theorem aeb {k:Kd}(h:k.parting=true)(m:Int)(n:Option Kd):bw m k n=0:=by cases k <;> first|(cases h;done)|(unfold bw;rw[if_neg (by rintro⟨_,z,_⟩;cases z)];rfl)
theorem aco {k:Kd}(h:k.small=true)(m:Int)(n:Option Kd):bw m k n=1:=by cases k <;> first|(cases h;done)|(unfold bw;rw[if_neg (by rintro⟨_,z,_⟩;cases z)];rfl)
theorem akN (m:Int)(n:Option Kd):bw m .D n=2:=by unfold bw;rw[if_neg (by rintro⟨_,z,_⟩;cases z)];rfl
theorem aec {k:Kd}{m:Int}{n:Option Kd}(hm:Ms m)(h1:k.parting=false)(h2:k.small=false)(h3:k≠.D)(h4:¬(m=2/\k=.G/\n=some .dot)):bw m k n=m:=by
 unfold bw;rw[if_neg h4];rcases hm with rfl|rfl <;> cases k <;> first|(cases h1;done)|(cases h2;done)|rfl|exact absurd rfl h3
inductive Ow (K:Frag)(vs:List V)(H:Hp)(Q:VK)(E:XK):Prop
 |mk (l:Addr) (b:Int) (xs:List V) (ss:List Sg) (fI:vs=[.ref l,.int b]) (fJ:Ms b) (hI:a7 K H l xs) (kK:mQ H xs ss) (sd:ss.length<=400) (OM:∀(f:Addr)(H':Hp),aq H H'->H f=none->H' f=some (.lst ((jk b (bA ss)).map V.int))->Q (.ref f) H'):Ow K vs H Q E
theorem ZF (T:Txt K w mg t):bE P w K mg base mJ (0+1) t.rb t.K6 ["_law_line","_law_begin"] (Ow K):=by
 refine T.x3.ok qD (fun vs H Q E h=>?_) (fun cdv A outer s H vs Q E hr h=>?_)
 ·obtain⟨_,_,_,_,rfl,_⟩:=h;rfl
 ·obtain⟨l,b,xs,ss,rfl,hMs,hS,hg,hn,q⟩:=h;have p62:(2:Int) ^ 62=4611686018427387904:=by decide
  refine aQ (ag (aL (i:=2) qD.nd rfl (Or.inl rfl) (bx ae)) (ag (aL (i:=3) qD.nd rfl (Or.inl rfl) (pv 1)) (ag (kh PassesOwn.never rfl (Fo rfl T.ye (aa (aI (aG.or aH) rfl T.bY bV (aa (pv 0) ae)) ae)) (aZ (i:=4) qD.nd rfl (Or.inl rfl)) (ag (aL (i:=5) qD.nd rfl (Or.inl rfl) (aB au (aB au (pv 0) (pv 4) (fun _ _=>rfl)) ai (fun _ _=>rfl))) (ag (lg (aM (bW (PW.pt (kJ (ar (bc.or (aN (ay hr))) (pv 5) ax (aw _)) (jh (ar (bc.or (aN (ay hr))) (pv 5) ax (aw _)))))) (aj (aL (i:=3) qD.nd rfl (Or.inl rfl) (fL (uy.or j2) rfl T.Gd Fw (aa (pv 5) ae)))) az)) (aj (aM (ar (dc.or c9) (pv 5) ax rfl) (aj (a9 (j1 plainAttrs_list slot_list_append type_list_append bM (pv 2) (aa ai ae)))) (aj (aM (ar (dc.or c9) (pv 5) ax rfl) (aj (a9 (j1 plainAttrs_list slot_list_append type_list_append bM (pv 2) (aa ai ae)))) (aj (aM (ar (bc.or (aN (ay hr))) (pv 5) ax (aw _)) (aj (a9 (j1 plainAttrs_list slot_list_append type_list_append bM (pv 2) (aa ai ae)))) (aj (aM (bW (PW.pt (c8 (ar (bc.or (aN (ay hr))) (pv 3) ai (aw _)) (c8 (ar (bc.or (aN (ay hr))) (pv 5) ax (aw _)) (c8 (ar qI (bh (du.or (ba.or dw)) (pv 4) ai) (aI (aG.or aH) rfl T.bY bV (aa (pv 0) ae)) (aw _)) (fG (ar (bc.or (aN (ay hr))) (aB au (aB au (pv 0) (bh (du.or (ba.or dw)) (pv 4) ai) (fun _ _=>rfl)) ai (fun _ _=>rfl)) ax (aw _)))))))) (aj (a9 (j1 plainAttrs_list slot_list_append type_list_append bM (pv 2) (aa ai ae)))) (aj (a9 (j1 plainAttrs_list slot_list_append type_list_append bM (pv 2) (aa (pv 3) ae))))))))))))))) (aj (av (pv 2)))))) ?_;refine⟨big (by show 0<=1000;omega),fun f hf=>?_⟩;tm_up;refine .inl ⟨_,_,rfl,.inl (jC hS hf),?_⟩;rw[cj hg];refine⟨(ss.length:Int),rfl,by rw[p62];omega,by rw[p62];omega,?_⟩;refine zq (n:=((ss.length:Int)).toNat) (fun i σ H'=>∃(m:Int)(v w:Option V)(fs:List Int),σ=[some (.ref l),some (.int b),some (.ref f),some (.int m),v,w]/\Ms m/\H'=upd H f (.lst (fs.map V.int))/\fs++jk m ((bA ss).drop i)=jk b (bA ss))
   ⟨b,none,none,[],rfl,hMs,rfl,rfl⟩ ?_ ?_
  ·rintro i σ H' hi ⟨m,v,w,fs,rfl,hm3,rfl,hm⟩;have hil:i<ss.length:=by omega
   have hd:=qf (xC (f:=Prod.fst) (getElem?_eq_getElem hil));rw[hd]at hm;have hS':a7 K (upd H f (.lst (fs.map V.int))) l xs:=jC hS hf;have hg':mQ (upd H f (.lst (fs.map V.int))) xs ss:=hg.same (aq.upd hf);have hl:=congrArg List.length hm;simp only [length_append,jk,length_cons,uG,length_map]at hl;simp only [jk,head_drop]at hm;tm_up;refine Nd hS' hg' (n:=i) (by omega) (getElem?_eq_getElem hil) fun p hp=>?_;generalize hk:(ss[i]).1=k at hm hp;tm_up;refine abw [some (.ref l),some (.int b),some (.ref f),some (.int (nm m k)),some (.int (0+(i:Int))),some (.str k.str)] (upd H f (.lst (fs.map V.int))) ?_ ?_
   ·refine km k.meas ?_ ?_
    ·tm_up;rw[OZ];refine a8 (fun h=>?_) (fun h=>?_)
     ·exact fH (by rw[Tu,h];rfl)
     ·tm_up;rw[abP];exact fH (by rw[Tu,Bool.eq_false_iff.mpr h];rfl)
    refine a8 (fun h=>?_) (fun h=>?_)
    ·obtain⟨e1,e2⟩:=agC h m;tm_up;exact .inr ⟨_,_,rfl,e1,e2,rfl,rfl⟩
    ·rw[aiE h];exact⟨rfl,rfl⟩
   have hm4:=hm3.nm k;have fin:∀(z:Int),z=bw (nm m k) k (bA ss)[i+1]?->∃(m':Int)(v w:Option V)(fs':List Int),[some (V.ref l),some (V.int b),some (V.ref f),some (V.int (nm m k)),some (V.int (0+(i:Int))),some (V.str k.str)]=[some (.ref l),some (.int b),some (.ref f),some (.int m'),v,w]/\Ms m'/\upd (upd H f (.lst (fs.map V.int))) f (.lst (fs.map V.int++[V.int z]))=upd H f (.lst (fs'.map V.int))/\fs'++jk m' ((bA ss).drop (i+1))=jk b (bA ss):=by
    intro z hz;exact⟨nm m k,_,_,fs++[z],rfl,hm4,by rw[dP,map_append];rfl,by rw[List.append_assoc,hz];exact hm⟩
   tm_up;refine a8 (fun h=>?_) (fun h=>?_)
   ·have h':k.parting=true:=by rw[<-YH];exact h
    tm_up;refine⟨.inl ⟨rfl,_,a7.of af⟩,?_⟩;refine⟨_,_,_,rfl,rfl,af,by rw[length_map];exact a6 (by omega),fin 0 (aeb h' ..).symm⟩
   ·have h1:k.parting=false:=by rw[<-YH];exact Bool.eq_false_iff.mpr h
    tm_up;refine a8 (fun h=>?_) (fun h=>?_)
    ·have h':k.small=true:=by rw[<-D2];exact h
     tm_up;refine⟨.inl ⟨rfl,_,a7.of af⟩,?_⟩;refine⟨_,_,_,rfl,rfl,af,by rw[length_map];exact a6 (by omega),fin 1 (aco h' ..).symm⟩
    ·have h2:k.small=false:=by rw[<-D2];exact Bool.eq_false_iff.mpr h
     tm_up;rw[k_D];refine a8 (fun h=>?_) (fun h=>?_)
     ·have h':k=.D:=of_decide_eq_true h;tm_up;refine⟨.inl ⟨rfl,_,a7.of af⟩,?_⟩;refine⟨_,_,_,rfl,rfl,af,by rw[length_map];exact a6 (by omega),fin 2 (by rw[h'];exact(akN ..).symm)⟩
     ·have h3:k≠.D:=fun z=>h (decide_eq_true z);refine km (decide (nm m k=2/\k=.G/\(bA ss)[i+1]? = some .dot)) ?_ ?_
      ·tm_up;rw[gQ];refine a8 (fun h=>?_) (fun h=>?_)
       ·have e1:=of_decide_eq_true h;tm_up;rw[k_G];refine a8 (fun h=>?_) (fun h=>?_)
        ·have e2:=of_decide_eq_true h;tm_up;refine .inl ⟨_,_,rfl,.inl hS',?_⟩;rw[cj hg];tm_up;refine a8 (fun h=>?_) (fun h=>?_)
         ·have hlt:i+1<ss.length:=by have:=of_decide_eq_true h;omega
          tm_up;refine Nd hS' hg' (n:=i+1) (by omega) (getElem?_eq_getElem hlt) fun p2 hp2=>?_;tm_up;rw[aie];refine fH ?_;have e3:(bA ss)[i+1]? = some (ss[i+1]).1:=xC (getElem?_eq_getElem hlt);rw[e3];subst e2;simp[e1]
         ·refine fH ?_;have e3:(bA ss)[i+1]? = none:=List.getElem?_eq_none (by rw[length_map];have:¬(0+(i:Int)+1<ss.length):=fun z=>h (decide_eq_true z);omega);rw[e3];simp
        ·refine fH ?_;have e2:k≠.G:=fun z=>h (decide_eq_true z);simp[e2]
       ·refine fH ?_;have e1:nm m k≠2:=fun z=>h (decide_eq_true z);simp[e1]
      ·refine a8 (fun h=>?_) (fun h=>?_)
       ·have h':=of_decide_eq_true h;tm_up;refine⟨.inl ⟨rfl,_,a7.of af⟩,?_⟩;refine⟨_,_,_,rfl,rfl,af,by rw[length_map];exact a6 (by omega),fin 3 (by unfold bw;rw[if_pos h'])⟩
       ·have h':¬(nm m k=2/\k=.G/\(bA ss)[i+1]? = some .dot):=fun z=>h (decide_eq_true z);tm_up;refine⟨.inl ⟨rfl,_,a7.of af⟩,?_⟩;tm_up;refine⟨_,_,_,rfl,rfl,af,by rw[length_map];exact a6 (by omega),fin _ (aec hm4 h1 h2 h3 h').symm⟩
  ·rintro σ H' ⟨m,v,w,fs,rfl,_,rfl,hm⟩;have e0:((ss.length:Int)).toNat=ss.length:=by omega
   rw[e0,List.drop_eq_nil_of_le (by rw[length_map];exact Nat.le_refl _)]at hm;tm_up;have e:fs=jk b (bA ss):=by rw[<-hm];simp[jk]
   subst e;exact q f _ (aq.upd hf) hf af
inductive LJ (K:Frag)(vs:List V)(H:Hp)(Q:VK)(E:XK):Prop
 |mk (l:Addr) (b:Int) (xs:List V) (ss:List Sg) (fI:vs=[.ref l,.int b]) (fJ:a7 K H l xs) (hI:mQ H xs ss) (kK:ss.length<=400) (sd:∀(f:Addr)(H':Hp),aq H H'->H f=none->H' f=some (.lst ((kn b (bA ss)).map V.bl))->Q (.ref f) H'):LJ K vs H Q E
theorem aiF {k:Kd}(h:k.meas=true)(m:Int):intText? k.str=some (nm m k)/\k.str.length<=640:=by
 cases k <;> first|(cases h;done)|exact⟨by first|exact(show intText? Kd.three.str=some 3 by lk)|exact(show intText? Kd.two.str=some 2 by lk),by lk⟩
theorem akO {k:Kd}(h:¬ k.meas=true)(m:Int):nm m k=m:=by
 cases k <;> first|rfl|exact absurd rfl h
theorem YI (k:Kd):k.meas=(decide (k=.three)||decide (k=.two)):=by cases k <;> rfl
theorem Wa (T:Txt K w mg t):bE P w K mg base mJ (0+1) t.nC t.FU ["_law_line","_law_begin"] (LJ K):=by
 refine T.uV.ok qW (fun vs H Q E h=>?_) (fun cdv A outer s H vs Q E hr h=>?_)
 ·obtain⟨_,_,_,_,rfl,_⟩:=h;rfl
 ·obtain⟨l,b,xs,ss,rfl,hS,hg,hn,q⟩:=h;refine aQ (ag (aL (i:=2) qW.nd rfl (Or.inl rfl) (bx ae)) (ag (aL (i:=3) qW.nd rfl (Or.inl rfl) (pv 1)) (ag (kh PassesOwn.never rfl (jA (pv 0)) (aZ (i:=4) qW.nd rfl (Or.inl rfl)) (ag (lg (aM (bW (PW.pt (kJ (ar (bc.or (aN (ay hr))) (aB au (pv 4) ai (fun _ _=>rfl)) ax (aw _)) (jh (ar (bc.or (aN (ay hr))) (aB au (pv 4) ai (fun _ _=>rfl)) ax (aw _)))))) (aj (aL (i:=3) qW.nd rfl (Or.inl rfl) (fL (uy.or j2) rfl T.Gd Fw (aa (aB au (pv 4) ai (fun _ _=>rfl)) ae)))) az)) (aj (a9 (j1 plainAttrs_list slot_list_append type_list_append bM (pv 2) (aa (bK (bc.or (aN (ay hr))) (pv 3) ai (aw _)) ae)))))) (aj (av (pv 2)))))) ?_;refine⟨big (by show 0<=1000;omega),fun f hf=>?_⟩;tm_up;refine⟨⟨xs,jC hS hf⟩,ur (K:=K) (xs:=xs) (fun i σ H'=>∃(m:Int)(v:Option V)(fs:List Bool),σ=[some (.ref l),some (.int b),some (.ref f),some (.int m),v]/\H'=upd H f (.lst (fs.map V.bl))/\fs++kn m ((bA ss).drop i)=kn b (bA ss))
   ⟨b,none,[],rfl,rfl,rfl⟩ ?_ ?_ ?_⟩
  ·rintro i σ H' _ ⟨m,v,fs,rfl,rfl,_⟩;exact jC hS hf
  ·rintro i x σ H' hx ⟨m,v,fs,rfl,rfl,hm⟩;obtain⟨s,hs,p,rfl,hp⟩:=zO hg hx;have hd:=qf (xC (f:=Prod.fst) hs);rw[hd]at hm;have hp':upd H f (.lst (fs.map V.bl)) p=some (.tup [.str s.1.str,.int s.2]):=by rw[ak (ao hp hf)];exact hp
   have hl:=congrArg List.length hm;simp only [length_append,kn,length_cons,Vk,length_map]at hl;refine abw [some (.ref l),some (.int b),some (.ref f),some (.int (nm m s.1)),some (.ref p)] (upd H f (.lst (fs.map V.bl))) ?_ ?_
   ·refine km s.1.meas ?_ ?_
    ·tm_up;rw[OZ];refine a8 (fun h=>?_) (fun h=>?_)
     ·exact fH (by rw[YI,h];rfl)
     ·tm_up;rw[abP];exact fH (by rw[YI,Bool.eq_false_iff.mpr h];rfl)
    refine a8 (fun h=>?_) (fun h=>?_)
    ·obtain⟨e1,e2⟩:=aiF h m;tm_up;exact .inr ⟨_,_,rfl,e1,e2,rfl,rfl⟩
    ·rw[akO h];exact⟨rfl,rfl⟩
   ·tm_up;refine⟨.inl ⟨rfl,_,a7.of af⟩,?_⟩;tm_up;rw[gQ];refine⟨_,_,_,rfl,rfl,af,by rw[length_map];exact a6 (by omega),?_⟩;exact⟨_,_,fs++[decide (nm m s.1=3)],rfl,by rw[dP,map_append];rfl,by rw[List.append_assoc];exact hm⟩
  ·rintro σ H' ⟨m,v,fs,rfl,rfl,hm⟩;rw[List.drop_eq_nil_of_le (by rw[length_map,cj hg];exact Nat.le_refl _)]at hm;tm_up;have e:fs=kn b (bA ss):=by rw[<-hm];simp[kn]
   subst e;exact q f _ (aq.upd hf) hf af
def akP (K:Frag)(g:List Kd->List Int->Nat->Nat->Bool×List Int):Sp:=fun vs H Q _=>∃(l f:Addr)(a z:Nat)(xs:List V)(ss:List Sg)(fs:List Int),vs=[.ref l,.ref f,.int (a:Int),.int (z:Int)]/\a7 K H l xs/\mQ H xs ss/\l≠f/\H f=some (.lst (fs.map V.int))/\fs.length=ss.length/\a<z/\z<=ss.length /\
 Q (.bl (g (bA ss) fs a z).1) (upd H f (.lst ((g (bA ss) fs a z).2.map V.int)))
theorem LK (k:Kd):N6 k.str "GDR"=k.great:=by cases k <;> decide +kernel
theorem Gp (o:Option Kd):(o.getD .dot).great=tY o:=by cases o <;> rfl
theorem akQ (o:Option Kd):decide (o.getD .dot=.G)=decide (o=some .G):=by
 cases o with
 |none=>decide
 |some k=>simp
theorem ZG {ks:List Kd}{f:List Int}{a z:Nat}{r:Nat}(hr:(z-a) % 3=r)(hr3:r<3) :
  settle ks f a z=if decide (r=2)&&(tY ks[z]? && decide (ks[z-1]? = some .s)) then(true,f.set (z-1) 2) else
   (decide (r=0)||((decide (r=1)&&(j5 ks f a||ib ks z))||(decide (r=2)&&(j5 ks f a&&ib ks z))),
    let g:=if(decide (r=1)&&j5 ks f a)||(decide (r=2)&&(j5 ks f a&&ib ks z)) then f.set (a-1) 2 else f
    if(decide (r=1)&&(ib ks z && !j5 ks f a))||(decide (r=2)&&(j5 ks f a&&ib ks z)) then g.set z 2 else g):=by
 unfold settle Dc Df;rw[hr];have:r=0\/r=1\/r=2:=by omega
 rcases this with rfl|rfl|rfl <;> cases j5 ks f a <;> cases ib ks z <;> cases tY ks[z]? <;> cases decide (ks[z-1]? = some .s) <;> rfl
theorem acp (T:Txt K w mg t):bE P w K mg base mJ (0+1) t.vM t.Pd ["_law_line","_law_told","_law_low","_law_high"] (akP K settle):=by
 refine T.DF.ok uP (fun vs H Q E h=>?_) (fun cdv A outer s H vs Q E hr h=>?_)
 ·obtain⟨_,_,_,_,_,_,_,rfl,_⟩:=h;rfl
 ·obtain⟨l,f,a,z,xs,ss,fs,rfl,hS,hg,hlf,hf,hl,haz,hz,q⟩:=h;obtain⟨r,hrr⟩:∃ r:Nat,(z-a) % 3=r:=⟨_,rfl⟩;have hr3:r<3:=by omega
  rw[ZG hrr hr3]at q;have hri:((z:Int)-(a:Int)) % 3=(r:Int):=by omega
  have dI:∀ n:Nat,decide (V.int (((z:Int)-(a:Int)) % 3)=V.int (n:Int))=decide (r=n):=fun n=>by
   rw[hri,gQ]
   by_cases e:r=n
   ·simp[e]
   ·have:¬((r:Int)=(n:Int)):=by omega
    simp[e,this]
  have d0:decide (V.int (((z:Int)-(a:Int)) % 3)=V.int 0)=decide (r=0):=dI 0;have d1:decide (V.int (((z:Int)-(a:Int)) % 3)=V.int 1)=decide (r=1):=dI 1;have d2:decide (V.int (((z:Int)-(a:Int)) % 3)=V.int 2)=decide (r=2):=dI 2;refine aQ (ag (aL (i:=4) uP.nd rfl (Or.inl rfl) (bh ki (bh ji (pv 3) (pv 2)) ai)) (ag (aL (i:=5) uP.nd rfl (Or.inl rfl) (cI (d5 (ar qI (pv 3) (aI (aG.or aH) rfl T.bY bV (aa (pv 0) ae)) (aw _)) (aB au (aB au (pv 0) (pv 3) (fun _ _=>rfl)) ai (fun _ _=>rfl)) ax))) (ag (aL (i:=6) uP.nd rfl (Or.inl rfl) (cI (d5 (ar qI (bh (du.or (ba.or dw)) (pv 3) ai) (aI (aG.or aH) rfl T.bY bV (aa (pv 0) ae)) (aw _)) (aB au (aB au (pv 0) (bh (du.or (ba.or dw)) (pv 3) ai) (fun _ _=>rfl)) ai (fun _ _=>rfl)) ax))) (ag (aL (i:=7) uP.nd rfl (Or.inl rfl) (cI (iP (bK aaN (pv 2) ai (aw _)) (iP (bK (bc.or (aN (ay hr))) (aB au (aB au (pv 0) (bh ji (pv 2) ai) (fun _ _=>rfl)) ai (fun _ _=>rfl)) ax (aw _)) (k7 (bK (bc.or (aN (ay hr))) (aB au (pv 1) (bh ji (pv 2) ai) (fun _ _=>rfl)) ai (aw _))))))) (ag (aL (i:=8) uP.nd rfl (Or.inl rfl) (cI (iP (bK (bc.or (aN (ay hr))) (pv 5) ax (aw _)) (k7 (bK (vq.or vt) (pv 6) ax rfl))))) (ag (aM (bW (PW.pt (c8 (ar (bc.or (aN (ay hr))) (pv 4) ai (aw _)) (c8 (ar (dc.or c9) (pv 5) ax rfl) (fG (ar (bc.or (aN (ay hr))) (aB au (aB au (pv 0) (bh ji (pv 3) ai) (fun _ _=>rfl)) ai (fun _ _=>rfl)) ax (aw _))))))) (ag (kg ai (xn (pv 1) (bh ji (pv 3) ai) set_list)) (aj (av gP))) az) (ag (lg (aM (bW (PW.pt (kJ (bW (PW.pt (c8 (ar (bc.or (aN (ay hr))) (pv 4) ai (aw _)) (fG (bg (pv 7)))))) (jh (bW (PW.pt (c8 (ar (bc.or (aN (ay hr))) (pv 4) ai (aw _)) (c8 (bg (pv 7)) (fG (bg (pv 8))))))))))) (aj (kg ai (xn (pv 1) (bh ji (pv 2) ai) set_list))) az)) (ag (lg (aM (bW (PW.pt (kJ (bW (PW.pt (c8 (ar (bc.or (aN (ay hr))) (pv 4) ai (aw _)) (c8 (bg (pv 8)) (fG (cX (bg (pv 7)))))))) (jh (bW (PW.pt (c8 (ar (bc.or (aN (ay hr))) (pv 4) ai (aw _)) (c8 (bg (pv 7)) (fG (bg (pv 8))))))))))) (aj (kg ai (xn (pv 1) (pv 3) set_list))) az)) (aj (av (cI (aaF (bK (bc.or (aN (ay hr))) (pv 4) ai (aw _)) (aaF (cI (iP (bK (bc.or (aN (ay hr))) (pv 4) ai (aw _)) (k7 (cI (aaF (pv 7) (k7 (pv 8))))))) (k7 (cI (iP (bK (bc.or (aN (ay hr))) (pv 4) ai (aw _)) (iP (pv 7) (k7 (pv 8))))))))))))))))))) ?_;tm_up;refine zN (.str ((bA ss)[z]?.getD .dot).str) ?_ ?_
  ·tm_up;refine .inl ⟨_,_,rfl,.inl hS,?_⟩;rw[cj hg];tm_up;refine a8 (fun h=>?_) (fun h=>?_)
   ·have hlt:z<ss.length:=by have:=of_decide_eq_true h;omega
    tm_up;refine Nd hS hg (n:=z) rfl (getElem?_eq_getElem hlt) fun p hp=>?_;tm_up;refine qe ?_;rw[getElem?_map,getElem?_eq_getElem hlt];rfl
   ·refine qe ?_;have hge:¬ z<ss.length:=fun c=>h (decide_eq_true (by omega));rw[List.getElem?_eq_none (by rw[length_map];omega)];rfl
  refine zN (.str ((bA ss)[z+1]?.getD .dot).str) ?_ ?_
  ·tm_up;refine .inl ⟨_,_,rfl,.inl hS,?_⟩;rw[cj hg];tm_up;refine a8 (fun h=>?_) (fun h=>?_)
   ·have hlt:z+1<ss.length:=by have:=of_decide_eq_true h;omega
    tm_up;refine Nd hS hg (n:=z+1) (by omega) (getElem?_eq_getElem hlt) fun p hp=>?_;tm_up;refine qe ?_;rw[getElem?_map,getElem?_eq_getElem hlt];rfl
   ·refine qe ?_;have hge:¬ z+1<ss.length:=fun c=>h (decide_eq_true (by omega));rw[List.getElem?_eq_none (by rw[length_map];omega)];rfl
  refine zN (.bl (j5 (bA ss) fs a)) ?_ ?_
  ·tm_up;refine a8 (fun h=>?_) (fun h=>?_)
   ·have hp:0<a:=by have:=of_decide_eq_true h;omega
    have hlt:a-1<ss.length:=by omega
    have ek:O1 (bA ss) ((a:Int)-1)=some (ss[a-1]).1:=by
     have:(a:Int)-1=((a-1:Nat):Int):=by omega
     rw[this,sq,getElem?_map,getElem?_eq_getElem hlt];rfl
    tm_up;refine Nd hS hg (n:=a-1) (by omega) (getElem?_eq_getElem hlt) fun p hp=>?_;tm_up;rw[k_G];refine a8 (fun h2=>?_) (fun h2=>?_)
    ·tm_up;refine abS (a7.of hf) (n:=a-1) (by omega) (getElem?_eq_getElem (by omega)) ?_;tm_up;rw[gQ];refine qe ?_;unfold j5;rw[ek,of_decide_eq_true h2,List.getD_eq_getElem?_getD,getElem?_eq_getElem (by omega)];simp
    ·refine qe ?_;unfold j5;rw[ek];have:(ss[a-1]).1≠.G:=fun c=>h2 (decide_eq_true c);simp[this]
   ·refine qe ?_;have hp:a=0:=by
     have:¬ 0<a:=fun c=>h (decide_eq_true (by omega));omega
    subst hp;unfold j5 O1;simp
  refine zN (.bl (ib (bA ss) z)) ?_ ?_
  ·tm_up;rw[k_G,akQ];refine a8 (fun h=>?_) (fun h=>?_)
   ·tm_up;refine qe ?_;unfold ib;rw[h];show V.bl (!N6 _ _)=_;rw[LK,Gp];rfl
   ·refine qe ?_;unfold ib;rw[Bool.eq_false_iff.mpr h];rfl
  generalize hL:j5 (bA ss) fs a=L at q;generalize hR:ib (bA ss) z=R at q;refine km (decide (r=2)&&(tY (bA ss)[z]? && decide ((bA ss)[z-1]? = some .s))) ?_ ?_
  ·tm_up;rw[d2];refine a8 (fun h=>?_) (fun h=>?_)
   ·rw[h];tm_up;refine a8 (fun h2=>?_) (fun h2=>?_)
    ·have h2':tY (bA ss)[z]? = true:=by
      have:N6 ((bA ss)[z]?.getD .dot).str "GDR"=true:=h2
      rwa [LK,Gp]at this
     rw[h2'];tm_up;have hlt:z-1<ss.length:=by omega
     refine Nd hS hg (n:=z-1) (by omega) (getElem?_eq_getElem hlt) fun p hp=>?_;tm_up;rw[k_s];refine fH ?_;rw[getElem?_map,getElem?_eq_getElem hlt];simp
    ·have h2':tY (bA ss)[z]? = false:=by
      have:N6 ((bA ss)[z]?.getD .dot).str "GDR"=false:=Bool.eq_false_iff.mpr h2
      rwa [LK,Gp]at this
     rw[h2'];exact fH rfl
   ·exact fH (by rw[Bool.eq_false_iff.mpr h];rfl)
  refine a8 (fun h=>?_) (fun h=>?_)
  ·rw[if_pos h]at q;tm_up;refine⟨_,_,_,_,rfl,rfl,hf,su (j:=z-1) (by omega) (by rw[length_map];omega),?_⟩;rw[oy];exact q
  ·rw[if_neg h]at q;dsimp only at q;have hLp:L=true->1<=a/\a-1<ss.length:=fun e=>by
    have:=FD (hL.trans e)
    rwa [length_map]at this
   have hRp:R=true->z<ss.length:=fun e=>by
    have:=Ay (hR.trans e)
    rwa [length_map]at this
   generalize hg1:(if(decide (r=1)&&L||decide (r=2)&&(L&&R))=true then fs.set (a-1) 2 else fs)=g1 at q;have g1l:g1.length=ss.length:=by rw[<-hg1];split <;> simp[hl]
   refine abw [some (.ref l),some (.ref f),some (.int (a:Int)),some (.int (z:Int)),some (.int (((z:Int)-(a:Int)) % 3)),some (.str ((bA ss)[z]?.getD .dot).str),some (.str ((bA ss)[z+1]?.getD .dot).str),some (.bl L),some (.bl R)] (upd H f (.lst (g1.map V.int))) ?_ ?_
   ·refine km (decide (r=1)&&L||decide (r=2)&&(L&&R)) ?_ ?_
    ·refine km (decide (r=1)&&L) ?_ ?_
     ·tm_up;rw[d1];refine a8 (fun h=>?_) (fun h=>?_)
      ·tm_up;exact fH (by rw[h];rfl)
      ·exact fH (by rw[Bool.eq_false_iff.mpr h];rfl)
     ·refine a8 (fun h=>fH (by rw[h];rfl)) (fun h=>?_);rw[Bool.eq_false_iff.mpr h,Bool.false_or];refine km (decide (r=2)&&(L&&R)) ?_ (fH rfl);tm_up;rw[d2];refine a8 (fun h=>?_) (fun h=>?_)
      ·tm_up;refine a8 (fun h2=>?_) (fun h2=>?_)
       ·tm_up;exact fH (by rw[h,h2];rfl)
       ·exact fH (by rw[h,Bool.eq_false_iff.mpr h2];rfl)
      ·exact fH (by rw[Bool.eq_false_iff.mpr h];rfl)
    ·refine a8 (fun h=>?_) (fun h=>?_)
     ·rw[if_pos h]at hg1;have hp:=hLp (by cases L <;> simp_all);tm_up;refine⟨_,_,_,_,rfl,rfl,hf,su (j:=a-1) (by omega) (by rw[length_map];omega),?_⟩;rw[oy,hg1];exact⟨rfl,rfl⟩
     ·rw[if_neg h]at hg1;subst hg1;rw[Dg hf];exact⟨rfl,rfl⟩
   generalize hg2:(if(decide (r=1)&&(R && !L)||decide (r=2)&&(L&&R))=true then g1.set z 2 else g1)=g2 at q;refine abw [some (.ref l),some (.ref f),some (.int (a:Int)),some (.int (z:Int)),some (.int (((z:Int)-(a:Int)) % 3)),some (.str ((bA ss)[z]?.getD .dot).str),some (.str ((bA ss)[z+1]?.getD .dot).str),some (.bl L),some (.bl R)] (upd H f (.lst (g2.map V.int))) ?_ ?_
   ·refine km (decide (r=1)&&(R && !L)||decide (r=2)&&(L&&R)) ?_ ?_
    ·refine km (decide (r=1)&&(R && !L)) ?_ ?_
     ·tm_up;rw[d1];refine a8 (fun h=>?_) (fun h=>?_)
      ·tm_up;refine a8 (fun h2=>?_) (fun h2=>?_)
       ·tm_up;exact fH (by rw[h,h2];rfl)
       ·exact fH (by rw[h,Bool.eq_false_iff.mpr h2];rfl)
      ·exact fH (by rw[Bool.eq_false_iff.mpr h];rfl)
     ·refine a8 (fun h=>fH (by rw[h];rfl)) (fun h=>?_);rw[Bool.eq_false_iff.mpr h,Bool.false_or];refine km (decide (r=2)&&(L&&R)) ?_ (fH rfl);tm_up;rw[d2];refine a8 (fun h=>?_) (fun h=>?_)
      ·tm_up;refine a8 (fun h2=>?_) (fun h2=>?_)
       ·tm_up;exact fH (by rw[h,h2];rfl)
       ·exact fH (by rw[h,Bool.eq_false_iff.mpr h2];rfl)
      ·exact fH (by rw[Bool.eq_false_iff.mpr h];rfl)
    ·refine a8 (fun h=>?_) (fun h=>?_)
     ·rw[if_pos h]at hg2;have hp:=hRp (by cases R <;> simp_all);tm_up;refine⟨_,_,_,_,rfl,rfl,af,su (j:=z) rfl (by rw[length_map];omega),?_⟩;rw[oy,hg2,dP];exact⟨rfl,rfl⟩
     ·rw[if_neg h]at hg2;subst hg2;exact⟨rfl,rfl⟩
   refine zN (.bl (decide (r=0)||(decide (r=1)&&(L||R)||decide (r=2)&&(L&&R)))) ?_ q;tm_up;rw[d0];refine a8 (fun h=>qe (by rw[h];rfl)) (fun h=>?_);rw[Bool.eq_false_iff.mpr h,Bool.false_or];refine zN (.bl (decide (r=1)&&(L||R))) ?_ ?_
   ·tm_up;rw[d1];refine a8 (fun h=>?_) (fun h=>qe (by rw[Bool.eq_false_iff.mpr h];rfl));refine zN (.bl (L||R)) ?_ (qe (by rw[h];rfl));tm_up;refine a8 (fun h=>qe (by rw[h];rfl)) (fun h=>?_);tm_up;exact qe (by rw[Bool.eq_false_iff.mpr h];rfl)
   ·refine⟨_,rfl,?_⟩;refine a8 (fun h=>qe (by rw[h];rfl)) (fun h=>?_);rw[Bool.eq_false_iff.mpr h,Bool.false_or];refine zN (.bl (decide (r=2)&&(L&&R))) ?_ (qe rfl);tm_up;rw[d2];refine a8 (fun h=>?_) (fun h=>qe (by rw[Bool.eq_false_iff.mpr h];rfl));tm_up;refine a8 (fun h2=>?_) (fun h2=>?_)
    ·tm_up;exact qe (by rw[h,h2];rfl)
    ·exact qe (by rw[h,Bool.eq_false_iff.mpr h2];rfl)
inductive Ox (K:Frag)(vs:List V)(H:Hp)(Q:VK)(E:XK):Prop
 |mk (l:Addr) (b:Int) (xs:List V) (ss:List Sg) (fI:vs=[.ref l,.int b]) (fJ:Ms b) (hI:H l=some (.lst xs)) (kK:mQ H xs ss) (sd:ss.length<=400) (OM:∀(p f lo:Addr)(ys:List V)(H':Hp),aq H H'->H f=none->H lo=none->f≠lo->H' p=some (.tup [.ref f,.ref lo])->H' f=some (.lst ((kM b (bA ss)).1.map V.int))->H' lo=some (.lst ys)->Vj H' ys (kM b (bA ss)).2->Q (.ref p) H'):Ox K vs H Q E
theorem ZH (T:Txt K w mg t):bE P w K mg base mJ (0+2) t.rf t.K7 ["_law_line","_law_begin"] (Ox K):=by
 have acq:=ZF (P:=P) (base:=base) T;have ZI:=Wa (P:=P) (base:=base) T;have aed:=acp (P:=P) (base:=base) T;refine T.uW.ok kU (fun vs H Q E h=>?_) (fun cdv A outer s H vs Q E hr h=>?_)
 ·obtain⟨_,_,_,_,rfl,_⟩:=h;rfl
 ·obtain⟨l,b,xs,ss,rfl,hMs,hS,hg,hn,q⟩:=h;refine aQ (ag (aL (i:=2) kU.nd rfl (Or.inl rfl) (aF acq (hr.mono (by decide)) rfl T.Zu T.x3.kp T.Le .nil aO (aa (pv 0) (aa (pv 1) ae)))) (ag (aL (i:=3) kU.nd rfl (Or.inl rfl) (aF ZI (hr.mono (by decide)) rfl T.VS T.uV.kp T.F8 .nil aO (aa (pv 0) (aa (pv 1) ae)))) (ag (aL (i:=4) kU.nd rfl (Or.inl rfl) (bx ae)) (ag (aL (i:=5) kU.nd rfl (Or.inl rfl) ai) (ag (R6 PassesOwn.never (ar qI (pv 5) (aI (aG.or aH) rfl T.bY bV (aa (pv 0) ae)) (aw _)) (ag (aL (i:=6) kU.nd rfl (Or.inl rfl) (pv 5)) (ag (R6 PassesOwn.never (bW (PW.pt (c8 (ar qI (pv 6) (aI (aG.or aH) rfl T.bY bV (aa (pv 0) ae)) (aw _)) (c8 (ar (dc.or c9) (aB au (aB au (pv 0) (pv 6) (fun _ _=>rfl)) ai (fun _ _=>rfl)) ax rfl) (fG (bg (aB au (pv 3) (pv 6) (fun _ _=>rfl)))))))) (aj (aL (i:=6) kU.nd rfl (Or.inl rfl) (bh (du.or (ba.or dw)) (pv 6) ai)))) (ag (lg (aM (bW (PW.pt (c8 (ar aaN (pv 6) (pv 5) (aw _)) (fG (cX (bg (aF aed (hr.mono (by decide)) rfl T.acb T.DF.kp T.Pf .nil aO (aa (pv 0) (aa (pv 2) (aa (pv 5) (aa (pv 6) ae))))))))))) (aj (a9 (j1 plainAttrs_list slot_list_append type_list_append bM (pv 4) (aa (cH (aa (pv 5) (aa (pv 6) ae))) ae)))) az)) (aj (aL (i:=5) kU.nd rfl (Or.inl rfl) (aI (Y1 rfl) rfl T.agp afV (aa (pv 6) (aa (bh (du.or (ba.or dw)) (pv 5) ai) ae))))))))) (aj (av (cH (aa (pv 2) (aa (pv 4) ae)))))))))) ?_;tm_up;refine⟨l,b,xs,ss,rfl,hMs,a7.of hS,hg,hn,fun f H1 s1 n1 h1=>?_⟩;tm_up;refine⟨l,b,xs,ss,rfl,a7.of (s1 _ _ hS),hg.same s1,hn,fun th H2 s2 n2 h2=>?_⟩;refine⟨big (by show 0<=1000;omega),fun lo hlo=>?_⟩;have s3:=s2.trans (aq.upd (o:=.lst []) hlo);have ack:H lo=none:=s1.free (s2.free hlo);have nfl:f≠lo:=ao (s2 _ _ h1) hlo;have ntl:th≠lo:=ao h2 hlo;have ntf:th≠f:=fun e=>by rw[e,h1]at n2;cases n2
  have nlf:l≠f:=ao hS n1;have bl:(jk b (bA ss)).length=ss.length:=by rw[uG,length_map]
  have cnt:(wY b (bA ss)).length<=401:=by
   have:=oO (j4 b (bA ss)) 0 0;rw[qL,length_map]at this;exact Nat.le_trans this (by omega)
  tm_up;refine⟨fun mm σ H'=>∃(low:Nat)(v:Option V)(c:RdS)(ys:List V),mm=ss.length-low/\low<=ss.length/\σ=[some (.ref l),some (.int b),some (.ref f),some (.ref th),some (.ref lo),some (.int (low:Int)),v]/\aq H H'/\H' f=some (.lst (c.1.map V.int))/\H' lo=some (.lst ys)/\Vj H' ys c.2/\H' th=some (.lst ((kn b (bA ss)).map V.bl))/\c.1.length=ss.length/\c.2.length+(fK low low ((j4 b (bA ss)).drop low)).length<=401/\(fK low low ((j4 b (bA ss)).drop low)).foldl (tZ (bA ss)) c=kM b (bA ss),
   ⟨_,0,none,(jk b (bA ss),[]),[],rfl,Nat.zero_le _,rfl,s1.trans s3,s3 _ _ h1,af,.nil,by rw[ak ntl];exact h2,bl,by show 0+(wY b (bA ss)).length<=401;omega,rfl⟩,?_⟩
  rintro mm σ H' ⟨low,v,c,ys,rfl,hlow,rfl,s4,hf4,V9,hys,hth,hcl,aiH,tE⟩;have hl4:=s4 _ _ hS;have hg4:=hg.same s4;tm_up;refine .inl ⟨_,_,rfl,.inl (a7.of hl4),?_⟩;rw[cj hg];tm_up;refine a8 (fun h=>?_) (fun h=>?_)
  ·have hlt:low<ss.length:=by have:=of_decide_eq_true h;omega
   refine⟨fun σ' JF=>∃ m',m'<ss.length-low/\∃(low:Nat)(v:Option V)(c:RdS)(ys:List V),m'=ss.length-low/\low<=ss.length/\σ'=[some (.ref l),some (.int b),some (.ref f),some (.ref th),some (.ref lo),some (.int (low:Int)),v]/\aq H JF/\JF f=some (.lst (c.1.map V.int))/\JF lo=some (.lst ys)/\Vj JF ys c.2/\JF th=some (.lst ((kn b (bA ss)).map V.bl))/\c.1.length=ss.length/\c.2.length+(fK low low ((j4 b (bA ss)).drop low)).length<=401/\(fK low low ((j4 b (bA ss)).drop low)).foldl (tZ (bA ss)) c=kM b (bA ss),fun _ _ h=>h,?_⟩;generalize hn':lead ((j4 b (bA ss)).drop low)=n;have hnle:n<=ss.length-low:=by
    have:=Ys ((j4 b (bA ss)).drop low);rw[length_drop,qL,length_map,hn']at this;exact this
   tm_up;refine⟨fun mm σ JF=>∃ j:Nat,mm=n-j/\j<=n/\σ=[some (.ref l),some (.int b),some (.ref f),some (.ref th),some (.ref lo),some (.int (low:Int)),some (.int ((low+j:Nat):Int))]/\JF=H',⟨n,0,rfl,Nat.zero_le _,rfl,rfl⟩,?_⟩;rintro mm σ JF ⟨j,rfl,hj,rfl,rfl⟩;have hla:=Yu ((j4 b (bA ss)).drop low) j (by rw[hn'];exact hj);rw[hn',age]at hla;refine km (decide (j<n)) ?_ ?_
   ·tm_up;refine .inl ⟨_,_,rfl,.inl (a7.of hl4),?_⟩;rw[cj hg];tm_up;refine a8 (fun h=>?_) (fun h=>?_)
    ·have hjl:low+j<ss.length:=by have:=of_decide_eq_true h;omega
     have hk:(bA ss)[low+j]? = some (ss[low+j]).1:=xC (getElem?_eq_getElem hjl);obtain⟨tb,ht1,ht2⟩:=Yt hMs (bA ss) (low+j) _ hk;rw[ht2]at hla;tm_up;refine Nd (a7.of hl4) hg4 (n:=low+j) rfl (getElem?_eq_getElem hjl) fun p hp=>?_;tm_up;refine a8 (fun h=>?_) (fun h=>?_)
     ·have h':(ss[low+j]).1.small=true:=by rw[<-D2];exact h
      rw[h',Bool.true_and]at hla;tm_up;refine ixL (a7.of hth) (n:=low+j) rfl (xC ht1) ?_;tm_up;refine fH ?_;cases tb with
      |true=>exact(decide_eq_true (hla.mpr rfl)).symm
      |false=>exact(decide_eq_false (fun z=>by have:=hla.mp z;cases this)).symm
     ·have h':(ss[low+j]).1.small=false:=by rw[<-D2];exact Bool.eq_false_iff.mpr h
      rw[h',Bool.false_and]at hla;exact fH (decide_eq_false (fun z=>by have:=hla.mp z;cases this)).symm
    ·have hjl:¬ low+j<ss.length:=fun z=>h (decide_eq_true (by omega));exact fH (decide_eq_false (by omega)).symm
   refine a8 (fun h=>?_) (fun h=>?_)
   ·have hjn:=of_decide_eq_true h;refine⟨fun σ' Hx=>∃ m',m'<n-j/\∃ j:Nat,m'=n-j/\j<=n/\σ'=[some (.ref l),some (.int b),some (.ref f),some (.ref th),some (.ref lo),some (.int (low:Int)),some (.int ((low+j:Nat):Int))]/\Hx=JF,fun _ _ h=>h,?_⟩;tm_up;exact⟨n-(j+1),by omega,j+1,rfl,by omega,rfl,rfl⟩
   ·have hjn:j=n:=by
     have:¬ j<n:=fun z=>h (decide_eq_true z);omega
    subst hjn;have hrf:=KA ((j4 b (bA ss)).drop low) low low (by rw[hn'];omega) (Nat.le_refl _);rw[hn',List.drop_drop]at hrf;refine⟨fun σ1 H1=>σ1=[some (.ref l),some (.int b),some (.ref f),some (.ref th),some (.ref lo),some (.int (low:Int)),some (.int ((low+j:Nat):Int))]/\∃(c:RdS)(ys:List V),aq H H1/\H1 f=some (.lst (c.1.map V.int))/\H1 lo=some (.lst ys)/\Vj H1 ys c.2/\H1 th=some (.lst ((kn b (bA ss)).map V.bl))/\c.1.length=ss.length/\c.2.length+(fK (low+j) (low+j) ((j4 b (bA ss)).drop (low+j))).length<=401/\(fK (low+j) (low+j) ((j4 b (bA ss)).drop (low+j))).foldl (tZ (bA ss)) c=kM b (bA ss),?_,?_⟩
    ·by_cases hj0:j=0
     ·subst hj0;refine km false ?_ ?_
      ·tm_up;rw[decide_eq_false (show ¬((low:Int)<((low+0:Nat):Int)) by omega)];exact fH rfl
      ·exact bJ ⟨rfl,c,ys,s4,hf4,V9,hys,hth,hcl,aiH,tE⟩
     ·have hlt2:low<low+j:=by omega
      rw[if_pos hlt2,List.singleton_append]at hrf;rw[hrf,List.foldl_cons]at tE;rw[hrf,length_cons]at aiH;have s5:aq H (upd JF f (.lst ((settle (bA ss) c.1 low (low+j)).2.map V.int))):=fS s4 n1;have Ts:upd JF f (.lst ((settle (bA ss) c.1 low (low+j)).2.map V.int)) lo=some (.lst ys):=by rw[ak nfl.symm];exact V9
      have aiI:upd JF f (.lst ((settle (bA ss) c.1 low (low+j)).2.map V.int)) th=some (.lst ((kn b (bA ss)).map V.bl)):=by rw[ak ntf];exact hth
      have aiJ:(settle (bA ss) c.1 low (low+j)).2.length=ss.length:=by rw[Ax];exact hcl
      refine⟨fun bb H3=>bb = !(settle (bA ss) c.1 low (low+j)).1/\H3=upd JF f (.lst ((settle (bA ss) c.1 low (low+j)).2.map V.int)),?_,?_⟩
      ·tm_up;rw[decide_eq_true (show((low:Int)<((low+j:Nat):Int)) by omega)];refine cY ?_;tm_up;refine⟨l,f,low,low+j,xs,ss,c.1,rfl,a7.of hl4,hg4,nlf,hf4,hcl,hlt2,by omega,?_⟩;tm_up;exact⟨rfl,rfl⟩
      ·rintro bb H3 ⟨rfl,rfl⟩;refine a8 (fun h=>?_) (fun h=>?_)
       ·have hst:(settle (bA ss) c.1 low (low+j)).1=false:=by
         cases e:(settle (bA ss) c.1 low (low+j)).1
         ·rfl
         ·rw[e]at h;cases h
        tm_up;refine⟨.inl ⟨rfl,_,a7.of Ts⟩,?_⟩;tm_up;refine⟨by show 2<=sizeLine;decide,fun z hz=>?_⟩;have sz:=aq.upd (o:=.tup [.int (low:Int),.int ((low+j:Nat):Int)]) hz;have ZJ:=sz _ _ Ts;refine⟨_,_,_,rfl,rfl,ZJ,by rw[cj hys];exact a6 (by omega),?_⟩;refine⟨rfl,((settle (bA ss) c.1 low (low+j)).2,c.2++[(low,low+j)]),_,fS (s5.trans sz) ack,by rw[ak nfl];exact sz _ _ af,af,kL (qM ZJ (sr sz (qM hf4 hys))) (Sz ZJ ⟨z,rfl,af⟩),
         by rw[ak ntl];exact sz _ _ aiI,aiJ,by simp only [length_append,List.length_singleton];omega,?_⟩
        rw[<-tE];unfold tZ;rw[hst];rfl
       ·have hst:(settle (bA ss) c.1 low (low+j)).1=true:=by
         cases e:(settle (bA ss) c.1 low (low+j)).1
         ·rw[e]at h;exact absurd rfl h
         ·rfl
        refine⟨rfl,((settle (bA ss) c.1 low (low+j)).2,c.2),ys,s5,af,Ts,qM hf4 hys,aiI,aiJ,by show c.2.length+_<=401;omega,?_⟩;rw[<-tE];unfold tZ;rw[hst];rfl
    ·rintro σ1 H1 ⟨rfl,c',ys',s6,hf6,ZJ,aiK,aiL,aiM,YJ,PM⟩;tm_up;refine⟨_,_,rfl,?_⟩
     by_cases hj0:j=0
     ·subst hj0;have hbl:(j4 b (bA ss))[low]? = some false:=by
       have h1:low<(j4 b (bA ss)).length:=by rw[qL,length_map];exact hlt
       have h2:¬(j4 b (bA ss))[low+0]? = some true:=fun z=>Nat.lt_irrefl _ (hla.mpr z);rw[Nat.add_zero,getElem?_eq_getElem h1]at h2;rw[getElem?_eq_getElem h1];cases e:(j4 b (bA ss))[low]
       ·rfl
       ·rw[e]at h2;exact absurd rfl h2
      rw[Nat.add_zero,qf hbl]at PM YJ;have er:fK low low (false::(j4 b (bA ss)).drop (low+1))=fK (low+1) (low+1) ((j4 b (bA ss)).drop (low+1)):=by
       show(if low<low then [(low,low)] else [])++fK (low+1) (low+1) ((j4 b (bA ss)).drop (low+1))=_;rw[if_neg (Nat.lt_irrefl _),nil_append]
      rw[er]at PM YJ;have em:(if(low:Int)+1 > ((low+0:Nat):Int) then(low:Int)+1 else((low+0:Nat):Int))=((low+1:Nat):Int):=by rw[if_pos (by omega)];rfl
      rw[em];exact⟨ss.length-(low+1),by omega,low+1,_,c',ys',rfl,by omega,rfl,s6,hf6,ZJ,aiK,aiL,aiM,YJ,PM⟩
     ·have em:(if(low:Int)+1 > ((low+j:Nat):Int) then(low:Int)+1 else((low+j:Nat):Int))=((low+j:Nat):Int):=by
       split <;> omega
      rw[em];exact⟨ss.length-(low+j),by omega,low+j,_,c',ys',rfl,by omega,rfl,s6,hf6,ZJ,aiK,aiL,aiM,YJ,PM⟩
  ·have hlt:low=ss.length:=by
    have:¬ low<ss.length:=fun z=>h (decide_eq_true (by omega));omega
   subst hlt;rw[List.drop_eq_nil_of_le (by rw[qL,length_map];exact Nat.le_refl _)]at tE;have e:c=kM b (bA ss):=by
    have:fK ss.length ss.length []=[]:=by unfold fK;rw[if_neg (Nat.lt_irrefl _)]
    rw[this]at tE;exact tE
   subst e;tm_up;refine⟨by show 2<=sizeLine;decide,fun z hz=>?_⟩;have sz:=aq.upd (o:=.tup [.ref f,.ref lo]) hz;exact q z f lo ys _ (s4.trans sz) n1 ack nfl af (sz _ _ hf4) (sz _ _ V9) (sr sz hys)
inductive D3 (K:Frag)(vs:List V)(H:Hp)(Q:VK)(E:XK):Prop
 |mk (d:Addr) (vw:Vw) (n:Str) (th:Th) (fI:vs=[.ref d,.str n]) (fJ:t5 H d vw) (hI:xk vw) (kK:aR vw n=some th) (sd:∀(l:Addr)(H':Hp),aq H H'->H' l=some (.lst ((wZ vw n).map V.int))->Q (.ref l) H'):D3 K vs H Q E
theorem PN (T:Txt K w mg t):bE P w K mg base mJ (0+3) t.ju t.xP ["_law_voices","_law_name"] (D3 K):=by
 have yj:=D1 (P:=P) (base:=base) T;have Tv:=ZH (P:=P) (base:=base) T;refine T.oX.ok vD (fun vs H Q E h=>?_) (fun cdv A outer s H vs Q E hr h=>?_)
 ·obtain⟨_,_,_,_,rfl,_⟩:=h;rfl
 ·obtain⟨d,vw,n,th,rfl,hd,wv,hf,q⟩:=h;refine aQ (ag (aL (i:=2) vD.nd rfl (Or.inr rfl) (i6 (jj hr) (pv 0) (pv 1) (fun _ _=>rfl))) (ag (aL (i:=3) vD.nd rfl (Or.inl rfl) (aF yj (hr.mono (by decide)) rfl T.DE T.kZ.kp T.sM .nil aO (aa (pv 0) (aa (pv 1) ae)))) (ag (aM (bg (aI d7 rfl T.bu br (aa (pv 2) (aa (gJ (v:=.ty "list") rfl T.ir ia rfl) ae)))) (aj (av (aB au (aF Tv (hr.mono (by decide)) rfl T.Oj T.uW.kp T.DG .nil aO (aa (pv 3) (aa ai ae))) ai (fun _ _=>rfl)))) az) (aj (av (vy (cn:=["_law_worth"]) rfl (h8.of rfl) (jA (aB au (aF Tv (hr.mono (by decide)) rfl T.Oj T.uW.kp T.DG .nil aO (aa (pv 3) (aa (cI (d5 (bg (aB au (pv 2) ai (fun _ _=>rfl))) ai ai)) ae))) ai (fun _ _=>rfl))) (fun _=>(aZ (i:=0) K2 rfl (Or.inl rfl))) (fun _=>Aq) (fun _=>(bh (aaK.or aa6) (aB au (pv 3) ai (fun _ _=>rfl)) (pv 0))))))))) ?_;obtain⟨v,hg,hv⟩:=hd.get hf;refine⟨_,rfl,_,rfl,d,v,rfl,hg,?_⟩;refine⟨_,rfl,_,rfl,d,vw,n,th,rfl,hd,wv,hf,fun l ys H1 s1 h1 g1=>?_⟩;cases th with
  |pl ss =>
   obtain⟨l0,ys0,rfl,h0,_⟩:=hv;have gl:=(wv.gd _ _ (dg hf)).1;rw[xF hf]at g1;tm_up;refine⟨_,_,_,_,rfl,iQ.lst (s1 _ _ h0),rfl,_,rfl,cY ?_⟩;refine⟨_,rfl,l,3,ys,ss,rfl,.inl rfl,h1,g1,by omega,fun p f lo zs H2 s2 _ _ _ hp hf2 _ _=>ix0 hp ?_⟩;exact q f H2 (s1.trans s2) (by rw[KN hf];exact hf2)
  |cn ld lt sl tn =>
   obtain⟨p,rfl,hp⟩:=hv;obtain⟨⟨ss,PJ⟩,lt0,lt1,sl0,sl1⟩:=wv.ld n ld lt sl tn (dg hf);have hfl:=wv.find PJ;have gl:=(wv.gd _ _ PJ).1;rw[xG hf hfl]at g1;rw[KO hf hfl]at q;have gl2:(if tn=true then ss.map sA else ss).length<=400:=by
    split
    ·rw[length_map];omega
    ·omega
   tm_up;refine⟨_,_,_,_,rfl,iQ.tup (s1 _ _ hp),rfl,_,rfl,bJ ?_⟩;refine⟨_,rfl,?_⟩;refine⟨fun v H'=>v=.int (if tn=true then 2 else 3)/\H'=H1,?_,?_⟩
   ·refine⟨_,rfl,PL (i:=3) (s1 _ _ hp) rfl ⟨_,rfl,?_⟩⟩;cases tn with
    |true=>exact cY ⟨rfl,rfl⟩
    |false=>exact bJ ⟨rfl,rfl⟩
   intro v0 H0 ⟨e1,e2⟩;rw[e1,e2];have hMs:Ms (if tn=true then 2 else 3):=by cases tn;exact .inl rfl;exact .inr rfl
   refine⟨l,_,ys,_,rfl,hMs,h1,g1,gl2,fun p2 f lo zs H2 s2 _ _ _ hp2 hf2 _ _=>ix0 hp2 ?_⟩;generalize hW:(kM (if tn=true then 2 else 3) (bA (if tn=true then ss.map sA else ss))).1=W at q hf2;have hWl:W.length<=400:=by rw[<-hW,zu,length_map];exact gl2
   refine⟨f,rfl,⟨_,a7.of hf2⟩,fun D' b' hD'=>?_⟩;have hpD:=s2 _ _ (s1 _ _ hp);refine mO (K:=K) (xs:=W.map V.int) (fun i ys' σ H'=>∃ v,σ=[v,some (.ref d),some (.str n),some (.ref p),some (.ref l)]/\H'=upd H2 D' (.lst ys')/\ys'=((W.take i).map fun w=>sl * w).map V.int) ⟨none,rfl,rfl,by simp⟩ ?_ ?_ ?_
   ·rintro i ys σ H' ⟨v,rfl,rfl,_⟩;exact jC (a7.of hf2) hD'
   ·rintro i ys' y σ H' hy ⟨v,rfl,rfl,rfl⟩ N hN;obtain⟨z,hz,rfl⟩:=O0 hy;have hi:i<W.length:=(List.getElem?_eq_some_iff.mp hz).1;refine mP ?_;refine⟨_,rfl,PL (i:=2) (by rw[ak (ao hpD hD')];exact hpD) rfl ?_⟩;refine⟨_,rfl,.inl ⟨_,_,rfl,rfl,.inl ⟨by omega,by omega⟩,af,?_,?_⟩⟩
    ·rw[length_map,length_map,length_take];exact a6 (by omega)
    ·refine hN _ _ _ ⟨_,rfl,dP,?_⟩;rw[take_succ,hz,map_append,map_append];rfl
   ·rintro ys' σ H' ⟨v,rfl,rfl,rfl⟩;rw[length_map,take_length];exact q D' _ ((s1.trans s2).trans (aq.upd hD')) af
theorem YK {K:Frag}{H:Hp}{a b:Addr}{ys:List V}(ha:a7 K H a ys)(hb:a7 K H b ys)(hf:∀ v∈ys,∃ x,v=.str x):Deq K H 60 (.ref a) (.ref b):=by
 refine .lst ha hb rfl fun i x y e1 e2=>?_;have e:x=y:=Option.some.inj (e1.symm.trans e2);subst e;obtain⟨z,rfl⟩:=hf x (mem_of_getElem? e1);exact .flat rfl
theorem aiN {K:Frag}{H:Hp}{p p2:Addr}{ld:Str}{lt sl:Int}{tn:Bool}(n:Nat)(h1:H p=some (.tup [.str ld,.int lt,.int sl,.bl tn]))(h2:H p2=some (.tup [.str ld,.int lt,.int sl,.bl tn])):Deq K H (n+1) (.ref p) (.ref p2):=by
 refine .tup (tV.of h1) (tV.of h2) rfl fun i x y e1 e2=>?_;have e:x=y:=Option.some.inj (e1.symm.trans e2);subst e
 match i,e1 with
 |0,e1=>cases e1;exact .flat rfl
 |1,e1=>cases e1;exact .flat rfl
 |2,e1=>cases e1;exact .flat rfl
 |3,e1=>cases e1;exact .flat rfl
 |n+4,e1=>simp at e1
theorem acr {vw:Vw}(w:xk vw)(n:Str):(wZ vw n).length<=400:=by
 cases hf:aR vw n with
 |none=>unfold wZ;rw[hf];exact Nat.zero_le _
 |some th =>
  cases th with
  |pl ss =>
   rw[KN hf,zu,length_map];have:=(w.gd _ _ (dg hf)).1;omega
  |cn ld lt sl tn =>
   obtain⟨⟨ss,PJ⟩,_⟩:=w.ld n ld lt sl tn (dg hf);rw[KO hf (w.find PJ),length_map,zu,length_map];have:=(w.gd _ _ PJ).1;split
   ·rw[length_map];omega
   ·omega
theorem acs {vw:Vw}(w:xk vw)(n:Str):(Dj vw n).length<=200:=by
 cases hf:aR vw n with
 |none=>unfold Dj;rw[hf];exact Nat.zero_le _
 |some th =>
  cases th with
  |pl ss =>
   rw[xF hf];exact(w.gd _ _ (dg hf)).1
  |cn ld lt sl tn =>
   obtain⟨⟨ss,PJ⟩,_⟩:=w.ld n ld lt sl tn (dg hf);rw[xG hf (w.find PJ)];have:=(w.gd _ _ PJ).1;split
   ·rw[length_map];exact this
   ·exact this
inductive Jj (K:Frag)(c:Cs)(vs:List V)(H:Hp)(Q:VK)(E:XK):Prop
 |mk (x d:Addr) (F:Addr->Prop) (vw:Vw) (ps fs:List Vw) (fI:vs=[.ref x,.ref d]) (fJ:xE c H x F vw ps fs) (hI:t5 H d vw) (kK:∀ H',aq H H'->Q (.bl true) H'):Jj K c vs H Q E
theorem Tw (T:Txt K w mg t):bE P w K mg base mJ (0+8) t.kz t.AJ ["_law_book","_law_voices"] (Jj K (cs t)):=by
 have jM:=ub (P:=P) (base:=base) T;have iw:=oI (P:=P) (base:=base) T;have ZK:=V7 (P:=P) (base:=base) T;have acu:=ZC (P:=P) (base:=base) T;have Jk:=PK (P:=P) (base:=base) T;have oZ:=DY (P:=P) (base:=base) T;have yj:=D1 (P:=P) (base:=base) T;have Tx:=PN (P:=P) (base:=base) T;have qG:=AZ (P:=P) (base:=base) T;refine T.rm.ok sF (fun vs H Q E h=>?_) (fun cdv A outer s H vs Q E hr h=>?_)
 ·obtain⟨_,_,_,_,_,_,rfl,_⟩:=h;rfl
 ·obtain⟨x,d,F,vw,ps,fs,rfl,B,hd,q⟩:=h;refine aQ (ag (aL (i:=2) sF.nd rfl (Or.inl rfl) (qJ (pv 0) T.aJ T.oE jM (hr.mono (by decide)) T.jG .nil aO)) (ag (aM (bW (PW.pt (kJ (cX (bg (aI d7 rfl T.bu br (aa (pv 2) (aa (gJ (v:=.ty "list") rfl T.ir ia rfl) ae))))) (jh (ar (uv.or (mM (ay hr))) (pv 2) (fL vz rfl T.ir ia (aa (pv 1) ae)) (aw _)))))) (aj (av gP)) az) (ag (a9 (OS plainAttrs_list PySem.F.slot_list_reverse PySem.F.type_list_reverse U8 (pv 2))) (ag (a9 (j1 plainAttrs_list slot_list_append type_list_append bM (pv 2) (aa ax ae))) (ag (aM (ar (uv.or (mM (ay hr))) (qJ (pv 0) T.aJ T.oE jM (hr.mono (by decide)) T.jG .nil aO) (fL vz rfl T.ir ia (aa (pv 1) ae)) (aw _)) (aj (av gP)) az) (ag (kh PassesOwn.never rfl (jA (fL vz rfl T.ir ia (aa (pv 1) ae))) (aZ (i:=3) sF.nd rfl (Or.inl rfl)) (ag (a9 (j1 plainAttrs_list slot_list_append type_list_append bM (hZ (pv 0) T.aJ T.DD Jk (hr.mono (by decide)) T.sL .nil IQ (aa (pv 3) ae)) (aa ai ae))) (ag (a9 (j1 plainAttrs_list slot_list_append type_list_append bM (hZ (pv 0) T.aJ T.lM oZ (hr.mono (by decide)) T.jw .nil IQ (aa (pv 3) ae)) (aa (cH (aa ax (aa ai ae))) ae))) (ag (aM (cX (bg (aF ZK (hr.mono (by decide)) rfl T.VP T.uR.kp T.FZ .nil aO (aa (hZ (pv 0) T.aJ T.lM oZ (hr.mono (by decide)) T.jw .nil IQ (aa (pv 3) ae)) (aa (aF yj (hr.mono (by decide)) rfl T.DE T.kZ.kp T.sM .nil aO (aa (pv 1) (aa (pv 3) ae))) ae))))) (aj (av gP)) az) (ag (aM (cX (bg (aF acu (hr.mono (by decide)) rfl T.Zt T.xZ.kp T.Lc .nil aO (aa (hZ (pv 0) T.aJ T.DD Jk (hr.mono (by decide)) T.sL .nil IQ (aa (pv 3) ae)) (aa (aF Tx (hr.mono (by decide)) rfl T.Pg T.oX.kp T.x6 .nil aO (aa (pv 1) (aa (pv 3) ae))) ae))))) (aj (av gP)) az) (ag (aL (i:=4) sF.nd rfl (Or.inl rfl) (hZ (pv 0) T.aJ T.oH iw (hr.mono (by decide)) T.jK .nil IQ (aa (pv 3) ae))) (aj (aM (bg (aI d7 rfl T.bu br (aa (i6 (jj hr) (pv 1) (pv 3) (fun _ _=>rfl)) (aa (gJ (v:=.ty "list") rfl T.ir ia rfl) ae)))) (aj (aM (ar OL (pv 4) jg (aw _)) (aj (av gP)) az)) (aj (aM (bW (PW.pt (kJ (cX (bg (aI d7 rfl T.bu br (aa (pv 4) (aa (gJ (v:=.ty "tuple") rfl T.Lh Kr rfl) ae))))) (kJ (ar (uv.or (mM (ay hr))) (aI (aG.or aH) rfl T.bY bV (aa (pv 4) ae)) ai (aw _)) (jh (ar (uv.or (mM (ay hr))) (pv 4) (i6 (jj hr) (pv 1) (pv 3) (fun _ _=>rfl)) (aw _))))))) (aj (av gP)) (aj (aM (bW (PW.pt (kJ (cX (bg (aF qG (hr.mono (by decide)) rfl T.vN T.kY.kp T.qF .nil aO (aa (aB au (pv 4) ai (fun _ _=>rfl)) ae)))) (kJ (cX (bg (aF qG (hr.mono (by decide)) rfl T.vN T.kY.kp T.qF .nil aO (aa (aB au (pv 4) ai (fun _ _=>rfl)) ae)))) (jh (cX (bg (aI d7 rfl T.bu br (aa (aB au (pv 4) ai (fun _ _=>rfl)) (aa (gJ (v:=.ty "bool") rfl T.YC Yp rfl) ae)))))))))) (aj (av gP)) az)))))))))))) (aj (av gP)))))))) ?_;have wv:=B.wv vw (.inr (.inl rfl));have hx:∃ dx L D U,H x=some (.ins t.aY dx (Az L D U)):=by
   obtain⟨L,D,U,all,M,Ps,Fs,es,us,b,_⟩:=B.ex;obtain⟨dx,e⟩:=b.hx;exact⟨dx,L,D,U,e⟩
  obtain⟨dx,L,D,U,hx⟩:=hx;have wl:=wv.len;have hstr:∀ v∈vw.map (fun q=>V.str q.1),∃ z,v=.str z:=fun v hv=>by
   obtain⟨q,_,e⟩:=mem_map.mp hv;exact⟨_,e.symm⟩
  refine⟨_,rfl,x,dx,_,rfl,hx,qg _ _ _,x,F,vw,ps,fs,rfl,B,fun l1 H1 nl1 s1 h1=>?_⟩;obtain⟨kvs,hk,ek⟩:=hd.keys;refine⟨fun b H'=>b=false/\aq H1 H',?_,?_⟩
  ·tm_up;refine⟨_,_,_,_,rfl,iQ.lst h1,rfl,_,rfl,bJ ?_⟩;refine⟨_,rfl,_,rfl,rfl,d,kvs,rfl,.inl (s1 _ _ hk),fun l2 hl2=>?_⟩;have s2:=aq.upd (o:=.lst (kvs.map fun kv=>kV kv.1)) hl2;have h2:=af (H:=H1) (a:=l2) (o:=.lst (kvs.map fun kv=>kV kv.1));rw[ek]at s2 h2 ⊢;refine .inr ⟨l1,l2,rfl,rfl,YK (a7.of (s2 _ _ h1)) (a7.of h2) hstr,?_⟩;exact⟨_,rfl,rfl,s2⟩
  rintro b H2 ⟨rfl,s2⟩;refine bJ ?_;have h12:=s2 _ _ h1;refine⟨_,rfl,.inl ⟨rfl,_,a7.of h12⟩,l1,_,rfl,rfl,h12,?_⟩;have s3:aq H (upd H2 l1 (.lst (vw.map fun a=>V.str a.1).reverse)):=fS (s1.trans s2) nl1;have h3:=af (H:=H2) (a:=l1) (o:=.lst (vw.map fun a=>V.str a.1).reverse);generalize upd H2 l1 (.lst (vw.map fun a=>V.str a.1).reverse)=H3 at s3 h3;refine⟨_,rfl,.inl ⟨rfl,_,a7.of h3⟩,l1,_,_,rfl,rfl,h3,a6 (by rw[List.length_reverse,length_map];omega),?_⟩;have s4:aq H (upd H3 l1 (.lst ((vw.map fun a=>V.str a.1).reverse++[V.str "x"]))):=fS s3 nl1;generalize upd H3 l1 (.lst ((vw.map fun a=>V.str a.1).reverse++[V.str "x"]))=H4 at s4;refine⟨_,rfl,x,dx,_,rfl,s4 _ _ hx,qg _ _ _,x,F,vw,ps,fs,rfl,B.same s4,fun l5 H5 nl5 s5 h5=>?_⟩;refine⟨_,rfl,rfl,d,kvs,rfl,.inl (s5 _ _ (s4 _ _ hk)),fun l6 hl6=>?_⟩;have s6:=aq.upd (o:=.lst (kvs.map fun kv=>kV kv.1)) hl6;have h6:=af (H:=H5) (a:=l6) (o:=.lst (kvs.map fun kv=>kV kv.1));rw[ek]at s6 h6 ⊢;refine .inr ⟨l5,l6,rfl,rfl,YK (a7.of (s6 _ _ h5)) (a7.of h6) hstr,?_⟩;refine⟨_,rfl,bJ ?_⟩;have S6:=(s4.trans s5).trans s6;generalize upd H5 l6 (.lst (vw.map fun q=>V.str q.1))=H6 at S6;refine⟨_,rfl,rfl,d,kvs,rfl,.inl (S6 _ _ hk),fun l7 hl7=>?_⟩;have s7:=aq.upd (o:=.lst (kvs.map fun kv=>kV kv.1)) hl7;have h7:=af (H:=H6) (a:=l7) (o:=.lst (kvs.map fun kv=>kV kv.1));rw[ek]at s7 h7 ⊢;have S7:=S6.trans s7;generalize upd H6 l7 (.lst (vw.map fun q=>V.str q.1))=H7 at S7 h7;refine⟨l7,rfl,⟨_,a7.of h7⟩,ur (K:=K) (xs:=vw.map fun q=>V.str q.1) (fun i σ H'=>∃(u v:Option V),σ=[some (.ref x),some (.ref d),some (.ref l1),u,v]/\aq H7 H') ⟨none,none,rfl,aq.refl _⟩ ?_ ?_ ?_⟩
  ·rintro i σ H' _ ⟨u,v,rfl,s8⟩;exact a7.of (s8 _ _ h7)
  ·rintro i y σ H8 hy ⟨u,v,rfl,s8⟩;obtain⟨qn,hq,rfl⟩:∃ qn,vw[i]? = some qn/\y=.str qn.1:=by
    rw[getElem?_map]at hy;cases e:vw[i]? with
    |none=>rw[e]at hy;cases hy
    |some z=>rw[e]at hy;exact⟨z,rfl,(Option.some.inj hy).symm⟩
   obtain⟨n,th⟩:=qn;have hf:=wv.find (mem_of_getElem? hq);have kl:=acr wv n;have ll:=acs wv n;have S8:=S7.trans s8;have B8:=B.same S8;have hd8:=hd.same S8;refine⟨_,rfl,x,dx,_,rfl,S8 _ _ hx,IX _ _ _,_,rfl,x,F,vw,ps,fs,n,rfl,B8,?_⟩;rw[hf];intro k1 H9 nk1 s9 hk1;refine⟨.inl ⟨rfl,_,a7.of hk1⟩,k1,_,_,rfl,rfl,hk1,a6 (by rw[length_map];omega),?_⟩;have s10:aq H8 (upd H9 k1 (.lst ((wZ vw n).map V.int++[V.int 7]))):=fS s9 nk1;generalize upd H9 k1 (.lst ((wZ vw n).map V.int++[V.int 7]))=H10 at s10;have B10:=B8.same s10;refine⟨_,rfl,x,dx,_,rfl,s10 _ _ (S8 _ _ hx),oP _ _ _,_,rfl,x,F,vw,ps,fs,n,rfl,B10,?_⟩;rw[hf];intro l11 aiP H11 akU s11 h11 g11;have y11:=cj g11;refine⟨.inl ⟨rfl,_,a7.of h11⟩,(by show 2<=sizeLine;decide),fun tp htp=>?_⟩;have st:=aq.upd (o:=.tup [V.str "R",V.int 0]) htp;refine⟨l11,_,_,rfl,rfl,st _ _ h11,a6 (by omega),?_⟩;have s12:aq H10 (upd (upd H11 tp (.tup [V.str "R",V.int 0])) l11 (.lst (aiP++[.ref tp]))):=fS (s11.trans st) akU;generalize upd (upd H11 tp (.tup [V.str "R",V.int 0])) l11 (.lst (aiP++[.ref tp]))=H12 at s12;have S12:=s10.trans s12;have B12:=B8.same S12;have akV:=hd8.same S12;refine⟨_,rfl,x,dx,_,rfl,S12 _ _ (S8 _ _ hx),oP _ _ _,_,rfl,x,F,vw,ps,fs,n,rfl,B12,?_⟩;rw[hf];intro l13 akW H13 anC s13 h13 g13;refine⟨_,rfl,_,rfl,d,vw,n,th,rfl,akV.same s13,wv,hf,fun l14 akX H14 s14 h14 g14=>?_⟩;refine⟨l13,l14,akW,akX,Dj vw n,rfl,s14 _ _ h13,a7.of h14,g13.same s14,g14,fun H15 s15=>?_⟩;refine⟨_,rfl,bJ ?_⟩;have S15:=((S12.trans s13).trans s14).trans s15;have B15:=B8.same S15;refine⟨_,rfl,x,dx,_,rfl,S15 _ _ (S8 _ _ hx),IX _ _ _,_,rfl,x,F,vw,ps,fs,n,rfl,B15,?_⟩;rw[hf];intro k16 H16 anH s16 h16;refine⟨_,rfl,_,rfl,d,vw,n,th,rfl,(hd8.same S15).same s16,wv,hf,fun l17 H17 s17 h17=>?_⟩;refine⟨k16,l17,wZ vw n,wZ vw n,rfl,s17 _ _ h16,a7.of h17,by omega,?_⟩;rw[decide_eq_true rfl];refine⟨_,rfl,bJ ?_⟩;have S17:=(S15.trans s16).trans s17;have B17:=B8.same S17;have akZ:=hd8.same S17;have fin:∀{u v:Option V},∃(u' v':Option V),[some (V.ref x),some (V.ref d),some (V.ref l1),u,v]=[some (V.ref x),some (V.ref d),some (V.ref l1),u',v']/\aq H7 H17:=⟨_,_,rfl,s8.trans S17⟩;obtain⟨v18,agF,aiS⟩:=akZ.get hf;refine⟨_,rfl,x,dx,_,rfl,S17 _ _ (S8 _ _ hx),qh _ _ _,_,rfl,x,F,vw,ps,fs,n,rfl,B17,?_⟩;rw[hf];cases th with
   |pl ss =>
    obtain⟨l0,ys0,rfl,h0,_⟩:=aiS;refine⟨_,rfl,_,rfl,d,_,rfl,agF,?_⟩;refine⟨_,_,_,_,rfl,iQ.lst h0,rfl,_,rfl,cY ?_⟩;refine⟨_,rfl,rfl,_,rfl,?_⟩;exact a8 (fun h=>absurd h (by decide)) (fun _=>fin)
   |cn ld lt sl tn =>
    intro p hp;obtain⟨p2,rfl,hp2⟩:=aiS;refine⟨_,rfl,_,rfl,d,_,rfl,agF,?_⟩;refine⟨_,_,_,_,rfl,iQ.tup hp2,rfl,_,rfl,bJ ?_⟩;refine⟨fun b H'=>b=false/\H'=H17,?_,?_⟩
    ·tm_up;refine⟨_,_,_,_,rfl,iQ.tup hp,rfl,_,rfl,bJ ?_⟩;refine⟨_,rfl,.inl ⟨p,_,rfl,.inr (tV.of hp),?_⟩⟩;refine .inl ⟨rfl,_,rfl,bJ ?_⟩;refine⟨_,rfl,_,rfl,_,rfl,d,_,rfl,agF,.inr ⟨p,p2,rfl,rfl,aiN 59 hp hp2,?_⟩⟩;exact⟨_,rfl,rfl,rfl⟩
    intro b H18 ⟨e1,e2⟩;rw[e1,e2];refine bJ ?_;refine⟨fun b H'=>b=false/\H'=H17,?_,?_⟩
    ·refine⟨_,rfl,PL (i:=1) hp rfl ⟨lt,rfl,_,rfl,bJ ?_⟩⟩;refine⟨_,rfl,PL (i:=2) hp rfl ⟨sl,rfl,_,rfl,bJ ?_⟩⟩;refine⟨_,rfl,PL (i:=3) hp rfl ?_⟩;exact⟨_,_,_,_,rfl,iQ.bl _,rfl,_,rfl,rfl,rfl⟩
    intro b H18 ⟨e1,e2⟩;rw[e1,e2];refine bJ ?_;exact fin
  ·rintro σ H' ⟨u,v,rfl,s8⟩;exact q _ (S7.trans s8)
inductive lQ (c:Cs)(vs:List V)(H:Hp)(Q:VK)(E:XK):Prop
 |mk (i n:Int) (fI:vs=[.int i,.int n]) (fJ:((0<=i/\i<=n->Q .non H)/\(¬(0<=i/\i<=n)->RX E c .qi H))):lQ c vs H Q E
theorem ix (T:Txt K w mg t):bE P w K mg base (iA P w) (0+1) t.bF t.iT ["at","last"] (lQ (cs t)):=by
 refine T.bP.OV vE (fun vs H Q E h=>?_) (fun cdv A outer s H vs Q E hr h=>?_)
 ·obtain⟨_,_,rfl,_⟩:=h;rfl
 ·obtain⟨i,n,rfl,q1,q2⟩:=h;refine aQ (aj (aM (cX (C3 uw uw ai (pv 0) (pv 1))) (aj (iB (X:=(cJ (iA P w) P w K mg base ["at","last"] "refuse_other_places" (ah bN) t.bF cdv A outer s H E)) (fun _ _ z=>z) rfl T.V1.exc rfl T.Ls (aa ax ae))) az)) ?_;refine⟨_,rfl,_,_,rfl,rfl,_,rfl,?_⟩;refine a8 (fun h0=>?_) (fun h0=>?_)
  ·refine⟨_,rfl,_,_,rfl,rfl,_,rfl,?_⟩;refine a8 (fun h=>?_) (fun h=>?_)
   ·have h':(!decide (i<=n))=true:=h;have q:=q2 fun z=>by rw[decide_eq_true z.2]at h';cases h'
    exact⟨by show 1<=sizeLine;decide,q.2⟩
   ·have h':¬(!decide (i<=n))=true:=h;refine q1 ⟨of_decide_eq_true h0,?_⟩
    by_cases z:i<=n
    ·exact z
    ·exact absurd (by rw[decide_eq_false z];rfl) h'
  ·have q:=q2 fun z=>h0 (decide_eq_true z.1);exact⟨_,rfl,cY ⟨by show 1<=sizeLine;decide,q.2⟩⟩
inductive YL (vs:List V)(H:Hp)(Q:VK)(E:XK):Prop
 |mk (p:Addr) (s:Sn) (fI:vs=[.ref p]) (fJ:H p=some (.tup [.str s.1,.int s.2])) (hI:Q (.bl (iC s)) H):YL vs H Q E
theorem aef (T:Txt K w mg t):bE P w K mg base mJ (0+1) t.AK t.VM ["sign"] YL:=by
 refine T.Lf.ok O8 (fun vs H Q E h=>?_) (fun cdv A outer s H vs Q E hr h=>?_)
 ·obtain⟨_,_,rfl,_⟩:=h;rfl
 ·obtain⟨p,s,rfl,hp,q⟩:=h;unfold iC at q;refine aQ (ag (kg (pv 0) (qH rfl (bB (aZ (i:=1) O8.nd rfl (Or.inl rfl)) (bB (aZ (i:=2) O8.nd rfl (Or.inl rfl)) k8)))) (ag (aM (ar (dc.or c9) (pv 1) (cv (v:=.ref t.dn) rfl T.Ge rfl) rfl) (aj (av (R8 uw uw ai (pv 2) (cv (v:=.int 99) rfl T.Lk ⟨_,rfl⟩)))) az) (aj (av (cI (iP (bK (dc.or c9) (pv 1) (cv (v:=.ref t.eX) rfl T.Li rfl) rfl) (k7 (bK (bc.or (aN (ay hr))) (pv 2) ai (aw _))))))))) ?_;refine⟨_,rfl,_,_,rfl,tV.of hp,rfl,_,_,rfl,_,_,rfl,rfl,_,rfl,.inl ⟨_,_,rfl,.inr (T.Gf _),rfl,rfl,_,rfl,?_⟩⟩;refine a8 (fun h=>?_) (fun h=>?_)
  ·rw[if_pos (show inV (.str s.1) mT=true from h)]at q;refine⟨_,rfl,_,_,rfl,rfl,_,rfl,?_⟩;refine a8 (fun h2=>?_) (fun h2=>?_)
   ·rw[if_pos h2]at q;exact⟨_,_,rfl,rfl,q⟩
   ·rw[if_neg h2]at q;exact q
  ·rw[if_neg (show ¬ inV (.str s.1) mT=true from h)]at q;refine⟨fun v H'=>v=.bl (if inV (V.str s.fst) j9=true then decide (s.snd=0) else false)/\H'=H,?_,fun _ _ ⟨e1,e2⟩=>by rw[e1,e2];exact q⟩;refine⟨_,rfl,.inl ⟨_,_,rfl,.inr (T.Lj _),rfl,rfl,_,rfl,?_⟩⟩;refine a8 (fun h2=>?_) (fun h2=>?_)
   ·rw[if_pos (show inV (.str s.1) j9=true from h2)];refine⟨_,rfl,.inl ⟨rfl,?_⟩⟩;rw[gQ];exact⟨rfl,rfl⟩
   ·rw[if_neg (show ¬ inV (.str s.1) j9=true from h2)];exact⟨rfl,rfl⟩
inductive rF (c:Cs)(vs:List V)(H:Hp)(Q:VK)(E:XK):Prop
 |mk (p:Addr) (s:Sn) (fI:vs=[.ref p]) (fJ:H p=some (.tup [.str s.1,.int s.2])) (hI:((iC s=true->Q .non H)/\(iC s=false->RX E c .sx H))):rF c vs H Q E
theorem rG (T:Txt K w mg t):bE P w K mg base (iA P w) (0+2) t.cy t.ly ["sign"] (rF (cs t)):=by
 have agG:=aef (P:=P) (base:=base) T;refine T.dW.OV AG (fun vs H Q E h=>?_) (fun cdv A outer s H vs Q E hr h=>?_)
 ·obtain⟨_,_,rfl,_⟩:=h;rfl
 ·obtain⟨p,g,rfl,hp,q1,q2⟩:=h;refine aQ (aj (aM (cX (bg (aF agG (hr.mono (by decide)) rfl T.ad1 T.Lf.kp T.VT .nil aO (aa (pv 0) ae)))) (aj (iB (X:=(cJ (iA P w) P w K mg base ["sign"] "refuse_bad_sign" (ah cL) t.cy cdv A outer s H E)) (fun _ _ z=>z) rfl T.V2.exc rfl T.Lu (aa ax ae))) az)) ?_;refine⟨_,rfl,p,g,rfl,hp,_,rfl,?_⟩;cases hg:iC g with
  |true=>exact bJ (q1 hg)
  |false =>
   have q:=q2 hg;exact cY ⟨by show 1<=sizeLine;decide,q.2⟩
theorem Wb (ks:List Kd)(p met:Nat):Ae ks (p+1) met=if(if(ks.getD p .dot).small=true then met else met+1)=2 then p else Ae ks p (if(ks.getD p .dot).small=true then met else met+1):=rfl
inductive LL (K:Frag)(vs:List V)(H:Hp)(Q:VK)(E:XK):Prop
 |mk (l:Addr) (xs:List V) (ss:List Sg) (i:Nat) (fI:vs=[.ref l,.int (i:Int)]) (fJ:a7 K H l xs) (hI:mQ H xs ss) (kK:ss.length<=200) (sd:i<=ss.length) (OM:Q (.int (Ae (bA ss) i 0:Nat)) H):LL K vs H Q E
theorem Wc (T:Txt K w mg t):bE P w K mg base mJ (0+2) t.nE t.FV ["line","at"] (LL K):=by
 have Pz:=Tr (P:=P) (base:=base) T;refine T.uX.ok vF (fun vs H Q E h=>?_) (fun cdv A outer s H vs Q E hr h=>?_)
 ·obtain⟨_,_,_,_,rfl,_⟩:=h;rfl
 ·obtain⟨l,xs,ss,i,rfl,hS,g,hl,hi,q⟩:=h;refine aQ (ag (aL (i:=2) vF.nd rfl (Or.inl rfl) ai) (ag (kh PassesOwn.never rfl (Zh rfl T.ye (aa (bh ji (pv 1) ai) (aa (z9 tW ai) (aa (z9 tW ai) ae)))) (aZ (i:=3) vF.nd rfl (Or.inl rfl)) (ag (lg (aM (cX (bg (aF Pz (hr.mono (by decide)) rfl T.Tc T.zI.kp T.Kh .nil aO (aa (aB au (pv 0) (pv 3) (fun _ _=>rfl)) ae)))) (aj (afE (i:=2) vF.nd rfl (Or.inl rfl) ai afF)) az)) (aj (aM (ar (bc.or (aN (ay hr))) (pv 2) ai (aw _)) (aj (av (pv 3))) az)))) (aj (av ai)))) ?_;tm_up;have xl:=cj g;refine⟨(i:Int)-1,-1,rfl,⟨by omega,by omega,by omega,by omega⟩,abD (fun j σ H'=>∃(met:Nat)(v:Option V),σ=[some (.ref l),some (.int (i:Int)),some (.int (met:Int)),v]/\H'=H/\met<2/\Ae (bA ss) i 0=Ae (bA ss) (i-j) met) ⟨0,none,rfl,rfl,by decide,rfl⟩ ?_ ?_⟩
  ·rintro j σ H1 hj ⟨met,v,rfl,eH,hm2,hgo⟩;have eH:=eH.symm;subst eH;obtain⟨sg,hsg⟩:∃ sg,ss[i-1-j]? = some sg:=⟨_,getElem?_eq_getElem (by omega)⟩;have hk:(bA ss).getD (i-1-j) .dot=sg.1:=by rw[List.getD_eq_getElem?_getD,getElem?_map,hsg];rfl
   have hij:i-j=(i-1-j)+1:=by omega
   refine⟨fun σ H'=>σ=[some (.ref l),some (.int (i:Int)),some (.int ((if sg.1.small=true then met else met+1:Nat):Int)),some (.int ((i:Int)-1-(j:Int)))]/\H'=H,?_,?_⟩
   ·tm_up;refine Nd hS g (n:=i-1-j) (by omega) hsg fun b hb=>?_;refine⟨b,sg,rfl,hb,?_⟩;refine⟨_,rfl,?_⟩;refine a8 (fun hc=>?_) (fun hc=>?_)
    ·have hc':sg.1.small=false:=by simpa using hc
     rw[hc'];tm_up;exact⟨by simp,rfl⟩
    ·have hc':sg.1.small=true:=by simpa using hc
     rw[hc'];exact⟨rfl,rfl⟩
   ·rintro _ H1 ⟨rfl,eH⟩;have eH:=eH.symm;subst eH;tm_up;have acv:Ae (bA ss) i 0=if(if sg.1.small=true then met else met+1)=2 then i-1-j else Ae (bA ss) (i-1-j) (if sg.1.small=true then met else met+1):=by
     rw[hgo,hij,Wb,hk]
    have hle:(if sg.1.small=true then met else met+1)<=2:=by split <;> omega
    generalize (if sg.1.small=true then met else met+1)=agH at acv hle;refine a8 (fun hc=>?_) (fun hc=>?_)
    ·have e2:agH=2:=by have:=V.int.inj (of_decide_eq_true hc);omega
     rw[if_pos e2]at acv;refine⟨_,rfl,?_⟩;rw[acv]at q;have:((i:Int)-1-(j:Int))=((i-1-j:Nat):Int):=by omega
     rw[this];exact q
    ·have e2:¬ agH=2:=fun z=>hc (decide_eq_true (congrArg V.int (by omega)));rw[if_neg e2]at acv;exact⟨agH,_,rfl,rfl,by omega,by rw[acv];congr 1;omega⟩
  ·rintro σ H1 ⟨met,v,rfl,eH,hm2,hgo⟩;have eH:=eH.symm;subst eH;have:Ae (bA ss) i 0=0:=by
    rw[hgo];have e:i-(↑i-1 - -1:Int).toNat=0:=by omega
    rw[e];rfl
   rw[this]at q;exact q
inductive Jl (K:Frag)(vs:List V)(H:Hp)(Q:VK)(E:XK):Prop
 |mk (l kp:Addr) (xs:List V) (ss:List Sg) (i:Nat) (wide:Bool) (fI:vs=[.ref l,.int (i:Int),.ref kp]) (fJ:a7 K H l xs) (hI:mQ H xs ss) (kK:ss.length<=200) (sd:tV K H kp (Vs wide)) (OM:i<=ss.length) (h6_:Q (.int (Oc (bA ss) i wide:Nat)) H):Jl K vs H Q E
theorem Tz (T:Txt K w mg t):bE P w K mg base mJ (0+1) t.kA t.AL ["line","first","kinds"] (Jl K):=by
 refine T.rq.ok IZ (fun vs H Q E h=>?_) (fun cdv A outer s H vs Q E hr h=>?_)
 ·obtain⟨_,_,_,_,_,_,rfl,_⟩:=h;rfl
 ·obtain⟨l,kp,xs,ss,i,wide,rfl,hS,g,hl,hT,hi,q⟩:=h;refine aQ (ag (kh PassesOwn.never rfl (YZ rfl T.ye (aa (pv 1) (aa (aI (aG.or aH) rfl T.bY bV (aa (pv 0) ae)) ae))) (aZ (i:=3) IZ.nd rfl (Or.inl rfl)) (aj (aM (ar (dc.or c9) (aB au (aB au (pv 0) (pv 3) (fun _ _=>rfl)) ai (fun _ _=>rfl)) (pv 2) rfl) (aj (av (pv 3))) az))) (aj (av (aI (aG.or aH) rfl T.bY bV (aa (pv 0) ae))))) ?_;have xl:=cj g;tm_up;refine .inl ⟨l,xs,rfl,.inl hS,?_⟩;refine⟨(i:Int),(xs.length:Int),rfl,⟨by omega,by omega,by omega,by omega⟩,zq (fun j σ H'=>∃(v:Option V),σ=[some (.ref l),some (.int (i:Int)),some (.ref kp),v]/\H'=H/\∀ m x,m<j->(bA ss)[i+m]? = some x->Ob wide x=false) ⟨none,rfl,rfl,fun m x hm=>by omega⟩ ?_ ?_⟩
  ·rintro j σ H1 hj ⟨v,rfl,eH,hno⟩;have eH:=eH.symm;subst eH;obtain⟨sg,hsg⟩:∃ sg,ss[i+j]? = some sg:=⟨_,getElem?_eq_getElem (by omega)⟩;tm_up;refine Nd hS g (n:=i+j) (by omega) hsg fun b hb=>?_;tm_up;refine .inl ⟨kp,_,rfl,.inr hT,rfl,by cases wide <;> rfl,_,rfl,?_⟩;have hk:(bA ss)[i+j]? = some sg.1:=by rw[getElem?_map,hsg];rfl
   rw[ab1];refine a8 (fun hc=>?_) (fun hc=>?_)
   ·rw[adY hno hk hc]at q;refine⟨_,rfl,?_⟩;have e:((i+j:Nat):Int)=(i:Int)+(j:Int):=by omega
    rw[e]at q;exact q
   ·refine⟨_,rfl,rfl,fun m x hm hx=>?_⟩;rcases Nat.lt_or_ge m j with z|z
    ·exact hno m x z hx
    ·have e:m=j:=by omega
     subst e;rw[hk]at hx;cases hx
     simpa using hc
  ·rintro σ H1 ⟨v,rfl,eH,hno⟩;have eH:=eH.symm;subst eH;refine⟨_,rfl,.inl ⟨l,_,rfl,.inl hS,?_⟩⟩;have kl:(bA ss).length=ss.length:=length_map ..;rw[ab2 (by omega) fun m x hx=>hno m x (by have:=(List.getElem?_eq_some_iff.mp hx).1;omega) hx,kl,<-xl]at q;exact q
inductive Oy (K:Frag)(vs:List V)(H:Hp)(Q:VK)(E:XK):Prop
 |mk (l ch:Addr) (xs cx:List V) (ss cs:List Sg) (i b:Nat) (fI:vs=[.ref l,.int (i:Int),.int (b:Int),.ref ch]) (fJ:a7 K H l xs) (hI:mQ H xs ss) (kK:ss.length<=200) (sd:i<=ss.length) (OM:b<=ss.length) (h6_:a7 K H ch cx) (h7_:mQ H cx cs) (h8_:cs.length<=100) (h9_:∀(p:Addr)(H':Hp),aq H H'->H' p=some (.tup (Vt ss i b cs))->Q (.ref p) H'):Oy K vs H Q E
theorem Gq (T:Txt K w mg t):bE P w K mg base mJ (0+3) t.rg t.K8 ["line","at","behind","changed"] (Oy K):=by
 have ZL:=Wc (P:=P) (base:=base) T;have Wd:=Tz (P:=P) (base:=base) T;have rE:=xf (P:=P) (base:=base) T;refine T.rA.ok Of (fun vs H Q E h=>?_) (fun cdv A outer s H vs Q E hr h=>?_)
 ·obtain⟨_,_,_,_,_,_,_,_,rfl,_⟩:=h;rfl
 ·obtain⟨l,ch,xs,cx,ss,cs,i,b,rfl,hS,g,hl,hi,hb,hC,gc,hcl,q⟩:=h;refine aQ (ag (aL (i:=4) Of.nd rfl (Or.inl rfl) (cI (d5 (bg (aI Si rfl T.acd abh (aa (vy (cn:=["sign"]) rfl (h8.of rfl) (jA (pv 3)) (fun _=>(aZ (i:=0) SQ rfl (Or.inl rfl))) (fun _=>Aq) (fun _=>(aF rE (hr.mono (by decide)) rfl T.w4 T.g4.kp T.lI .nil aO (aa (pv 0) ae)))) ae))) (cv (v:=.ref t.cV) rfl T.w5 rfl) (cv (v:=.ref t.d3) rfl T.JA rfl)))) (aj (av (cH (aa (aF ZL (hr.mono (by decide)) rfl T.VU T.uX.kp T.F9 .nil aO (aa (pv 0) (aa (pv 1) ae))) (aa (aF Wd (hr.mono (by decide)) rfl T.Te T.rq.kp T.AV .nil aO (aa (pv 0) (aa (pv 2) (aa (pv 4) ae)))) ae)))))) ?_;have cl:=cj gc;refine⟨fun v H'=>∃ kp,v=.ref kp/\(∀ JF ,tV K JF kp (Vs (cs.any fun s=>s.1.meas)))/\aq H H',?_,?_⟩
  ·refine⟨_,rfl,ch,rfl,⟨_,hC⟩,fun D b2 hD=>?_⟩;refine mO (K:=K) (xs:=cx) (fun ii ys σ H'=>∃ v,σ=[v,some (.ref l),some (.int (i:Int)),some (.int (b:Int)),some (.ref ch),none]/\H'=upd H D (.lst ys)/\ys=((cs.take ii).map fun s=>s.1.meas).map V.bl) ⟨none,rfl,rfl,rfl⟩ ?_ ?_ ?_
   ·rintro ii ys σ H' ⟨v,rfl,rfl,_⟩;exact jC hC hD
   ·rintro ii ys x σ H' hx ⟨v,rfl,rfl,rfl⟩ N hN;obtain⟨sg,e1,p,rfl,hp⟩:=zO gc hx;have hii:ii<cs.length:=(List.getElem?_eq_some_iff.mp e1).1;refine mP ?_;refine⟨_,rfl,p,sg,rfl,(by rw[ak (ao hp hD)];exact hp),af,?_,?_⟩
    ·rw[length_map,length_map,length_take];exact a6 (by omega)
    ·refine hN _ _ _ ⟨_,rfl,dP,?_⟩;rw[take_succ,e1];simp
   ·rintro ys σ H' ⟨v,rfl,rfl,rfl⟩;refine⟨rfl,D,_,rfl,a7.of af,_,rfl,?_⟩;rw[cl,take_length,List.any_map];refine a8 (fun hc=>?_) (fun hc=>?_)
    ·have e:(cs.any fun s=>s.1.meas)=true:=hc;refine⟨_,rfl,fun JF=>?_,aq.upd hD⟩;rw[e];exact T.w6 JF
    ·have e:(cs.any fun s=>s.1.meas)=false:=by
      cases z:(cs.any fun s=>s.1.meas) with
      |false=>rfl
      |true=>exact absurd z hc
     refine⟨_,rfl,fun JF=>?_,aq.upd hD⟩;rw[e];exact T.JB JF
  ·rintro _ H1 ⟨kp,rfl,hk,s1⟩;refine⟨_,rfl,_,rfl,l,xs,ss,i,rfl,s1.seq hS,g.same s1,hl,hi,?_⟩;refine⟨_,rfl,_,rfl,_,rfl,l,kp,xs,ss,b,_,rfl,s1.seq hS,g.same s1,hl,hk _,hb,?_⟩;refine⟨by show 2<=sizeLine;decide,fun p hp=>q p _ (s1.trans (aq.upd hp)) af⟩
inductive Jm (c:Cs)(vs:List V)(H:Hp)(Q:VK)(E:XK):Prop
 |mk (x:Addr) (F:Addr->Prop) (vw:Vw) (ps fs:List Vw) (n:Str) (i:Int) (p:Addr) (sn:Sn) (fI:vs=[.ref x,.str n,.int i,.ref p]) (fJ:xE c H x F vw ps fs) (hI:H p=some (.tup [.str sn.1,.int sn.2])) (kK:ps.length<=900) (sd:match aR vw n with
 |none=>RX E c .dQ H
 |some (.cn _ _ _ _)=>RX E c .gR H
 |some (.pl ss)=>(¬(0<=i/\i<=(ss.length:Int))->RX E c .qi H)/\((0<=i/\i<=(ss.length:Int))->iC sn=false->RX E c .sx H)/\((0<=i/\i<=(ss.length:Int))->iC sn=true->200<=ss.length->RX E c .Full H) /\
  ((0<=i/\i<=(ss.length:Int))->iC sn=true->ss.length<200->∀(s:Sg)(w:Addr) F' H',s.1.str=sn.1->s.2=sn.2->H' w=some (.tup (Vt (ss.take i.toNat++[s]++ss.drop i.toNat) i.toNat (i.toNat+1) [s]))->Gr F F' H->Fr F H H'->xE c H' x F' (zP vw n (.pl (ss.take i.toNat++[s]++ss.drop i.toNat))) (ps++[vw]) []->Q (.ref w) H')):Jm c vs H Q E
theorem TB (T:Txt K w mg t):bE P w K mg base (iA P w) (0+4) t.dZ t.AM ["self","name","at","sign"] (Jm (cs t)):=by
 have c7:=ix (P:=P) (base:=base) T;have lR:=rG (P:=P) (base:=base) T;have cS:=iK (P:=P) (base:=base) T;have yk:=Gq (P:=P) (base:=base) T;have cF:=gM (P:=P) (base:=base) T;have cE:=g9 (P:=P) (base:=base) T;refine T.vR.OV Ja (fun vs H Q E h=>?_) (fun cdv A outer s H vs Q E hr h=>?_)
 ·obtain⟨_,_,_,_,_,_,_,_,_,rfl,_⟩:=h;rfl
 ·obtain⟨x,F,vw,ps,fs,n,iz,p,sn,rfl,B,hp,hps,q⟩:=h;refine aQ (ag (aL (i:=4) Ja.nd rfl (Or.inl rfl) (bT (bQ (X:=(cJ (iA P w) P w K mg base ["self","name","at","sign","signs"] "Book.put" (ah gC) t.dZ cdv A outer s H E)) (pv 0) T.aJ T.gL cF (hr.mono (by decide)) T.dq .nil (fun _ _ z=>Or.inl z) (aa (pv 1) ae)) rfl)) (ag (a9 (uC (X:=(cJ (iA P w) P w K mg base ["self","name","at","sign","signs"] "Book.put" (ah gC) t.dZ cdv A outer s H E)) c7 (hr.mono (by decide)) rfl T.iq T.bP.kp T.c0 .nil (fun _ _ z=>Or.inl z) (aa (pv 2) (aa (aI (aG.or aH) rfl T.bY bV (aa (pv 4) ae)) ae)))) (ag (a9 (uC (X:=(cJ (iA P w) P w K mg base ["self","name","at","sign","signs"] "Book.put" (ah gC) t.dZ cdv A outer s H E)) lR (hr.mono (by decide)) rfl T.rp T.dW.kp T.jd .nil (fun _ _ z=>Or.inl z) (aa (pv 3) ae))) (ag (aM (ar aaO (aI (aG.or aH) rfl T.bY bV (aa (pv 4) ae)) (cv (v:=.int 200) rfl T.Po ⟨_,rfl⟩) (aw _)) (aj (iB (X:=(cJ (iA P w) P w K mg base ["self","name","at","sign","signs"] "Book.put" (ah gC) t.dZ cdv A outer s H E)) (fun _ _ z=>z) rfl T.YD.exc rfl T.Pp (aa ax ae))) az) (ag (a9 (hZ (pv 0) T.aJ T.iD cS (hr.mono (by decide)) T.eY .nil aO (aa (vo T.DJ cE (hr.mono (by decide)) rfl T.DI T.d4 .nil aO (aa (pv 4) (aa (pv 2) (aa (bx ae) (aa (bx (aa (pv 3) ae)) ae))))) ae))) (aj (av (aF yk (hr.mono (by decide)) rfl T.Ga T.rA.kp T.x8 .nil aO (aa (pv 4) (aa (pv 2) (aa (bh (du.or (ba.or dw)) (pv 2) ai) (aa (bx (aa (pv 3) ae)) ae)))))))))))) ?_;obtain⟨L,D,U,all,M,Ps,Fs,es,us,b,iM,pp,pf,f⟩:=B.ex;obtain⟨dx,hx⟩:=b.hx;obtain⟨vx,g,gv⟩:=b.vB iM;obtain⟨ds,hD,pD⟩:=b.hD;obtain⟨ux,hU,pU⟩:=b.hU;have dl:=cj pD;have pl:=cj pp;have pe:=b.past.len;refine⟨_,rfl,x,dx,_,rfl,hx,ic _ _ _,_,rfl,x,dx,L,D,U,M L,vx,n,rfl,hx,b.hL,g,?_⟩;rcases IY gv (fun _ _ r=>r.2.1) n with ⟨f1,f2⟩|⟨a,th,j,f1,f2,r,an,fj,fw⟩
  ·rw[f1];rw[f2]at q;exact q
  rw[f1];rw[f2]at q;subst an;cases th with
  |cn ld lt sl tn =>
   obtain⟨pt,Oo,_⟩:=r.2.2;refine⟨fun z=>?_,fun _ _=>q,.inr ⟨pt,Oo⟩⟩;rw[Oo]at z;cases z
  |pl ss =>
   obtain⟨RZ,hg⟩:=r.2.2;obtain⟨q1,q2,q3,q4⟩:=q;have haa:=r.1;obtain⟨ha,hl⟩:=b.ha a haa;have yl:=cj hg;have hj:(M L)[j]? = some (.ref a.o):=by
    obtain⟨v,hv,e1,_⟩:=uF g fj;rw[<-e1];exact hv
   refine⟨fun _=>?_,(fun pz z=>by rw[RZ]at z;cases z),.inl RZ⟩;refine⟨a.o,_,a.d,_,_,rfl,ha,T.gh,T.cC,uH _ _ _,?_⟩;refine⟨_,rfl,_,rfl,.inl ⟨a.l,M a.l,rfl,.inl (a7.of hl),?_⟩⟩;refine⟨iz,((M a.l).length:Int),rfl,fun hi=>?_,fun hi=>?_⟩
   rotate_left
   ·have q:=q1 (by rw[<-yl];exact hi);exact q
   rw[yl]at hi;refine⟨_,rfl,p,sn,rfl,hp,fun hgd=>?_,fun hgd=>?_⟩
   rotate_left
   ·have q:=q2 hi hgd;exact q
   refine⟨_,rfl,.inl ⟨a.l,M a.l,rfl,.inl (a7.of hl),?_⟩⟩;refine⟨_,_,rfl,rfl,_,rfl,?_⟩;refine a8 (fun h=>?_) (fun h=>?_)
   ·have h':=of_decide_eq_true h;have q:=q3 hi hgd (by omega);exact⟨by show 1<=sizeLine;decide,q.2⟩
   have hlt:ss.length<200:=by
    rcases Nat.lt_or_ge ss.length 200 with z|z
    ·exact z
    ·exact absurd (decide_eq_true (by omega)) h
   obtain⟨sg,e1,e2,gt⟩:=O6 hgd;rw[<-e1,<-e2]at hp;obtain⟨i,rfl⟩:∃ i:Nat,iz=(i:Int):=⟨iz.toNat,by omega⟩;have hi:i<=ss.length:=by omega
   have q4:=q4 (by omega) hgd hlt sg;rw[Int.toNat_natCast]at q4;refine⟨_,rfl,x,dx,_,rfl,hx,jm _ _ _,?_⟩;refine⟨_,rfl,_,rfl,big (by show 0<=1000;omega),fun B' hB=>?_⟩;refine⟨_,rfl,big (by show 1<=1000;omega),fun A_ hA=>?_⟩;have V5:=Dk hA;have sB:=(aq.upd (o:=.lst []) hB).trans (aq.upd (o:=.lst [V.ref p]) hA);have hB2:=aq.upd (o:=.lst [V.ref p]) hA _ _ (af (H:=H) (a:=B') (o:=.lst []));have Pr:=af (H:=upd H B' (.lst [])) (a:=A_) (o:=.lst [V.ref p]);have lA:a.l≠A_:=ao hl V5;generalize upd (upd H B' (.lst [])) A_ (.lst [V.ref p])=H2 at sB hB2 Pr;intro d dd nd ndd ne;refine⟨d,dd,a.l,(i:Int),B',A_,rfl,af,rfl,?_⟩;rw[dP];have s3:aq H2 (upd (upd H2 dd (.own d)) d (.ins t.bq dd (IW a.l (i:Int) B' A_))):=fun y o hy=>by
    rw[ak (ao hy nd),ak (ao hy ndd)];exact hy
   have Pt:=af (H:=upd H2 dd (.own d)) (a:=d) (o:=.ins t.bq dd (IW a.l (i:Int) B' A_));generalize upd (upd H2 dd (.own d)) d (.ins t.bq dd (IW a.l (i:Int) B' A_))=H3 at s3 Pt;have s4:=sB.trans s3;obtain⟨_,d1,d2⟩:=b.lists (.inr ⟨a,haa,rfl⟩);refine⟨x,dx,L,D,U,d,dd,a.l,B',A_,i,ds,ux,M a.l,[],[.ref p],rfl,s4 _ _ hx,s4 _ _ hD,s4 _ _ hU,Pt,s4 _ _ hl,s3 _ _ hB2,s3 _ _ Pr,lA,d1,d2,b.DU,by simp;omega,by simp;omega,by omega,?_⟩;have hM:vi ⟨d,dd,a.l,i,B',A_,[],[.ref p]⟩ M a.l=(M a.l).take i++[.ref p]++(M a.l).drop (i+0):=gB;have keep:∀ y o,H3 y=some o->y≠a.l->y≠D->y≠U->(upd (upd (upd H3 a.l (.lst ((M a.l).take i++[.ref p]++(M a.l).drop (i+0)))) D (.lst (ds++[.ref d]))) U (.lst [])) y=some o:=fun y o hy y1 y2 y3=>by
    rw[ak y3,ak y2,ak y1];exact hy
   have k1:(upd (upd (upd H3 a.l (.lst ((M a.l).take i++[.ref p]++(M a.l).drop (i+0)))) D (.lst (ds++[.ref d]))) U (.lst [])) a.l=some (.lst ((M a.l).take i++[.ref p]++(M a.l).drop (i+0))):=by
    rw[ak d2,ak d1,af]
   have k2:(upd (upd (upd H3 a.l (.lst ((M a.l).take i++[.ref p]++(M a.l).drop (i+0)))) D (.lst (ds++[.ref d]))) U (.lst [])) D=some (.lst (ds++[.ref d])):=by
    rw[ak b.DU,af]
   have k3:(upd (upd (upd H3 a.l (.lst ((M a.l).take i++[.ref p]++(M a.l).drop (i+0)))) D (.lst (ds++[.ref d]))) U (.lst [])) U=some (.lst []):=af;generalize (upd (upd (upd H3 a.l (.lst ((M a.l).take i++[.ref p]++(M a.l).drop (i+0)))) D (.lst (ds++[.ref d]))) U (.lst []))=H4 at keep k1 k2 k3;have g3:=hg.same s4;have sgN:mQ H3 ((M a.l).take i++[.ref p]++(M a.l).drop (i+0)) (ss.take i++[sg]++ss.drop i):=Jw (Jw (IV i g3) (.cons ⟨p,rfl,s4 _ _ hp⟩ .nil)) (IU i g3);obtain⟨F',gr,fr,B4⟩:=Bk.abZ b iM pp f B.wv haa hj fw RZ (e:=⟨d,dd,a.l,i,B',A_,[],[.ref p]⟩) rfl ⟨by simp;omega,by simp⟩ (by simp) (by simp) s4 hB V5 ⟨rfl,Pt,s3 _ _ hB2,s3 _ _ Pr⟩ (by rw[hM];exact sgN) (by simp;omega) (fun s hs=>by
    have wg:=((B.wv vw (.inr (.inl rfl))).gd _ _ (mem_of_getElem? fw)).2;rcases mem_append.mp hs with hs|hs
    ·rcases mem_append.mp hs with hs|hs
     ·exact wg s (List.mem_of_mem_take hs)
     ·rw[mem_singleton.mp hs];exact gt
    ·exact wg s (List.mem_of_mem_drop hs)) hD pD keep (by rw[hM];exact k1) k2 k3
   have nT:∀{y us},H3 y=some (.tup us)->H4 y=some (.tup us):=fun {y us} hy=>keep y _ hy (jS hy (s4 _ _ hl) (by intro z;cases z)) (jS hy (s4 _ _ hD) (by intro z;cases z)) (jS hy (s4 _ _ hU) (by intro z;cases z));have sg4:mQ H4 ((M a.l).take i++[.ref p]++(M a.l).drop (i+0)) (ss.take i++[sg]++ss.drop i):=bZ (fun _ _ ⟨z,e1,e2⟩=>⟨z,e1,nT e2⟩) sgN;refine⟨_,rfl,_,rfl,_,rfl,.inl ⟨_,_,rfl,rfl,_,rfl,big (by show 1<=1000;omega),fun lc hlc=>?_⟩⟩;have sc:=aq.upd (o:=.lst [V.ref p]) hlc;refine⟨a.l,lc,_,[.ref p],ss.take i++[sg]++ss.drop i,[sg],i,i+1,rfl,a7.of (sc _ _ k1),sg4.same sc,by simp;omega,by simp;omega,by simp;omega,a7.of af,.cons ⟨p,rfl,sc _ _ (nT (s4 _ _ hp))⟩ .nil,by simp,fun w H5 s5 hw5=>?_⟩;have s6:=sc.trans s5;exact q4 w F' H5 e1 e2 hw5 gr (fun y o hy hn=>s6 _ _ (fr y o hy hn)) (B4.same s6)
inductive Jn (c:Cs)(vs:List V)(H:Hp)(Q:VK)(E:XK):Prop
 |mk (x:Addr) (F:Addr->Prop) (vw:Vw) (ps fs:List Vw) (n:Str) (i:Int) (fI:vs=[.ref x,.str n,.int i]) (fJ:xE c H x F vw ps fs) (hI:ps.length<=900) (kK:match aR vw n with
 |none=>RX E c .dQ H
 |some (.cn _ _ _ _)=>RX E c .gR H
 |some (.pl ss)=>(¬(0<=i/\i<=(ss.length:Int)-1)->RX E c .qi H) /\
  ((0<=i/\i<=(ss.length:Int)-1)->∀(s:Sg)(w:Addr) F' H',ss[i.toNat]? = some s->H' w=some (.tup (Vt (ss.take i.toNat++[]++ss.drop (i.toNat+1)) i.toNat i.toNat [s]))->Gr F F' H->Fr F H H'->xE c H' x F' (zP vw n (.pl (ss.take i.toNat++[]++ss.drop (i.toNat+1)))) (ps++[vw]) []->Q (.ref w) H')):Jn c vs H Q E
theorem agI {α:Type}{xs:List α}{i:Nat}{y:α}(h:xs[i]? = some y):xs.drop i=y::xs.drop (i+1):=by
 obtain⟨h1,h2⟩:=List.getElem?_eq_some_iff.mp h;rw[List.drop_eq_getElem_cons h1,h2]
theorem TC (T:Txt K w mg t):bE P w K mg base (iA P w) (0+4) t.gE t.AN ["self","name","at"] (Jn (cs t)):=by
 have c7:=ix (P:=P) (base:=base) T;have cS:=iK (P:=P) (base:=base) T;have yk:=Gq (P:=P) (base:=base) T;have cF:=gM (P:=P) (base:=base) T;have cE:=g9 (P:=P) (base:=base) T;refine T.vS.OV xH (fun vs H Q E h=>?_) (fun cdv A outer s H vs Q E hr h=>?_)
 ·obtain⟨_,_,_,_,_,_,_,rfl,_⟩:=h;rfl
 ·obtain⟨x,F,vw,ps,fs,n,iz,rfl,B,hps,q⟩:=h;refine aQ (ag (aL (i:=3) xH.nd rfl (Or.inl rfl) (bT (bQ (X:=(cJ (iA P w) P w K mg base ["self","name","at","signs","sign"] "Book.cut" (ah jn) t.gE cdv A outer s H E)) (pv 0) T.aJ T.gL cF (hr.mono (by decide)) T.dq .nil (fun _ _ z=>Or.inl z) (aa (pv 1) ae)) rfl)) (ag (a9 (uC (X:=(cJ (iA P w) P w K mg base ["self","name","at","signs","sign"] "Book.cut" (ah jn) t.gE cdv A outer s H E)) c7 (hr.mono (by decide)) rfl T.iq T.bP.kp T.c0 .nil (fun _ _ z=>Or.inl z) (aa (pv 2) (aa (bh ji (aI (aG.or aH) rfl T.bY bV (aa (pv 3) ae)) ai) ae)))) (ag (aL (i:=4) xH.nd rfl (Or.inl rfl) (aB au (pv 3) (pv 2) (fun _ _=>rfl))) (ag (a9 (hZ (pv 0) T.aJ T.iD cS (hr.mono (by decide)) T.eY .nil aO (aa (vo T.DJ cE (hr.mono (by decide)) rfl T.DI T.d4 .nil aO (aa (pv 3) (aa (pv 2) (aa (bx (aa (pv 4) ae)) (aa (bx ae) ae))))) ae))) (aj (av (aF yk (hr.mono (by decide)) rfl T.Ga T.rA.kp T.x8 .nil aO (aa (pv 3) (aa (pv 2) (aa (pv 2) (aa (bx (aa (pv 4) ae)) ae))))))))))) ?_;obtain⟨L,D,U,all,M,Ps,Fs,es,us,b,iM,pp,pf,f⟩:=B.ex;obtain⟨dx,hx⟩:=b.hx;obtain⟨vx,g,gv⟩:=b.vB iM;obtain⟨ds,hD,pD⟩:=b.hD;obtain⟨ux,hU,pU⟩:=b.hU;have dl:=cj pD;have pl:=cj pp;have pe:=b.past.len;refine⟨_,rfl,x,dx,_,rfl,hx,ic _ _ _,_,rfl,x,dx,L,D,U,M L,vx,n,rfl,hx,b.hL,g,?_⟩;rcases IY gv (fun _ _ r=>r.2.1) n with ⟨f1,f2⟩|⟨a,th,j,f1,f2,r,an,fj,fw⟩
  ·rw[f1];rw[f2]at q;exact q
  rw[f1];rw[f2]at q;subst an;cases th with
  |cn ld lt sl tn =>
   obtain⟨pt,Oo,_⟩:=r.2.2;refine⟨fun z=>?_,fun _ _=>q,.inr ⟨pt,Oo⟩⟩;rw[Oo]at z;cases z
  |pl ss =>
   obtain⟨RZ,hg⟩:=r.2.2;obtain⟨q1,q4⟩:=q;have haa:=r.1;obtain⟨ha,hl⟩:=b.ha a haa;have yl:=cj hg;have hj:(M L)[j]? = some (.ref a.o):=by
    obtain⟨v,hv,e1,_⟩:=uF g fj;rw[<-e1];exact hv
   refine⟨fun _=>?_,(fun pz z=>by rw[RZ]at z;cases z),.inl RZ⟩;refine⟨a.o,_,a.d,_,_,rfl,ha,T.gh,T.cC,uH _ _ _,?_⟩;refine⟨_,rfl,_,rfl,.inl ⟨a.l,M a.l,rfl,.inl (a7.of hl),?_⟩⟩;refine⟨_,_,rfl,rfl,?_⟩;refine⟨iz,((M a.l).length:Int)-1,rfl,fun hi=>?_,fun hi=>?_⟩
   rotate_left
   ·have q:=q1 (by rw[<-yl];exact hi);exact q
   rw[yl]at hi;obtain⟨i,rfl⟩:∃ i:Nat,iz=(i:Int):=⟨iz.toNat,by omega⟩;have hi:i<ss.length:=by omega
   have hlt:ss.length<=200:=((B.wv vw (.inr (.inl rfl))).gd _ _ (mem_of_getElem? fw)).1;have q4:=q4 (by omega);rw[Int.toNat_natCast]at q4;obtain⟨sg0,hsg⟩:∃ sg,ss[i]? = some sg:=⟨_,getElem?_eq_getElem hi⟩;obtain⟨vp,hvp,p0,rfl,hp0⟩:=uF hg hsg;refine⟨_,rfl,_,rfl,ixL (a7.of hl) (n:=i) rfl hvp ?_⟩;refine⟨_,rfl,x,dx,_,rfl,hx,jm _ _ _,?_⟩;refine⟨_,rfl,_,rfl,_,rfl,big (by show 1<=1000;omega),fun B' hB=>?_⟩;refine⟨big (by show 0<=1000;omega),fun A_ hA=>?_⟩;have V5:=Dk hA;have sB:=(aq.upd (o:=.lst [V.ref p0]) hB).trans (aq.upd (o:=.lst []) hA);have hB2:=aq.upd (o:=.lst []) hA _ _ (af (H:=H) (a:=B') (o:=.lst [V.ref p0]));have Pr:=af (H:=upd H B' (.lst [V.ref p0])) (a:=A_) (o:=.lst []);have lA:a.l≠A_:=ao hl V5;generalize upd (upd H B' (.lst [V.ref p0])) A_ (.lst [])=H2 at sB hB2 Pr;intro d dd nd ndd ne;refine⟨d,dd,a.l,(i:Int),B',A_,rfl,af,rfl,?_⟩;rw[dP];have s3:aq H2 (upd (upd H2 dd (.own d)) d (.ins t.bq dd (IW a.l (i:Int) B' A_))):=fun y o hy=>by
    rw[ak (ao hy nd),ak (ao hy ndd)];exact hy
   have Pt:=af (H:=upd H2 dd (.own d)) (a:=d) (o:=.ins t.bq dd (IW a.l (i:Int) B' A_));generalize upd (upd H2 dd (.own d)) d (.ins t.bq dd (IW a.l (i:Int) B' A_))=H3 at s3 Pt;have s4:=sB.trans s3;obtain⟨_,d1,d2⟩:=b.lists (.inr ⟨a,haa,rfl⟩);refine⟨x,dx,L,D,U,d,dd,a.l,B',A_,i,ds,ux,M a.l,[.ref p0],[],rfl,s4 _ _ hx,s4 _ _ hD,s4 _ _ hU,Pt,s4 _ _ hl,s3 _ _ hB2,s3 _ _ Pr,lA,d1,d2,b.DU,by simp;omega,by simp;omega,by omega,?_⟩;have hM:vi ⟨d,dd,a.l,i,B',A_,[.ref p0],[]⟩ M a.l=(M a.l).take i++[]++(M a.l).drop (i+1):=gB;have keep:∀ y o,H3 y=some o->y≠a.l->y≠D->y≠U->(upd (upd (upd H3 a.l (.lst ((M a.l).take i++[]++(M a.l).drop (i+1)))) D (.lst (ds++[.ref d]))) U (.lst [])) y=some o:=fun y o hy y1 y2 y3=>by
    rw[ak y3,ak y2,ak y1];exact hy
   have k1:(upd (upd (upd H3 a.l (.lst ((M a.l).take i++[]++(M a.l).drop (i+1)))) D (.lst (ds++[.ref d]))) U (.lst [])) a.l=some (.lst ((M a.l).take i++[]++(M a.l).drop (i+1))):=by
    rw[ak d2,ak d1,af]
   have k2:(upd (upd (upd H3 a.l (.lst ((M a.l).take i++[]++(M a.l).drop (i+1)))) D (.lst (ds++[.ref d]))) U (.lst [])) D=some (.lst (ds++[.ref d])):=by
    rw[ak b.DU,af]
   have k3:(upd (upd (upd H3 a.l (.lst ((M a.l).take i++[]++(M a.l).drop (i+1)))) D (.lst (ds++[.ref d]))) U (.lst [])) U=some (.lst []):=af;generalize (upd (upd (upd H3 a.l (.lst ((M a.l).take i++[]++(M a.l).drop (i+1)))) D (.lst (ds++[.ref d]))) U (.lst []))=H4 at keep k1 k2 k3;have g3:=hg.same s4;have sgN:mQ H3 ((M a.l).take i++[]++(M a.l).drop (i+1)) (ss.take i++[]++ss.drop (i+1)):=Jw (Jw (IV i g3) .nil) (IU (i+1) g3);obtain⟨F',gr,fr,B4⟩:=Bk.abZ b iM pp f B.wv haa hj fw RZ (e:=⟨d,dd,a.l,i,B',A_,[.ref p0],[]⟩) rfl ⟨by show i+1<=(M a.l).length;omega,by rw[show([V.ref p0]:List V).length=1 from rfl,agI hvp];rfl⟩ (by simp) (by simp) s4 hB V5 ⟨rfl,Pt,s3 _ _ hB2,s3 _ _ Pr⟩ (by rw[hM];exact sgN) (by simp;omega) (fun s hs=>by
    have wg:=((B.wv vw (.inr (.inl rfl))).gd _ _ (mem_of_getElem? fw)).2;rcases mem_append.mp hs with hs|hs
    ·rcases mem_append.mp hs with hs|hs
     ·exact wg s (List.mem_of_mem_take hs)
     ·cases hs
    ·exact wg s (List.mem_of_mem_drop hs)) hD pD keep (by rw[hM];exact k1) k2 k3
   have nT:∀{y us},H3 y=some (.tup us)->H4 y=some (.tup us):=fun {y us} hy=>keep y _ hy (jS hy (s4 _ _ hl) (by intro z;cases z)) (jS hy (s4 _ _ hD) (by intro z;cases z)) (jS hy (s4 _ _ hU) (by intro z;cases z));have sg4:mQ H4 ((M a.l).take i++[]++(M a.l).drop (i+1)) (ss.take i++[]++ss.drop (i+1)):=bZ (fun _ _ ⟨z,e1,e2⟩=>⟨z,e1,nT e2⟩) sgN;refine⟨_,rfl,_,rfl,_,rfl,_,rfl,big (by show 1<=1000;omega),fun lc hlc=>?_⟩;have sc:=aq.upd (o:=.lst [V.ref p0]) hlc;refine⟨a.l,lc,_,[.ref p0],ss.take i++[]++ss.drop (i+1),[sg0],i,i,rfl,a7.of (sc _ _ k1),sg4.same sc,by simp;omega,by simp;omega,by simp;omega,a7.of af,.cons ⟨p0,rfl,sc _ _ (nT (s4 _ _ hp0))⟩ .nil,by simp,fun w H5 s5 hw5=>?_⟩;have s6:=sc.trans s5;exact q4 sg0 w F' H5 hsg hw5 gr (fun y o hy hn=>s6 _ _ (fr y o hy hn)) (B4.same s6)
inductive D4 (c:Cs)(vs:List V)(H:Hp)(Q:VK)(E:XK):Prop
 |mk (x:Addr) (F:Addr->Prop) (vw:Vw) (ps fs:List Vw) (n:Str) (i:Int) (p:Addr) (sn:Sn) (fI:vs=[.ref x,.str n,.int i,.ref p]) (fJ:xE c H x F vw ps fs) (hI:H p=some (.tup [.str sn.1,.int sn.2])) (kK:ps.length<=900) (sd:match aR vw n with
 |none=>RX E c .dQ H
 |some (.cn _ _ _ _)=>RX E c .gR H
 |some (.pl ss)=>(¬(0<=i/\i<=(ss.length:Int)-1)->RX E c .qi H)/\((0<=i/\i<=(ss.length:Int)-1)->iC sn=false->RX E c .sx H) /\
  ((0<=i/\i<=(ss.length:Int)-1)->iC sn=true->∀(s s0:Sg)(w:Addr) F' H',s.1.str=sn.1->s.2=sn.2->ss[i.toNat]? = some s0->H' w=some (.tup (Vt (ss.take i.toNat++[s]++ss.drop (i.toNat+1)) i.toNat (i.toNat+1) [s0,s]))->Gr F F' H->Fr F H H'->xE c H' x F' (zP vw n (.pl (ss.take i.toNat++[s]++ss.drop (i.toNat+1)))) (ps++[vw]) []->Q (.ref w) H')):D4 c vs H Q E
theorem aiY {α:Type}{xs:List α}{i:Nat}{y:α}(h:xs[i]? = some y):xs.drop i=y::xs.drop (i+1):=by
 obtain⟨h1,h2⟩:=List.getElem?_eq_some_iff.mp h;rw[List.drop_eq_getElem_cons h1,h2]
theorem PQ (T:Txt K w mg t):bE P w K mg base (iA P w) (0+4) t.dB t.xQ ["self","name","at","sign"] (D4 (cs t)):=by
 have c7:=ix (P:=P) (base:=base) T;have lR:=rG (P:=P) (base:=base) T;have cS:=iK (P:=P) (base:=base) T;have yk:=Gq (P:=P) (base:=base) T;have cF:=gM (P:=P) (base:=base) T;have cE:=g9 (P:=P) (base:=base) T;refine T.sN.OV vG (fun vs H Q E h=>?_) (fun cdv A outer s H vs Q E hr h=>?_)
 ·obtain⟨_,_,_,_,_,_,_,_,_,rfl,_⟩:=h;rfl
 ·obtain⟨x,F,vw,ps,fs,n,iz,p,sn,rfl,B,hp,hps,q⟩:=h;refine aQ (ag (aL (i:=4) vG.nd rfl (Or.inl rfl) (bT (bQ (X:=(cJ (iA P w) P w K mg base ["self","name","at","sign","signs","before"] "Book.swap" (ah fW) t.dB cdv A outer s H E)) (pv 0) T.aJ T.gL cF (hr.mono (by decide)) T.dq .nil (fun _ _ z=>Or.inl z) (aa (pv 1) ae)) rfl)) (ag (a9 (uC (X:=(cJ (iA P w) P w K mg base ["self","name","at","sign","signs","before"] "Book.swap" (ah fW) t.dB cdv A outer s H E)) c7 (hr.mono (by decide)) rfl T.iq T.bP.kp T.c0 .nil (fun _ _ z=>Or.inl z) (aa (pv 2) (aa (bh ji (aI (aG.or aH) rfl T.bY bV (aa (pv 4) ae)) ai) ae)))) (ag (a9 (uC (X:=(cJ (iA P w) P w K mg base ["self","name","at","sign","signs","before"] "Book.swap" (ah fW) t.dB cdv A outer s H E)) lR (hr.mono (by decide)) rfl T.rp T.dW.kp T.jd .nil (fun _ _ z=>Or.inl z) (aa (pv 3) ae))) (ag (aL (i:=5) vG.nd rfl (Or.inl rfl) (aB au (pv 4) (pv 2) (fun _ _=>rfl))) (ag (a9 (hZ (pv 0) T.aJ T.iD cS (hr.mono (by decide)) T.eY .nil aO (aa (vo T.DJ cE (hr.mono (by decide)) rfl T.DI T.d4 .nil aO (aa (pv 4) (aa (pv 2) (aa (bx (aa (pv 5) ae)) (aa (bx (aa (pv 3) ae)) ae))))) ae))) (aj (av (aF yk (hr.mono (by decide)) rfl T.Ga T.rA.kp T.x8 .nil aO (aa (pv 4) (aa (pv 2) (aa (bh (du.or (ba.or dw)) (pv 2) ai) (aa (bx (aa (pv 5) (aa (pv 3) ae))) ae)))))))))))) ?_;obtain⟨L,D,U,all,M,Ps,Fs,es,us,b,iM,pp,pf,f⟩:=B.ex;obtain⟨dx,hx⟩:=b.hx;obtain⟨vx,g,gv⟩:=b.vB iM;obtain⟨ds,hD,pD⟩:=b.hD;obtain⟨ux,hU,pU⟩:=b.hU;have dl:=cj pD;have pl:=cj pp;have pe:=b.past.len;refine⟨_,rfl,x,dx,_,rfl,hx,ic _ _ _,_,rfl,x,dx,L,D,U,M L,vx,n,rfl,hx,b.hL,g,?_⟩;rcases IY gv (fun _ _ r=>r.2.1) n with ⟨f1,f2⟩|⟨a,th,j,f1,f2,r,an,fj,fw⟩
  ·rw[f1];rw[f2]at q;exact q
  rw[f1];rw[f2]at q;subst an;cases th with
  |cn ld lt sl tn =>
   obtain⟨pt,Oo,_⟩:=r.2.2;refine⟨fun z=>?_,fun _ _=>q,.inr ⟨pt,Oo⟩⟩;rw[Oo]at z;cases z
  |pl ss =>
   obtain⟨RZ,hg⟩:=r.2.2;obtain⟨q1,q2,q4⟩:=q;have haa:=r.1;obtain⟨ha,hl⟩:=b.ha a haa;have yl:=cj hg;have hj:(M L)[j]? = some (.ref a.o):=by
    obtain⟨v,hv,e1,_⟩:=uF g fj;rw[<-e1];exact hv
   refine⟨fun _=>?_,(fun pz z=>by rw[RZ]at z;cases z),.inl RZ⟩;refine⟨a.o,_,a.d,_,_,rfl,ha,T.gh,T.cC,uH _ _ _,?_⟩;refine⟨_,rfl,_,rfl,.inl ⟨a.l,M a.l,rfl,.inl (a7.of hl),?_⟩⟩;refine⟨_,_,rfl,rfl,?_⟩;refine⟨iz,((M a.l).length:Int)-1,rfl,fun hi=>?_,fun hi=>?_⟩
   rotate_left
   ·have q:=q1 (by rw[<-yl];exact hi);exact q
   rw[yl]at hi;refine⟨_,rfl,p,sn,rfl,hp,fun hgd=>?_,fun hgd=>?_⟩
   rotate_left
   ·have q:=q2 hi hgd;exact q
   obtain⟨sg,e1,e2,gt⟩:=O6 hgd;rw[<-e1,<-e2]at hp;obtain⟨i,rfl⟩:∃ i:Nat,iz=(i:Int):=⟨iz.toNat,by omega⟩;have hi:i<ss.length:=by omega
   have hlt:ss.length<=200:=((B.wv vw (.inr (.inl rfl))).gd _ _ (mem_of_getElem? fw)).1;have q4:=q4 (by omega) hgd sg;rw[Int.toNat_natCast]at q4;obtain⟨sg0,hsg⟩:∃ sg,ss[i]? = some sg:=⟨_,getElem?_eq_getElem hi⟩;obtain⟨vp,hvp,p0,rfl,hp0⟩:=uF hg hsg;refine⟨_,rfl,_,rfl,ixL (a7.of hl) (n:=i) rfl hvp ?_⟩;refine⟨_,rfl,x,dx,_,rfl,hx,jm _ _ _,?_⟩;refine⟨_,rfl,_,rfl,_,rfl,big (by show 1<=1000;omega),fun B' hB=>?_⟩;refine⟨_,rfl,big (by show 1<=1000;omega),fun A_ hA=>?_⟩;have V5:=Dk hA;have sB:=(aq.upd (o:=.lst [V.ref p0]) hB).trans (aq.upd (o:=.lst [V.ref p]) hA);have hB2:=aq.upd (o:=.lst [V.ref p]) hA _ _ (af (H:=H) (a:=B') (o:=.lst [V.ref p0]));have Pr:=af (H:=upd H B' (.lst [V.ref p0])) (a:=A_) (o:=.lst [V.ref p]);have lA:a.l≠A_:=ao hl V5;generalize upd (upd H B' (.lst [V.ref p0])) A_ (.lst [V.ref p])=H2 at sB hB2 Pr;intro d dd nd ndd ne;refine⟨d,dd,a.l,(i:Int),B',A_,rfl,af,rfl,?_⟩;rw[dP];have s3:aq H2 (upd (upd H2 dd (.own d)) d (.ins t.bq dd (IW a.l (i:Int) B' A_))):=fun y o hy=>by
    rw[ak (ao hy nd),ak (ao hy ndd)];exact hy
   have Pt:=af (H:=upd H2 dd (.own d)) (a:=d) (o:=.ins t.bq dd (IW a.l (i:Int) B' A_));generalize upd (upd H2 dd (.own d)) d (.ins t.bq dd (IW a.l (i:Int) B' A_))=H3 at s3 Pt;have s4:=sB.trans s3;obtain⟨_,d1,d2⟩:=b.lists (.inr ⟨a,haa,rfl⟩);refine⟨x,dx,L,D,U,d,dd,a.l,B',A_,i,ds,ux,M a.l,[.ref p0],[.ref p],rfl,s4 _ _ hx,s4 _ _ hD,s4 _ _ hU,Pt,s4 _ _ hl,s3 _ _ hB2,s3 _ _ Pr,lA,d1,d2,b.DU,by simp;omega,by simp;omega,by omega,?_⟩;have hM:vi ⟨d,dd,a.l,i,B',A_,[.ref p0],[.ref p]⟩ M a.l=(M a.l).take i++[.ref p]++(M a.l).drop (i+1):=gB;have keep:∀ y o,H3 y=some o->y≠a.l->y≠D->y≠U->(upd (upd (upd H3 a.l (.lst ((M a.l).take i++[.ref p]++(M a.l).drop (i+1)))) D (.lst (ds++[.ref d]))) U (.lst [])) y=some o:=fun y o hy y1 y2 y3=>by
    rw[ak y3,ak y2,ak y1];exact hy
   have k1:(upd (upd (upd H3 a.l (.lst ((M a.l).take i++[.ref p]++(M a.l).drop (i+1)))) D (.lst (ds++[.ref d]))) U (.lst [])) a.l=some (.lst ((M a.l).take i++[.ref p]++(M a.l).drop (i+1))):=by
    rw[ak d2,ak d1,af]
   have k2:(upd (upd (upd H3 a.l (.lst ((M a.l).take i++[.ref p]++(M a.l).drop (i+1)))) D (.lst (ds++[.ref d]))) U (.lst [])) D=some (.lst (ds++[.ref d])):=by
    rw[ak b.DU,af]
   have k3:(upd (upd (upd H3 a.l (.lst ((M a.l).take i++[.ref p]++(M a.l).drop (i+1)))) D (.lst (ds++[.ref d]))) U (.lst [])) U=some (.lst []):=af;generalize (upd (upd (upd H3 a.l (.lst ((M a.l).take i++[.ref p]++(M a.l).drop (i+1)))) D (.lst (ds++[.ref d]))) U (.lst []))=H4 at keep k1 k2 k3;have g3:=hg.same s4;have sgN:mQ H3 ((M a.l).take i++[.ref p]++(M a.l).drop (i+1)) (ss.take i++[sg]++ss.drop (i+1)):=Jw (Jw (IV i g3) (.cons ⟨p,rfl,s4 _ _ hp⟩ .nil)) (IU (i+1) g3);obtain⟨F',gr,fr,B4⟩:=Bk.abZ b iM pp f B.wv haa hj fw RZ (e:=⟨d,dd,a.l,i,B',A_,[.ref p0],[.ref p]⟩) rfl ⟨by show i+1<=(M a.l).length;omega,by rw[show([V.ref p0]:List V).length=1 from rfl,aiY hvp];rfl⟩ (by simp) (by simp) s4 hB V5 ⟨rfl,Pt,s3 _ _ hB2,s3 _ _ Pr⟩ (by rw[hM];exact sgN) (by simp;omega) (fun s hs=>by
    have wg:=((B.wv vw (.inr (.inl rfl))).gd _ _ (mem_of_getElem? fw)).2;rcases mem_append.mp hs with hs|hs
    ·rcases mem_append.mp hs with hs|hs
     ·exact wg s (List.mem_of_mem_take hs)
     ·rw[mem_singleton.mp hs];exact gt
    ·exact wg s (List.mem_of_mem_drop hs)) hD pD keep (by rw[hM];exact k1) k2 k3
   have nT:∀{y us},H3 y=some (.tup us)->H4 y=some (.tup us):=fun {y us} hy=>keep y _ hy (jS hy (s4 _ _ hl) (by intro z;cases z)) (jS hy (s4 _ _ hD) (by intro z;cases z)) (jS hy (s4 _ _ hU) (by intro z;cases z));have sg4:mQ H4 ((M a.l).take i++[.ref p]++(M a.l).drop (i+1)) (ss.take i++[sg]++ss.drop (i+1)):=bZ (fun _ _ ⟨z,e1,e2⟩=>⟨z,e1,nT e2⟩) sgN;refine⟨_,rfl,_,rfl,_,rfl,.inl ⟨_,_,rfl,rfl,_,rfl,_,rfl,big (by show 2<=1000;omega),fun lc hlc=>?_⟩⟩;have sc:=aq.upd (o:=.lst [V.ref p0,V.ref p]) hlc;refine⟨a.l,lc,_,[.ref p0,.ref p],ss.take i++[sg]++ss.drop (i+1),[sg0,sg],i,i+1,rfl,a7.of (sc _ _ k1),sg4.same sc,by simp;omega,by simp;omega,by simp;omega,a7.of af,.cons ⟨p0,rfl,sc _ _ (nT (s4 _ _ hp0))⟩ (.cons ⟨p,rfl,sc _ _ (nT (s4 _ _ hp))⟩ .nil),by simp,fun w H5 s5 hw5=>?_⟩;have s6:=sc.trans s5;exact q4 sg0 w F' H5 e1 e2 hsg hw5 gr (fun y o hy hn=>s6 _ _ (fr y o hy hn)) (B4.same s6)
inductive D7 (c:Cs)(vs:List V)(H:Hp)(Q:VK)(E:XK):Prop
 |mk (x:Addr) (F:Addr->Prop) (vw:Vw) (ps fs:List Vw) (n:Str) (fI:vs=[.ref x,.str n]) (fJ:xE c H x F vw ps fs) (hI:ps.length<=900) (kK:match aR vw n with
 |none=>RX E c .dQ H
 |some _=>(leans vw n=true->∀ H',aq H H'->RX E c .AA H')/\(leans vw n=false->∀ F' H',Gr F F' H->Fr F H H'->xE c H' x F' (sC vw n) (ps++[vw]) []->Q .non H')):D7 c vs H Q E
theorem PR (T:Txt K w mg t):bE P w K mg base (iA P w) (0+3) t.eI t.xR ["self","name"] (D7 (cs t)):=by
 have bH:=dO (P:=P) (base:=base) T;have cS:=iK (P:=P) (base:=base) T;have cE:=g9 (P:=P) (base:=base) T;have jM:=ub (P:=P) (base:=base) T;refine T.sO.OV Dt (fun vs H Q E h=>?_) (fun cdv A outer s H vs Q E hr h=>?_)
 ·obtain⟨_,_,_,_,_,_,rfl,_⟩:=h;rfl
 ·obtain⟨x,F,vw,ps,fs,n,rfl,B,hps,q⟩:=h;refine aQ (ag (aL (i:=2) Dt.nd rfl (Or.inl rfl) (bQ (X:=(cJ (iA P w) P w K mg base ["self","name","dropped"] "Book.drop" (ah hV) t.eI cdv A outer s H E)) (pv 0) T.aJ T.dE bH (hr.mono (by decide)) T.cu .nil (fun _ _ z=>Or.inl z) (aa (pv 1) ae))) (ag (aM (bg (aI Si rfl T.acd abh (aa (vy (cn:=["voice"]) rfl (h8.of rfl) (jA (bT (pv 0) rfl)) (fun _=>(aZ (i:=0) K3 rfl (Or.inl rfl))) (fun _=>Aq) (fun _=>(cI (iP (bK OL (bT (pv 0) rfl) jg (aw _)) (k7 (bK (bc.or (aN (ay hr))) (aB au (bT (pv 0) rfl) ai (fun _ _=>rfl)) (pv 2) (aw _))))))) ae))) (aj (iB (X:=(cJ (iA P w) P w K mg base ["self","name","dropped"] "Book.drop" (ah hV) t.eI cdv A outer s H E)) (fun _ _ z=>z) rfl T.Zx.exc rfl T.Ol (aa ax ae))) az) (aj (a9 (hZ (pv 0) T.aJ T.iD cS (hr.mono (by decide)) T.eY .nil aO (aa (vo T.DJ cE (hr.mono (by decide)) rfl T.DI T.d4 .nil aO (aa (bT (pv 0) rfl) (aa (j1 plainAttrs_list PySem.F.slot_list_index PySem.F.type_list_index ab0 (qJ (pv 0) T.aJ T.oE jM (hr.mono (by decide)) T.jG .nil aO) (aa (pv 1) ae)) (aa (bx (aa (pv 2) ae)) (aa (bx ae) ae))))) ae)))))) ?_;obtain⟨L,D,U,all,M,Ps,Fs,es,us,b,iM,pp,pf,f⟩:=B.ex;obtain⟨dx,hx⟩:=b.hx;obtain⟨vx,g,gv⟩:=b.vB iM;have wv:=B.wv vw (.inr (.inl rfl));have hL:=b.hL;have xl:=cj g;have vl:=cj gv;have wl:=wv.len;refine⟨_,rfl,x,dx,_,rfl,hx,d8 _ _ _,_,rfl,x,dx,L,D,U,M L,vx,n,rfl,hx,b.hL,g,?_⟩;rcases IY gv (fun _ _ r=>r.2.1) n with ⟨f1,f2⟩|⟨a,th,j,f1,f2,r,an,fj,fw⟩
  ·rw[f1];rw[f2]at q;exact q
  rw[f1];rw[f2]at q;obtain⟨q1,q2⟩:=q;refine⟨_,rfl,x,_,dx,_,_,rfl,hx,T.aJ,T.bL,ko _ _ _,L,rfl,⟨_,a7.of hL⟩,fun D' b' hD'=>?_⟩;refine mO (K:=K) (xs:=M L) (fun i ys σ H'=>∃ v,σ=[v,some (.ref x),some (.str n),some (.ref a.o)]/\H'=upd H D' (.lst ys)/\ys=((vw.take i).map (qP n)).map V.bl) ⟨none,rfl,rfl,rfl⟩ ?_ ?_ ?_
  ·rintro i ys σ H' ⟨v,rfl,rfl,_⟩;exact jC (a7.of hL) hD'
  ·rintro i ys y σ H' hy ⟨v,rfl,rfl,rfl⟩ N hN;obtain⟨a1,e1,rfl,ha1⟩:=zO g hy;obtain⟨q1',e2,_,an1,t1⟩:=zO gv e1;have hi:i<vw.length:=(List.getElem?_eq_some_iff.mp e2).1;refine mP ?_;refine⟨fun v H'=>v=.bl (qP n q1')/\H'=upd H D' (.lst (((vw.take i).map (qP n)).map V.bl)),?_,?_⟩
   ·refine⟨_,rfl,a1.o,_,a1.d,_,_,rfl,by rw[ak (ao ha1 hD')];exact ha1,T.gh,T.cP,zw _ _ _,rfl,_,rfl,?_⟩;obtain⟨m1,th1⟩:=q1';cases th1 with
    |pl ss =>
     obtain⟨e3,_⟩:=t1;rw[e3];exact bJ ⟨rfl,rfl⟩
    |cn ld lt sl tn =>
     obtain⟨p,e3,hp⟩:=t1;have hp':upd H D' (.lst (((vw.take i).map (qP n)).map V.bl)) p=some (.tup [.str ld,.int lt,.int sl,.bl tn]):=by rw[ak (ao hp hD')];exact hp
     rw[e3];refine cY ?_;refine⟨_,rfl,a1.o,_,a1.d,_,_,rfl,by rw[ak (ao ha1 hD')];exact ha1,T.gh,T.cP,zw _ _ _,?_⟩;rw[e3];refine PL (i:=0) hp' rfl ?_;refine⟨_,rfl,.inl ⟨rfl,?_,rfl⟩⟩;show V.bl (decide (V.str ld=V.str n))=V.bl (decide (ld=n));refine congrArg V.bl (decide_eq_decide.mpr ⟨fun z=>V.str.inj z,fun z=>congrArg V.str z⟩)
   ·rintro _ _ ⟨rfl,rfl⟩;refine⟨af,?_,?_⟩
    ·rw[length_map,length_map,length_take];exact a6 (by omega)
    ·refine hN _ _ _ ⟨_,rfl,dP,?_⟩;rw[take_succ,e2];simp
  ·rintro ys σ H' ⟨v,rfl,rfl,rfl⟩;have ml:(M L).length=vw.length:=xl.trans vl;refine⟨rfl,D',_,rfl,a7.of af,_,rfl,?_⟩;rw[ml,take_length,List.any_map];have sD:=aq.upd (o:=.lst ((vw.map (qP n)).map V.bl)) hD';generalize upd H D' (.lst ((vw.map (qP n)).map V.bl))=H1 at sD;refine a8 (fun h=>?_) (fun h=>?_)
   ·have q:=q1 h H1 sD;exact⟨by show 1<=sizeLine;decide,q.2⟩
   have hle:leans vw n=false:=by
    cases e:leans vw n with
    |false=>rfl
    |true=>exact absurd e h
   have q2:=q2 hle;have B1:=B.same sD;have hx1:=sD _ _ hx;refine⟨_,rfl,x,dx,_,rfl,hx1,jm _ _ _,?_⟩;refine⟨_,rfl,x,_,dx,_,_,rfl,hx1,T.aJ,T.bL,ko _ _ _,?_⟩;refine⟨_,rfl,x,dx,_,rfl,hx1,qg _ _ _,x,F,vw,ps,fs,rfl,B1,fun l H2 nl s2 h2=>?_⟩;have jl:j<vw.length:=(List.getElem?_eq_some_iff.mp fw).1;have hjn:(vw.map (·.1))[j]? = some n:=by rw[getElem?_map,fw];rfl
   refine⟨.inl ⟨rfl,_,a7.of h2⟩,_,rfl,l,vw.map (·.1),n,j,rfl,rfl,by rw[List.map_map];exact h2,hjn,fun i hi z=>?_,?_⟩
   ·have:=Di wv.nd z hjn;omega
   have s12:=sD.trans s2;clear s2 sD hx1 B1 nl h2;obtain⟨ds,hD,pD⟩:=b.hD;obtain⟨ux,hU,pU⟩:=b.hU;have dl:=cj pD;have pl:=cj pp;have pe:=b.past.len;refine⟨_,rfl,big (by show 1<=1000;omega),fun B' hB=>?_⟩;refine⟨big (by show 0<=1000;omega),fun A_ hA=>?_⟩;have V5:=Dk hA;have sB:=(aq.upd (o:=.lst [V.ref a.o]) hB).trans (aq.upd (o:=.lst []) hA);have hB2:=aq.upd (o:=.lst []) hA _ _ (af (H:=H2) (a:=B') (o:=.lst [V.ref a.o]));have Pr:=af (H:=upd H2 B' (.lst [V.ref a.o])) (a:=A_) (o:=.lst []);have hB0:H B'=none:=s12.free hB;have V5:H A_=none:=s12.free V5;have LA:L≠A_:=ao hL V5;generalize upd (upd H2 B' (.lst [V.ref a.o])) A_ (.lst [])=H3 at sB hB2 Pr;have s13:=s12.trans sB;intro d dd nd ndd ne;refine⟨d,dd,L,(j:Int),B',A_,rfl,af,rfl,?_⟩;rw[dP];have s3:aq H3 (upd (upd H3 dd (.own d)) d (.ins t.bq dd (IW L (j:Int) B' A_))):=fun y o hy=>by
    rw[ak (ao hy nd),ak (ao hy ndd)];exact hy
   have Pt:=af (H:=upd H3 dd (.own d)) (a:=d) (o:=.ins t.bq dd (IW L (j:Int) B' A_));generalize upd (upd H3 dd (.own d)) d (.ins t.bq dd (IW L (j:Int) B' A_))=H4 at s3 Pt;have s4:=s13.trans s3;refine⟨x,dx,L,D,U,d,dd,L,B',A_,j,ds,ux,M L,[.ref a.o],[],rfl,s4 _ _ hx,s4 _ _ hD,s4 _ _ hU,Pt,s4 _ _ hL,s3 _ _ hB2,s3 _ _ Pr,LA,b.LD,b.LU,b.DU,by simp;omega,by simp;omega,by omega,?_⟩;have hj':(M L)[j]? = some (.ref a.o):=by
    obtain⟨v,hv,e1,_⟩:=uF g fj;rw[<-e1];exact hv
   have w':xk (vw.take j++vw.drop (j+1)):=by
    rw[<-KR wv.nd fw];exact wv.dropped hle
   obtain⟨F',gr,fr,B4⟩:=Bk.dropped b iM pp f B.wv hj' w' (e:=⟨d,dd,L,j,B',A_,[.ref a.o],[]⟩) rfl rfl rfl rfl s4 hB0 V5 ⟨rfl,Pt,s3 _ _ hB2,s3 _ _ Pr⟩ hD pD
    (H':=upd (upd (upd H4 L (.lst ((M L).take j++[]++(M L).drop (j+1)))) D (.lst (ds++[.ref d]))) U (.lst [])) (fun y o hy y1 y2 y3=>by rw[ak y3,ak y2,ak y1];exact hy) (by rw[ak b.LU,ak b.LD,af,append_nil]) (by rw[ak b.DU,af]) af
   refine q2 F' _ gr fr ?_;rw[KR wv.nd fw];exact B4
inductive D8 (C:Addr)(vs:List V)(H:Hp)(Q:VK)(E:XK):Prop
 |mk (x dx T_ B A:Addr) (i:Nat) (xs bs as:List V) (fI:vs=[.ref x]) (fJ:H x=some (.ins C dx (IW T_ (i:Int) B A))) (hI:H T_=some (.lst xs)) (kK:H B=some (.lst bs)) (sd:H A=some (.lst as)) (OM:T_≠B) (h6_:i+as.length<=xs.length) (h7_:xs.length+bs.length<=1000) (h8_:Q .non (upd H T_ (.lst (xs.take i++bs++xs.drop (i+as.length))))):D8 C vs H Q E
theorem D9 (T:Txt K w mg t):bE P w K mg base mJ (0+1) t.hX t.xS ["self"] (D8 t.bq):=by
 refine T.sP.ok O9 (fun vs H Q E h=>?_) (fun cdv A outer s H vs Q E hr h=>?_)
 ·obtain⟨_,_,_,_,_,_,_,_,_,rfl,_⟩:=h;rfl
 ·obtain⟨x,dx,T_,B,A_,i,xs,bs,as,rfl,hx,hT,hB,hA,hne,hi,hz,q⟩:=h;refine aQ (aj (kg (bT (pv 0) rfl) (So (bT (pv 0) rfl) (oz (bT (pv 0) rfl)) (oz (bh (du.or (ba.or dw)) (bT (pv 0) rfl) (aI (aG.or aH) rfl T.bY bV (aa (bT (pv 0) rfl) ae))))))) ?_;refine⟨_,rfl,x,_,dx,_,_,rfl,hx,T.gi,T.e8,KH _ _ _ _,?_⟩;refine⟨_,rfl,x,_,dx,_,_,rfl,hx,T.gi,T.eZ,KG _ _ _ _,?_⟩;refine⟨_,rfl,x,_,dx,_,_,rfl,hx,T.gi,T.iu,O3 _ _ _ _,_,rfl,?_⟩;refine⟨_,rfl,x,_,dx,_,_,rfl,hx,T.gi,T.iu,O3 _ _ _ _,?_⟩;refine⟨_,rfl,x,_,dx,_,_,rfl,hx,T.gi,T.gH,N7 _ _ _ _,?_⟩;refine .inl ⟨A_,as,rfl,.inl (a7.of hA),.inl ⟨_,_,rfl,rfl,_,rfl,?_⟩⟩;refine⟨T_,B,xs,bs,(i:Int),((i+as.length:Nat):Int),rfl,rfl,rfl,by simp,hT,hB,hne,by omega,by omega,by omega,Nat.le_trans hz (by decide),?_⟩;rw[Int.toNat_natCast,Int.toNat_natCast];exact q
inductive Ea (c:Cs)(vs:List V)(H:Hp)(Q:VK)(E:XK):Prop
 |mk (x:Addr) (F:Addr->Prop) (vw:Vw) (ps fs:List Vw) (fI:vs=[.ref x]) (fJ:xE c H x F vw ps fs) (hI:ps.length+fs.length<=900) (kK:(ps=[]->∀ H',aq H H'->RX E c .mU H')) (sd:(∀ Vo v,ps=Vo++[v]->∀ H',Fr F H H'->xE c H' x F v Vo (fs++[vw])->Q .non H')):Ea c vs H Q E
theorem PU (T:Txt K w mg t):bE P w K mg base (iA P w) (0+2) t.fY t.xV ["self"] (Ea (cs t)):=by
 have Jo:=D9 (P:=P) (base:=base) T;refine T.sQ.OV Du (fun vs H Q E h=>?_) (fun cdv A outer s H vs Q E hr h=>?_)
 ·obtain⟨_,_,_,_,_,rfl,_⟩:=h;rfl
 ·obtain⟨x,F,vw,ps,fs,rfl,B,hps,q1,q2⟩:=h;refine aQ (ag (aM (ar (Kt (ay hr)) (bT (pv 0) rfl) (bx ae) (aw _)) (aj (iB (X:=(cJ (iA P w) P w K mg base ["self","deed"] "Book.undo" (ah jo) t.fY cdv A outer s H E)) (fun _ _ z=>z) rfl T.Om.exc rfl T.Gg (aa ax ae))) az) (ag (aL (i:=1) Du.nd rfl (Or.inl rfl) (OS plainAttrs_list slot_list_pop type_list_pop aa3 (bT (pv 0) rfl))) (ag (a9 (qJ (pv 1) T.gi T.Pk Jo (hr.mono (by decide)) T.yb .nil aO)) (aj (a9 (j1 plainAttrs_list slot_list_append type_list_append bM (bT (pv 0) rfl) (aa (pv 1) ae))))))) ?_;obtain⟨L,D,U,all,M,Ps,Fs,es,us,b,iM,pp,pf,f⟩:=B.ex;obtain⟨dx,hx⟩:=b.hx;obtain⟨ds,hD,pD⟩:=b.hD;have dl:=cj pD;have pl:=cj pp;have pe:=b.past.len;refine⟨_,rfl,x,_,dx,_,_,rfl,hx,T.aJ,T.eE,Dh _ _ _,big (by show 0<=1000;omega),fun e0 he0=>?_⟩;have s0:=aq.upd (o:=.lst []) he0;refine⟨D,e0,ds,rfl,rfl,a7.of (s0 _ _ hD),a7.of af,_,rfl,?_⟩;generalize upd H e0 (.lst [])=H0 at s0;refine a8 (fun h=>?_) (fun h=>?_)
  ·have hds:ds=[]:=List.isEmpty_iff.mp h;rw[hds]at dl;have hp0:ps=[]:=List.length_eq_zero_iff.mp (by rw[<-pl,pe,<-dl];rfl);have q:=q1 hp0 H0 s0;exact⟨by show 1<=sizeLine;decide,q.2⟩
  have hne:ds≠[]:=fun z=>h (by rw[z];rfl);obtain⟨ds0,v,rfl⟩:∃ ds0 v,ds=ds0++[v]:=⟨ds.dropLast,ds.getLast hne,(List.dropLast_concat_getLast hne).symm⟩;obtain⟨es0,e,he,pD0,hd⟩:=KJ pD;have hvo:=hd.1;subst hvo;have B0:=B.same s0;have b0:=b.kept f (.same s0);have hd0:mK t.bq H0 (.ref e.o) e:=jD (F:=fun _=>True) (.same s0) ⟨trivial,trivial⟩ hd;have ok:=b.dd e (.inl (by rw[he];exact mem_append_right _ (List.mem_singleton_self _)));obtain⟨hT,TD,TU⟩:=b0.lists ok.1;have nTB:e.T≠e.B:=by
   rcases ok.1 with z|⟨a,ha,z⟩
   ·rw[z];exact Ne.symm ok.2.1.1
   ·rw[z];exact Ne.symm (ok.2.1.2.2.2 a ha)
  obtain⟨Ps0,S,_,_,ft,hMS⟩:=(he ▸ b.past).last;have fit:e.i+e.as.length<=(M e.T).length:=by rw[hMS];exact adW ft
  have hx0:=s0 _ _ hx;have hD0:=s0 _ _ hD;obtain⟨ux,RY,pU⟩:=b0.hU;have ak2:(M e.T).length<=200:=by
   rcases ok.1 with z|⟨a,ha,z⟩
   ·rw[z];exact Nat.le_trans (b.wf M (.inr (.inl rfl))).len (by decide)
   ·rw[z];exact((b.wf M (.inr (.inl rfl))).ln a ha).1
  refine⟨_,rfl,x,_,dx,_,_,rfl,hx0,T.aJ,T.eE,Dh _ _ _,?_⟩;refine⟨.inl ⟨rfl,_,a7.of hD0⟩,D,ds0++[V.ref e.o],V.ref e.o,rfl,rfl,hD0,by simp,?_⟩;rw[List.dropLast_concat];have nD:∀{y C d fs},H0 y=some (.ins C d fs)->y≠D:=fun hy=>jS hy hD0 (by intro z;cases z);have nT:∀{y C d fs},H0 y=some (.ins C d fs)->y≠e.T:=fun hy=>jS hy hT (by intro z;cases z);have r1:∀{y o},H0 y=some o->y≠D->upd H0 D (.lst ds0) y=some o:=fun hy hn=>by rw[ak hn];exact hy
  refine⟨_,rfl,e.o,e.d,_,rfl,r1 hd0.2.1 (nD hd0.2.1),SD _ _ _ _,?_⟩;refine⟨e.o,e.d,e.T,e.B,e.A,e.i,M e.T,e.bs,e.as,rfl,r1 hd0.2.1 (nD hd0.2.1),r1 hT TD,r1 hd0.2.2.1 ok.2.1.2.1,r1 hd0.2.2.2 ok.2.2.1.2.1,nTB,fit,by have:=ok.2.2.2.1;omega,?_⟩;have r2:∀{y o},H0 y=some o->y≠D->y≠e.T->upd (upd H0 D (.lst ds0)) e.T (.lst ((M e.T).take e.i++e.bs++(M e.T).drop (e.i+e.as.length))) y=some o:=fun hy hn hn'=>by rw[ak hn',ak hn];exact hy
  refine⟨_,rfl,x,_,dx,_,_,rfl,r2 hx0 (nD hx0) (nT hx0),T.aJ,T.cQ,vA _ _ _,?_⟩;have hU1:=r2 RY (Ne.symm b.DU) (Ne.symm TU);have ul:=cj pU;have fl:=cj pf;have fe:=b.fut.len;refine⟨.inl ⟨rfl,_,a7.of hU1⟩,_,rfl,U,_,_,rfl,rfl,hU1,a6 (by omega),?_⟩;obtain⟨Vo,v,e1,B2⟩:=Bk.agh b0 (Is.kept (F:=F) (.same s0) iM) (bZ (fun _ _ q=>Is.kept (F:=F) (.same s0) q) pp) (bZ (fun _ _ q=>Is.kept (F:=F) (.same s0) q) pf) f B.wv he (pb (fun _ e' _ q=>jD (F:=fun _=>True) (.same s0) ⟨trivial,trivial⟩ q) pD0) hd0 pU
   (H2:=upd (upd (upd H0 D (.lst ds0)) e.T (.lst ((M e.T).take e.i++e.bs++(M e.T).drop (e.i+e.as.length)))) U (.lst (ux++[.ref e.o]))) (fun y o hy y1 y2 y3=>by rw[ak y3];exact r2 hy y2 y1) (by rw[ak TU,af];exact congrArg (fun z=>some (HO.lst z)) gB.symm) (by rw[ak b.DU,ak (Ne.symm TD),af]) af
  refine q2 Vo v e1 _ (fun y o hy hn=>?_) B2;have fT:F e.T:=by
   rcases ok.1 with z|⟨a,ha,z⟩
   ·rw[z];exact f.L
   ·rw[z];exact f.l a ha
  rw[ak (show y≠U from fun z=>hn (z ▸ f.U))];exact r2 (s0 _ _ hy) (fun z=>hn (z ▸ f.D)) (fun z=>hn (z ▸ fT))
inductive Eb (c:Cs)(vs:List V)(H:Hp)(Q:VK)(E:XK):Prop
 |mk (x:Addr) (F:Addr->Prop) (vw:Vw) (ps fs:List Vw) (fI:vs=[.ref x]) (fJ:xE c H x F vw ps fs) (hI:ps.length+fs.length<=900) (kK:(fs=[]->∀ H',aq H H'->RX E c .mU H')) (sd:(∀ Zp v,fs=Zp++[v]->∀ H',Fr F H H'->xE c H' x F v (ps++[vw]) Zp->Q .non H')):Eb c vs H Q E
theorem PV (T:Txt K w mg t):bE P w K mg base (iA P w) (0+2) t.fZ t.xW ["self"] (Eb (cs t)):=by
 have Gi:=Lx (P:=P) (base:=base) T;refine T.sR.OV Dv (fun vs H Q E h=>?_) (fun cdv A outer s H vs Q E hr h=>?_)
 ·obtain⟨_,_,_,_,_,rfl,_⟩:=h;rfl
 ·obtain⟨x,F,vw,ps,fs,rfl,B,hps,q1,q2⟩:=h;refine aQ (ag (aM (ar (Kt (ay hr)) (bT (pv 0) rfl) (bx ae) (aw _)) (aj (iB (X:=(cJ (iA P w) P w K mg base ["self","deed"] "Book.redo" (ah jq) t.fZ cdv A outer s H E)) (fun _ _ z=>z) rfl T.Om.exc rfl T.Gg (aa ax ae))) az) (ag (aL (i:=1) Dv.nd rfl (Or.inl rfl) (OS plainAttrs_list slot_list_pop type_list_pop aa3 (bT (pv 0) rfl))) (ag (a9 (qJ (pv 1) T.gi T.La Gi (hr.mono (by decide)) T.zG .nil aO)) (aj (a9 (j1 plainAttrs_list slot_list_append type_list_append bM (bT (pv 0) rfl) (aa (pv 1) ae))))))) ?_;obtain⟨L,D,U,all,M,Ps,Fs,es,us,b,iM,pp,pf,f⟩:=B.ex;obtain⟨dx,hx⟩:=b.hx;obtain⟨ux,hU,pU⟩:=b.hU;have ul:=cj pU;have fl:=cj pf;have fe:=b.fut.len;refine⟨_,rfl,x,_,dx,_,_,rfl,hx,T.aJ,T.cQ,vA _ _ _,big (by show 0<=1000;omega),fun e0 he0=>?_⟩;have s0:=aq.upd (o:=.lst []) he0;refine⟨U,e0,ux,rfl,rfl,a7.of (s0 _ _ hU),a7.of af,_,rfl,?_⟩;generalize upd H e0 (.lst [])=H0 at s0;refine a8 (fun h=>?_) (fun h=>?_)
  ·have hds:ux=[]:=List.isEmpty_iff.mp h;rw[hds]at ul;have hp0:fs=[]:=List.length_eq_zero_iff.mp (by rw[<-fl,fe,<-ul];rfl);have q:=q1 hp0 H0 s0;exact⟨by show 1<=sizeLine;decide,q.2⟩
  have hne:ux≠[]:=fun z=>h (by rw[z];rfl);obtain⟨ux0,v,rfl⟩:∃ ux0 v,ux=ux0++[v]:=⟨ux.dropLast,ux.getLast hne,(List.dropLast_concat_getLast hne).symm⟩;obtain⟨us0,e,he,pU0,hd⟩:=KJ pU;have hvo:=hd.1;subst hvo;have b0:=b.kept f (.same s0);have hd0:mK t.bq H0 (.ref e.o) e:=jD (F:=fun _=>True) (.same s0) ⟨trivial,trivial⟩ hd;have ok:=b.dd e (.inr (by rw[he];exact mem_append_right _ (List.mem_singleton_self _)));obtain⟨hT,TD,TU⟩:=b0.lists ok.1;have nTA:e.T≠e.A:=by
   rcases ok.1 with z|⟨a,ha,z⟩
   ·rw[z];exact Ne.symm ok.2.2.1.1
   ·rw[z];exact Ne.symm (ok.2.2.1.2.2.2 a ha)
  obtain⟨Fs0,_,ft,_⟩:=(he ▸ b.fut).last;have fit:=ft.1;have hx0:=s0 _ _ hx;have RY:=s0 _ _ hU;obtain⟨ds,hD0,pD⟩:=b0.hD;have ak2:(M e.T).length<=200:=by
   rcases ok.1 with z|⟨a,ha,z⟩
   ·rw[z];exact Nat.le_trans (b.wf M (.inr (.inl rfl))).len (by decide)
   ·rw[z];exact((b.wf M (.inr (.inl rfl))).ln a ha).1
  refine⟨_,rfl,x,_,dx,_,_,rfl,hx0,T.aJ,T.cQ,vA _ _ _,?_⟩;refine⟨.inl ⟨rfl,_,a7.of RY⟩,U,ux0++[V.ref e.o],V.ref e.o,rfl,rfl,RY,by simp,?_⟩;rw[List.dropLast_concat];have nU:∀{y C d fs},H0 y=some (.ins C d fs)->y≠U:=fun hy=>jS hy RY (by intro z;cases z);have nT:∀{y C d fs},H0 y=some (.ins C d fs)->y≠e.T:=fun hy=>jS hy hT (by intro z;cases z);have r1:∀{y o},H0 y=some o->y≠U->upd H0 U (.lst ux0) y=some o:=fun hy hn=>by rw[ak hn];exact hy
  refine⟨_,rfl,e.o,e.d,_,rfl,r1 hd0.2.1 (nU hd0.2.1),N8 _ _ _ _,?_⟩;refine⟨e.o,e.d,e.T,e.B,e.A,e.i,M e.T,e.bs,e.as,rfl,r1 hd0.2.1 (nU hd0.2.1),r1 hT TU,r1 hd0.2.2.1 ok.2.1.2.2.1,r1 hd0.2.2.2 ok.2.2.1.2.2.1,nTA,fit,by have:=ok.2.2.2.2;omega,?_⟩;have r2:∀{y o},H0 y=some o->y≠U->y≠e.T->upd (upd H0 U (.lst ux0)) e.T (.lst ((M e.T).take e.i++e.as++(M e.T).drop (e.i+e.bs.length))) y=some o:=fun hy hn hn'=>by rw[ak hn',ak hn];exact hy
  refine⟨_,rfl,x,_,dx,_,_,rfl,r2 hx0 (nU hx0) (nT hx0),T.aJ,T.eE,Dh _ _ _,?_⟩;have hD1:=r2 hD0 b.DU (Ne.symm TD);have dl:=cj pD;have pl:=cj pp;have pe:=b.past.len;refine⟨.inl ⟨rfl,_,a7.of hD1⟩,_,rfl,D,_,_,rfl,rfl,hD1,a6 (by omega),?_⟩;obtain⟨Zp,v,e1,B2⟩:=Bk.agi b0 (Is.kept (F:=F) (.same s0) iM) (bZ (fun _ _ q=>Is.kept (F:=F) (.same s0) q) pp) (bZ (fun _ _ q=>Is.kept (F:=F) (.same s0) q) pf) f B.wv he pD hd0 (pb (fun _ e' _ q=>jD (F:=fun _=>True) (.same s0) ⟨trivial,trivial⟩ q) pU0)
   (H2:=upd (upd (upd H0 U (.lst ux0)) e.T (.lst ((M e.T).take e.i++e.as++(M e.T).drop (e.i+e.bs.length)))) D (.lst (ds++[.ref e.o]))) (fun y o hy y1 y2 y3=>by rw[ak y2];exact r2 hy y3 y1) (by rw[ak TD,af];exact congrArg (fun z=>some (HO.lst z)) gB.symm) af (by rw[ak (Ne.symm b.DU),ak (Ne.symm TU),af])
  refine q2 Zp v e1 _ (fun y o hy hn=>?_) B2;have fT:F e.T:=by
   rcases ok.1 with z|⟨a,ha,z⟩
   ·rw[z];exact f.L
   ·rw[z];exact f.l a ha
  rw[ak (show y≠D from fun z=>hn (z ▸ f.D))];exact r2 (s0 _ _ hy) (fun z=>hn (z ▸ f.U)) (fun z=>hn (z ▸ fT))
theorem zK {vw:Vw}{n:Str}{ss:List Sg}(h:aR vw n=some (.pl ss)):qQ vw n=ss:=by unfold qQ;rw[h]
theorem Gs {st:Std}{d:De}{a:Int}{ss:List Sg}(h:d.wy=.put\/d.wy=.cut\/d.wy=.swap)(hf:aR st.vw d.n=some (.pl ss)):gI st d a=⟨zP st.vw d.n (.pl (fU ss d.wy d.sg a.toNat)),st.ps++[st.vw],[]⟩:=by
 unfold gI;rcases h with h|h|h <;> rw[h,zK hf]
inductive YM (c:Cs)(vs:List V)(H:Hp)(Q:VK)(E:XK):Prop
 |mk (x:Addr) (v2:V) (F:Addr->Prop) (st:Std) (de:De) (at_:Int) (fI:vs=[.ref x,v2,.int at_]) (fJ:xE c H x F st.vw st.ps st.fs) (hI:DeS H v2 de) (kK:de.n.length<=1000) (sd:de.ld.length<=1000) (OM:st.ps.length+st.fs.length<=900) (h6_:match ig st de at_ with
 |some r=>∀ H',aq H H'->RX E c r H'
 |none=>∀ v F' H',Gr F F' H->Fr F H H'->xE c H' x F' (gI st de at_).vw (gI st de at_).ps (gI st de at_).fs->qR H' st de at_ v->Q v H'):YM c vs H Q E
theorem aeg (T:Txt K w mg t):bE P w K mg base (iA P w) (0+5) t.jW t.VN ["_law_book","_law_deed","_law_at"] (YM (cs t)):=by
 have jO:=sZ (P:=P) (base:=base) T;have We:=TB (P:=P) (base:=base) T;have Wf:=TC (P:=P) (base:=base) T;have TF:=PQ (P:=P) (base:=base) T;have jP:=sX (P:=P) (base:=base) T;have TJ:=PR (P:=P) (base:=base) T;have Jo:=D9 (P:=P) (base:=base) T;have TK:=PU (P:=P) (base:=base) T;have TL:=PV (P:=P) (base:=base) T;refine T.Lg.OV Yz (fun vs H Q E h=>?_) (fun cdv A outer s H vs Q E hr h=>?_)
 ·obtain⟨_,_,_,_,_,_,rfl,_⟩:=h;rfl
 ·obtain⟨x,v2,F,st,de,at_,rfl,B,⟨p2,xs,rfl,hp2,x0,x1,x4,x5⟩,hnl,hll,hlen,q⟩:=h;refine aQ (ag (afC (i:=3) (j:=4) rfl Yz.nd rfl rfl (by decide) rfl rfl (aa (aB au (pv 1) ai (fun _ _=>rfl)) (aa (aB au (pv 1) ai (fun _ _=>rfl)) ae)) rfl) (ag (aM (ar (bc.or (aN (ay hr))) (pv 3) ax (aw _)) (aj (av (bQ (X:=(cJ (iA P w) P w K mg base ["_law_book","_law_deed","_law_at","_law_way","_law_name"] "_law_do" (ah kq) t.jW cdv A outer s H E)) (pv 0) T.aJ T.Tf We (hr.mono (by decide)) T.AW .nil (fun _ _ z=>Or.inl z) (aa (pv 4) (aa (pv 2) (aa (aB au (pv 1) ai (fun _ _=>rfl)) ae)))))) az) (ag (aM (ar (bc.or (aN (ay hr))) (pv 3) ax (aw _)) (aj (av (bQ (X:=(cJ (iA P w) P w K mg base ["_law_book","_law_deed","_law_at","_law_way","_law_name"] "_law_do" (ah kq) t.jW cdv A outer s H E)) (pv 0) T.aJ T.Tg Wf (hr.mono (by decide)) T.AX .nil (fun _ _ z=>Or.inl z) (aa (pv 4) (aa (pv 2) ae))))) az) (ag (aM (ar (bc.or (aN (ay hr))) (pv 3) ax (aw _)) (aj (av (bQ (X:=(cJ (iA P w) P w K mg base ["_law_book","_law_deed","_law_at","_law_way","_law_name"] "_law_do" (ah kq) t.jW cdv A outer s H E)) (pv 0) T.aJ T.Ph TF (hr.mono (by decide)) T.x9 .nil (fun _ _ z=>Or.inl z) (aa (pv 4) (aa (pv 2) (aa (aB au (pv 1) ai (fun _ _=>rfl)) ae)))))) az) (ag (aM (ar (bc.or (aN (ay hr))) (pv 3) ax (aw _)) (aj (av (bQ (X:=(cJ (iA P w) P w K mg base ["_law_book","_law_deed","_law_at","_law_way","_law_name"] "_law_do" (ah kq) t.jW cdv A outer s H E)) (pv 0) T.aJ T.lE jP (hr.mono (by decide)) T.gX .nil (fun _ _ z=>Or.inl z) (aa (pv 4) ae)))) az) (ag (aM (ar (bc.or (aN (ay hr))) (pv 3) ax (aw _)) (aj (av (bQ (X:=(cJ (iA P w) P w K mg base ["_law_book","_law_deed","_law_at","_law_way","_law_name"] "_law_do" (ah kq) t.jW cdv A outer s H E)) (pv 0) T.aJ T.Pj TJ (hr.mono (by decide)) T.ya .nil (fun _ _ z=>Or.inl z) (aa (pv 4) ae)))) az) (ag (aM (ar (bc.or (aN (ay hr))) (pv 3) ax (aw _)) (aj (av (N4 (X:=(cJ (iA P w) P w K mg base ["_law_book","_law_deed","_law_at","_law_way","_law_name"] "_law_do" (ah kq) t.jW cdv A outer s H E)) (pv 0) T.aJ T.Pl TK (hr.mono (by decide)) T.yc .nil (fun _ _ z=>Or.inl z)))) az) (ag (aM (ar (bc.or (aN (ay hr))) (pv 3) ax (aw _)) (aj (av (N4 (X:=(cJ (iA P w) P w K mg base ["_law_book","_law_deed","_law_at","_law_way","_law_name"] "_law_do" (ah kq) t.jW cdv A outer s H E)) (pv 0) T.aJ T.Pm TL (hr.mono (by decide)) T.yd .nil (fun _ _ z=>Or.inl z)))) az) (ag (aM (bW (PW.pt (c8 (ar (bc.or (aN (ay hr))) (aB au (pv 1) ai (fun _ _=>rfl)) ai (aw _)) (c8 (ar (bc.or (aN (ay hr))) (aB au (pv 1) ai (fun _ _=>rfl)) ai (aw _)) (fG (cX (bg (aB au (pv 1) ai (fun _ _=>rfl))))))))) (aj (av (bQ (X:=(cJ (iA P w) P w K mg base ["_law_book","_law_deed","_law_at","_law_way","_law_name"] "_law_do" (ah kq) t.jW cdv A outer s H E)) (pv 0) T.aJ T.lG jO (hr.mono (by decide)) (se:=[.int 0,.int 1,.bl false]) T.lF (.cons ⟨_,rfl⟩ (.cons ⟨_,rfl⟩ (.cons rfl (.nil)))) (fun _ _ z=>Or.inl z) (aa (pv 4) (aa (aB au (pv 1) ai (fun _ _=>rfl)) ae))))) az) (aj (av (bQ (X:=(cJ (iA P w) P w K mg base ["_law_book","_law_deed","_law_at","_law_way","_law_name"] "_law_do" (ah kq) t.jW cdv A outer s H E)) (pv 0) T.aJ T.lG jO (hr.mono (by decide)) T.nF .nil (fun _ _ z=>Or.inl z) (aa (pv 4) (aa (aB au (pv 1) ai (fun _ _=>rfl)) (aa (aB au (pv 1) ai (fun _ _=>rfl)) (aa (aB au (pv 1) ai (fun _ _=>rfl)) (aa (aB au (pv 1) ai (fun _ _=>rfl)) ae))))))))))))))))) ?_;have hx:∃ dx L D U,H x=some (.ins t.aY dx (Az L D U)):=by
   obtain⟨L,D,U,all,M,Ps,Fs,es,us,b,_⟩:=B.ex;obtain⟨dx,e⟩:=b.hx;exact⟨dx,L,D,U,e⟩
  obtain⟨dx,L,D,U,hx⟩:=hx;refine⟨_,rfl,cA (i:=0) hp2 x0 ⟨_,rfl,cA (i:=1) hp2 x1 ⟨_,_,rfl,?_⟩⟩⟩;tm_up;rw[show decide (V.str de.wy.str=V.str (Str.ofString "put"))=decide (de.wy=.put) from j6 de.wy .put]
  by_cases z1:de.wy=.put
  ·rw[decide_eq_true z1];refine cY ?_;obtain⟨ps2,x4',V6⟩:=x4 (.inl z1);rw[va (.inl z1)]at q;refine⟨_,rfl,x,dx,_,rfl,hx,Vl _ _ _,_,rfl,_,rfl,_,rfl,cA (i:=4) hp2 x4' ?_⟩;refine⟨x,F,st.vw,st.ps,st.fs,de.n,at_,ps2,de.sg,rfl,B,V6,by omega,?_⟩;cases hf:aR st.vw de.n with
   |none=>rw[lh hf]at q;exact q _ (aq.refl _)
   |some th=>cases th with
    |cn ld lt sl tn=>rw[qS hf]at q;exact q _ (aq.refl _)
    |pl ss =>
     rw[qT hf,Gs (.inl z1) hf,if_pos z1]at q;refine⟨fun z=>?_,fun z g=>?_,fun z g h=>?_,fun z g h s w F' H' e1 e2 hw gr fr b=>?_⟩
     ·rw[if_pos (by omega)]at q;exact q _ (aq.refl _)
     ·rw[if_neg (by omega),if_pos ⟨by rw[z1];decide,g⟩]at q;exact q _ (aq.refl _)
     ·rw[if_neg (by omega),if_neg (fun y=>by rw[g]at y;exact nomatch y.2),if_pos ⟨z1,h⟩]at q;exact q _ (aq.refl _)
     ·rw[if_neg (by omega),if_neg (fun y=>by rw[g]at y;exact nomatch y.2),if_neg (fun y=>by omega)]at q;have el:fU ss de.wy de.sg at_.toNat=ss.take at_.toNat++[s]++ss.drop at_.toNat:=by unfold fU;rw[z1,Dl e1 e2]
      refine q _ F' H' gr fr (by rw[el];exact b) ?_;unfold qR;rw[z1]at el ⊢;rw[zK hf,el,Dl e1 e2];exact⟨w,rfl,hw⟩
  rw[decide_eq_false z1];refine bJ ?_;tm_up;rw[show decide (V.str de.wy.str=V.str (Str.ofString "cut"))=decide (de.wy=.cut) from j6 de.wy .cut]
  by_cases z2:de.wy=.cut
  ·rw[decide_eq_true z2];refine cY ?_;rw[va (.inr (.inl z2))]at q;refine⟨_,rfl,x,dx,_,rfl,hx,Vm _ _ _,_,rfl,_,rfl,?_⟩;refine⟨x,F,st.vw,st.ps,st.fs,de.n,at_,rfl,B,by omega,?_⟩;cases hf:aR st.vw de.n with
   |none=>rw[lh hf]at q;exact q _ (aq.refl _)
   |some th=>cases th with
    |cn ld lt sl tn=>rw[qS hf]at q;exact q _ (aq.refl _)
    |pl ss =>
     rw[qT hf,Gs (.inr (.inl z2)) hf,if_neg (show ¬ de.wy=.put by rw[z2];decide)]at q;refine⟨fun z=>?_,fun z s w F' H' es hw gr fr b=>?_⟩
     ·rw[if_pos (by omega)]at q;exact q _ (aq.refl _)
     ·rw[if_neg (by omega),if_neg (fun y=>y.1 z2),if_neg (fun y=>by rw[z2]at y;exact nomatch y.1)]at q;have el:fU ss de.wy de.sg at_.toNat=ss.take at_.toNat++[]++ss.drop (at_.toNat+1):=by unfold fU;rw[z2]
      refine q _ F' H' gr fr (by rw[el];exact b) ?_;unfold qR;rw[z2]at el ⊢;rw[zK hf,el];exact⟨w,rfl,s,es,hw⟩
  rw[decide_eq_false z2];refine bJ ?_;tm_up;rw[show decide (V.str de.wy.str=V.str (Str.ofString "swap"))=decide (de.wy=.swap) from j6 de.wy .swap]
  by_cases z3:de.wy=.swap
  ·rw[decide_eq_true z3];refine cY ?_;obtain⟨ps2,x4',V6⟩:=x4 (.inr z3);rw[va (.inr (.inr z3))]at q;refine⟨_,rfl,x,dx,_,rfl,hx,SF _ _ _,_,rfl,_,rfl,_,rfl,cA (i:=4) hp2 x4' ?_⟩;refine⟨x,F,st.vw,st.ps,st.fs,de.n,at_,ps2,de.sg,rfl,B,V6,by omega,?_⟩;cases hf:aR st.vw de.n with
   |none=>rw[lh hf]at q;exact q _ (aq.refl _)
   |some th=>cases th with
    |cn ld lt sl tn=>rw[qS hf]at q;exact q _ (aq.refl _)
    |pl ss =>
     rw[qT hf,Gs (.inr (.inr z3)) hf,if_neg (show ¬ de.wy=.put by rw[z3];decide)]at q;refine⟨fun z=>?_,fun z g=>?_,fun z g s s0 w F' H' e1 e2 es hw gr fr b=>?_⟩
     ·rw[if_pos (by omega)]at q;exact q _ (aq.refl _)
     ·rw[if_neg (by omega),if_pos ⟨by rw[z3];decide,g⟩]at q;exact q _ (aq.refl _)
     ·rw[if_neg (by omega),if_neg (fun y=>by rw[g]at y;exact nomatch y.2),if_neg (fun y=>by rw[z3]at y;exact nomatch y.1)]at q;have el:fU ss de.wy de.sg at_.toNat=ss.take at_.toNat++[s]++ss.drop (at_.toNat+1):=by unfold fU;rw[z3,Dl e1 e2]
      refine q _ F' H' gr fr (by rw[el];exact b) ?_;unfold qR;rw[z3]at el ⊢;rw[zK hf,el,Dl e1 e2];exact⟨w,rfl,s0,es,hw⟩
  rw[decide_eq_false z3];refine bJ ?_;tm_up;rw[show decide (V.str de.wy.str=V.str (Str.ofString "add"))=decide (de.wy=.add) from j6 de.wy .add]
  by_cases z4:de.wy=.add
  ·rw[decide_eq_true z4];refine cY ?_;have e0:ig st de at_=b9 st.vw de.n:=by unfold ig;rw[z4]
   have eb:gI st de at_=⟨st.vw++[(de.n,.pl [])],st.ps++[st.vw],[]⟩:=by unfold gI;rw[z4]
   rw[e0,eb]at q;refine⟨_,rfl,x,dx,_,rfl,hx,mR _ _ _,_,rfl,x,F,st.vw,st.ps,st.fs,de.n,rfl,B,hnl,by omega,?_⟩;cases hn:b9 st.vw de.n with
   |some r=>rw[hn]at q;exact q
   |none =>
    rw[hn]at q;exact fun F' H' gr fr b=>q _ F' H' gr fr b (by unfold qR;rw[z4])
  rw[decide_eq_false z4];refine bJ ?_;tm_up;rw[show decide (V.str de.wy.str=V.str (Str.ofString "drop"))=decide (de.wy=.drop) from j6 de.wy .drop]
  by_cases z5:de.wy=.drop
  ·rw[decide_eq_true z5];refine cY ?_;have e0:ig st de at_=oB st.vw de.n:=by unfold ig;rw[z5]
   have eb:gI st de at_=⟨sC st.vw de.n,st.ps++[st.vw],[]⟩:=by unfold gI;rw[z5]
   rw[e0,eb]at q;refine⟨_,rfl,x,dx,_,rfl,hx,SE _ _ _,_,rfl,x,F,st.vw,st.ps,st.fs,de.n,rfl,B,by omega,?_⟩;cases hf:aR st.vw de.n with
   |none =>
    have ed:oB st.vw de.n=some .dQ:=by unfold oB;rw[hf]
    rw[ed]at q;exact q _ (aq.refl _)
   |some th =>
    have ed:oB st.vw de.n=if leans st.vw de.n=true then some .AA else none:=by unfold oB;rw[hf]
    rw[ed]at q;refine⟨fun z=>?_,fun z=>?_⟩
    ·rw[if_pos z]at q;exact q
    ·rw[if_neg (by rw[z];decide)]at q;exact fun F' H' gr fr b=>q _ F' H' gr fr b (by unfold qR;rw[z5])
  rw[decide_eq_false z5];refine bJ ?_;tm_up;rw[show decide (V.str de.wy.str=V.str (Str.ofString "undo"))=decide (de.wy=.undo) from j6 de.wy .undo]
  by_cases z6:de.wy=.undo
  ·rw[decide_eq_true z6];refine cY ?_;have e0:ig st de at_=if st.ps=[] then some .mU else none:=by unfold ig;rw[z6]
   rw[e0]at q;refine⟨_,rfl,x,dx,_,rfl,hx,SG _ _ _,x,F,st.vw,st.ps,st.fs,rfl,B,hlen,fun z=>?_,fun Vo v0 ez H' fr b=>?_⟩
   ·rw[if_pos z]at q;exact q
   ·rw[if_neg (by rw[ez];simp)]at q;have eb:gI st de at_=⟨v0,Vo,st.fs++[st.vw]⟩:=by
     unfold gI;rw[z6,ez];simp
    rw[eb]at q;exact q _ F H' (Gr.refl _ _) fr b (by unfold qR;rw[z6])
  rw[decide_eq_false z6];refine bJ ?_;tm_up;rw[show decide (V.str de.wy.str=V.str (Str.ofString "redo"))=decide (de.wy=.zQ) from j6 de.wy .zQ]
  by_cases z7:de.wy=.zQ
  ·rw[decide_eq_true z7];refine cY ?_;have e0:ig st de at_=if st.fs=[] then some .mU else none:=by unfold ig;rw[z7]
   rw[e0]at q;refine⟨_,rfl,x,dx,_,rfl,hx,SH _ _ _,x,F,st.vw,st.ps,st.fs,rfl,B,hlen,fun z=>?_,fun Zp v0 ez H' fr b=>?_⟩
   ·rw[if_pos z]at q;exact q
   ·rw[if_neg (by rw[ez];simp)]at q;have eb:gI st de at_=⟨v0,st.ps++[st.vw],Zp⟩:=by
     unfold gI;rw[z7,ez];simp
    rw[eb]at q;exact q _ F H' (Gr.refl _ _) fr b (by unfold qR;rw[z7])
  rw[decide_eq_false z7];refine bJ ?_;have z8:de.wy=.canon:=by
   cases hw:de.wy with
   |put=>exact absurd hw z1
   |cut=>exact absurd hw z2
   |swap=>exact absurd hw z3
   |add=>exact absurd hw z4
   |canon=>rfl
   |drop=>exact absurd hw z5
   |undo=>exact absurd hw z6
   |zQ=>exact absurd hw z7
  obtain⟨y2,y5,y6,y7⟩:=x5 z8;have e0:ig st de at_=match b9 st.vw de.n with|some r=>some r|none=>gS st.vw de.ld de.lt de.sl:=by unfold ig;rw[z8];try rfl
  have eb:gI st de at_=⟨st.vw++[(de.n,.cn de.ld de.lt de.sl de.tn)],st.ps++[st.vw],[]⟩:=by unfold gI;rw[z8]
  rw[e0,eb]at q;have ea:∀ H',qR H' st de at_ .non:=fun H'=>by unfold qR;rw[z8]
  have fin:∀{E':XK},(∀ cls H',E' cls none H'=E cls none H')->match b9 st.vw de.n with
   |some r=>∀ H',aq H H'->RX E' (cs t) r H'
   |none=>match aR st.vw de.ld with
    |none=>∀ H',aq H H'->RX E' (cs t) .dQ H'
    |some (.cn _ _ _ _)=>∀ H',aq H H'->RX E' (cs t) .gR H'
    |some (.pl _)=>(¬ ie de.lt de.sl->∀ H',aq H H'->RX E' (cs t) .sy H')/\(ie de.lt de.sl->∀ F' H',Gr F F' H->Fr F H H'->xE (cs t) H' x F' (st.vw++[(de.n,.cn de.ld de.lt de.sl de.tn)]) (st.ps++[st.vw]) []->Q .non H'):=by
   intro E' hE;have rx:∀{r H'},RX E (cs t) r H'->RX E' (cs t) r H':=fun {r H'} z=>⟨z.1,by rw[hE];exact z.2⟩;cases hn:b9 st.vw de.n with
   |some r =>
    rw[hn]at q;exact fun H' s'=>rx (q H' s')
   |none =>
    rw[hn]at q;cases hf:aR st.vw de.ld with
    |none =>
     have ed:gS st.vw de.ld de.lt de.sl=some .dQ:=by unfold gS;rw[hf]
     rw[ed]at q;exact fun H' s'=>rx (q H' s')
    |some th=>cases th with
     |cn ld lt sl tn =>
      have ed:gS st.vw de.ld de.lt de.sl=some .gR:=by unfold gS;rw[hf]
      rw[ed]at q;exact fun H' s'=>rx (q H' s')
     |pl ss =>
      have ed:gS st.vw de.ld de.lt de.sl=if ie de.lt de.sl then none else some .sy:=by unfold gS;rw[hf]
      rw[ed]at q;refine⟨fun z=>?_,fun z=>?_⟩
      ·rw[if_neg z]at q;exact fun H' s'=>rx (q H' s')
      ·rw[if_pos z]at q;exact fun F' H' gr fr b=>q _ F' H' gr fr b (ea H')
  refine km (decide (de.lt=0/\de.sl=1/\de.tn=false)) ?_ ?_
  ·refine⟨_,rfl,cA (i:=5) hp2 y5 ?_⟩;tm_up
   by_cases u1:de.lt=0
   ·rw[decide_eq_true (congrArg V.int u1)];refine cY ?_;refine⟨_,rfl,cA (i:=6) hp2 y6 ?_⟩;tm_up
    by_cases u2:de.sl=1
    ·rw[decide_eq_true (congrArg V.int u2)];refine cY ?_;refine⟨_,rfl,cA (i:=7) hp2 y7 ⟨_,rfl,?_,rfl⟩⟩;cases u3:de.tn with
     |true=>exact(decide_eq_false (fun y=>nomatch y.2.2)).symm
     |false=>exact(decide_eq_true ⟨u1,u2,rfl⟩).symm
    ·rw[decide_eq_false (fun y=>u2 (V.int.inj y)),decide_eq_false (fun y=>u2 y.2.1)];exact bJ ⟨rfl,rfl⟩
   ·rw[decide_eq_false (fun y=>u1 (V.int.inj y)),decide_eq_false (fun y=>u1 y.1)];exact bJ ⟨rfl,rfl⟩
  refine a8 (fun z=>?_) (fun z=>?_)
  ·obtain⟨u1,u2,u3⟩:=of_decide_eq_true z;refine⟨_,rfl,x,dx,_,rfl,hx,mS _ _ _,_,rfl,_,rfl,cA (i:=2) hp2 y2 ?_⟩;rw[u1,u2,u3]at fin;refine⟨x,F,st.vw,st.ps,st.fs,de.n,de.ld,0,1,false,rfl,B,hnl,by omega,?_⟩;exact fin fun _ _=>rfl
  ·refine⟨_,rfl,x,dx,_,rfl,hx,mS _ _ _,_,rfl,_,rfl,cA (i:=2) hp2 y2 ⟨_,rfl,cA (i:=5) hp2 y5 ⟨_,rfl,cA (i:=6) hp2 y6 ⟨_,rfl,cA (i:=7) hp2 y7 ?_⟩⟩⟩⟩;refine⟨x,F,st.vw,st.ps,st.fs,de.n,de.ld,de.lt,de.sl,de.tn,rfl,B,hnl,by omega,?_⟩;exact fin fun _ _=>rfl
inductive LM (c:Cs)(vs:List V)(H:Hp)(Q:VK)(E:XK):Prop
 |mk (x:Addr) (v2:V) (F:Addr->Prop) (st:Std) (de:De) (at_:Int) (fI:vs=[.ref x,v2,.int at_]) (fJ:xE c H x F st.vw st.ps st.fs) (hI:DeS H v2 de) (kK:de.n.length<=1000) (sd:de.ld.length<=1000) (OM:st.ps.length+st.fs.length<=900) (h6_:match ig st de at_ with
 |some r=>∀ t H',aq H H'->H' t=some (.tup [.non,.str r.str])->Q (.ref t) H'
 |none=>∀ t v F' H',Gr F F' H->Fr F H H'->xE c H' x F' (gI st de at_).vw (gI st de at_).ps (gI st de at_).fs->qR H' st de at_ v->H' t=some (.tup [v,.str ""])->Q (.ref t) H'):LM c vs H Q E
theorem qR.same {H H':Hp}{st:Std}{de:De}{a:Int}{v:V}(s:aq H H')(h:qR H st de a v):qR H' st de a v:=by
 unfold qR at h ⊢;generalize de.wy=wy at h ⊢;cases wy with
 |put=>obtain⟨w,e,h⟩:=h;exact⟨w,e,s _ _ h⟩
 |cut=>obtain⟨w,e,x,ex,h⟩:=h;exact⟨w,e,x,ex,s _ _ h⟩
 |swap=>obtain⟨w,e,x,ex,h⟩:=h;exact⟨w,e,x,ex,s _ _ h⟩
 |_=>exact h
theorem Wg (T:Txt K w mg t):bE P w K mg base mJ (0+6) t.kX t.FW ["_law_book","_law_deed","_law_at"] (LM (cs t)):=by
 have agJ:=aeg (P:=P) (base:=base) T;refine T.uY.ok VB (fun vs H Q E h=>?_) (fun cdv A outer s H vs Q E hr h=>?_)
 ·obtain⟨_,_,_,_,_,_,rfl,_⟩:=h;rfl
 ·obtain⟨x,v2,F,st,de,at_,rfl,B,hde,hnl,hll,hlen,q⟩:=h;refine aQ (aj (adQ (fun pn XS=>(aj (av (cH (aa (uC (X:=Cx.RW (cJ mJ P w K mg base ["_law_book","_law_deed","_law_at"] "_law_tried" (ah mZ) t.kX cdv A outer s H E).nox pn) (XS:=XS) agJ (hr.mono (by decide)) rfl T.ad2 T.Lg.kp T.VW .nil (fun _ _ z=>z) (aa (pv 0) (aa (pv 1) (aa (pv 2) ae)))) (aa ax ae)))))) (j3 (CT:=t.aT) (fun pn a=>(aj (av (cH (aa jg (aa ax ae)))))) rfl T.Lp (j3 (CT:=t.aK) (fun pn a=>(aj (av (cH (aa jg (aa ax ae)))))) rfl T.DK (j3 (CT:=t.cq) (fun pn a=>(aj (av (cH (aa jg (aa ax ae)))))) rfl T.Pp (j3 (CT:=t.aU) (fun pn a=>(aj (av (cH (aa jg (aa ax ae)))))) rfl T.Lq (j3 (CT:=t.aP) (fun pn a=>(aj (av (cH (aa jg (aa ax ae)))))) rfl T.Jf (j3 (CT:=t.aW) (fun pn a=>(aj (av (cH (aa jg (aa ax ae)))))) rfl T.Ls (j3 (CT:=t.aX) (fun pn a=>(aj (av (cH (aa jg (aa ax ae)))))) rfl T.Lu (j3 (CT:=t.aV) (fun pn a=>(aj (av (cH (aa jg (aa ax ae)))))) rfl T.Lr (j3 (CT:=t.bj) (fun pn a=>(aj (av (cH (aa jg (aa ax ae)))))) rfl T.Ol (j3 (CT:=t.bo) (fun pn a=>(aj (av (cH (aa jg (aa ax ae)))))) rfl T.Gg adP)))))))))) rfl rfl)) ?_;refine⟨_,rfl,_,rfl,_,rfl,?_⟩;refine⟨x,v2,F,st,de,at_,rfl,B,hde,hnl,hll,hlen,?_⟩;cases ho:ig st de at_ with
  |none =>
   rw[ho]at q;intro v F' H' gr fr b an;refine⟨by show 2<=sizeLine;decide,fun t0 ht0=>?_⟩;have s1:=aq.upd (o:=.tup [v,V.str ""]) ht0;exact q t0 v F' _ gr (fun y o e n=>s1 _ _ (fr y o e n)) (b.same s1) (an.same s1) af
  |some r =>
   rw[ho]at q;intro H' s';refine⟨rfl,?_⟩;have fin:(2<=sizeLine)/\∀ t0,H' t0=none->Q (.ref t0) (upd H' t0 (.tup [V.non,V.str r.str])):=⟨by decide,fun t0 ht0=>q t0 _ (s'.trans (aq.upd ht0)) af⟩;cases r with
   |Kf=>exact .inl ⟨T.e9,fin⟩
   |zx=>exact .inr ⟨T.dF,.inl ⟨T.cR,fin⟩⟩
   |Full=>exact .inr ⟨T.iF,.inr ⟨T.gj,.inl ⟨T.lN,fin⟩⟩⟩
   |dQ=>exact .inr ⟨T.fb,.inr ⟨T.dG,.inr ⟨T.iG,.inl ⟨T.fc,fin⟩⟩⟩⟩
   |gR=>exact .inr ⟨T.d9,.inr ⟨T.c6,.inr ⟨T.g5,.inr ⟨T.ee,.inl ⟨T.dH,fin⟩⟩⟩⟩⟩
   |qi=>exact .inr ⟨T.fm,.inr ⟨T.dM,.inr ⟨T.iI,.inr ⟨T.fo,.inr ⟨T.en,.inl ⟨T.fq,fin⟩⟩⟩⟩⟩⟩
   |sx=>exact .inr ⟨T.fu,.inr ⟨T.dN,.inr ⟨T.iJ,.inr ⟨T.fA,.inr ⟨T.et,.inr ⟨T.fB,.inl ⟨T.fD,fin⟩⟩⟩⟩⟩⟩⟩
   |sy=>exact .inr ⟨T.ff,.inr ⟨T.dJ,.inr ⟨T.iH,.inr ⟨T.fg,.inr ⟨T.eh,.inr ⟨T.fh,.inr ⟨T.fi,.inl ⟨T.fk,fin⟩⟩⟩⟩⟩⟩⟩⟩
   |AA=>exact .inr ⟨T.gk,.inr ⟨T.eA,.inr ⟨T.jx,.inr ⟨T.gm,.inr ⟨T.fE,.inr ⟨T.gn,.inr ⟨T.gp,.inr ⟨T.gq,.inl ⟨T.g6,fin⟩⟩⟩⟩⟩⟩⟩⟩⟩
   |mU=>exact .inr ⟨T.gs,.inr ⟨T.eB,.inr ⟨T.jy,.inr ⟨T.gu,.inr ⟨T.fF,.inr ⟨T.gw,.inr ⟨T.gx,.inr ⟨T.gy,.inr ⟨T.g7,.inl ⟨T.g8,fin⟩⟩⟩⟩⟩⟩⟩⟩⟩⟩
def rH (F:Addr->Prop)(H H':Hp):Prop:=∀ y o,H y=some o->(F y\/∀ xs,o≠.lst xs)->(∀ kvs,o≠.dK kvs)->H' y=some o
section
variable {CB CV CD:Addr} {H H':Hp} {x L D U:Addr} {all:List Vx} {M S:MM} {Ps Fs:List MM} {es us:List Dd} {F:Addr->Prop} {vw:Vw} {ps fs:List Vw}
theorem rH.tup (k:rH F H H'){p:Addr}{xs:List V}(h:H p=some (.tup xs)):H' p=some (.tup xs):=k _ _ h (.inr fun _ z=>nomatch z) fun _ z=>nomatch z
theorem rH.sgs (k:rH F H H'){xs:List V}{ss:List Sg}(h:mQ H xs ss):mQ H' xs ss:=bZ (fun _ _ ⟨p,e1,e2⟩=>⟨p,e1,k.tup e2⟩) h
theorem rH.gv (k:rH F H H'){v:V}(h:GV H v):GV H' v:=by
 obtain⟨s,⟨p,e1,e2⟩,g⟩:=h;exact⟨s,⟨p,e1,k.tup e2⟩,g⟩
theorem rH.wf (k:rH F H H')(h:WF H L all S):WF H' L all S:=⟨h.vs,fun a ha=>⟨(h.ln a ha).1,fun v hv=>k.gv ((h.ln a ha).2 v hv)⟩,h.len,h.out⟩
theorem rH.is (k:rH F H H')(h:Is H L all S vw):Is H' L all S vw:=bZ (fun _ q ⟨a,ha,e1,e2,t⟩=>by
 refine⟨a,ha,e1,e2,?_⟩;cases hq:q.2 with
 |pl ss=>rw[hq]at t;exact⟨t.1,k.sgs t.2⟩
 |cn ld lt sl tn =>
  rw[hq]at t;obtain⟨p,e3,e4⟩:=t;exact⟨p,e3,k.tup e4⟩) h
theorem rH.dd (k:rH F H H'){v:V}{e:Dd}(f:F e.B/\F e.A)(h:mK CD H v e):mK CD H' v e:=⟨h.1,k _ _ h.2.1 (.inr fun _ z=>nomatch z) (fun _ z=>nomatch z),k _ _ h.2.2.1 (.inl f.1) (fun _ z=>nomatch z),k _ _ h.2.2.2 (.inl f.2) (fun _ z=>nomatch z)⟩
theorem rH.bk (k:rH F H H')(h:Bk CB CV CD H x F vw ps fs):Bk CB CV CD H' x F vw ps fs:=by
 obtain⟨L,D,U,all,M,Ps,Fs,es,us,b,i,pp,pf,f⟩:=h.ex;refine⟨⟨L,D,U,all,M,Ps,Fs,es,us,?_,k.is i,bZ (fun _ _ q=>k.is q) pp,bZ (fun _ _ q=>k.is q) pf,f⟩,h.wv⟩;exact { b with
  hx:=let ⟨dx,e⟩:=b.hx;⟨dx,k _ _ e (.inr fun _ z=>nomatch z) fun _ z=>nomatch z⟩
  hL:=k _ _ b.hL (.inl f.L) fun _ z=>nomatch z
  hD:=let ⟨xs,e,p⟩:=b.hD;⟨xs,k _ _ e (.inl f.D) (fun _ z=>nomatch z),pb (fun _ e he q=>k.dd (f.d e (.inl he)) q) p⟩
  hU:=let ⟨xs,e,p⟩:=b.hU;⟨xs,k _ _ e (.inl f.U) (fun _ z=>nomatch z),pb (fun _ e he q=>k.dd (f.d e (.inr he)) q) p⟩
  ha:=fun a m=>⟨k _ _ (b.ha a m).1 (.inr fun _ z=>nomatch z) (fun _ z=>nomatch z),k _ _ (b.ha a m).2 (.inl (f.l a m)) (fun _ z=>nomatch z)⟩
  wf:=fun S hS=>k.wf (b.wf S hS) }
end
theorem Bw.agK {c:Cs}{H0 H:Hp}{x d:Addr}{own:List Addr}{vw:Vw}{ps fs:List Vw}{kvs kvs':List (Key×V)}(h:Bw c H0 H x own vw ps fs)(e:H d=some (.dK kvs))(n:H0 d=none):Bw c H0 (upd H d (.dK kvs')) x own vw ps fs:=by
 obtain⟨F,b,hF,h0,ho⟩:=h.ex;have nd:∀ y,F y->y≠d:=fun y z w=>by obtain⟨xs,q⟩:=hF y z;rw[w,e]at q;cases q
 refine⟨⟨F,rH.bk (F:=F) (fun y o hy _ k=>?_) b,fun y z=>?_,h0,fun a ha=>⟨(ho a ha).1,?_⟩⟩,fS h.sm n⟩
 ·rw[ak (fun w=>by rw[w,e]at hy;cases hy;exact k _ rfl)];exact hy
 ·obtain⟨xs,q⟩:=hF y z;exact⟨xs,by rw[ak (nd y z)];exact q⟩
 ·by_cases w:a=d
  ·rw[w];exact⟨_,af⟩
  ·obtain⟨o',q⟩:=(ho a ha).2;exact⟨o',by rw[ak w];exact q⟩
theorem Bw.gnd {c:Cs}{H0 H:Hp}{x:Addr}{own:List Addr}{vw:Vw}{ps fs:List Vw}(h:Bw c H0 H x own vw ps fs):∃ H1,Bw c H1 H x [] vw ps fs/\aq H0 H1/\aiq own H H1:=by
 obtain⟨F,b,hF,h0,ho⟩:=h.ex
 classical
 refine⟨fun y=>if F y then none else H y,⟨⟨F,b,hF,fun y hy=>if_pos hy,fun a ha=>nomatch ha⟩,fun y o e=>?_⟩,fun y o e=>?_,fun y o e k=>?_⟩
 ·have e:(if F y then none else H y)=some o:=e
  by_cases hy:F y
  ·rw[if_pos hy]at e;exact nomatch e
  ·rwa [if_neg hy]at e
 ·show(if F y then none else H y)=some o;rw[if_neg (fun hy=>by rw[h0 y hy]at e;exact nomatch e)];exact h.sm _ _ e
 ·show(if F y then none else H y)=some o;rw[if_neg ?_,e];intro hy;rcases k with k|k
  ·obtain⟨xs,q⟩:=hF y hy;rw[e]at q;cases q;exact k _ rfl
  ·exact(ho y k).1 hy
theorem afm {a b:TS}{D:Ends}{σ:St}{H:Hp}{rt:VK}{bk ct:St->Hp->Prop}(h:adk a b D σ H):Ends.nx { nx:=adk a b D,rt:=rt,bk:=bk,ct:=ct } σ H:=h
theorem aiZ {u v:V}:oN [((Sum.inr (Str.ofString "ann"):Key),u),((Sum.inr (Str.ofString "bo"):Key),v)] (Sum.inr (Str.ofString "cy"))=none:=by
 rw[xw (fun z=>absurd (Sum.inr.inj z) (by lk)),xw (fun z=>absurd (Sum.inr.inj z) (by lk))];rfl
def Wh:List Str:=["dora","a","zzzzzzzz","ann","bo","cy","","aaaaaaaaa","Ann","a b","a1","ann ","-","an","qwlmp","tenor","almost"]
theorem acw {n:Str}(h:n∈Wh):n.length<=1000:=by
 have:Wh.all (fun n=>decide (n.length<=1000))=true:=by lk
 exact of_decide_eq_true (all_eq_true.mp this n h)
def Wi:List Str:=["ann","cy","bo","dora","ann"]
theorem acx {n:Str}(h:n∈Wi):n.length<=1000:=by
 have:Wi.all (fun n=>decide (n.length<=1000))=true:=by lk
 exact of_decide_eq_true (all_eq_true.mp this n h)
theorem strAt {l:List Str}{m:Nat}(h:m<l.length):∃ n,n∈l/\(l.map V.str)[m]? = some (.str n):=⟨l[m],List.getElem_mem h,by rw[getElem?_map,getElem?_eq_getElem h];rfl⟩
theorem intAt {l:List Int}{m:Nat}(h:m<l.length):∃ n,(l.map V.int)[m]? = some (.int n):=⟨l[m],by rw[getElem?_map,getElem?_eq_getElem h];rfl⟩
theorem afn:¬((Str.ofString "bo")=(Str.ofString "ann")):=by lk
def w39:Vw:=[("ann",.pl []),("bo",.cn "ann" 3 2 false)]
theorem ak4:b9 [] "ann"=none:=by
 unfold b9;rw[if_neg (by lk),if_neg (by show ¬(Option.isSome (aR [] "ann")=true);unfold aR;simp),if_neg (by simp)]
theorem ak5:b9 [("ann",.pl [])] "bo"=none:=by
 have hf:aR [("ann",.pl [])] "bo"=none:=by
  unfold aR;rw[List.find?_cons_of_neg (p:=fun q:Str×Th=>decide (q.1 = "bo")) (fun z=>afn (of_decide_eq_true z).symm)];rfl
 unfold b9;rw[if_neg (by lk),hf,if_neg (by simp),if_neg (by simp)]
theorem ak6:b9 w39 "cy"=none:=by
 have h1:¬((Str.ofString "ann")=(Str.ofString "cy")):=by lk
 have h2:¬((Str.ofString "bo")=(Str.ofString "cy")):=by lk
 have hf:aR w39 "cy"=none:=by
  unfold aR w39;rw[List.find?_cons_of_neg (p:=fun q:Str×Th=>decide (q.1 = "cy")) (fun z=>h1 (of_decide_eq_true z)),List.find?_cons_of_neg (p:=fun q:Str×Th=>decide (q.1 = "cy")) (fun z=>h2 (of_decide_eq_true z))];rfl
 unfold b9;rw[if_neg (by lk),hf,if_neg (by simp),if_neg (by show ¬ 12<=2;decide)]
theorem f39:aR [("ann",Th.pl [])] "ann"=some (.pl []):=by
 unfold aR;rw[List.find?_cons_of_pos (p:=fun q:Str×Th=>decide (q.1 = "ann")) (decide_eq_true rfl)];rfl
set_option maxHeartbeats 8000000 in
theorem agL (T:Txt K w mg t):bE P w K mg base mJ (0+9) t.K9 t.aca ["_law_script"] (KC K):=by
 have JH:=Gh (P:=P) (base:=base) T;have jP:=sX (P:=P) (base:=base) T;have jO:=sZ (P:=P) (base:=base) T;have TM:=Pu (P:=P) (base:=base) T;have eK:=Pw (P:=P) (base:=base) T;have Wj:=Tp (P:=P) (base:=base) T;have Wk:=Tw (P:=P) (base:=base) T;have ZM:=Wg (P:=P) (base:=base) T;refine T.YB.ok kr (fun vs H Q E h=>?_) (fun cdv A outer s H vs Q E hr h=>?_)
 ·obtain⟨a,ns,rfl,_⟩:=h;rfl
 ·obtain⟨a,ns,rfl,hS,hl,q⟩:=h;obtain⟨Oz,OA⟩:∃ v:List (Str×Pos),v=xI:=⟨_,rfl⟩;have hbody:aA uO=(aA uO).getD 0 (.Pass ⟨0,0,0,0⟩)::(aA uO).getD 1 (.Pass ⟨0,0,0,0⟩)::(aA uO).getD 2 (.Pass ⟨0,0,0,0⟩)::agc ((aA uO).getD 3 (.Pass ⟨0,0,0,0⟩)) oU::(aA uO).getD 4 (.Pass ⟨0,0,0,0⟩)::Stmt.Assign [Expr.Name "_law_names" ⟨529,4,529,14⟩] (Expr.List (Oz.map fun c=>Expr.Constant (.str c.1) 0 c.2) ⟨529,17,529,117⟩) ⟨529,4,529,117⟩::(aA uO).drop 6:=by subst OA;unfold oU;rfl
  rw[hbody];refine aQ (ag (aL (i:=1) kr.nd rfl (Or.inl rfl) (aaU T.ad5 JH (hr.mono (by decide)) rfl T.ad4 T.pB .nil aO)) (ag (a9 (hZ (pv 1) T.aJ T.lE jP (hr.mono (by decide)) T.gX .nil IQ (aa ax ae))) (ag (a9 (hZ (pv 1) T.aJ T.lG jO (hr.mono (by decide)) (se:=[.bl false]) T.kB (.cons rfl (.nil)) IQ (aa ax (aa ax (aa ai (aa ai ae)))))) (ag (aL (i:=2) kr.nd rfl (Or.inl rfl) ab9 (zS _ _ _)) (ag (lg (aM (ar (bc.or (aN (ay hr))) (bh ki (aF eK (hr.mono (by decide)) rfl T.dt T.cz.kp T.cW .nil aO (aa (pv 0) (aa ai ae))) ai) ai (aw _)) (ag (a9 (hZ (pv 1) T.aJ T.lE jP (hr.mono (by decide)) T.gX .nil IQ (aa ax ae))) (aj (Kc (jj hr) (aB au (pv 2) ai (fun _ _=>rfl)) ax (bx ae) rfl))) az)) (ag (abj (i:=3) Oz kr.nd rfl (Or.inl rfl)) (ag (aL (i:=3) kr.nd rfl (Or.inl rfl) (bh (du.or (ba.or dw)) (pv 3) (bx (aa ax (aa ax (aa ax ae)))))) (ag (aL (i:=4) kr.nd rfl (Or.inl rfl) (aB au (pv 3) (bh ki (aF eK (hr.mono (by decide)) rfl T.dt T.cz.kp T.cW .nil aO (aa (pv 0) (aa ai ae))) ai) (fun _ _=>rfl))) (ag (aL (i:=5) kr.nd rfl (Or.inl rfl) (aB au (bx (abi SR)) (bh ki (aF eK (hr.mono (by decide)) rfl T.dt T.cz.kp T.cW .nil aO (aa (pv 0) (aa ai ae))) ai) (fun _ _=>rfl))) (ag (aL (i:=6) kr.nd rfl (Or.inl rfl) (aB au (bx (aa ai (aa ai (aa ai (aa (z9 tW ai) (aa (bh ki (bh C2 (aF eK (hr.mono (by decide)) rfl T.dt T.cz.kp T.cW .nil aO (aa (pv 0) (aa ai ae))) ai) ai) (aa (bh aaL ai ai) ae))))))) (bh ki (aF eK (hr.mono (by decide)) rfl T.dt T.cz.kp T.cW .nil aO (aa (pv 0) (aa ai ae))) ai) (fun _ _=>rfl))) (ag (aL (i:=7) kr.nd rfl (Or.inl rfl) (aB au (bx (aa ai (aa ai (aa ai (aa ai (aa (bh (du.or (ba.or dw)) ai (bh ki (bh C2 (aF eK (hr.mono (by decide)) rfl T.dt T.cz.kp T.cW .nil aO (aa (pv 0) (aa ai ae))) ai) ai)) (aa (z9 tW ai) ae))))))) (bh ki (aF eK (hr.mono (by decide)) rfl T.dt T.cz.kp T.cW .nil aO (aa (pv 0) (aa ai ae))) ai) (fun _ _=>rfl))) (ag (lg (aM (ar (bc.or (aN (ay hr))) (bh ki (aF eK (hr.mono (by decide)) rfl T.dt T.cz.kp T.cW .nil aO (aa (pv 0) (aa ai ae))) ai) ai (aw _)) (aj (aL (i:=7) kr.nd rfl (Or.inl rfl) ai)) az)) (ag (lg (aM (ar (bc.or (aN (ay hr))) (bh ki (aF eK (hr.mono (by decide)) rfl T.dt T.cz.kp T.cW .nil aO (aa (pv 0) (aa ai ae))) ai) ai (aw _)) (aj (aL (i:=6) kr.nd rfl (Or.inl rfl) ai)) az)) (ag (aL (i:=8) kr.nd rfl (Or.inl rfl) (cH (aa ax (aa (pv 4) (aa (pv 5) (aa ai (aa (cH (aa ax (aa ai ae))) (aa (pv 6) (aa (pv 7) (aa (bK (bc.or (aN (ay hr))) (bh ki (bh C2 (aF eK (hr.mono (by decide)) rfl T.dt T.cz.kp T.cW .nil aO (aa (pv 0) (aa ai ae))) ai) ai) ai (aw _)) ae)))))))))) (ag (kh PassesOwn.never rfl (Fo rfl T.ye (aa ai ae)) (aZ (i:=9) kr.nd rfl (Or.inl rfl)) (ag (aL (i:=10) kr.nd rfl (Or.inl rfl) (aF TM (hr.mono (by decide)) rfl T.Pe T.oV.kp T.xY .nil aO (aa (pv 2) (aa (pv 8) ae)))) (ag (aM (ar (uv.or (mM (ay hr))) (aB au (aF ZM (hr.mono (by decide)) rfl T.VX T.uY.kp T.Gb .nil aO (aa (pv 1) (aa (pv 8) (aa ai ae)))) ai (fun _ _=>rfl)) (pv 10) (aw _)) (aj (av gP)) az) (ag (lg (aM (ar (bc.or (aN (ay hr))) (pv 10) ax (aw _)) (aj (aL (i:=2) kr.nd rfl (Or.inl rfl) (aF Wj (hr.mono (by decide)) rfl T.Tb T.rj.kp T.AQ .nil aO (aa (pv 2) (aa (pv 8) ae))))) az)) (aj (aM (cX (bg (aF Wk (hr.mono (by decide)) rfl T.Td T.rm.kp T.AU .nil aO (aa (pv 1) (aa (aB au (pv 2) ai (fun _ _=>rfl)) ae))))) (aj (av gP)) az)))))) (aj (av gP))))))))))))))))) ?_;subst OA;intro x dx nx ndx _;refine⟨x,dx,rfl,af,fun L D U H4 kp4 nL nD nU LD LU DU hx4 hL4 hD4 hU4=>⟨rfl,?_⟩⟩;have s4:=agj nx ndx kp4;have B4:Bw (cs t) H H4 x [] [] [] []:=Bw.new hx4 hL4 hD4 hU4 LD LU DU s4 (KP nL) (KP nD) (KP nU);clear kp4 nL nD nU LD LU DU hL4 hD4 hU4 s4 nx ndx;obtain⟨F4,b4,f4,z4,o4⟩:=B4.ex;refine⟨_,rfl,x,dx,_,rfl,hx4,mR _ _ _,x,F4,[],[],[],"ann",rfl,b4,by lk,by simp,?_⟩;rw[ak4];intro F5 H5 gr5 fr5 b5;obtain⟨B5,k5⟩:=Bw.mk' b5 B4.sm f4 z4 o4 gr5 fr5;clear hx4 b4 f4 z4 o4 gr5 fr5 b5 k5 B4 F5 F4;obtain⟨dx5,L5,D5,U5,hx5⟩:=B5.hx;obtain⟨F5,b5,f5,z5,o5⟩:=B5.ex;refine⟨_,rfl,x,dx5,_,rfl,hx5,mS _ _ _,x,F5,_,_,[],"bo","ann",3,2,false,rfl,b5,by lk,by simp,?_⟩;show match b9 [("ann",.pl [])] "bo" with|some r=>_|none=>_
  rw[ak5,show aR ([]++[(Str.ofString "ann",Th.pl [])]) (Str.ofString "ann")=some (.pl []) from f39];refine⟨fun z=>absurd (by decide) z,fun _ F6 H6 gr6 fr6 b6=>?_⟩;obtain⟨B6,k6⟩:=Bw.mk' b6 B5.sm f5 z5 o5 gr6 fr6;have B6:Bw (cs t) H H6 x [] w39 _ []:=B6;clear hx5 b5 f5 z5 o5 gr6 fr6 b6 k6 B5 F6 F5;generalize hps:([]++[[]]:List Vw)++[[]++[(Str.ofString "ann",Th.pl [])]]=ps6 at B6;have l6:ps6.length<=2:=by rw[<-hps];decide
  clear hps;rw[Jc];refine afm ?_;refine qN fun N hN=>?_;intro dd hdd;refine⟨big (by show 0<=1000;omega),fun l1 hl1=>⟨by show 4<=sizeLine;decide,fun tp htp=>⟨aq.upd htp _ _ (aq.upd hl1 _ _ af),[((Sum.inr (Str.ofString "ann"):Key),V.ref l1),((Sum.inr (Str.ofString "bo"):Key),V.ref tp)],rfl,by show 2<=15;decide,?_⟩⟩⟩;rw[agl (fun z=>afn z.symm)];have S7:=((aq.upd (o:=.dK []) hdd).trans (aq.upd (o:=.lst []) hl1)).trans (aq.upd (o:=.tup [V.str "ann",V.int 3,V.int 2,V.bl false]) htp);have nl1:H6 l1=none:=(aq.upd hdd).free hl1;have n1:l1≠dd:=Ne.symm (ao af hl1);have h7l:=aq.upd (o:=.tup [V.str "ann",V.int 3,V.int 2,V.bl false]) htp _ _ (af (H:=upd H6 dd (.dK [])) (a:=l1) (o:=.lst []));have h7t:=af (H:=upd (upd H6 dd (.dK [])) l1 (.lst [])) (a:=tp) (o:=.tup [V.str "ann",V.int 3,V.int 2,V.bl false]);have n2:tp≠dd:=Ne.symm (ao (aq.upd hl1 _ _ af) htp);generalize upd (upd (upd H6 dd (.dK [])) l1 (.lst [])) tp (.tup [V.str "ann",V.int 3,V.int 2,V.bl false])=H7 at S7 h7l h7t;have S8:aq H6 (upd H7 dd (.dK [((Sum.inr (Str.ofString "ann"):Key),V.ref l1),((Sum.inr (Str.ofString "bo"):Key),V.ref tp)])):=fS S7 hdd;have h8d:=af (H:=H7) (a:=dd) (o:=.dK [((Sum.inr (Str.ofString "ann"):Key),V.ref l1),((Sum.inr (Str.ofString "bo"):Key),V.ref tp)]);have h8l:upd H7 dd (.dK [((Sum.inr (Str.ofString "ann"):Key),V.ref l1),((Sum.inr (Str.ofString "bo"):Key),V.ref tp)]) l1=some (.lst []):=by rw[ak n1];exact h7l
  have h8t:upd H7 dd (.dK [((Sum.inr (Str.ofString "ann"):Key),V.ref l1),((Sum.inr (Str.ofString "bo"):Key),V.ref tp)]) tp=some (.tup [V.str "ann",V.int 3,V.int 2,V.bl false]):=by rw[ak n2];exact h7t
  generalize upd H7 dd (.dK [((Sum.inr (Str.ofString "ann"):Key),V.ref l1),((Sum.inr (Str.ofString "bo"):Key),V.ref tp)])=H8 at S8 h8d h8l h8t;refine⟨big (by show 0<=1000;omega),fun l2 hl2=>?_⟩;have S9:=aq.upd (o:=.lst []) hl2;have h9:=af (H:=H8) (a:=l2) (o:=.lst []);generalize upd H8 l2 (.lst [])=H9 at S9 h9;refine⟨big (by show 0<=1000;omega),fun l3 hl3=>?_⟩;have S10:=aq.upd (o:=.lst []) hl3;have h10:=af (H:=H9) (a:=l3) (o:=.lst []);generalize upd H9 l3 (.lst [])=H10 at S10 h10;refine⟨by show 3<=sizeLine;decide,fun p hp=>?_⟩;have S11:=aq.upd (o:=.tup [V.ref dd,V.ref l2,V.ref l3]) hp;have h11:=af (H:=H10) (a:=p) (o:=.tup [V.ref dd,V.ref l2,V.ref l3]);generalize upd H10 p (.tup [V.ref dd,V.ref l2,V.ref l3])=H11 at S11 h11;have aeh:=(S9.trans S10).trans S11;have B8:=B6.add S8 nl1 h8l;have B9:=B8.add S9 hl2 h9;have B10:=B9.add S10 hl3 h10;have B11:=B10.same S11;have ndd:H dd=none:=B6.sm.free hdd;have agM:=aeh _ _ h8d;have agN:=aeh _ _ h8l;have agO:=aeh _ _ h8t;have agP:=S11 _ _ (S10 _ _ h9);have agQ:=S11 _ _ h10;clear B6 B8 B9 B10 S7 S8 S9 S10 S11 aeh h7l h7t h8d h8l h8t h9 h10 hp hl1 hl2 hl3 htp hdd nl1;refine hN _ _ ?_;clear hN N;refine⟨fun σ H'=>∃(vw:Vw)(ps:List Vw)(H1:Hp),σ=[some (.ref a),some (.ref x),some (.ref p),none,none,none,none,none,none,none,none]/\Bw (cs t) H1 H' x [] vw ps []/\KU H1 (.ref p) ⟨vw,[],[]⟩/\a7 K H1 a (ns.map V.int)/\ps.length<=3,?_,?_⟩
  ·tm_up;refine⟨a,ns,0,rfl,B11.sm.seq hS,hl,?_⟩;tm_up;refine a8 (fun _=>?_) (fun _=>?_)
   ·obtain⟨dx6,L6,D6,U6,hx6⟩:=B11.hx;obtain⟨F6,b6,f6,z6,o6⟩:=B11.ex;refine⟨_,rfl,x,dx6,_,rfl,hx6,mR _ _ _,x,F6,w39,ps6,[],"cy",rfl,b6,by lk,by omega,?_⟩;rw[ak6];intro F7 H12 gr7 fr7 b7;obtain⟨B12,k12⟩:=Bw.mk' b7 B11.sm f6 z6 o6 gr7 fr7;have aei:=k12 _ _ agM (.inl fun _ z=>nomatch z);have agR:=k12 _ _ h11 (.inl fun _ z=>nomatch z);have ai2:=k12 _ _ agO (.inl fun _ z=>nomatch z);have ai3:=k12 _ _ agN (.inr (by simp));have ai4:=k12 _ _ agP (.inr (by simp));have ai5:=k12 _ _ agQ (.inr (by simp));refine⟨big (by show 0<=1000;omega),fun l4 hl4=>?_⟩;have Py:=aq.upd (o:=.lst []) hl4;have h13:=af (H:=H12) (a:=l4) (o:=.lst []);generalize upd H12 l4 (.lst [])=H13 at Py h13;have B13:=B12.add Py hl4 h13;refine⟨_,rfl,cA (i:=0) (Py _ _ agR) rfl ?_⟩;refine⟨dd,_,rfl,Sq.k (k:=Sum.inr (Str.ofString "cy")) (Py _ _ aei) (by show 2<sizeLine;decide),?_⟩;have B14:=B13.agK (kvs':=putK [((Sum.inr (Str.ofString "ann"):Key),V.ref l1),((Sum.inr (Str.ofString "bo"):Key),V.ref tp)] (Sum.inr (Str.ofString "cy")) (V.ref l4)) (Py _ _ aei) ndd;obtain⟨H1,B15,s15,k15⟩:=B14.gnd;have mv:∀{y o},H13 y=some o->y≠dd->((∀ xs,o≠.lst xs)\/y∈[l4,l3,l2,l1])->H1 y=some o:=fun {y o} e n k=>k15 _ _ (by rw[ak n];exact e) k;have nl:∀{y xs},H13 y=some (.lst xs)->y≠dd:=fun e=>jS e (Py _ _ aei) (by intro z;cases z);have nt:∀{y xs},H13 y=some (.tup xs)->y≠dd:=fun e=>jS e (Py _ _ aei) (by intro z;cases z);refine⟨_,_,H1,rfl,B15,⟨p,dd,l2,l3,[],[],rfl,mv (Py _ _ agR) (nt (Py _ _ agR)) (.inl fun _ z=>nomatch z),⟨_,k15 _ _ af (.inl fun _ z=>nomatch z),?_⟩,mv (Py _ _ ai4) (nl (Py _ _ ai4)) (.inr (by simp)),.nil,mv (Py _ _ ai5) (nl (Py _ _ ai5)) (.inr (by simp)),.nil⟩,s15.seq hS,by rw[length_append];show _+1<=3;omega⟩;rw[xB _ aiZ];exact .cons ⟨rfl,l1,[],rfl,mv (Py _ _ ai3) (nl (Py _ _ ai3)) (.inr (by simp)),.nil⟩ (.cons ⟨rfl,tp,rfl,mv (Py _ _ ai2) (nt (Py _ _ ai2)) (.inl fun _ z=>nomatch z)⟩ (.cons ⟨rfl,l4,[],rfl,mv h13 (nl h13) (.inr (by simp)),.nil⟩ .nil))
   ·obtain⟨H1,B15,s15,k15⟩:=B11.gnd;exact⟨_,_,H1,rfl,B15,⟨p,dd,l2,l3,[],[],rfl,k15 _ _ h11 (.inl fun _ z=>nomatch z),⟨_,k15 _ _ agM (.inl fun _ z=>nomatch z),.cons ⟨rfl,l1,[],rfl,k15 _ _ agN (.inr (by simp)),.nil⟩ (.cons ⟨rfl,tp,rfl,k15 _ _ agO (.inl fun _ z=>nomatch z)⟩ .nil)⟩,k15 _ _ agP (.inr (by simp)),.nil,k15 _ _ agQ (.inr (by simp)),.nil⟩,s15.seq hS,by omega⟩
  rintro _ H12 ⟨vw,ps,H1,rfl,B,st1,hS1,lps⟩;clear B11 agM agN agO agP agQ h11 ndd;refine afm ?_;refine qN fun N hN=>?_;refine⟨by show 14<=sizeLine;decide,fun m0 hm0=>?_⟩;have S1:=aq.upd (o:=.lst (xI.map fun c=>V.str c.1)) hm0;have k1:=af (H:=H12) (a:=m0) (o:=.lst (xI.map fun c=>V.str c.1));generalize upd H12 m0 (.lst (xI.map fun c=>V.str c.1))=H13 at S1 k1;refine hN _ _ ?_;clear hN N;refine qN fun N hN=>?_;refine⟨_,rfl,big (by show 3<=1000;omega),fun m1 hm1=>?_⟩;have S2:=aq.upd (o:=.lst [V.str "qwlmp",V.str "tenor",V.str "almost"]) hm1;have k2:=af (H:=H13) (a:=m1) (o:=.lst [V.str "qwlmp",V.str "tenor",V.str "almost"]);generalize upd H13 m1 (.lst [V.str "qwlmp",V.str "tenor",V.str "almost"])=H14 at S2 k2;refine .inr (.inr ⟨m0,m1,_,_,rfl,rfl,S2 _ _ k1,k2,by show 17<=sizeLine;decide,fun m2 hm2=>?_⟩);have e17:(xI.map fun c=>V.str c.1)++[V.str "qwlmp",V.str "tenor",V.str "almost"]=Wh.map V.str:=rfl;rw[e17];have S3:=aq.upd (o:=.lst (Wh.map V.str)) hm2;have k3:=af (H:=H14) (a:=m2) (o:=.lst (Wh.map V.str));generalize upd H14 m2 (.lst (Wh.map V.str))=H15 at S3 k3;have B15:=B.same ((S1.trans S2).trans S3);clear S1 S2 S3 k1 k2 hm0 hm1 hm2 B e17;refine hN _ _ ?_;clear hN N;refine qN fun N hN=>?_;refine⟨_,rfl,?_⟩;tm_up;refine⟨a,ns,1,rfl,B15.sm.seq hS1,hl,?_⟩;tm_up;obtain⟨m,hm,anW⟩:=abY (yh ns 1) (k:=17) (by decide);obtain⟨nm,hnm,enm⟩:=strAt (l:=Wh) (m:=m) (by show m<17;omega);refine ixL (a7.of k3) (n:=m) hm enm ?_;refine hN _ _ ?_;clear hN N;refine qN fun N hN=>?_;refine⟨by show 5<=sizeLine;decide,fun m3 hm3=>?_⟩;have e5:(SR.map fun c=>V.str c.1)=Wi.map V.str:=rfl;rw[e5];have S4:=aq.upd (o:=.lst (Wi.map V.str)) hm3;have k4:=af (H:=H15) (a:=m3) (o:=.lst (Wi.map V.str));generalize upd H15 m3 (.lst (Wi.map V.str))=H16 at S4 k4;have B16:=B15.same S4;tm_up;refine⟨a,ns,2,rfl,B16.sm.seq hS1,hl,?_⟩;tm_up;obtain⟨m',hm',hm5⟩:=abY (yh ns 2) (k:=5) (by decide);obtain⟨ldr,PJ,eld⟩:=strAt (l:=Wi) (m:=m') (by show m'<5;omega);refine ixL (a7.of k4) (n:=m') hm' eld ?_;refine hN _ _ ?_;clear hN N k4 S4 hm3 e5 B15 k3;refine qN fun N hN=>?_
  suffices hN':∀(lt:Int)(H':Hp),aq H16 H'->N [some (.ref a),some (.ref x),some (.ref p),some (.ref m2),some (.str nm),some (.str ldr),some (.int lt),none,none,none,none] H' by
   tm_up;refine⟨a,ns,3,rfl,B16.sm.seq hS1,hl,?_⟩;tm_up;refine⟨by show 6<=sizeLine;decide,fun m3 hm3=>?_⟩;tm_up;refine⟨a,ns,3,rfl,(B16.same (aq.upd hm3)).sm.seq hS1,hl,?_⟩;tm_up;obtain⟨j,hj,hj6⟩:=abY (yh ns 3) (k:=6) (by decide);obtain⟨z,ez⟩:=intAt (l:=[0,999,1000,-1,yh ns 3 / 6 % 1000,10 ^ 20]) (m:=j) (by show j<6;omega);refine ixL (a7.of af) (n:=j) hj ez ?_;exact hN' z _ (aq.upd hm3)
  intro lt H17 S17;have B17:=B16.same S17;refine hN _ _ ?_;clear hN N B16 S17;refine qN fun N hN=>?_
  suffices hN':∀(sl:Int)(H':Hp),aq H17 H'->N [some (.ref a),some (.ref x),some (.ref p),some (.ref m2),some (.str nm),some (.str ldr),some (.int lt),some (.int sl),none,none,none] H' by
   tm_up;refine⟨a,ns,4,rfl,B17.sm.seq hS1,hl,?_⟩;tm_up;refine⟨by show 6<=sizeLine;decide,fun m3 hm3=>?_⟩;tm_up;refine⟨a,ns,4,rfl,(B17.same (aq.upd hm3)).sm.seq hS1,hl,?_⟩;tm_up;obtain⟨j,hj,hj6⟩:=abY (yh ns 4) (k:=6) (by decide);obtain⟨z,ez⟩:=intAt (l:=[1,9,10,0,1+yh ns 4 / 6 % 9,-3]) (m:=j) (by show j<6;omega);refine ixL (a7.of af) (n:=j) hj ez ?_;exact hN' z _ (aq.upd hm3)
  intro sl H18 S18;have B18:=B17.same S18;refine hN _ _ ?_;clear hN N B17 S18;refine qN fun N hN=>?_;refine⟨fun σ H'=>∃ sl',σ=[some (.ref a),some (.ref x),some (.ref p),some (.ref m2),some (.str nm),some (.str ldr),some (.int lt),some (.int sl'),none,none,none]/\H'=H18,?_,?_⟩
  ·tm_up;refine⟨a,ns,5,rfl,B18.sm.seq hS1,hl,?_⟩;tm_up;exact a8 (fun _=>⟨5,rfl,rfl⟩) (fun _=>⟨sl,rfl,rfl⟩)
  rintro _ H' ⟨sl',rfl,eH⟩;have eH:=eH.symm;subst eH;refine hN _ _ ?_;clear hN N;refine qN fun N hN=>?_;refine⟨fun σ H'=>∃ lt',σ=[some (.ref a),some (.ref x),some (.ref p),some (.ref m2),some (.str nm),some (.str ldr),some (.int lt'),some (.int sl'),none,none,none]/\H'=H18,?_,?_⟩
  ·tm_up;refine⟨a,ns,5,rfl,B18.sm.seq hS1,hl,?_⟩;tm_up;exact a8 (fun _=>⟨5,rfl,rfl⟩) (fun _=>⟨lt,rfl,rfl⟩)
  rintro _ H' ⟨lt',rfl,eH⟩;have eH:=eH.symm;subst eH;refine hN _ _ ?_;clear hN N;refine qN fun N hN=>?_
  suffices hN':∀(pd:Addr)(de:De)(H':Hp),aq H18 H'->zR H' (.ref pd) de->adZ de->de.wy=.canon->N [some (.ref a),some (.ref x),some (.ref p),some (.ref m2),some (.str nm),some (.str ldr),some (.int lt'),some (.int sl'),some (.ref pd),none,none] H' by
   tm_up;refine⟨by show 2<=sizeLine;decide,fun Vo ai6=>?_⟩;tm_up;refine⟨a,ns,0,rfl,(B18.same (aq.upd ai6)).sm.seq hS1,hl,?_⟩;tm_up;refine⟨by show 8<=sizeLine;decide,fun pd hpd=>?_⟩;exact hN' pd ⟨.canon,nm,ldr,0,("s",0),lt',sl',_⟩ _ ((aq.upd ai6).trans (aq.upd hpd)) ⟨pd,Vo,rfl,af,aq.upd hpd _ _ af⟩ ⟨acw hnm,acx PJ,mem_cons_of_mem _ (mem_cons_of_mem _ (mem_cons_of_mem _ (mem_cons_self ..)))⟩ rfl
  intro pd de H19 S19 hde ok hwy;have B19:=B18.mix S19;have ai7:KU (mix H1 H18 H19) (.ref p) ⟨vw,[],[]⟩:=st1.same (Ki B18.sm);have ald:a7 K (mix H1 H18 H19) a (ns.map V.int):=(Ki B18.sm).seq hS1;have afo:zR (mix H1 H18 H19) (.ref pd) de:=by
   obtain⟨q1,q2,e,h1,h2⟩:=hde;exact⟨q1,q2,e,zJ S19 h1 (fun _ z=>nomatch z),zJ S19 h2 (fun _ z=>nomatch z)⟩
  generalize mix H1 H18 H19=H0 at B19 ai7 ald afo;refine hN _ _ ?_;clear hN N hde;refine qN fun N hN=>?_;refine⟨2,rfl,by decide,by decide,?_⟩;refine zq (n:=2) (fun i σ H'=>∃(u v:Option V)(vs:Addr)(st:Std)(bp:List Vw)(H1:Hp),σ=[some (.ref a),some (.ref x),some (.ref vs),some (.ref m2),some (.str nm),some (.str ldr),some (.int lt'),some (.int sl'),some (.ref pd),u,v]/\Bw (cs t) H1 H' x [] st.vw bp []/\KU H1 (.ref vs) st/\zR H1 (.ref pd) de/\bp.length<=3+i/\st.ps.length+st.fs.length<=i) ⟨none,none,p,⟨vw,[],[]⟩,ps,H0,rfl,B19,ai7,afo,by omega,by show 0<=0;omega⟩ ?_ ?_
  ·rintro i σ H2 hi ⟨u,v,vs,st,bp,H1,rfl,B,st2,acy,lb,ls⟩;have w:=B.wv;tm_up;refine⟨_,_,st,de,rfl,st2.same B.sm,acy.same B.sm,ok,w,fun H3 S3=>?_⟩;have B3:=B.same S3;obtain⟨F3,b3,f3,z3,o3⟩:=B3.ex;have eo:∀ st' a',st'.vw=st.vw->ig st' de a'=ig st de (bU st.vw de):=fun st' a' e=>by
    have h1:∀ s a,ig s de a=match b9 s.vw de.n with|some r=>some r|none=>gS s.vw de.ld de.lt de.sl:=fun s a=>by
     unfold ig;rw[hwy];try rfl
    rw[h1,h1,e]
   have eb:∀ st' a',st'.vw=st.vw->st'.ps=bp->gI st' de a'=⟨(gI st de (bU st.vw de)).vw,bp++[st.vw],[]⟩:=fun st' a' e1 e2=>by
    unfold gI;rw[hwy,e1,e2]
   tm_up;refine⟨x,_,F3,⟨st.vw,bp,[]⟩,de,0,rfl,b3,(acy.same B3.sm).short,ok.nl,ok.ll,by show bp.length+0<=900;omega,?_⟩;rw[eo ⟨st.vw,bp,[]⟩ 0 rfl,eb ⟨st.vw,bp,[]⟩ 0 rfl rfl];cases ho:ig st de (bU st.vw de) with
   |some r =>
    intro t0 H4 S4 ht0;refine cA (i:=1) ht0 rfl ?_;refine⟨_,rfl,.inl ⟨rfl,_,rfl,?_⟩⟩;rw[show decide (V.str r.str=V.str (Dm (some r)))=true from decide_eq_true rfl];refine bJ ?_;refine⟨fun σ H'=>∃(vs':Addr)(st':Std)(bp':List Vw)(H0:Hp),σ=[some (.ref a),some (.ref x),some (.ref vs'),some (.ref m2),some (.str nm),some (.str ldr),some (.int lt'),some (.int sl'),some (.ref pd),some (.int (0+(i:Int))),some (.str (Dm (some r)))]/\Bw (cs t) H0 H' x [] st'.vw bp' []/\KU H0 (.ref vs') st'/\zR H0 (.ref pd) de/\bp'.length<=3+(i+1)/\st'.ps.length+st'.fs.length<=i+1,?_,?_⟩
    ·tm_up;rw[YE];refine bJ ⟨vs,st,bp,H1,rfl,B3.same S4,st2,acy,by omega,by omega⟩
    ·rintro _ H6 ⟨vs6,st6,bp6,H06,rfl,B6,s6,d6,l6,m6⟩;refine⟨_,rfl,_,rfl,?_⟩;obtain⟨q1,q2,q3,q4,q5,q6,e,g1,g2,_⟩:=id s6;cases e;refine cA (i:=0) (B6.sm _ _ g1) rfl ?_;obtain⟨F6,b6,_⟩:=B6.ex;refine⟨x,q2,F6,_,_,_,rfl,b6,g2.same B6.sm,fun H7 S7=>⟨_,rfl,bJ ?_⟩⟩;exact⟨_,_,vs6,st6,bp6,H06,rfl,B6.same S7,s6,d6,l6,m6⟩
   |none =>
    intro t0 v0 F4 H4 gr4 fr4 b4 an4 ht0;obtain⟨B4,k4⟩:=Bw.mk' b4 B3.sm f3 z3 o3 gr4 fr4;refine cA (i:=1) ht0 rfl ?_;refine⟨_,rfl,.inl ⟨rfl,_,rfl,?_⟩⟩;rw[show decide (V.str ""=V.str (Dm none))=true from decide_eq_true rfl];refine bJ ?_;refine⟨fun σ H'=>∃(vs':Addr)(st':Std)(bp':List Vw)(H0:Hp),σ=[some (.ref a),some (.ref x),some (.ref vs'),some (.ref m2),some (.str nm),some (.str ldr),some (.int lt'),some (.int sl'),some (.ref pd),some (.int (0+(i:Int))),some (.str (Dm none))]/\Bw (cs t) H0 H' x [] st'.vw bp' []/\KU H0 (.ref vs') st'/\zR H0 (.ref pd) de/\bp'.length<=3+(i+1)/\st'.ps.length+st'.fs.length<=i+1,?_,?_⟩
    ·tm_up;refine⟨_,_,st,de,H1,rfl,B4.sm,st2,acy.same B4.sm,ok,w,by omega,ho,fun v5 H5 S5 st5=>?_⟩;have B5:=B4.mix S5;have ali:=id st5;obtain⟨q1,q2,q3,q4,q5,q6,e,g1,g2,_⟩:=ali;subst e;have eps:(gI st de (bU st.vw de)).ps=st.ps++[st.vw]/\(gI st de (bU st.vw de)).fs=[]:=by
      unfold gI;rw[hwy];exact⟨rfl,rfl⟩
     refine⟨q1,gI st de (bU st.vw de),bp++[st.vw],mix H1 H4 H5,rfl,B5,st5,acy.same (Ki B4.sm),?_,?_⟩
     ·rw[length_append];show _+1<=_;omega
     ·rw[eps.1,eps.2,length_append];show _+1+0<=_;omega
    ·rintro _ H6 ⟨vs6,st6,bp6,H06,rfl,B6,s6,d6,l6,m6⟩;refine⟨_,rfl,_,rfl,?_⟩;obtain⟨q1,q2,q3,q4,q5,q6,e,g1,g2,_⟩:=id s6;cases e;refine cA (i:=0) (B6.sm _ _ g1) rfl ?_;obtain⟨F6,b6,_⟩:=B6.ex;refine⟨x,q2,F6,_,_,_,rfl,b6,g2.same B6.sm,fun H7 S7=>⟨_,rfl,bJ ?_⟩⟩;exact⟨_,_,vs6,st6,bp6,H06,rfl,B6.same S7,s6,d6,l6,m6⟩
  ·rintro σ H2 _;exact hN _ _ (q _)
theorem YN {us:List Value}(h:us.length=1):∃ a0,us=[a0]:=match us,h with|[a0],_=>⟨a0,rfl⟩
theorem tF {p:List Value->Prop}(h:∀ a0,p [a0])(us:List Value)(e:us.length=1):p us:=by obtain⟨_,rfl⟩:=YN e;exact h _
theorem afp {us:List Value}(h:us.length=2):∃ a0 a1,us=[a0,a1]:=match us,h with|[a0,a1],_=>⟨a0,a1,rfl⟩
theorem eL {p:List Value->Prop}(h:∀ a0 a1,p [a0,a1])(us:List Value)(e:us.length=2):p us:=by obtain⟨_,_,rfl⟩:=afp e;exact h _ _
theorem acz {us:List Value}(h:(us++[]).length=2):∃ a0 a1,us=[a0,a1]:=afp (by rw[append_nil]at h;exact h)
theorem afq {us:List Value}(h:us.length=3):∃ a0 a1 a2,us=[a0,a1,a2]:=match us,h with|[a0,a1,a2],_=>⟨a0,a1,a2,rfl⟩
theorem LN {p:List Value->Prop}(h:∀ a0 a1 a2,p [a0,a1,a2])(us:List Value)(e:us.length=3):p us:=by obtain⟨_,_,_,rfl⟩:=afq e;exact h _ _ _
theorem ai9 {us:List Value}(h:us.length=4):∃ a0 a1 a2 a3,us=[a0,a1,a2,a3]:=match us,h with|[a0,a1,a2,a3],_=>⟨a0,a1,a2,a3,rfl⟩
theorem LO {p:List Value->Prop}(h:∀ a0 a1 a2 a3,p [a0,a1,a2,a3])(us:List Value)(e:us.length=4):p us:=by obtain⟨_,_,_,_,rfl⟩:=ai9 e;exact h _ _ _ _
theorem afr {us:List Value}(h:us.length=5):∃ a0 a1 a2 a3 a4,us=[a0,a1,a2,a3,a4]:=match us,h with|[a0,a1,a2,a3,a4],_=>⟨a0,a1,a2,a3,a4,rfl⟩
theorem aja {p:List Value->Prop}(h:∀ a0 a1 a2 a3 a4,p [a0,a1,a2,a3,a4])(us:List Value)(e:us.length=5):p us:=by obtain⟨_,_,_,_,_,rfl⟩:=afr e;exact h _ _ _ _ _
theorem ajb {us:List Value}(h:us.length=6):∃ a0 a1 a2 a3 a4 a5,us=[a0,a1,a2,a3,a4,a5]:=match us,h with|[a0,a1,a2,a3,a4,a5],_=>⟨a0,a1,a2,a3,a4,a5,rfl⟩
theorem ajc {us:List Value}(h:(us++[]).length=6):∃ a0 a1 a2 a3 a4 a5,us=[a0,a1,a2,a3,a4,a5]:=ajb (by rw[append_nil]at h;exact h)
set_option maxHeartbeats 0 in
theorem all_mk {l:OpenLaw}{w:World}{K:Frag}{h:Heap}{mg:Str->Option Value}{fa dr bq aY cT m7 fX bC kW dz cU eG cG cf bG bD bI i9 di cM ng dj jr js dX kx eD nj nk qY eW ky sG nq gD bO vK AI Kg dY dm cN cO il nu q0 zC q9 cw dA jt rb nC vM rf ju kz bF AK cy nE kA rg dZ gE dB eI hX fY fZ jW kX K9 eJ gF d3 cV dn eX dC dD cg aT aK cq aU aP aV aW aX bj bo:Addr}(X:K.In h)(G:h.Ns mainGlobals mg)(hfa:mg "law"=some (.ref fa)){Gu Gv Wl Wm Nq Nr A3 A4 Wn Wo JI JJ Gw Gx LP LQ Ec Ed Ee Ef ym yn zT zU Eg Eh A5 Ei Ej A6 A7 Wq Wr Ek El PX PY PZ P0 Gy Gz TN TQ Nt Nu Ws Wt Wu Wv ZN ZO JK JL TR TV P1 Ww Wx LR LS vV vW acA acB ael aem acC GA GB Em En A8 A9 Ba Bb Nv Nw Wz WA ZP ZQ WB ZR ZS P2 P4 P5 P6 P7 P8 ZT ZU WC WE acD acE ZV ZW P9 Qa TX TY vX vY aen aeo Bc Bd WG WH TZ T1 ZX ZY T2 T3 T4 T5 Qb Qc Qd Qe Qf Qg Qh Qi Qj Qk aep aeq WI WJ agS agT LV LW GC GD Eo JM:Option Addr}{GF WK Nx Be WL JN GG LX Ep Er yo zV Es Bf Et Bg WM Eu Ql Qm GH T6 Ny WN WO ZZ JO T7 Qn WQ LY vZ acF aer acG GI Ew Bh Bi Nz WR Z0 WS Z1 Qo Qp Qq Z2 WT acH Z3 Qr T8 v7 aes Bj WU T9 Z4 Ua Ub Qs Qt Qu Qv Qw aet WV agU LZ L0 GJ GK Ex JP:Array (Option Value)}{GL GN GO GP ve GQ WW WY WZ W0 L1 W2 NA NB NC ND Am NF Bl Bm Bn Bo rJ Bp W3 W4 W5 W6 L3 W7 JQ JR JS JT xg JU GR GS GU GW vf GX L4 L7 L8 L9 yp Ma Ey Ez EA EB tG EC ED EF EG EH tH EI yq yr yt yu o7 yv zW zX zY zZ qd z0 EJ EK EL EM tI EN Br EO ER ES ET tJ EU Bs Bt Bu Bv rK Bx W8 W9 Xa Xb Mb Xc EV EW EX EY tK EZ Qx Qy Qz QA E2 QB QC QD QE QF E3 QG GY GZ G0 G1 vg G2 Uc Ud Ue Ug Jp Uh NG NH NI NJ An NK Xd Xe Xf Xg Mc Xh Xi Xj Xk Xl Md Xm Z5 Z6 Z7 Z8 OB Z9 JV JW JX JY xh JZ Ui Uj Uk Ul Jq Um QH Xn Xo Xp Xq Me Xr Mf Mg Mh Mi yw Mj v8 v9 wa wb lS wc acI acJ acK acL Uo acM aeu aev aew aex YO aey acN G3 G4 G5 G6 vh G7 E4 E5 E6 E7 tL E8 By Bz BA BB rL BC BD BE BF BG rM BH NL NM NN NO Ao NP Xs Xt Xu Xv Ml Xw aaa aab aac aad OC aae Xx aaf aag aah aai OD aaj QI QJ QK QL E9 QM QN QO QP QR Fb QS QT QU QV QW Fc QX aak aal aam aan OE aao Xy Xz XA XB Mm XC acO acP acQ acR Up acS aap aaq aar aas OF aat QY QZ Q0 Q1 Fd Q2 Uq Ur Us Ut Jr Uu wd we wj wk lT wm aez aeA aeB aeC YQ aeD BI BJ BK BL rN BM XD XE XF XG Mn XH Uv Uw Ux Uy Js Uz aau aav aaw aax OG aay UA UB UC UD Jt UE UG UH UI UJ Ju UK Q3 Q4 Q5 Q6 Fe Q7 Q8 Q9 Ra Rb Ff Rc Rg Rh Ri Rj Fg Rk Rl Rm Rn Ro Fh Rp Rq Rr Rt Ru Fi Rv aeE aeF aeG aeH YR aeI XI XJ XM XN Mo XO agV agW agX agY acT agZ:Value}{eU eV lr xM q8 Mp Mq Mr Mt Mu Mv G8 G9 Ha Hb Hc Fj Fl Fm Fn J0 J1 J2 J3 J4 lz Hd He Hf Hg Hh Hi Hj Hk Hl Hm Hn Ho Hq Hr Hs Ht Hu Hv Hw Hy Hz HA BN BO BP BQ qm ja kc lB zD lC oC qo Dy zE:Tok}{BR Rw acU XQ NQ NR J5 J6 HB Mw Mx My HC:Nat}(Mz:nsIn K mainGlobals "Voice"=some (some (.ref dr)))(Rx:nsIn K mainGlobals "Deed"=some (some (.ref bq)))(Ry:nsIn K mainGlobals "Book"=some (some (.ref aY)))(pF:findIn K (.ref aY) "__init__"=some (some (.ref cT)))(pG:K.lookup cT=some ⟨GL,Gu,.func (fnOf "__init__" "Book.__init__" (aC fM) (aA fM) (ah fM) .none GN GO GP Gv ve GQ),GF⟩)(pH:codeIn K ve "Book.__init__" = true)(pI:keepIn K (.ref cT)=true)(nK:isFn K (.ref cT)=true)(HD:nsIn K mainGlobals "is_name"=some (some (.ref m7)))(HE:K.lookup m7=some ⟨WW,Wl,.func (fnOf "is_name" "is_name" (aC qu) (aA qu) (ah qu) .none WY WZ W0 Wm L1 W2),WK⟩)(HF:codeIn K L1 "is_name"=true)(HG:keepIn K (.ref m7)=true)(wo:findIn K (.ref aY) "names"=some (some (.ref fX)))(wq:K.lookup fX=some ⟨NA,Nq,.func (fnOf "names" "Book.names" (aC jE) (aA jE) (ah jE) .none NB NC ND Nr Am NF),Nx⟩)(wt:codeIn K Am "Book.names" = true)(qr:keepIn K (.ref fX)=true)(ud:isFn K (.ref fX)=true)(lU:findIn K (.ref aY) "refuse_new"=some (some (.ref bC)))(lV:K.lookup bC=some ⟨Bl,A3,.func (fnOf "refuse_new" "Book.refuse_new" (aC bR) (aA bR) (ah bR) .none Bm Bn Bo A4 rJ Bp),Be⟩)(lW:codeIn K rJ "Book.refuse_new" = true)(jf:keepIn K (.ref bC)=true)(kD:isFn K (.ref bC)=true)(HH:findIn K (.ref bq) "do"=some (some (.ref kW)))(HI:K.lookup kW=some ⟨W3,Wn,.func (fnOf "do" "Deed.do" (aC qv) (aA qv) (ah qv) .none W4 W5 W6 Wo L3 W7),WL⟩)(HJ:codeIn K L3 "Deed.do" = true)(zL:keepIn K (.ref kW)=true)(BS:isFn K (.ref kW)=true)(rO:findIn K (.ref aY) "perform"=some (some (.ref dz)))(rP:K.lookup dz=some ⟨JQ,JI,.func (fnOf "perform" "Book.perform" (aC gT) (aA gT) (ah gT) .none JR JS JT JJ xg JU),JN⟩)(rQ:codeIn K xg "Book.perform" = true)(lX:keepIn K (.ref dz)=true)(pJ:isFn K (.ref dz)=true)(pK:findIn K (.ref bq) "__init__"=some (some (.ref cU)))(pL:K.lookup cU=some ⟨GR,Gw,.func (fnOf "__init__" "Deed.__init__" (aC fN) (aA fN) (ah fN) .none GS GU GW Gx vf GX),GG⟩)(pM:codeIn K vf "Deed.__init__" = true)(pN:keepIn K (.ref cU)=true)(nM:isFn K (.ref cU)=true)(ue:findIn K (.ref aY) "put_in"=some (some (.ref eG)))(uf:K.lookup eG=some ⟨L4,LP,.func (fnOf "put_in" "Book.put_in" (aC iL) (aA iL) (ah iL) .none L7 L8 L9 LQ yp Ma),LX⟩)(ug:codeIn K yp "Book.put_in" = true)(oJ:keepIn K (.ref eG)=true)(rR:isFn K (.ref eG)=true)(nN:findIn K (.ref dr) "__init__"=some (some (.ref cG)))(nP:K.lookup cG=some ⟨Ey,Ec,.func (fnOf "__init__" "Voice.__init__" (aC eN) (aA eN) (ah eN) .none Ez EA EB Ed tG EC),Ep⟩)(nQ:codeIn K tG "Voice.__init__" = true)(nR:keepIn K (.ref cG)=true)(lY:isFn K (.ref cG)=true)(nS:findIn K (.ref aY) "add_voice"=some (some (.ref cf)))(nV:K.lookup cf=some ⟨ED,Ee,.func (fnOf "add_voice" "Book.add_voice" (aC dh) (aA dh) (ah dh) .none EF EG EH Ef tH EI),Er⟩)(nW:codeIn K tH "Book.add_voice" = true)(jQ:keepIn K (.ref cf)=true)(lZ:isFn K (.ref cf)=true)(jX:findIn K (.ref aY) "voice_called"=some (some (.ref bG)))(jY:K.lookup bG=some ⟨yq,ym,.func (fnOf "voice_called" "Book.voice_called" (aC cm) (aA cm) (ah cm) .none yr yt yu yn o7 yv),yo⟩)(jZ:codeIn K o7 "Book.voice_called" = true)(gN:keepIn K (.ref bG)=true)(jz:isFn K (.ref bG)=true)(kE:findIn K (.ref aY) "plain_voice"=some (some (.ref bD)))(kF:K.lookup bD=some ⟨zW,zT,.func (fnOf "plain_voice" "Book.plain_voice" (aC bX) (aA bX) (ah bX) .none zX zY zZ zU qd z0),zV⟩)(kG:codeIn K qd "Book.plain_voice" = true)(iy:keepIn K (.ref bD)=true)(j0:isFn K (.ref bD)=true)(nX:findIn K (.ref aY) "add_canon"=some (some (.ref bI)))(nY:K.lookup bI=some ⟨EJ,Eg,.func (fnOf "add_canon" "Book.add_canon" (aC cb) (aA cb) (ah cb) (.ref i9) EK EL EM Eh tI EN),Es⟩)(nZ:codeIn K tI "Book.add_canon" = true)(jR:keepIn K (.ref bI)=true)(l8:isFn K (.ref bI)=true)(gA:K.lookup i9=some ⟨Br,A5,.seq #[.int 0 eU,.int 1 eV,.bool false] BR,Bf⟩)(n0:nsIn K mainGlobals "_law_name_refused"=some (some (.ref di)))(n5:K.lookup di=some ⟨EO,Ei,.func (fnOf "_law_name_refused" "_law_name_refused" (aC eO) (aA eO) (ah eO) .none ER ES ET Ej tJ EU),Et⟩)(n6:codeIn K tJ "_law_name_refused"=true)(n8:keepIn K (.ref di)=true)(l9:nsIn K mainGlobals "_law_canon_refused"=some (some (.ref cM)))(ma:K.lookup cM=some ⟨Bs,A6,.func (fnOf "_law_canon_refused" "_law_canon_refused" (aC dR) (aA dR) (ah dR) .none Bt Bu Bv A7 rK Bx),Bg⟩)(md:codeIn K rK "_law_canon_refused"=true)(me:keepIn K (.ref cM)=true)(HK:nsIn K mainGlobals "_law_place"=some (some (.ref ng)))(HL:K.lookup ng=some ⟨W8,Wq,.func (fnOf "_law_place" "_law_place" (aC qw) (aA qw) (ah qw) .none W9 Xa Xb Wr Mb Xc),WM⟩)(HM:codeIn K Mb "_law_place"=true)(HN:keepIn K (.ref ng)=true)(n9:nsIn K mainGlobals "_law_line_refused"=some (some (.ref dj)))(oa:K.lookup dj=some ⟨EV,Ek,.func (fnOf "_law_line_refused" "_law_line_refused" (aC eP) (aA eP) (ah eP) .none EW EX EY El tK EZ),Eu⟩)(og:codeIn K tK "_law_line_refused"=true)(oh:keepIn K (.ref dj)=true)(yx:nsIn K mainGlobals "_law_refused"=some (some (.ref jr)))(yy:K.lookup jr=some ⟨Qx,PX,.func (fnOf "_law_refused" "_law_refused" (aC kO) (aA kO) (ah kO) .none Qy Qz QA PY E2 QB),Ql⟩)(yz:codeIn K E2 "_law_refused"=true)(yA:keepIn K (.ref jr)=true)(yB:nsIn K mainGlobals "_law_cell_at"=some (some (.ref js)))(yC:K.lookup js=some ⟨QC,PZ,.func (fnOf "_law_cell_at" "_law_cell_at" (aC kP) (aA kP) (ah kP) .none QD QE QF P0 E3 QG),Qm⟩)(yD:codeIn K E3 "_law_cell_at"=true)(yE:keepIn K (.ref js)=true)(pO:nsIn K mainGlobals "_law_line_behind"=some (some (.ref dX)))(pP:K.lookup dX=some ⟨GY,Gy,.func (fnOf "_law_line_behind" "_law_line_behind" (aC fO) (aA fO) (ah fO) .none GZ G0 G1 Gz vg G2),GH⟩)(pQ:codeIn K vg "_law_line_behind"=true)(pR:keepIn K (.ref dX)=true)(BU:nsIn K mainGlobals "_law_behind"=some (some (.ref kx)))(BV:K.lookup kx=some ⟨Uc,TN,.func (fnOf "_law_behind" "_law_behind" (aC mV) (aA mV) (ah mV) .none Ud Ue Ug TQ Jp Uh),T6⟩)(BW:codeIn K Jp "_law_behind"=true)(BX:keepIn K (.ref kx)=true)(wu:findIn K (.ref aY) "canon"=some (some (.ref eD)))(wx:K.lookup eD=some ⟨NG,Nt,.func (fnOf "canon" "Book.canon" (aC ij) (aA ij) (ah ij) .none NH NI NJ Nu An NK),Ny⟩)(wz:codeIn K An "Book.canon" = true)(qt:keepIn K (.ref eD)=true)(uh:isFn K (.ref eD)=true)(HP:nsIn K mainGlobals "_law_whole"=some (some (.ref nj)))(HQ:K.lookup nj=some ⟨Xd,Ws,.func (fnOf "_law_whole" "_law_whole" (aC qx) (aA qx) (ah qx) .none Xe Xf Xg Wt Mc Xh),WN⟩)(HR:codeIn K Mc "_law_whole"=true)(HS:keepIn K (.ref nj)=true)(HU:nsIn K mainGlobals "_law_signs"=some (some (.ref nk)))(HV:K.lookup nk=some ⟨Xi,Wu,.func (fnOf "_law_signs" "_law_signs" (aC qy) (aA qy) (ah qy) .none Xj Xk Xl Wv Md Xm),WO⟩)(HW:codeIn K Md "_law_signs"=true)(HX:keepIn K (.ref nk)=true)(MA:nsIn K mainGlobals "_law_nums"=some (some (.ref qY)))(MB:K.lookup qY=some ⟨Z5,ZN,.func (fnOf "_law_nums" "_law_nums" (aC uI) (aA uI) (ah uI) .none Z6 Z7 Z8 ZO OB Z9),ZZ⟩)(MC:codeIn K OB "_law_nums"=true)(MD:keepIn K (.ref qY)=true)(rS:nsIn K mainGlobals "sets_measure"=some (some (.ref eW)))(rT:K.lookup eW=some ⟨JV,JK,.func (fnOf "sets_measure" "sets_measure" (aC gU) (aA gU) (ah gU) .none JW JX JY JL xh JZ),JO⟩)(rV:codeIn K xh "sets_measure"=true)(rW:keepIn K (.ref eW)=true)(BY:nsIn K mainGlobals "measures"=some (some (.ref ky)))(BZ:K.lookup ky=some ⟨Ui,TR,.func (fnOf "measures" "measures" (aC mW) (aA mW) (ah mW) (.ref sG) Uj Uk Ul TV Jq Um),T7⟩)(B7:codeIn K Jq "measures"=true)(Ca:keepIn K (.ref ky)=true)(tM:K.lookup sG=some ⟨QH,P1,.seq #[.int 3 lr] Rw,Qn⟩)(HY:nsIn K mainGlobals "kind_at"=some (some (.ref nq)))(HZ:K.lookup nq=some ⟨Xn,Ww,.func (fnOf "kind_at" "kind_at" (aC qz) (aA qz) (ah qz) .none Xo Xp Xq Wx Me Xr),WQ⟩)(Ia:codeIn K Me "kind_at"=true)(Ib:keepIn K (.ref nq)=true)(ui:nsIn K mainGlobals "plain_worth"=some (some (.ref gD)))(uj:K.lookup gD=some ⟨Mf,LR,.func (fnOf "plain_worth" "plain_worth" (aC iN) (aA iN) (ah iN) .none Mg Mh Mi LS yw Mj),LY⟩)(uk:codeIn K yw "plain_worth"=true)(um:keepIn K (.ref gD)=true)(iV:nsIn K mainGlobals "worths_without_runs"=some (some (.ref bO)))(iW:K.lookup bO=some ⟨v8,vV,.func (fnOf "worths_without_runs" "worths_without_runs" (aC cB) (aA cB) (ah cB) .none v9 wa wb vW lS wc),vZ⟩)(iX:codeIn K lS "worths_without_runs"=true)(iY:keepIn K (.ref bO)=true)(Rz:nsIn K mainGlobals "small"=some (some (.ref vK)))(RA:K.lookup vK=some ⟨acI,acA,.func (fnOf "small" "small" (aC zA) (aA zA) (ah zA) .none acJ acK acL acB Uo acM),acF⟩)(RB:codeIn K Uo "small"=true)(DT:keepIn K (.ref vK)=true)(XR:nsIn K mainGlobals "runs"=some (some (.ref AI)))(XT:K.lookup AI=some ⟨aeu,ael,.func (fnOf "runs" "runs" (aC FF) (aA FF) (ah FF) (.ref Kg) aev aew aex aem YO aey),aer⟩)(XU:codeIn K YO "runs"=true)(XW:keepIn K (.ref AI)=true)(Kj:K.lookup Kg=some ⟨acN,acC,.seq #[.int 3 xM] acU,acG⟩)(pS:nsIn K mainGlobals "has_left_note"=some (some (.ref dY)))(pT:K.lookup dY=some ⟨G3,GA,.func (fnOf "has_left_note" "has_left_note" (aC fP) (aA fP) (ah fP) .none G4 G5 G6 GB vh G7),GI⟩)(pV:codeIn K vh "has_left_note"=true)(pW:keepIn K (.ref dY)=true)(oi:nsIn K mainGlobals "has_right_note"=some (some (.ref dm)))(oj:K.lookup dm=some ⟨E4,Em,.func (fnOf "has_right_note" "has_right_note" (aC eQ) (aA eQ) (ah eQ) .none E5 E6 E7 En tL E8),Ew⟩)(om:codeIn K tL "has_right_note"=true)(oo:keepIn K (.ref dm)=true)(mf:nsIn K mainGlobals "settle_one_over"=some (some (.ref cN)))(mh:K.lookup cN=some ⟨By,A8,.func (fnOf "settle_one_over" "settle_one_over" (aC dS) (aA dS) (ah dS) .none Bz BA BB A9 rL BC),Bh⟩)(mi:codeIn K rL "settle_one_over"=true)(mj:keepIn K (.ref cN)=true)(mn:nsIn K mainGlobals "settle_two_over"=some (some (.ref cO)))(mq:K.lookup cO=some ⟨BD,Ba,.func (fnOf "settle_two_over" "settle_two_over" (aC dU) (aA dU) (ah dU) .none BE BF BG Bb rM BH),Bi⟩)(mr:codeIn K rM "settle_two_over"=true)(mw:keepIn K (.ref cO)=true)(wA:nsIn K mainGlobals "settle_run"=some (some (.ref il)))(wB:K.lookup il=some ⟨NL,Nv,.func (fnOf "settle_run" "settle_run" (aC jF) (aA jF) (ah jF) .none NM NN NO Nw Ao NP),Nz⟩)(wC:codeIn K Ao "settle_run"=true)(wD:keepIn K (.ref il)=true)(Ic:nsIn K mainGlobals "reading"=some (some (.ref nu)))(Ie:K.lookup nu=some ⟨Xs,Wz,.func (fnOf "reading" "reading" (aC qA) (aA qA) (ah qA) .none Xt Xu Xv WA Ml Xw),WR⟩)(Ig:codeIn K Ml "reading"=true)(Ih:keepIn K (.ref nu)=true)(ME:nsIn K mainGlobals "worths"=some (some (.ref q0)))(MF:K.lookup q0=some ⟨aaa,ZP,.func (fnOf "worths" "worths" (aC uJ) (aA uJ) (ah uJ) (.ref zC) aab aac aad ZQ OC aae),Z0⟩)(MG:codeIn K OC "worths"=true)(MH:keepIn K (.ref q0)=true)(zM:K.lookup zC=some ⟨Xx,WB,.seq #[.int 3 q8] XQ,WS⟩)(MI:nsIn K mainGlobals "turned"=some (some (.ref q9)))(MJ:K.lookup q9=some ⟨aaf,ZR,.func (fnOf "turned" "turned" (aC uK) (aA uK) (ah uK) .none aag aah aai ZS OD aaj),Z1⟩)(MK:codeIn K OD "turned"=true)(ML:keepIn K (.ref q9)=true)(yF:findIn K (.ref aY) "line"=some (some (.ref cw)))(yG:K.lookup cw=some ⟨QI,P2,.func (fnOf "line" "Book.line" (aC dy) (aA dy) (ah dy) .none QJ QK QL P4 E9 QM),Qo⟩)(yH:codeIn K E9 "Book.line" = true)(tN:keepIn K (.ref cw)=true)(wF:isFn K (.ref cw)=true)(yI:findIn K (.ref aY) "kept"=some (some (.ref dA)))(yJ:K.lookup dA=some ⟨QN,P5,.func (fnOf "kept" "Book.kept" (aC fV) (aA fV) (ah fV) .none QO QP QR P6 Fb QS),Qp⟩)(yK:codeIn K Fb "Book.kept" = true)(tO:keepIn K (.ref dA)=true)(wG:isFn K (.ref dA)=true)(yL:nsIn K mainGlobals "_law_line_of"=some (some (.ref jt)))(yM:K.lookup jt=some ⟨QT,P7,.func (fnOf "_law_line_of" "_law_line_of" (aC kQ) (aA kQ) (ah kQ) .none QU QV QW P8 Fc QX),Qq⟩)(yN:codeIn K Fc "_law_line_of"=true)(yO:keepIn K (.ref jt)=true)(MN:nsIn K mainGlobals "_law_base"=some (some (.ref rb)))(MO:K.lookup rb=some ⟨aak,ZT,.func (fnOf "_law_base" "_law_base" (aC uL) (aA uL) (ah uL) .none aal aam aan ZU OE aao),Z2⟩)(MP:codeIn K OE "_law_base"=true)(MQ:keepIn K (.ref rb)=true)(Ii:nsIn K mainGlobals "_law_three"=some (some (.ref nC)))(Ij:K.lookup nC=some ⟨Xy,WC,.func (fnOf "_law_three" "_law_three" (aC qB) (aA qB) (ah qB) .none Xz XA XB WE Mm XC),WT⟩)(Ik:codeIn K Mm "_law_three"=true)(Il:keepIn K (.ref nC)=true)(RC:nsIn K mainGlobals "_law_run"=some (some (.ref vM)))(RD:K.lookup vM=some ⟨acO,acD,.func (fnOf "_law_run" "_law_run" (aC zB) (aA zB) (ah zB) .none acP acQ acR acE Up acS),acH⟩)(RE:codeIn K Up "_law_run"=true)(RF:keepIn K (.ref vM)=true)(MR:nsIn K mainGlobals "_law_read"=some (some (.ref rf)))(MS:K.lookup rf=some ⟨aap,ZV,.func (fnOf "_law_read" "_law_read" (aC uM) (aA uM) (ah uM) .none aaq aar aas ZW OF aat),Z3⟩)(MT:codeIn K OF "_law_read"=true)(MU:keepIn K (.ref rf)=true)(yP:nsIn K mainGlobals "_law_kept_of"=some (some (.ref ju)))(yQ:K.lookup ju=some ⟨QY,P9,.func (fnOf "_law_kept_of" "_law_kept_of" (aC kR) (aA kR) (ah kR) .none QZ Q0 Q1 Qa Fd Q2),Qr⟩)(yR:codeIn K Fd "_law_kept_of"=true)(yS:keepIn K (.ref ju)=true)(Cb:nsIn K mainGlobals "_law_stands"=some (some (.ref kz)))(Cc:K.lookup kz=some ⟨Uq,TX,.func (fnOf "_law_stands" "_law_stands" (aC mX) (aA mX) (ah mX) .none Ur Us Ut TY Jr Uu),T8⟩)(Cd:codeIn K Jr "_law_stands"=true)(Ce:keepIn K (.ref kz)=true)(iZ:nsIn K mainGlobals "refuse_other_places"=some (some (.ref bF)))(i0:K.lookup bF=some ⟨wd,vX,.func (fnOf "refuse_other_places" "refuse_other_places" (aC bN) (aA bN) (ah bN) .none we wj wk vY lT wm),v7⟩)(i4:codeIn K lT "refuse_other_places"=true)(i5:keepIn K (.ref bF)=true)(XX:nsIn K mainGlobals "good"=some (some (.ref AK)))(XY:K.lookup AK=some ⟨aez,aen,.func (fnOf "good" "good" (aC FG) (aA FG) (ah FG) .none aeA aeB aeC aeo YQ aeD),aes⟩)(XZ:codeIn K YQ "good"=true)(X0:keepIn K (.ref AK)=true)(mx:nsIn K mainGlobals "refuse_bad_sign"=some (some (.ref cy)))(my:K.lookup cy=some ⟨BI,Bc,.func (fnOf "refuse_bad_sign" "refuse_bad_sign" (aC cL) (aA cL) (ah cL) .none BJ BK BL Bd rN BM),Bj⟩)(mz:codeIn K rN "refuse_bad_sign"=true)(mB:keepIn K (.ref cy)=true)(Im:nsIn K mainGlobals "low_end"=some (some (.ref nE)))(Io:K.lookup nE=some ⟨XD,WG,.func (fnOf "low_end" "low_end" (aC qC) (aA qC) (ah qC) .none XE XF XG WH Mn XH),WU⟩)(Ip:codeIn K Mn "low_end"=true)(Iq:keepIn K (.ref nE)=true)(Cf:nsIn K mainGlobals "high_end"=some (some (.ref kA)))(Cg:K.lookup kA=some ⟨Uv,TZ,.func (fnOf "high_end" "high_end" (aC mY) (aA mY) (ah mY) .none Uw Ux Uy T1 Js Uz),T9⟩)(Ci:codeIn K Js "high_end"=true)(Cj:keepIn K (.ref kA)=true)(MV:nsIn K mainGlobals "window"=some (some (.ref rg)))(MW:K.lookup rg=some ⟨aau,ZX,.func (fnOf "window" "window" (aC uN) (aA uN) (ah uN) .none aav aaw aax ZY OG aay),Z4⟩)(MX:codeIn K OG "window"=true)(MY:keepIn K (.ref rg)=true)(Ck:findIn K (.ref aY) "put"=some (some (.ref dZ)))(Cm:K.lookup dZ=some ⟨UA,T2,.func (fnOf "put" "Book.put" (aC gC) (aA gC) (ah gC) .none UB UC UD T3 Jt UE),Ua⟩)(Cn:codeIn K Jt "Book.put" = true)(wH:keepIn K (.ref dZ)=true)(yT:isFn K (.ref dZ)=true)(Co:findIn K (.ref aY) "cut"=some (some (.ref gE)))(Cp:K.lookup gE=some ⟨UG,T4,.func (fnOf "cut" "Book.cut" (aC jn) (aA jn) (ah jn) .none UH UI UJ T5 Ju UK),Ub⟩)(Cq:codeIn K Ju "Book.cut" = true)(wI:keepIn K (.ref gE)=true)(yU:isFn K (.ref gE)=true)(yV:findIn K (.ref aY) "swap"=some (some (.ref dB)))(yW:K.lookup dB=some ⟨Q3,Qb,.func (fnOf "swap" "Book.swap" (aC fW) (aA fW) (ah fW) .none Q4 Q5 Q6 Qc Fe Q7),Qs⟩)(yX:codeIn K Fe "Book.swap" = true)(tP:keepIn K (.ref dB)=true)(wJ:isFn K (.ref dB)=true)(yY:findIn K (.ref aY) "drop"=some (some (.ref eI)))(yZ:K.lookup eI=some ⟨Q8,Qd,.func (fnOf "drop" "Book.drop" (aC hV) (aA hV) (ah hV) .none Q9 Ra Rb Qe Ff Rc),Qt⟩)(y8:codeIn K Ff "Book.drop" = true)(tQ:keepIn K (.ref eI)=true)(wK:isFn K (.ref eI)=true)(y9:findIn K (.ref bq) "undo"=some (some (.ref hX)))(za:K.lookup hX=some ⟨Rg,Qf,.func (fnOf "undo" "Deed.undo" (aC kS) (aA kS) (ah kS) .none Rh Ri Rj Qg Fg Rk),Qu⟩)(zb:codeIn K Fg "Deed.undo" = true)(tR:keepIn K (.ref hX)=true)(wL:isFn K (.ref hX)=true)(zc:findIn K (.ref aY) "undo"=some (some (.ref fY)))(zd:K.lookup fY=some ⟨Rl,Qh,.func (fnOf "undo" "Book.undo" (aC jo) (aA jo) (ah jo) .none Rm Rn Ro Qi Fh Rp),Qv⟩)(ze:codeIn K Fh "Book.undo" = true)(tS:keepIn K (.ref fY)=true)(wN:isFn K (.ref fY)=true)(zf:findIn K (.ref aY) "redo"=some (some (.ref fZ)))(zg:K.lookup fZ=some ⟨Rq,Qj,.func (fnOf "redo" "Book.redo" (aC jq) (aA jq) (ah jq) .none Rr Rt Ru Qk Fi Rv),Qw⟩)(zh:codeIn K Fi "Book.redo" = true)(tT:keepIn K (.ref fZ)=true)(wO:isFn K (.ref fZ)=true)(X1:nsIn K mainGlobals "_law_do"=some (some (.ref jW)))(X2:K.lookup jW=some ⟨aeE,aep,.func (fnOf "_law_do" "_law_do" (aC kq) (aA kq) (ah kq) .none aeF aeG aeH aeq YR aeI),aet⟩)(X3:codeIn K YR "_law_do"=true)(X4:keepIn K (.ref jW)=true)(Ir:nsIn K mainGlobals "_law_tried"=some (some (.ref kX)))(Iu:K.lookup kX=some ⟨XI,WI,.func (fnOf "_law_tried" "_law_tried" (aC mZ) (aA mZ) (ah mZ) .none XJ XM XN WJ Mo XO),WV⟩)(Iv:codeIn K Mo "_law_tried"=true)(Iw:keepIn K (.ref kX)=true)(YS:nsIn K mainGlobals "law"=some (some (.ref K9)))(acV:K.lookup K9=some ⟨agV,agS,.func (fnOf "law" "law" (aC uO) (aA uO) (ah uO) .none agW agX agY agT acT agZ),agU⟩)(acW:codeIn K acT "law"=true)(acX:keepIn K (.ref K9)=true)(acY:nsIn K mainGlobals "all"=some none)(acZ:nsIn K mainGlobals "any"=some none)(X5:nsIn K mainGlobals "bool"=some none)(X6:nsIn K mainGlobals "dict"=some none)(zi:nsIn K mainGlobals "enumerate"=some none)(ac0:nsIn K mainGlobals "int"=some none)(wQ:nsIn K mainGlobals "isinstance"=some none)(ac1:nsIn K mainGlobals "len"=some none)(X7:nsIn K mainGlobals "list"=some none)(ac2:nsIn K mainGlobals "max"=some none)(ac3:nsIn K mainGlobals "min"=some none)(RG:nsIn K mainGlobals "range"=some none)(ac4:nsIn K mainGlobals "str"=some none)(RH:nsIn K mainGlobals "tuple"=some none)(ac5:nsIn K mainGlobals "zip"=some none)(rX:nsIn K mainGlobals "GREAT_KINDS"=some (some (.ref eJ)))(rY:K.lookup eJ=some ⟨.type "tuple",LV,.seq #[.str (Str.ofString "G") Mp,.str (Str.ofString "D") Mq,.str (Str.ofString "R") Mr] NQ,LZ⟩)(rZ:nsIn K mainGlobals "SMALL_KINDS"=some (some (.ref gF)))(r6:K.lookup gF=some ⟨.type "tuple",LW,.seq #[.str (Str.ofString "s") Mt,.str (Str.ofString "d") Mu,.str (Str.ofString "r") Mv] NR,L0⟩)(oq:nsIn K mainGlobals "PARTING_KINDS"=some (some (.ref d3)))(ot:K.lookup d3=some ⟨.type "tuple",GC,.seq #[.str (Str.ofString ".") G8,.str (Str.ofString "3") G9,.str (Str.ofString "2") Ha] J5,GJ⟩)(ou:nsIn K mainGlobals "MEASURE_KINDS"=some (some (.ref cV)))(ow:K.lookup cV=some ⟨.type "tuple",GD,.seq #[.str (Str.ofString "3") Hb,.str (Str.ofString "2") Hc] J6,GK⟩)(mC:nsIn K mainGlobals "SOUNDING_KINDS"=some (some (.ref dn)))(mD:K.lookup dn=some ⟨.type "tuple",Eo,.seq #[.str (Str.ofString "G") Fj,.str (Str.ofString "D") Fl,.str (Str.ofString "s") Fm,.str (Str.ofString "d") Fn] HB,Ex⟩)(pX:nsIn K mainGlobals "SILENT_KINDS"=some (some (.ref eX)))(pY:K.lookup eX=some ⟨.type "tuple",JM,.seq #[.str (Str.ofString "R") J0,.str (Str.ofString "r") J1,.str (Str.ofString ".") J2,.str (Str.ofString "3") J3,.str (Str.ofString "2") J4] Mw,JP⟩)(pZ:nsIn K mainGlobals "HIGHEST_TONE"=some (some (.int 99 lz)))(p3:nsIn K mainGlobals "TURNED_KINDS"=some (some (.ref dC)))(p4:K.lookup dC=some ⟨.type "dict",none,.dict #[⟨PyData.keyHash w.params (Str.ofString "3"),.str (Str.ofString "3") Hf,.str (Str.ofString "2") Hd⟩,⟨PyData.keyHash w.params (Str.ofString "2"),.str (Str.ofString "2") Hg,.str (Str.ofString "3") He⟩] Mx,#[]⟩)(p5:(dC==sysModules)=false)(p6:nsIn K mainGlobals "PLAIN_WORTHS"=some (some (.ref dD)))(p7:K.lookup dD=some ⟨.type "dict",none,.dict #[⟨PyData.keyHash w.params (Str.ofString "G"),.str (Str.ofString "G") Hr,.int 3 Hh⟩,⟨PyData.keyHash w.params (Str.ofString "D"),.str (Str.ofString "D") Hs,.int 2 Hi⟩,⟨PyData.keyHash w.params (Str.ofString "R"),.str (Str.ofString "R") Ht,.int 3 Hj⟩,⟨PyData.keyHash w.params (Str.ofString "s"),.str (Str.ofString "s") Hu,.int 1 Hk⟩,⟨PyData.keyHash w.params (Str.ofString "d"),.str (Str.ofString "d") Hv,.int 1 Hl⟩,⟨PyData.keyHash w.params (Str.ofString "r"),.str (Str.ofString "r") Hw,.int 1 Hm⟩,⟨PyData.keyHash w.params (Str.ofString "."),.str (Str.ofString ".") Hy,.int 0 Hn⟩,⟨PyData.keyHash w.params (Str.ofString "3"),.str (Str.ofString "3") Hz,.int 0 Ho⟩,⟨PyData.keyHash w.params (Str.ofString "2"),.str (Str.ofString "2") HA,.int 0 Hq⟩] My,#[]⟩)(p8:(dD==sysModules)=false)(mE:nsIn K mainGlobals "TWOFOLD_WORTHS"=some (some (.ref cg)))(mF:K.lookup cg=some ⟨.type "dict",none,.dict #[⟨PyData.keyHash w.params (Str.ofString "G"),.str (Str.ofString "G") BP,.int 2 BN⟩,⟨PyData.keyHash w.params (Str.ofString "R"),.str (Str.ofString "R") BQ,.int 2 BO⟩] HC,#[]⟩)(mG:(cg==sysModules)=false)(uo:nsIn K mainGlobals "FULL_WORTH"=some (some (.int 3 qm)))(kH:nsIn K mainGlobals "SHORTENED_WORTH"=some (some (.int 2 ja)))(ox:nsIn K mainGlobals "DOUBLED_WORTH"=some (some (.int 2 kc)))(p9:nsIn K mainGlobals "DOTTED_WORTH"=some (some (.int 3 lB)))(Cr:nsIn K mainGlobals "LETTERS"=some (some (.str (Str.ofString "abcdefghijklmnopqrstuvwxyz") zD)))(qa:nsIn K mainGlobals "LONGEST_NAME"=some (some (.int 8 lC)))(r9:nsIn K mainGlobals "MOST_VOICES"=some (some (.int 12 oC)))(uq:nsIn K mainGlobals "MOST_SIGNS"=some (some (.int 200 qo)))(Iy:nsIn K mainGlobals "LATEST"=some (some (.int 999 Dy)))(Ct:nsIn K mainGlobals "SLOWEST"=some (some (.int 9 zE)))(Iz:makesIn K dr=true)(IA:keepIn K (.ref dr)=true)(MZ:plainGet K dr Str.empty=true)(M0:hasDictIn K dr=true)(M3:plainOver K dr=true)(M4:findIn K (.ref dr) "__setattr__"=some (some (.builtin "object.__setattr__")))(gG:findIn K (.ref dr) "name"=some none)(cP:findIn K (.ref dr) "terms"=some none)(cC:findIn K (.ref dr) "signs"=some none)(M5:makesIn K bq=true)(M6:keepIn K (.ref bq)=true)(RI:plainGet K bq Str.empty=true)(RJ:hasDictIn K bq=true)(RK:plainOver K bq=true)(RL:findIn K (.ref bq) "__setattr__"=some (some (.builtin "object.__setattr__")))(eZ:findIn K (.ref bq) "things"=some none)(iu:findIn K (.ref bq) "at"=some none)(e8:findIn K (.ref bq) "before"=some none)(gH:findIn K (.ref bq) "after"=some none)(M7:makesIn K aY=true)(M8:keepIn K (.ref aY)=true)(RM:plainGet K aY Str.empty=true)(RN:hasDictIn K aY=true)(RO:plainOver K aY=true)(RP:findIn K (.ref aY) "__setattr__"=some (some (.builtin "object.__setattr__")))(bL:findIn K (.ref aY) "voices"=some none)(eE:findIn K (.ref aY) "done"=some none)(cQ:findIn K (.ref aY) "undone"=some none)(Cu:nsIn K mainGlobals "BadName"=some (some (.ref aT)))(wR:nsIn K mainGlobals "NameTaken"=some (some (.ref aK)))(RQ:nsIn K mainGlobals "Full"=some (some (.ref cq)))(Cv:nsIn K mainGlobals "NoVoice"=some (some (.ref aU)))(zj:nsIn K mainGlobals "NotPlain"=some (some (.ref aP)))(Cw:nsIn K mainGlobals "BadTerm"=some (some (.ref aV)))(Cy:nsIn K mainGlobals "NoPlace"=some (some (.ref aW)))(Cz:nsIn K mainGlobals "BadSign"=some (some (.ref aX)))(IB:nsIn K mainGlobals "Leaned"=some (some (.ref bj)))(IC:nsIn K mainGlobals "NoMore"=some (some (.ref bo)))(CA:excIn K aT uD "ValueError.__new__" = true)(CC:findIn K (.ref aT) "__getattribute__"=some (some (.builtin "BaseException.__getattribute__")))(CF:findIn K (.ref aT) "__getattr__"=some none)(CG:findIn K (.ref aT) "__class__"=some (some (.builtin "object.__class__")))(wU:excIn K aK uD "ValueError.__new__" = true)(wV:findIn K (.ref aK) "__getattribute__"=some (some (.builtin "BaseException.__getattribute__")))(wW:findIn K (.ref aK) "__getattr__"=some none)(wX:findIn K (.ref aK) "__class__"=some (some (.builtin "object.__class__")))(RS:excIn K cq uD "ValueError.__new__" = true)(RT:findIn K (.ref cq) "__getattribute__"=some (some (.builtin "BaseException.__getattribute__")))(RU:findIn K (.ref cq) "__getattr__"=some none)(RV:findIn K (.ref cq) "__class__"=some (some (.builtin "object.__class__")))(CH:excIn K aU uD "ValueError.__new__" = true)(CI:findIn K (.ref aU) "__getattribute__"=some (some (.builtin "BaseException.__getattribute__")))(CJ:findIn K (.ref aU) "__getattr__"=some none)(CK:findIn K (.ref aU) "__class__"=some (some (.builtin "object.__class__")))(zk:excIn K aP uD "ValueError.__new__" = true)(zm:findIn K (.ref aP) "__getattribute__"=some (some (.builtin "BaseException.__getattribute__")))(zo:findIn K (.ref aP) "__getattr__"=some none)(zp:findIn K (.ref aP) "__class__"=some (some (.builtin "object.__class__")))(CL:excIn K aV uD "ValueError.__new__" = true)(CM:findIn K (.ref aV) "__getattribute__"=some (some (.builtin "BaseException.__getattribute__")))(CN:findIn K (.ref aV) "__getattr__"=some none)(CO:findIn K (.ref aV) "__class__"=some (some (.builtin "object.__class__")))(CP:excIn K aW uD "ValueError.__new__" = true)(CQ:findIn K (.ref aW) "__getattribute__"=some (some (.builtin "BaseException.__getattribute__")))(CS:findIn K (.ref aW) "__getattr__"=some none)(CU:findIn K (.ref aW) "__class__"=some (some (.builtin "object.__class__")))(CW:excIn K aX uD "ValueError.__new__" = true)(CY:findIn K (.ref aX) "__getattribute__"=some (some (.builtin "BaseException.__getattribute__")))(CZ:findIn K (.ref aX) "__getattr__"=some none)(C0:findIn K (.ref aX) "__class__"=some (some (.builtin "object.__class__")))(ID:excIn K bj uD "ValueError.__new__" = true)(IE:findIn K (.ref bj) "__getattribute__"=some (some (.builtin "BaseException.__getattribute__")))(IF:findIn K (.ref bj) "__getattr__"=some none)(IG:findIn K (.ref bj) "__class__"=some (some (.builtin "object.__class__")))(IH:excIn K bo uD "ValueError.__new__" = true)(II:findIn K (.ref bo) "__getattribute__"=some (some (.builtin "BaseException.__getattribute__")))(IJ:findIn K (.ref bo) "__getattr__"=some none)(IK:findIn K (.ref bo) "__class__"=some (some (.builtin "object.__class__")))(e9:exmOne K (.ref aT) (.ref aT)=some true)(dF:exmOne K (.ref aK) (.ref aT)=some false)(cR:exmOne K (.ref aK) (.ref aK)=some true)(iF:exmOne K (.ref cq) (.ref aT)=some false)(gj:exmOne K (.ref cq) (.ref aK)=some false)(lN:exmOne K (.ref cq) (.ref cq)=some true)(fb:exmOne K (.ref aU) (.ref aT)=some false)(dG:exmOne K (.ref aU) (.ref aK)=some false)(iG:exmOne K (.ref aU) (.ref cq)=some false)(fc:exmOne K (.ref aU) (.ref aU)=some true)(d9:exmOne K (.ref aP) (.ref aT)=some false)(c6:exmOne K (.ref aP) (.ref aK)=some false)(g5:exmOne K (.ref aP) (.ref cq)=some false)(ee:exmOne K (.ref aP) (.ref aU)=some false)(dH:exmOne K (.ref aP) (.ref aP)=some true)(ff:exmOne K (.ref aV) (.ref aT)=some false)(dJ:exmOne K (.ref aV) (.ref aK)=some false)(iH:exmOne K (.ref aV) (.ref cq)=some false)(fg:exmOne K (.ref aV) (.ref aU)=some false)(eh:exmOne K (.ref aV) (.ref aP)=some false)(fh:exmOne K (.ref aV) (.ref aW)=some false)(fi:exmOne K (.ref aV) (.ref aX)=some false)(fk:exmOne K (.ref aV) (.ref aV)=some true)(fm:exmOne K (.ref aW) (.ref aT)=some false)(dM:exmOne K (.ref aW) (.ref aK)=some false)(iI:exmOne K (.ref aW) (.ref cq)=some false)(fo:exmOne K (.ref aW) (.ref aU)=some false)(en:exmOne K (.ref aW) (.ref aP)=some false)(fq:exmOne K (.ref aW) (.ref aW)=some true)(fu:exmOne K (.ref aX) (.ref aT)=some false)(dN:exmOne K (.ref aX) (.ref aK)=some false)(iJ:exmOne K (.ref aX) (.ref cq)=some false)(fA:exmOne K (.ref aX) (.ref aU)=some false)(et:exmOne K (.ref aX) (.ref aP)=some false)(fB:exmOne K (.ref aX) (.ref aW)=some false)(fD:exmOne K (.ref aX) (.ref aX)=some true)(gk:exmOne K (.ref bj) (.ref aT)=some false)(eA:exmOne K (.ref bj) (.ref aK)=some false)(jx:exmOne K (.ref bj) (.ref cq)=some false)(gm:exmOne K (.ref bj) (.ref aU)=some false)(fE:exmOne K (.ref bj) (.ref aP)=some false)(gn:exmOne K (.ref bj) (.ref aW)=some false)(gp:exmOne K (.ref bj) (.ref aX)=some false)(gq:exmOne K (.ref bj) (.ref aV)=some false)(g6:exmOne K (.ref bj) (.ref bj)=some true)(gs:exmOne K (.ref bo) (.ref aT)=some false)(eB:exmOne K (.ref bo) (.ref aK)=some false)(jy:exmOne K (.ref bo) (.ref cq)=some false)(gu:exmOne K (.ref bo) (.ref aU)=some false)(fF:exmOne K (.ref bo) (.ref aP)=some false)(gw:exmOne K (.ref bo) (.ref aW)=some false)(gx:exmOne K (.ref bo) (.ref aX)=some false)(gy:exmOne K (.ref bo) (.ref aV)=some false)(g7:exmOne K (.ref bo) (.ref bj)=some false)(g8:exmOne K (.ref bo) (.ref bo)=some true) :
  ∃ fd:FuncData,(∀(s:Shared)(v:Value),BindsTo s fd ⟨[v],[]⟩ [("_law_script",v)])/\∀ base:Heap,K.In base->base.Ns mainGlobals mg->bE l.prog w K mg base mJ 9 fa fd ["_law_script"] (KC K):=by
 have e:=hfa.symm.trans (mg_of X G YS);cases e;have kd:=aS (st:=fM) pG pH pI;have pB:=kd.binds (ps:=["self"]) fun _ _ _ _ _ _=>tF fun _=>rfl;have uQ:=aS (st:=qu) HE HF HG;have FX:=uQ.binds (ps:=["name"]) fun _ _ _ _ _ _=>tF fun _=>rfl;have qp:=aS (st:=jE) wq wt qr;have jG:=qp.binds (ps:=["self"]) fun _ _ _ _ _ _=>tF fun _=>rfl;have jb:=aS (st:=bR) lV lW jf;have jc:=jb.binds (ps:=["self","name"]) fun _ _ _ _ _ _=>eL fun _ _=>rfl;have zF:=aS (st:=qv) HI HJ zL;have zG:=zF.binds (ps:=["self"]) fun _ _ _ _ _ _=>tF fun _=>rfl;have lD:=aS (st:=gT) rP rQ lX;have eY:=lD.binds (ps:=["self","deed"]) fun _ _ _ _ _ _=>eL fun _ _=>rfl;have ke:=aS (st:=fN) pL pM pN;have d4:=ke.binds (ps:=["self","things","at","before","after"]) fun _ _ _ _ _ _=>aja fun _ _ _ _ _=>rfl;have oF:=aS (st:=iL) uf ug oJ;have oG:=oF.binds (ps:=["self","voice"]) fun _ _ _ _ _ _=>eL fun _ _=>rfl;have jH:=aS (st:=eN) nP nQ nR;have jI:=jH.binds (ps:=["self","name","terms"]) fun _ _ _ _ _ _=>LN fun _ _ _=>rfl;have jJ:=aS (st:=dh) nV nW jQ;have gX:=jJ.binds (ps:=["self","name"]) fun _ _ _ _ _ _=>eL fun _ _=>rfl;have gK:=aS (st:=cm) jY jZ gN;have cu:=gK.binds (ps:=["self","name"]) fun _ _ _ _ _ _=>eL fun _ _=>rfl;have ip:=aS (st:=bX) kF kG iy;have dq:=ip.binds (ps:=["self","name"]) fun _ _ _ _ _ _=>eL fun _ _=>rfl;have eR:=Ka (st:=cb) nY nZ jR;have nF:Binds K _ ["self","name","leader","later","slow","is_turned"] []:=eR.binds (ds:=[]) gA rfl fun _ _ _ _ _ _ us hl=>by obtain⟨_,_,_,_,_,_,rfl⟩:=ajc hl;exact⟨_,rfl,rfl⟩
 have lF:Binds K _ ["self","name","leader","later","slow","is_turned"] [.int 0 eU,.int 1 eV,.bool false]:=eR.binds gA rfl fun _ _ _ _ _ _ us hl=>by have hl:us.length=3:=(by simpa using hl);obtain⟨_,_,_,rfl⟩:=afq hl;exact⟨_,rfl,rfl⟩
 have kB:Binds K _ ["self","name","leader","later","slow","is_turned"] [.bool false]:=eR.binds gA rfl fun _ _ _ _ _ _ us hl=>by have hl:us.length=5:=(by simpa using hl);obtain⟨_,_,_,_,_,rfl⟩:=afr hl;exact⟨_,rfl,rfl⟩
 have gY:=aS (st:=eO) n5 n6 n8;have nG:=gY.binds (ps:=["_law_voices","_law_name"]) fun _ _ _ _ _ _=>eL fun _ _=>rfl;have f7:=aS (st:=dR) ma md me;have lH:=f7.binds (ps:=["_law_voices","_law_deed"]) fun _ _ _ _ _ _=>eL fun _ _=>rfl;have qE:=aS (st:=qw) HL HM HN;have zH:=qE.binds (ps:=["_law_voices","_law_deed"]) fun _ _ _ _ _ _=>eL fun _ _=>rfl;have gZ:=aS (st:=eP) oa og oh;have nH:=gZ.binds (ps:=["_law_voices","_law_deed"]) fun _ _ _ _ _ _=>eL fun _ _=>rfl;have oV:=aS (st:=kO) yy yz yA;have xY:=oV.binds (ps:=["_law_stand","_law_deed"]) fun _ _ _ _ _ _=>eL fun _ _=>rfl;have cz:=aS (st:=kP) yC yD yE;have cW:=cz.binds (ps:=["_law_script","_law_k"]) fun _ _ _ _ _ _=>eL fun _ _=>rfl;have iE:=aS (st:=fO) pP pQ pR;have pC:=iE.binds (ps:=["_law_line","_law_deed","_law_at"]) fun _ _ _ _ _ _=>LN fun _ _ _=>rfl;have rj:=aS (st:=mV) BV BW BX;have AQ:=rj.binds (ps:=["_law_stand","_law_deed"]) fun _ _ _ _ _ _=>eL fun _ _=>rfl;have qq:=aS (st:=ij) wx wz qt;have jK:=qq.binds (ps:=["self","name"]) fun _ _ _ _ _ _=>eL fun _ _=>rfl;have kY:=aS (st:=qx) HQ HR HS;have qF:=kY.binds (ps:=["_law_found"]) fun _ _ _ _ _ _=>tF fun _=>rfl;have uR:=aS (st:=qy) HV HW HX;have FZ:=uR.binds (ps:=["_law_found","_law_due"]) fun _ _ _ _ _ _=>eL fun _ _=>rfl;have xZ:=aS (st:=uI) MB MC MD;have Lc:=xZ.binds (ps:=["_law_found","_law_due"]) fun _ _ _ _ _ _=>eL fun _ _=>rfl;have g4:=aS (st:=gU) rT rV rW;have lI:=g4.binds (ps:=["sign"]) fun _ _ _ _ _ _=>tF fun _=>rfl;have kC:=Ka (st:=mW) BZ B7 Ca;have vO:Binds K _ ["line","begin"] []:=kC.binds (ds:=[]) tM rfl fun _ _ _ _ _ _ us hl=>by obtain⟨_,_,rfl⟩:=acz hl;exact⟨_,rfl,rfl⟩
 have Jd:Binds K _ ["line","begin"] [.int 3 lr]:=kC.binds tM rfl fun _ _ _ _ _ _ us hl=>by have hl:us.length=1:=(by simpa using hl);obtain⟨_,rfl⟩:=YN hl;exact⟨_,rfl,rfl⟩
 have fQ:=aS (st:=qz) HZ Ia Ib;have iO:=fQ.binds (ps:=["line","at"]) fun _ _ _ _ _ _=>eL fun _ _=>rfl;have j7:=aS (st:=iN) uj uk um;have ua:=j7.binds (ps:=["kind","measure"]) fun _ _ _ _ _ _=>eL fun _ _=>rfl;have cZ:=aS (st:=cB) iW iX iY;have iU:=cZ.binds (ps:=["line","begin"]) fun _ _ _ _ _ _=>eL fun _ _=>rfl;have zI:=aS (st:=zA) RA RB DT;have Kh:=zI.binds (ps:=["sign"]) fun _ _ _ _ _ _=>tF fun _=>rfl;have F1:=Ka (st:=FF) XT XU XW;have VQ:Binds K _ ["line","begin"] []:=F1.binds (ds:=[]) Kj rfl fun _ _ _ _ _ _ us hl=>by obtain⟨_,_,rfl⟩:=acz hl;exact⟨_,rfl,rfl⟩
 have YA:Binds K _ ["line","begin"] [.int 3 xM]:=F1.binds Kj rfl fun _ _ _ _ _ _ us hl=>by have hl:us.length=1:=(by simpa using hl);obtain⟨_,rfl⟩:=YN hl;exact⟨_,rfl,rfl⟩
 have fR:=aS (st:=fP) pT pV pW;have kf:=fR.binds (ps:=["line","found","first"]) fun _ _ _ _ _ _=>LN fun _ _ _=>rfl;have eS:=aS (st:=eQ) oj om oo;have jL:=eS.binds (ps:=["line","behind"]) fun _ _ _ _ _ _=>eL fun _ _=>rfl;have gb:=aS (st:=dS) mh mi mj;have lJ:=gb.binds (ps:=["line","found","first","behind"]) fun _ _ _ _ _ _=>LO fun _ _ _ _=>rfl;have gf:=aS (st:=dU) mq mr mw;have lK:=gf.binds (ps:=["line","found","first","behind"]) fun _ _ _ _ _ _=>LO fun _ _ _ _=>rfl;have lL:=aS (st:=jF) wB wC wD;have vQ:=lL.binds (ps:=["line","found","first","behind"]) fun _ _ _ _ _ _=>LO fun _ _ _ _=>rfl;have uT:=aS (st:=qA) Ie Ig Ih;have F2:=uT.binds (ps:=["line","begin"]) fun _ _ _ _ _ _=>eL fun _ _=>rfl;have rl:=Ka (st:=uJ) MF MG MH;have DB:Binds K _ ["line","begin"] []:=rl.binds (ds:=[]) zM rfl fun _ _ _ _ _ _ us hl=>by obtain⟨_,_,rfl⟩:=acz hl;exact⟨_,rfl,rfl⟩
 have Og:Binds K _ ["line","begin"] [.int 3 q8]:=rl.binds zM rfl fun _ _ _ _ _ _ us hl=>by have hl:us.length=1:=(by simpa using hl);obtain⟨_,rfl⟩:=YN hl;exact⟨_,rfl,rfl⟩
 have uU:=aS (st:=uK) MJ MK ML;have DC:=uU.binds (ps:=["line"]) fun _ _ _ _ _ _=>tF fun _=>rfl;have oW:=aS (st:=dy) yG yH tN;have jw:=oW.binds (ps:=["self","name"]) fun _ _ _ _ _ _=>eL fun _ _=>rfl;have sJ:=aS (st:=fV) yJ yK tO;have sL:=sJ.binds (ps:=["self","name"]) fun _ _ _ _ _ _=>eL fun _ _=>rfl;have kZ:=aS (st:=kQ) yM yN yO;have sM:=kZ.binds (ps:=["_law_voices","_law_name"]) fun _ _ _ _ _ _=>eL fun _ _=>rfl;have x3:=aS (st:=uL) MO MP MQ;have Le:=x3.binds (ps:=["_law_line","_law_begin"]) fun _ _ _ _ _ _=>eL fun _ _=>rfl;have uV:=aS (st:=qB) Ij Ik Il;have F8:=uV.binds (ps:=["_law_line","_law_begin"]) fun _ _ _ _ _ _=>eL fun _ _=>rfl;have DF:=aS (st:=zB) RD RE RF;have Pf:=DF.binds (ps:=["_law_line","_law_told","_law_low","_law_high"]) fun _ _ _ _ _ _=>LO fun _ _ _ _=>rfl;have uW:=aS (st:=uM) MS MT MU;have DG:=uW.binds (ps:=["_law_line","_law_begin"]) fun _ _ _ _ _ _=>eL fun _ _=>rfl;have oX:=aS (st:=kR) yQ yR yS;have x6:=oX.binds (ps:=["_law_voices","_law_name"]) fun _ _ _ _ _ _=>eL fun _ _=>rfl;have rm:=aS (st:=mX) Cc Cd Ce;have AU:=rm.binds (ps:=["_law_book","_law_voices"]) fun _ _ _ _ _ _=>eL fun _ _=>rfl;have bP:=aS (st:=bN) i0 i4 i5;have c0:=bP.binds (ps:=["at","last"]) fun _ _ _ _ _ _=>eL fun _ _=>rfl;have Lf:=aS (st:=FG) XY XZ X0;have VT:=Lf.binds (ps:=["sign"]) fun _ _ _ _ _ _=>tF fun _=>rfl;have dW:=aS (st:=cL) my mz mB;have jd:=dW.binds (ps:=["sign"]) fun _ _ _ _ _ _=>tF fun _=>rfl;have uX:=aS (st:=qC) Io Ip Iq;have F9:=uX.binds (ps:=["line","at"]) fun _ _ _ _ _ _=>eL fun _ _=>rfl;have rq:=aS (st:=mY) Cg Ci Cj;have AV:=rq.binds (ps:=["line","first","kinds"]) fun _ _ _ _ _ _=>LN fun _ _ _=>rfl;have rA:=aS (st:=uN) MW MX MY;have x8:=rA.binds (ps:=["line","at","behind","changed"]) fun _ _ _ _ _ _=>LO fun _ _ _ _=>rfl;have vR:=aS (st:=gC) Cm Cn wH;have AW:=vR.binds (ps:=["self","name","at","sign"]) fun _ _ _ _ _ _=>LO fun _ _ _ _=>rfl;have vS:=aS (st:=jn) Cp Cq wI;have AX:=vS.binds (ps:=["self","name","at"]) fun _ _ _ _ _ _=>LN fun _ _ _=>rfl;have sN:=aS (st:=fW) yW yX tP;have x9:=sN.binds (ps:=["self","name","at","sign"]) fun _ _ _ _ _ _=>LO fun _ _ _ _=>rfl;have sO:=aS (st:=hV) yZ y8 tQ;have ya:=sO.binds (ps:=["self","name"]) fun _ _ _ _ _ _=>eL fun _ _=>rfl;have sP:=aS (st:=kS) za zb tR;have yb:=sP.binds (ps:=["self"]) fun _ _ _ _ _ _=>tF fun _=>rfl;have sQ:=aS (st:=jo) zd ze tS;have yc:=sQ.binds (ps:=["self"]) fun _ _ _ _ _ _=>tF fun _=>rfl;have sR:=aS (st:=jq) zg zh tT;have yd:=sR.binds (ps:=["self"]) fun _ _ _ _ _ _=>tF fun _=>rfl;have Lg:=aS (st:=kq) X2 X3 X4;have VW:=Lg.binds (ps:=["_law_book","_law_deed","_law_at"]) fun _ _ _ _ _ _=>LN fun _ _ _=>rfl;have uY:=aS (st:=mZ) Iu Iv Iw;have Gb:=uY.binds (ps:=["_law_book","_law_deed","_law_at"]) fun _ _ _ _ _ _=>LN fun _ _ _=>rfl;have YB:=aS (st:=uO) acV acW acX;have afi:=YB.binds (ps:=["_law_script"]) fun _ _ _ _ _ _=>tF fun _=>rfl;have T:Txt K w mg ⟨_,_,_,_,_,_,_,_,_,_,_,_,_,_,_,_,_,_,_,_,_,_,_,_,_,_,_,eU,eV,_,_,_,_,_,_,_,_,_,_,_,_,_,_,_,_,_,_,_,_,_,_,_,_,_,_,_,_,_,lr,_,_,_,_,_,_,_,_,_,_,_,xM,_,_,_,_,_,_,_,_,_,_,_,_,_,_,_,q8,_,_,_,_,_,_,_,_,_,_,_,_,_,_,_,_,_,_,_,_,_,_,_,_,_,_,_,_,_,_,_,_,_,_,_,_,_,_,_,_,_,_,_,_,_,_,_,_,_,_,_,_,eJ,gF,d3,cV,dn,eX,lz,dC,dD,cg,qm,ja,kc,lB,zD,lC,oC,qo,Dy,zE,dr,bq,aY,aT,aK,cq,aU,aP,aV,aW,aX,bj,bo⟩:=⟨kd,pB,uQ,FX,mg_of X G HD,qp,jG,⟨wo,ud,qr⟩,jb,jc,⟨lU,kD,jf⟩,zF,zG,⟨HH,BS,zL⟩,lD,eY,⟨rO,pJ,lX⟩,ke,d4,oF,oG,⟨ue,rR,oJ⟩,jH,jI,jJ,gX,⟨nS,lZ,jQ⟩,gK,cu,⟨jX,jz,gN⟩,ip,dq,⟨kE,j0,iy⟩,eR,lF,kB,nF,⟨nX,l8,jR⟩,gY,nG,mg_of X G n0,f7,lH,mg_of X G l9,qE,zH,mg_of X G HK,gZ,nH,mg_of X G n9,oV,xY,mg_of X G yx,cz,cW,mg_of X G yB,iE,pC,mg_of X G pO,rj,AQ,mg_of X G BU,qq,jK,⟨wu,uh,qt⟩,kY,qF,mg_of X G HP,uR,FZ,mg_of X G HU,xZ,Lc,mg_of X G MA,g4,lI,mg_of X G rS,kC,Jd,vO,mg_of X G BY,fQ,iO,mg_of X G HY,j7,ua,mg_of X G ui,cZ,iU,mg_of X G iV,zI,Kh,mg_of X G Rz,F1,YA,VQ,mg_of X G XR,fR,kf,mg_of X G pS,eS,jL,mg_of X G oi,gb,lJ,mg_of X G mf,gf,lK,mg_of X G mn,lL,vQ,mg_of X G wA,uT,F2,mg_of X G Ic,rl,Og,DB,mg_of X G ME,uU,DC,mg_of X G MI,oW,jw,⟨yF,wF,tN⟩,sJ,sL,⟨yI,wG,tO⟩,kZ,sM,mg_of X G yL,x3,Le,mg_of X G MN,uV,F8,mg_of X G Ii,DF,Pf,mg_of X G RC,uW,DG,mg_of X G MR,oX,x6,mg_of X G yP,rm,AU,mg_of X G Cb,bP,c0,mg_of X G iZ,Lf,VT,mg_of X G XX,dW,jd,mg_of X G mx,uX,F9,mg_of X G Im,rq,AV,mg_of X G Cf,rA,x8,mg_of X G MV,vR,AW,⟨Ck,yT,wH⟩,vS,AX,⟨Co,yU,wI⟩,sN,x9,⟨yV,wJ,tP⟩,sO,ya,⟨yY,wK,tQ⟩,sP,yb,⟨y9,wL,tR⟩,sQ,yc,⟨zc,wN,tS⟩,sR,yd,⟨zf,wO,tT⟩,Lg,VW,mg_of X G X1,uY,Gb,mg_of X G Ir,YB,afi,mg_of X G YS,mg_none_of X G acY,mg_none_of X G acZ,mg_none_of X G X5,mg_none_of X G X6,mg_none_of X G zi,mg_none_of X G ac0,mg_none_of X G wQ,mg_none_of X G ac1,mg_none_of X G X7,mg_none_of X G ac2,mg_none_of X G ac3,mg_none_of X G RG,mg_none_of X G ac4,mg_none_of X G RH,mg_none_of X G ac5,mg_of X G rX,(fun H=>.inr ⟨_,_,_,rY,rfl,rfl,(by show 3<=sizeLine;decide),(.cons ⟨_,rfl⟩ (.cons ⟨_,rfl⟩ (.cons ⟨_,rfl⟩ .nil)))⟩),mg_of X G rZ,(fun H=>.inr ⟨_,_,_,r6,rfl,rfl,(by show 3<=sizeLine;decide),(.cons ⟨_,rfl⟩ (.cons ⟨_,rfl⟩ (.cons ⟨_,rfl⟩ .nil)))⟩),mg_of X G oq,(fun H=>.inr ⟨_,_,_,ot,rfl,rfl,(by show 3<=sizeLine;decide),(.cons ⟨_,rfl⟩ (.cons ⟨_,rfl⟩ (.cons ⟨_,rfl⟩ .nil)))⟩),mg_of X G ou,(fun H=>.inr ⟨_,_,_,ow,rfl,rfl,(by show 2<=sizeLine;decide),(.cons ⟨_,rfl⟩ (.cons ⟨_,rfl⟩ .nil))⟩),mg_of X G mC,(fun H=>.inr ⟨_,_,_,mD,rfl,rfl,(by show 4<=sizeLine;decide),(.cons ⟨_,rfl⟩ (.cons ⟨_,rfl⟩ (.cons ⟨_,rfl⟩ (.cons ⟨_,rfl⟩ .nil))))⟩),mg_of X G pX,(fun H=>.inr ⟨_,_,_,pY,rfl,rfl,(by show 5<=sizeLine;decide),(.cons ⟨_,rfl⟩ (.cons ⟨_,rfl⟩ (.cons ⟨_,rfl⟩ (.cons ⟨_,rfl⟩ (.cons ⟨_,rfl⟩ .nil)))))⟩),mg_of X G pZ,mg_of X G p3,⟨p5,_,_,p4,(.cons ⟨_,rfl⟩ (.cons ⟨_,rfl⟩ .nil)),by lk⟩,mg_of X G p6,⟨p8,_,_,p7,(.cons ⟨_,rfl⟩ (.cons ⟨_,rfl⟩ (.cons ⟨_,rfl⟩ (.cons ⟨_,rfl⟩ (.cons ⟨_,rfl⟩ (.cons ⟨_,rfl⟩ (.cons ⟨_,rfl⟩ (.cons ⟨_,rfl⟩ (.cons ⟨_,rfl⟩ .nil))))))))),by lk⟩,mg_of X G mE,⟨mG,_,_,mF,(.cons ⟨_,rfl⟩ (.cons ⟨_,rfl⟩ .nil)),by lk⟩,mg_of X G uo,mg_of X G kH,mg_of X G ox,mg_of X G p9,mg_of X G Cr,mg_of X G qa,mg_of X G r9,mg_of X G uq,mg_of X G Iy,mg_of X G Ct,mg_of X G Mz,⟨Iz,nN,lY,IA⟩,⟨MZ,M0,M3,M4⟩,gG,cP,cC,mg_of X G Rx,⟨M5,pK,nM,M6⟩,⟨RI,RJ,RK,RL⟩,eZ,iu,e8,gH,mg_of X G Ry,⟨M7,pF,nK,M8⟩,⟨RM,RN,RO,RP⟩,bL,eE,cQ,mg_of X G Cu,mg_of X G wR,mg_of X G RQ,mg_of X G Cv,mg_of X G zj,mg_of X G Cw,mg_of X G Cy,mg_of X G Cz,mg_of X G IB,mg_of X G IC,⟨CA,CC,CF,CG⟩,⟨wU,wV,wW,wX⟩,⟨RS,RT,RU,RV⟩,⟨CH,CI,CJ,CK⟩,⟨zk,zm,zo,zp⟩,⟨CL,CM,CN,CO⟩,⟨CP,CQ,CS,CU⟩,⟨CW,CY,CZ,C0⟩,⟨ID,IE,IF,IG⟩,⟨IH,II,IJ,IK⟩,e9,dF,cR,iF,gj,lN,fb,dG,iG,fc,d9,c6,g5,ee,dH,ff,dJ,iH,fg,eh,fh,fi,fk,fm,dM,iI,fo,en,fq,fu,dN,iJ,fA,et,fB,fD,gk,eA,jx,gm,fE,gn,gp,gq,g6,gs,eB,jy,gu,fF,gw,gx,gy,g7,g8⟩;exact⟨_,fun s v=>.of_eq rfl,fun base _ _=>agL T⟩
theorem walk {l:OpenLaw}{q:Program}{loose:List Str}{XP:(Str->Option Value)->Heap->Prop}{YP:World->Heap->Prop}{d:DefRec}{K:Params->Frag}(hn:l.most=some 63)(hdf:d.params.defaults=[])
  (hY:∀(w:World)(h:Heap),YP w h->(K w.params).In h)
  (F:∀(w:World)(mg:Str->Option Value)(fa:Addr)(h:Heap),(K w.params).In h->h.Ns mainGlobals mg->mg d.name=some (.ref fa) ->
   ∃ fd:FuncData,(∀(s:Shared)(u:Value),BindsTo s fd ⟨[u],[]⟩ [("_law_script",u)])/\∀ base:Heap,(K w.params).In base->base.Ns mainGlobals mg->bE l.prog w (K w.params) mg base mJ 9 fa fd ["_law_script"] (KC (K w.params))) :
  WalkO q loose XP YP l.row.toRowW d [] (fun f vs=>PySem.call f vs) :=
 L2.adv (n:=63) (k:=9) (x:="_law_script") (CX:=fun _=>mJ) (sp:=fun w=>KC (K w.params)) hn (by decide) hdf ⟨rfl,by decide,by decide⟩ hY F (fun _ H a ns hl hO hS=>Zn hl hO hS) fun _ _ _ _ _ z=>z
end Fz
namespace PySem.W.Fast
def tw18244068873184714626:=()
def tw17126817254961826728:=()
def tw16020874401603540586:=()
def tw15439381547220787953:=()
def tw5491522306823827545:=()
def tw14817136450379165300:=()
def tw11909966378103423936:=()
def tw9027224202785503804:=()
def tw14387535179485717820:=()
def tw17402097942911900088:=()
def tw2072531226907643662:=()
def tw14338238995029609926:=()
def tw5728659569087006753:=()
def tw8679595939440553356:=()
def tw2838969457979016000:=()
def tw8091023913694668026:=()
def tw9919332532964386364:=()
def tw8462009058862042327:=()
def tw7097313480999733219:=()
def tw12950460935794988083:=()
def tw3142062753571884318:=()
def tw8743992558630998095:=()
def tw11149828343386416008:=()
def tw12312827588717119159:=()
def tw9828244770443640939:=()
def tw7900654445030260942:=()
def tw3687932437816245036:=()
def tw6558275471729406144:=()
def tw3074721859876816815:=()
def tw7795644248252328784:=()
def tw13541202673413565714:=()
def tw727725251870734046:=()
def tw12744046273766555436:=()
def tw14919887631184989136:=()
def tw16306858325219769502:=()
def tw7195766351287073430:=()
def tw14506870772780563527:=()
def tw8081693180525486199:=()
def tw12784183211336748668:=()
def tw9688379129297772666:=()
def tw17652437847929326910:=()
def tw5931522985079837871:=()
def tw7687677024814014719:=()
def tw14777910234535947490:=()
def tw10667784140048196409:=()
def tw11478659885602392843:=()
def tw14943301703961945192:=()
def tw5633978601115043201:=()
def tw14375127123453592996:=()
def tw13790987145504478930:=()
def tw12887139841293357875:=()
def tw16352595902299055778:=()
def tw14464020815497999327:=()
def tw14829454715774162831:=()
def tw3226867894308234346:=()
def tw9993972182752722016:=()
def tw6310941200474475856:=()
def tw4254680075877416466:=()
def tw7804238761784482992:=()
def tw12389290718865465803:=()
def tw13925753695003242118:=()
def tw14315446654434041273:=()
def tw640976191046066618:=()
def tw14238093662484685485:=()
def tw6886976749955207736:=()
def tw4949221334922228497:=()
def tw328952822179159759:=()
def tw2810166179589931228:=()
def tw4040070093646303866:=()
def tw17524425279076093727:=()
def tw18408078623992345623:=()
def tw11624176089171034701:=()
def tw5319808637953685153:=()
def tw10454231357696954330:=()
def tw2499121847088613908:=()
def tw17945384041098828188:=()
def tw12242233578238772163:=()
def tw15970569394116752810:=()
def tw5736671813026145053:=()
def tw14087725330508287601:=()
def tw11640912191635638195:=()
def tw8687689367514885974:=()
def tw687217241649478838:=()
def tw8671714134186140284:=()
def tw4980283037352124745:=()
def tw9899008849281950703:=()
def tw5358416506060012178:=()
def tw14149956732785702771:=()
def tw10516046321054578089:=()
def tw7179178366685488221:=()
def tw14978320759682552907:=()
def tw2125241151898697019:=()
def tw17994013989856127235:=()
def tw96237584916060845:=()
def tw16358220651298398793:=()
def tw10873172038873538439:=()
def tw4284595046311717097:=()
def tw8783214684993061397:=()
def tw9079219720530804148:=()
def tw682328146715831017:=()
def tw11452619541004221763:=()
def tw9851826097534462275:=()
def tw15057149419468284810:=()
def tw18027893213103814189:=()
def tw5131520892098100763:=()
def tw338286912079509052:=()
def tw6326511491952862180:=()
def tw3229726810858129967:=()
def tw17525477544156263871:=()
def tw13966081364970553070:=()
def tw12915606174481099593:=()
def tw18043785433308218044:=()
def tw10421719477415216797:=()
def tw13982169630261315081:=()
def tw13798122988152868553:=()
def tw11768030292633829090:=()
def tw7824254865962955799:=()
def tw2642026118315698196:=()
def tw11729647718940997:=()
def tw11829943208146454445:=()
def tw16092567015785613339:=()
def tw3698289163845755973:=()
def tw16379611180869238910:=()
def tw18260665237047169012:=()
def tw256234524326641189:=()
def tw12261360528958308189:=()
def tw5695365720702075414:=()
def tw2881047337417283426:=()
def tw8625345195290462192:=()
def tw3292480254917537704:=()
def tw18143948490995588894:=()
def tw6799652532180760089:=()
def tw11419348664177556742:=()
def tw16912963767570455665:=()
def tw7398592056359817161:=()
def tw18069808996394824718:=()
def tw8253672984525786242:=()
def tw18042098633013372522:=()
def tw4029992133530231427:=()
def tw12779310235936058583:=()
def tw975294876755806405:=()
def tw7845157473988444491:=()
def tw18249827222965504792:=()
def tw16054168163069923600:=()
def tw12091200061991495898:=()
def tw10389467009076227628:=()
def tw7565200678838018059:=()
def tw4291638634092795721:=()
def tw7383618318436010984:=()
def tw5377412704763726510:=()
def tw15320014049090770889:=()
def tw1001251578714068178:=()
def tw5445851004100247437:=()
def tw1836113184178989661:=()
def tw8872199428821457623:=()
def tw3758970203360508605:=()
def tw15532850901741469036:=()
def tw3658815708963190971:=()
def tw1702275799986751153:=()
def tw10614441946571508368:=()
def tw13885649686206877197:=()
def tw2112614680351978408:=()
def tw10410245453337873591:=()
def tw499023413126446099:=()
def tw6032820377731308362:=()
def tw12108287025573003153:=()
def tw6559854517800672917:=()
def tw10686228355999707443:=()
def tw7831121708908336450:=()
def tw1441282557616361272:=()
def tw16547560703791123193:=()
def tw4610021571087567627:=()
def tw6734563524309975081:=()
def tw8841825984235996137:=()
def tw14736227448204320319:=()
def tw17819163310019717563:=()
def tw4283856725423160644:=()
def tw14726710688193529800:=()
def tw13165145567111554947:=()
def tw7696410279648282402:=()
def tw14925516227296021682:=()
def tw5634000459139734342:=()
def tw14589691033102784964:=()
def tw248358023893343031:=()
def tw5922653555155616849:=()
def tw15854715560309614955:=()
def tw8130959797563292484:=()
def tw5788624376315416047:=()
def tw8769808824755505632:=()
def tw11003407182551605148:=()
def tw9111614499185720260:=()
def tw7102831151428989500:=()
def tw9363785167036458027:=()
def tw4763014643726367027:=()
def tw635497476254593201:=()
def tw1615766503660126948:=()
def tw3610486734367915820:=()
def tw4491971819549422330:=()
def tw9396268542928925915:=()
def tw16183827880547250548:=()
def tw15483328126031062412:=()
def tw10010495772174297619:=()
def tw15446432091698999362:=()
def tw4223876773150073367:=()
def tw15548913588938742114:=()
def tw17745378564184452675:=()
def tw4944349796517324220:=()
def tw10581107335708647144:=()
def tw17767498372230526742:=()
def tw15546746026402803196:=()
def tw3426996576014110412:=()
def tw13510363412954251566:=()
def tw4304511150520564565:=()
def tw539745802751455706:=()
def tw13868268816402329993:=()
def tw379376331589541375:=()
def tw5851780823425309885:=()
def tw15314155376527325538:=()
def tw15354492580635355434:=()
def tw15301141437680004752:=()
def tw9927854639882708109:=()
def tw9315078162363017571:=()
def tw8755971929848795221:=()
def tw292011234792725457:=()
def tw14853068930034303277:=()
def tw4129532578627619971:=()
def tw14025540796674890445:=()
def tw17210145162721870254:=()
def tw10492911935002669405:=()
def tw12321174465069475368:=()
def tw5675861687051716226:=()
def tw9354152529578536374:=()
def tw1871615355898548063:=()
def tw4958751269915628637:=()
def tw5887023317345693035:=()
def tw6432284106643687909:=()
def tw12056263589409841455:=()
def tw15086293519720493015:=()
def tw15780216938596895726:=()
def tw13866733505259567750:=()
def tw12653925440908002112:=()
def tw9369787483009776659:=()
def tw15937897655868426366:=()
def tw3286009771370725157:=()
def tw10367272433884136177:=()
def tw2674105908290915031:=()
def tw11439659776952213028:=()
def tw8360636437336417847:=()
def tw4720447616653797624:=()
def tw13599045753539552186:=()
def tw17864648650883881933:=()
def tw2967883698548572833:=()
def tw3230593894058860150:=()
def tw12062382872139712965:=()
def tw16585552651487256726:=()
def tw654155716182103525:=()
def tw15748472839851848497:=()
def tw6028487380930650651:=()
def tw7046443038401504224:=()
def tw3721014069498553739:=()
def tw3170764667883437000:=()
def tw15532723742627443882:=()
def tw15508985782653567410:=()
def tw6593154346118144105:=()
def tw699309059978516796:=()
def tw7547526329439960968:=()
def tw2241013822434790100:=()
def tw638167704995143002:=()
def tw12281564210518920036:=()
def tw8768858151480742642:=()
def tw6480564091484691107:=()
def tw2137812113079329690:=()
def tw15405002690396547324:=()
def tw5342462283815706394:=()
def tw9298130897406171087:=()
def tw5244926346534091688:=()
def tw14341387949336281694:=()
def tw1114184091658009773:=()
def tw2187769463893448380:=()
def tw3795683902501460829:=()
def tw15539800582250015410:=()
def tw10783634510344291630:=()
def tw15858652396772065937:=()
def tw12242980724434060673:=()
def tw5048159044513568397:=()
def tw3468013464021753746:=()
def tw13400042274747336431:=()
def tw10416799732616293503:=()
def tw18212086519403065665:=()
def tw616763184100122794:=()
def tw9907691225910637666:=()
def tw10568938573566490554:=()
def tw17421516418198049461:=()
def tw3112557989950474089:=()
def tw5129779829309858417:=()
def tw18210755642597171304:=()
def tw3027325068834524569:=()
def tw17038862735799666504:=()
def tw2136352508388844223:=()
def tw6793852815742753719:=()
def tw1898998640172388686:=()
def tw10482154500897814800:=()
def tw2641667786436309021:=()
def tw17284639695200527789:=()
def tw784541886877154567:=()
def tw12122109153751635102:=()
def tw7251712308103837973:=()
def tw1514723349771474486:=()
def tw5565220115559305928:=()
def tw8254714769705067084:=()
def tw8660946050256665804:=()
def tw8828594837034758085:=()
def tw13263430483315087036:=()
def tw5771584893945258209:=()
def tw4964631331988376892:=()
def tw14194463048079383957:=()
def tw17501233763054773072:=()
def tw13600947212277612476:=()
def tw11882239163517111998:=()
def tw11403515327487727260:=()
def tw6993137392255221841:=()
def tw9542091109176637726:=()
def tw3973679742970649131:=()
def tw15458069604231242033:=()
def tw17191490028141040838:=()
def tw10130069282420630574:=()
def tw4301970358155959426:=()
def tw18232961186467491429:=()
def tw12036247504003381416:=()
def tw15836710557372106898:=()
def tw6995898235114905675:=()
def tw3822760430574254696:=()
def tw12736610334039579691:=()
def tw1186492689306112252:=()
def tw688846390279997498:=()
def tw5371131210599126974:=()
def tw13718200048677935714:=()
def tw8175122068399010344:=()
def tw828739766564697702:=()
def tw2487057139953224144:=()
def tw3654376351914425269:=()
def tw6928861454297249378:=()
def tw12015482696901385077:=()
def tw1147043212696560754:=()
def tw11140276153240032637:=()
def tw14906143690744685921:=()
def tw12895372657300128072:=()
def tw14144423021878450076:=()
def tw15939190819734615687:=()
def tw586083673840990651:=()
def tw17313782344659668047:=()
def tw1674835183244130844:=()
def tw15896908875282766257:=()
def tw6416748633766796663:=()
def tw9942549909045331191:=()
def tw3370629340515370148:=()
def tw12809626685918395462:=()
def tw5620103498784009852:=()
def tw11798880285346535564:=()
def tw2156386474538465580:=()
def tw15842176025714650265:=()
def tw10934381445725159158:=()
def tw3123741915616717095:=()
def tw6813762740865805474:=()
def tw15155799700063730452:=()
def tw16005204820536266193:=()
def tw5654042482711384321:=()
def tw9622465268494846665:=()
def tw8644574475795989197:=()
def tw17022904113822389992:=()
def tw7607137721141672092:=()
def tw15415169228760767420:=()
def tw8871829448694357019:=()
def tw17639579797934507699:=()
def tw13036378268143792975:=()
def tw16606841688148078738:=()
def tw15799131653869307585:=()
def tw2774124702719323593:=()
def tw263456358269652957:=()
def tw3145336398142638497:=()
def tw16570545506355180783:=()
def tw5063975063612631468:=()
def tw14399868894262622681:=()
def tw16624898920430305935:=()
def tw7774590852922145043:=()
def tw2549673258072823472:=()
def tw6688551540518520815:=()
def tw10572363715753154900:=()
def tw16425526833776000077:=()
def tw18380993517404208335:=()
def tw4507815171134611891:=()
def tw10115133131366256419:=()
def tw17570953183276170993:=()
def tw18408823227458732417:=()
def tw9924840722177169953:=()
def tw5221937393193352807:=()
def tw10742082582168180010:=()
def tw5479505091106397941:=()
def tw10971601733566148115:=()
def tw11930251050792010894:=()
def tw15054495113326132803:=()
def tw4852647498595324415:=()
def tw12217476381983326759:=()
def tw11029462408488058489:=()
def tw4505335960262399778:=()
def tw10361662334787146423:=()
def tw9602818554438017766:=()
def tw12730074919651222975:=()
def tw16767811483902764429:=()
def tw8904261917746450487:=()
def tw3366414672984986273:=()
def tw4254933017612271036:=()
def tw13266372911174356544:=()
def tw2136301206234849899:=()
def tw11506882340954536755:=()
def tw10125588807898317006:=()
def tw11876715927176136998:=()
def tw15872663799809377601:=()
def tw1029177791130311469:=()
def tw7517971597895343830:=()
def tw8587583342529909488:=()
def tw12672898201072155568:=()
def tw13432212411695920417:=()
def tw15512132032042382785:=()
def tw16887113850455775110:=()
def tw6292875620311340197:=()
def tw2015309683529147523:=()
def tw2924565849381239567:=()
def tw6377253110105244339:=()
def tw14036339455449234470:=()
def tw15304938404467051477:=()
def tw12719457143160829010:=()
def tw16302670137398170775:=()
def tw525026035357154297:=()
def tw8588072096746110741:=()
def tw1956531738124077426:=()
def tw11269288754358039487:=()
def tw15361248807643743396:=()
def tw5952823594235432619:=()
def tw5749757598749146873:=()
def tw11159037528850750292:=()
def tw10446804661939028311:=()
def tw14624086766432763500:=()
def tw6935272834684091820:=()
def tw13668050555230309278:=()
def tw14385336907273114966:=()
def tw9230545459055808481:=()
def tw18246299966031652607:=()
def tw3094773077659701111:=()
def tw3177891620698533993:=()
def tw14561913905537859155:=()
def tw2983464331031321732:=()
def tw1250520355371558034:=()
def tw8866124712795870865:=()
def tw11214593749620791922:=()
def tw9064437903418412666:=()
def tw6966228795893287873:=()
def tw7336147405793796020:=()
def tw9337705961286813142:=()
def tw10249324045053644163:=()
def tw4331489737583601288:=()
end PySem.W.Fast
open PySem PySem.W PyProof.Rows
set_option maxRecDepth 100000 in
set_option maxHeartbeats 0 in
theorem PySem.Challenge.cw_noteworth_k39_terms_of_canons_holds : PySem.Challenge.rw_noteworth_k39_terms_of_canons.Holds := by
 w_on;o_law;k_head;(case hw=>w_witness2)
 k_fill
 refine Fz.walk (l:=PySem.Challenge.rw_noteworth_k39_terms_of_canons) rfl rfl (fun w h Y=>PySem.W.kIn_of Y) ?F
 case F =>
  intro w mg fa h KX G hmg
  refine' Fz.all_mk KX G hmg ?Mz ?Rx ?Ry ?pF ?pG ?pH ?pI ?nK ?HD ?HE ?HF ?HG ?wo ?wq ?wt ?qr ?ud ?lU ?lV ?lW ?jf ?kD ?HH ?HI ?HJ ?zL ?BS ?rO ?rP ?rQ ?lX ?pJ ?pK ?pL ?pM ?pN ?nM ?ue ?uf ?ug ?oJ ?rR ?nN ?nP ?nQ ?nR ?lY ?nS ?nV ?nW ?jQ ?lZ ?jX ?jY ?jZ ?gN ?jz ?kE ?kF ?kG ?iy ?j0 ?nX ?nY ?nZ ?jR ?l8 ?gA ?n0 ?n5 ?n6 ?n8 ?l9 ?ma ?md ?me ?HK ?HL ?HM ?HN ?n9 ?oa ?og ?oh ?yx ?yy ?yz ?yA ?yB ?yC ?yD ?yE ?pO ?pP ?pQ ?pR ?BU ?BV ?BW ?BX ?wu ?wx ?wz ?qt ?uh ?HP ?HQ ?HR ?HS ?HU ?HV ?HW ?HX ?MA ?MB ?MC ?MD ?rS ?rT ?rV ?rW ?BY ?BZ ?B7 ?Ca ?tM ?HY ?HZ ?Ia ?Ib ?ui ?uj ?uk ?um ?iV ?iW ?iX ?iY ?Rz ?RA ?RB ?DT ?XR ?XT ?XU ?XW ?Kj ?pS ?pT ?pV ?pW ?oi ?oj ?om ?oo ?mf ?mh ?mi ?mj ?mn ?mq ?mr ?mw ?wA ?wB ?wC ?wD ?Ic ?Ie ?Ig ?Ih ?ME ?MF ?MG ?MH ?zM ?MI ?MJ ?MK ?ML ?yF ?yG ?yH ?tN ?wF ?yI ?yJ ?yK ?tO ?wG ?yL ?yM ?yN ?yO ?MN ?MO ?MP ?MQ ?Ii ?Ij ?Ik ?Il ?RC ?RD ?RE ?RF ?MR ?MS ?MT ?MU ?yP ?yQ ?yR ?yS ?Cb ?Cc ?Cd ?Ce ?iZ ?i0 ?i4 ?i5 ?XX ?XY ?XZ ?X0 ?mx ?my ?mz ?mB ?Im ?Io ?Ip ?Iq ?Cf ?Cg ?Ci ?Cj ?MV ?MW ?MX ?MY ?Ck ?Cm ?Cn ?wH ?yT ?Co ?Cp ?Cq ?wI ?yU ?yV ?yW ?yX ?tP ?wJ ?yY ?yZ ?y8 ?tQ ?wK ?y9 ?za ?zb ?tR ?wL ?zc ?zd ?ze ?tS ?wN ?zf ?zg ?zh ?tT ?wO ?X1 ?X2 ?X3 ?X4 ?Ir ?Iu ?Iv ?Iw ?YS ?acV ?acW ?acX ?acY ?acZ ?X5 ?X6 ?zi ?ac0 ?wQ ?ac1 ?X7 ?ac2 ?ac3 ?RG ?ac4 ?RH ?ac5 ?rX ?rY ?rZ ?r6 ?oq ?ot ?ou ?ow ?mC ?mD ?pX ?pY ?pZ ?p3 ?p4 ?p5 ?p6 ?p7 ?p8 ?mE ?mF ?mG ?uo ?kH ?ox ?p9 ?Cr ?qa ?r9 ?uq ?Iy ?Ct ?Iz ?IA ?MZ ?M0 ?M3 ?M4 ?gG ?cP ?cC ?M5 ?M6 ?RI ?RJ ?RK ?RL ?eZ ?iu ?e8 ?gH ?M7 ?M8 ?RM ?RN ?RO ?RP ?bL ?eE ?cQ ?Cu ?wR ?RQ ?Cv ?zj ?Cw ?Cy ?Cz ?IB ?IC ?CA ?CC ?CF ?CG ?wU ?wV ?wW ?wX ?RS ?RT ?RU ?RV ?CH ?CI ?CJ ?CK ?zk ?zm ?zo ?zp ?CL ?CM ?CN ?CO ?CP ?CQ ?CS ?CU ?CW ?CY ?CZ ?C0 ?ID ?IE ?IF ?IG ?IH ?II ?IJ ?IK ?e9 ?dF ?cR ?iF ?gj ?lN ?fb ?dG ?iG ?fc ?d9 ?c6 ?g5 ?ee ?dH ?ff ?dJ ?iH ?fg ?eh ?fh ?fi ?fk ?fm ?dM ?iI ?fo ?en ?fq ?fu ?dN ?iJ ?fA ?et ?fB ?fD ?gk ?eA ?jx ?gm ?fE ?gn ?gp ?gq ?g6 ?gs ?eB ?jy ?gu ?fF ?gw ?gx ?gy ?g7 ?g8
  (case Mz|Rx|Ry|pF|pG|pH|pI|nK|HD|HE|HF|HG|wo|wq|wt|qr|ud|lU|lV|lW|jf|kD|HH|HI|HJ|zL|BS|rO|rP|rQ|lX|pJ|pK|pL|pM|pN|nM|ue|uf|ug|oJ|rR|nN|nP|nQ|nR|lY|nS|nV|nW|jQ|lZ|jX|jY|jZ|gN|jz|kE|kF|kG|iy|j0|nX|nY|nZ|jR|l8|gA|n0|n5|n6|n8|l9|ma|md|me|HK|HL|HM|HN|n9|oa|og|oh|yx|yy|yz|yA|yB|yC|yD|yE|pO|pP|pQ|pR|BU|BV|BW|BX|wu|wx|wz|qt|uh|HP|HQ|HR|HS|HU|HV|HW|HX|MA|MB|MC|MD|rS|rT|rV|rW|BY|BZ|B7|Ca|tM|HY|HZ|Ia|Ib|ui|uj|uk|um|iV|iW|iX|iY|Rz|RA|RB|DT|XR|XT|XU|XW|Kj|pS|pT|pV|pW|oi|oj|om|oo|mf|mh|mi|mj|mn|mq|mr|mw|wA|wB|wC|wD|Ic|Ie|Ig|Ih|ME|MF|MG|MH|zM|MI|MJ|MK|ML|yF|yG|yH|tN|wF|yI|yJ|yK|tO|wG|yL|yM|yN|yO|MN|MO|MP|MQ|Ii|Ij|Ik|Il|RC|RD|RE|RF|MR|MS|MT|MU|yP|yQ|yR|yS|Cb|Cc|Cd|Ce|iZ|i0|i4|i5|XX|XY|XZ|X0|mx|my|mz|mB|Im|Io|Ip|Iq|Cf|Cg|Ci|Cj|MV|MW|MX|MY|Ck|Cm|Cn|wH|yT|Co|Cp|Cq|wI|yU|yV|yW|yX|tP|wJ|yY|yZ|y8|tQ|wK|y9|za|zb|tR|wL|zc|zd|ze|tS|wN|zf|zg|zh|tT|wO|X1|X2|X3|X4|Ir|Iu|Iv|Iw|YS|acV|acW|acX|acY|acZ|X5|X6|zi|ac0|wQ|ac1|X7|ac2|ac3|RG|ac4|RH|ac5|rX|rY|rZ|r6|oq|ot|ou|ow|mC|mD|pX|pY|pZ|p3|p4=>k_is)
  (case p5=>rfl)
  (case p6|p7=>k_is)
  (case p8=>rfl)
  (case mE|mF=>k_is)
  (case mG=>rfl)
  (case uo|kH|ox|p9|Cr|qa|r9|uq|Iy|Ct|Iz|IA|MZ|M0|M3|M4|gG|cP|cC|M5|M6|RI|RJ|RK|RL|eZ|iu|e8|gH|M7|M8|RM|RN|RO|RP|bL|eE|cQ|Cu|wR|RQ|Cv|zj|Cw|Cy|Cz|IB|IC=>k_is)
  (case CA=>k_exc)
  (case CC|CF|CG=>k_is)
  (case wU=>k_exc)
  (case wV|wW|wX=>k_is)
  (case RS=>k_exc)
  (case RT|RU|RV=>k_is)
  (case CH=>k_exc)
  (case CI|CJ|CK=>k_is)
  (case zk=>k_exc)
  (case zm|zo|zp=>k_is)
  (case CL=>k_exc)
  (case CM|CN|CO=>k_is)
  (case CP=>k_exc)
  (case CQ|CS|CU=>k_is)
  (case CW=>k_exc)
  (case CY|CZ|C0=>k_is)
  (case ID=>k_exc)
  (case IE|IF|IG=>k_is)
  (case IH=>k_exc)
  (case II|IJ|IK=>k_is)
  (case e9|dF|cR|iF|gj|lN|fb|dG|iG|fc|d9|c6|g5|ee|dH|ff|dJ|iH|fg|eh|fh|fi|fk|fm|dM|iI|fo|en|fq|fu|dN|iJ|fA|et|fB|fD|gk|eA|jx|gm|fE|gn|gp|gq|g6|gs|eB|jy|gu|fF|gw|gx|gy|g7|g8=>kts_exm)
