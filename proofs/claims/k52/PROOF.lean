import PyProof.Rows.All
import Wide.All
import OpenK.AllK
import Wide.FinOn
import Lean
import PyProof.EqAt
import PyProof.EqKinds
import PyProof.TupleCall
import PySem.Challenge.RW_noteworth_k52_whole_desk_and_its_book
set_option Elab.async false
set_option linter.all false
set_option maxRecDepth 100000
open PySem.W (Frag OpenLaw WalkO callWith_K callWith_K0 codeIn emptyDict exmOne exm_one findIn fnOf handedIn hasDictIn hideAll hideAll_get hideAll_none instObj isFn keepIn kia_one kitOne kitx_dict kitx_list lookIn makesIn methodCall_KW methodObj mg_of mroIn nsIn of_hideAll plainGet plainGet_of plainOver specialIn takerIn)
open List (length_map length_append length_take length_drop mem_append mem_singleton mem_cons_self mem_cons_of_mem mem_append_left mem_append_right mem_of_getElem? size_toArray take_length getElem?_map map_append map_cons length_cons take_succ getElem?_eq_getElem getElem?_append_right mem_map any_eq_true all_eq_true mem_range getElem?_drop map_take append_nil nil_append getElem?_of_mem)
open PySem.F (entry_zip_next plainAttrs_list plainAttrs_str slot_dict_get slot_enumerate_next slot_str_join slot_zip_next type_str_join)
noncomputable section
set_option compiler.extract_closed false
set_option bootstrap.genMatcherCode false
set_option genSizeOf false
local macro_rules | `(tactic| lk) => `(tactic| decide +kernel)
local macro_rules | `(tactic| z_go) => `(tactic| first | (exact fun _ _ _ _ _ _ us hl => match us, hl with | [_], _ => rfl) | (exact fun _ _ _ _ _ _ us hl => match us, hl with | [_, _], _ => rfl) | (exact fun _ _ _ _ _ _ us hl => match us, hl with | [_, _, _], _ => rfl) | (exact fun _ _ _ _ _ _ us hl => match us, hl with | [_, _, _, _], _ => rfl) | (exact fun _ _ _ _ _ _ us hl => match us, hl with | [_, _, _, _, _], _ => rfl) | (exact fun _ _ _ _ _ _ us hl => match us, hl with | [_, _, _, _, _, _], _ => rfl))
namespace L2
open PySem PySem.Spec PyProof.Rows
noncomputable abbrev Key:=Sum Int Str
noncomputable def w6:Key->Value->Bool
 |.inl k,v=>Value.isInt k v
 |.inr x,v=>Value.isStrOf x v
noncomputable def TJ (w:World):Key->Int
 |.inl k=>hashInt k
 |.inr x=>hashStr w x
theorem cN:∀{k:Key} {v:Value},w6 k v=true->(∃ i t,k=Sum.inl i/\v=Value.int i t)\/(∃ x t,k=Sum.inr x/\v=Value.str x t)
 |.inl i,v,h=>by
  obtain⟨t,e⟩:=Value.isInt_shape (k:=i) (v:=v) h;exact .inl ⟨i,t,rfl,e⟩
 |.inr x,v,h=>by
  obtain⟨t,e⟩:=Value.isStrOf_shape (x:=x) (v:=v) h;exact .inr ⟨x,t,rfl,e⟩
theorem Ih (i:Int)(t:Tok):w6 (.inl i) (.int i t)=true:=by simp[w6,Value.isInt]
theorem Ii (x:Str)(t:Tok):w6 (.inr x) (.str x t)=true:=by simp[w6,Value.isStrOf]
theorem OE (a b:Int):decide ((Sum.inl a:Key)=Sum.inl b)=(a==b):=by
 by_cases e:a=b
 ·subst e;simp
 ·have h:¬(Sum.inl a:Key)=Sum.inl b:=fun q=>e (Sum.inl.inj q);rw[decide_eq_false h];exact(beq_eq_false_iff_ne.mpr e).symm
theorem OF (a b:Str):decide ((Sum.inr a:Key)=Sum.inr b)=decide (a=b):=by
 by_cases e:a=b
 ·subst e;simp
 ·have h:¬(Sum.inr a:Key)=Sum.inr b:=fun q=>e (Sum.inr.inj q);rw[decide_eq_false h,decide_eq_false e]
theorem OG (a:Int)(b:Str):decide ((Sum.inl a:Key)=Sum.inr b)=false:=decide_eq_false (fun q=>nomatch q)
theorem OH (a:Str)(b:Int):decide ((Sum.inr a:Key)=Sum.inl b)=false:=decide_eq_false (fun q=>nomatch q)
noncomputable def bC (prog:Program)(w:World):PySem.KeyKind prog w Key where
 is:=w6
 hash:=TJ w
 inj:=fun v a b ha hb=>by
  rcases cN ha with ⟨i,t,rfl,rfl⟩|⟨x,t,rfl,rfl⟩
  ·rcases cN hb with ⟨j,u,rfl,e⟩|⟨y,u,rfl,e⟩
   ·injection e with e1 _;rw[e1]
   ·exact nomatch e
  ·rcases cN hb with ⟨j,u,rfl,e⟩|⟨y,u,rfl,e⟩
   ·exact nomatch e
   ·injection e with e1 _;rw[e1]
 byValue:=fun k v h=>by
  rcases cN h with ⟨i,t,rfl,rfl⟩|⟨x,t,rfl,rfl⟩ <;> rfl
 pyHash:=fun hv h=>by
  rcases cN hv with ⟨i,t,rfl,rfl⟩|⟨x,t,rfl,rfl⟩
  ·exact wpAny_pyHash_int h
  ·exact wpAny_pyHash_str h
 eqBool:=fun hu hv h=>by
  rcases cN hu with ⟨i,t,rfl,rfl⟩|⟨x,t,rfl,rfl⟩
  ·rcases cN hv with ⟨j,u,rfl,rfl⟩|⟨y,u,rfl,rfl⟩
   ·rw[OE]at h;exact wpAny_eqBool_int h
   ·rw[OG]at h;exact SeqAt.EqAt.int_str i t y u _ _ _ _ h
  ·rcases cN hv with ⟨j,u,rfl,rfl⟩|⟨y,u,rfl,rfl⟩
   ·rw[OH]at h;exact SeqAt.EqAt.str_int x t j u _ _ _ _ h
   ·rw[OF]at h;exact wpAny_eqBool_str h
 «strs»:=fun k x t v h=>by
  rcases cN h with ⟨i,u,rfl,e⟩|⟨y,u,rfl,e⟩
  ·exact nomatch e
  ·injection e with e1 _
   subst e1;cases v <;> rfl
theorem CU (prog:Program)(w:World)(i:Int)(t:Tok):(bC prog w).is (.inl i) (.int i t)=true:=Ih i t
theorem eL (prog:Program)(w:World)(x:Str)(t:Tok):(bC prog w).is (.inr x) (.str x t)=true:=Ii x t
end L2
namespace L2
open PySem PySem.Spec PyProof.Rows
inductive V where
 |non|bl (b:Bool)|int (i:Int)|str (x:Str)|JS (b:Array UInt8)|flt (b:UInt64)|ref (a:Addr)|ty (n:String)
 deriving DecidableEq
noncomputable def RelV:V->Value->Prop
 |.non,u=>u=Value.none
 |.bl b,u=>u=Value.bool b
 |.int i,u=>∃ t,u=Value.int i t
 |.str x,u=>∃ t,u=Value.str x t
 |.JS b,u=>∃ t,u=Value.bytes b t
 |.flt b,u=>∃ t,u=Value.float b t
 |.ref a,u=>u=Value.ref a
 |.ty n,u=>u=Value.type n
noncomputable abbrev Vals:List V->List Value->Prop:=Paired RelV
theorem Vals.length {xs:List V}{us:List Value}(r:Vals xs us):xs.length=us.length:=Paired.length r
theorem Vals.get:∀{xs:List V} {us:List Value} {i:Nat} {x:V},Vals xs us->xs[i]? = some x->∃ u,us[i]? = some u/\RelV x u
 |_,_,_,_,.nil,e=>by simp at e
 |_,_,0,_,.cons r _,e=>by simp at e;subst e;exact⟨_,rfl,r⟩
 |_,_,i+1,x,.cons _ t,e=>by
  obtain⟨u,h1,h2⟩:=Vals.get (i:=i) (x:=x) t (by simpa using e);exact⟨u,by simpa using h1,h2⟩
theorem Vals.set {x:V}{u:Value}(r:RelV x u):∀{xs:List V} {us:List Value} (i:Nat),Vals xs us->Vals (xs.set i x) (us.set i u)
 |_,_,_,.nil=>.nil
 |_,_,0,.cons _ t=>.cons r t
 |_,_,i+1,.cons q t=>.cons q (Vals.set r i t)
theorem Vals.append:∀{xs ys:List V} {us ws:List Value},Vals xs us->Vals ys ws->Vals (xs++ys) (us++ws)
 |_,_,_,_,.nil,s=>s
 |_,_,_,_,.cons r t,s=>.cons r (Vals.append t s)
theorem Vals.take:∀{xs:List V} {us:List Value} (n:Nat),Vals xs us->Vals (xs.take n) (us.take n)
 |_,_,0,_=>.nil
 |_,_,_+1,.nil=>.nil
 |_,_,n+1,.cons r t=>.cons r (Vals.take n t)
theorem Vals.drop:∀{xs:List V} {us:List Value} (n:Nat),Vals xs us->Vals (xs.drop n) (us.drop n)
 |_,_,0,r=>r
 |_,_,_+1,.nil=>.nil
 |_,_,n+1,.cons _ t=>Vals.drop n t
noncomputable def jU:Option V->Option Value->Prop
 |some v,some u=>RelV v u
 |none,none=>True
 |_,_=>False
noncomputable def KV {κ:Type}:List (κ×V)->List (κ×Value)->Prop:=Paired fun(p:κ×V)(q:κ×Value)=>p.1=q.1/\RelV p.2 q.2
noncomputable def kV:Key->V
 |.inl i=>.int i
 |.inr x=>.str x
inductive HO where
 /-- a list -/
 |lst (xs:List V)
 /-- a tuple (never changes) -/
 |tup (xs:List V)
 /-- a dict whose keys are ints and texts;one whose keys are tuples of ints and texts (the empty one is both) -/
 |dK (kvs:List (Key×V))|dT (kvs:List (List Key×V))
 /-- a set of ints: its members,its size -/
 |set (S:Int->Bool) (n:Nat)
 /-- an instance of the class at C,its dict at dx,its attributes -/
 |ins (C dx:Addr) (fs:List (Str×V))
 /-- the dict of the instance at x -/
 |own (x:Addr)
 /-- the dict of an exception -/
 |xd (fs:List (Str×V))
 /-- a bound method,f of x -/
 |met (f x:Addr)
 /-- a range object lo,lo+1,.. below hi -/
 |TK (lo hi:Int)
 /-- a thing that is known to the object (the script;a dict while a loop walks it): read,never written while it is so -/
 |Gk (o:Obj) (u:HO)
 /-- a code object's table -/
 |OI (ps:Array Value)
 /-- any other thing,by what is true of its one object (a def of one's own: W8 a S n:=HO.ext fun h=>..) -/
 |ext (φ:Heap->Prop)
noncomputable abbrev Hp:=Addr->Option HO
noncomputable def upd (H:Hp)(a:Addr)(o:HO):Hp:=fun b=>if b=a then some o else H b
theorem ae {H:Hp}{a:Addr}{o:HO}:upd H a o a=some o:=by unfold upd;rw[if_pos rfl]
theorem ai {H:Hp}{a b:Addr}{o:HO}(h:b≠a):upd H a o b=H b:=by unfold upd;rw[if_neg h]
theorem bH {H:Hp}{a:Addr}{o u:HO}:upd (upd H a o) a u=upd H a u:=by
 funext b;unfold upd;split <;> rfl
theorem fm {H:Hp}{a b:Addr}{o u:HO}(h:H a=some o)(h':H b=some u)(d:o≠u):a≠b:=by
 intro e;subst e;rw[h]at h';exact d (Option.some.inj h')
theorem ao {H:Hp}{a b:Addr}{o:HO}(h:H a=some o)(h':H b=none):a≠b:=by
 intro e;subst e;rw[h]at h';cases h'
section
variable (P:Program) (w:World)
noncomputable def dW (H:Hp)(h:Heap)(a:Addr):HO->Prop
 |.lst xs=>xs.length<=sizeLine/\∃(its:List Value)(n:Nat),Vals xs its/\h.get? a=some { cls:=.type "list",data:=.seq its.toArray n }
 |.tup xs=>xs.length<=sizeLine/\∃ its:List Value,Vals xs its/\IsTup h a its.toArray
 |.dK kvs=>kvs.length<=sizeLine/\(a==sysModules)=false/\∃ vs,KV kvs vs/\h.DictOf (bC P w) a vs
 |.dT kvs=>kvs.length<=sizeLine/\(a==sysModules)=false/\∃ xs:List (List Key×Addr×Value),
   Paired (fun(p:List Key×V)(q:List Key×Addr×Value)=>p.1=q.1/\H q.2.1=some (.tup (p.1.map kV))/\RelV p.2 q.2.2) kvs xs /\
   ∃ o es ep,h.get? a=some o/\o.ExactDict/\o.data=.dict es ep/\es.toList=xs.map (entryOfKey (tupleKind (bC P w)))/\(xs.map (·.1)).Nodup
 |.set S n=>h.SetOf (intKind P w) a S n
 |.ins C dx fs=>H dx=some (.own a)/\fs.length<=1000/\dx≠a/\h.get? a=some (instObj C dx) /\
   ∃ mA,h.Ns1 dx mA/\(∀ f,jU (fs.lookup f) (mA f))/\PySem.Within mA (fs.map (·.1))
 |.own _=>∃ o,h.get? a=some o
 |.xd fs=>∃ mA,h.Ns1 a mA/\∀ f,jU (fs.lookup f) (mA f)
 |.TK lo hi=>∃ t u v,h.get? a=some { cls:=.type "range",data:=.fields #[.int lo t,.int hi u,.int 1 v] }
 |.Gk o u=>h.get? a=some o/\dW H h a u
 |.OI ps=>h.get? a=some { cls:=.none,data:=.fields ps }
 |.met f x=>h.get? a=some (methodObj (.ref f) (.ref x))
 |.ext φ=>φ h/\(∃ o,h.get? a=some o)/\∀ h1 h2:Heap,φ h1->(∀ o,h1.get? a=some o->h2.get? a=some o)->φ h2
noncomputable def nR (H:Hp)(h:Heap):Prop:=∀ a o,H a=some o->dW P w H h a o
end
section
variable {P:Program} {w:World} {H H':Hp} {h h':Heap} {a:Addr} {o:HO}
theorem dW.lt (x:dW P w H h a o):a<h.objs.size:=by
 cases o with
 |lst xs=>obtain⟨_,_,_,_,e⟩:=x;exact Heap.lt_size e
 |tup xs=>obtain⟨_,_,_,p⟩:=x;exact p.lt
 |dK kvs=>obtain⟨_,_,_,_,o,_,_,e,_⟩:=x;exact Heap.lt_size e
 |dT kvs=>obtain⟨_,_,_,_,o,_,_,e,_⟩:=x;exact Heap.lt_size e
 |set S n=>obtain⟨o,_,_,_,e,_⟩:=x;exact Heap.lt_size e
 |ins C dx fs=>obtain⟨_,_,_,e,_⟩:=x;exact Heap.lt_size e
 |own y=>obtain⟨_,e⟩:=x;exact Heap.lt_size e
 |xd fs=>obtain⟨_,⟨_,_,_,e,_⟩,_⟩:=x;exact Heap.lt_size e
 |TK lo hi=>obtain⟨_,_,_,e⟩:=x;exact Heap.lt_size e
 |Gk ob u=>obtain⟨e,_⟩:=x;exact Heap.lt_size e
 |OI ps=>exact Heap.lt_size (show h.get? a=some _ from x)
 |met f y=>exact Heap.lt_size (show h.get? a=some _ from x)
 |ext φ=>obtain⟨_,⟨_,e⟩,_⟩:=x;exact Heap.lt_size e
theorem Paired.OJ {α β:Type}{F G:α->β->Prop}:∀{l₁:List α} {l₂:List β},Paired F l₁ l₂->(∀ a b,F a b->G a b)->Paired G l₁ l₂
 |_,_,.nil,_=>.nil
 |_,_,.cons r t,f=>.cons (f _ _ r) (Paired.OJ t f)
theorem dW.stay (x:dW P w H h a o)(k:∀ b u,(b=a\/H b=some (.own a))->h.get? b=some u->h'.get? b=some u)
  (ho:∀ b,H b=some (.own a)->H' b=some (.own a)) (ht:∀ b xs,H b=some (.tup xs)->H' b=some (.tup xs)):dW P w H' h' a o:=by
 induction o with
 |lst xs=>obtain⟨z,its,n,r,e⟩:=x;exact⟨z,its,n,r,k _ _ (.inl rfl) e⟩
 |tup xs=>obtain⟨z,its,r,ob,e,c⟩:=x;exact⟨z,its,r,ob,k _ _ (.inl rfl) e,c⟩
 |dK kvs=>obtain⟨z,y,vs,r,ob,es,ep,e,c⟩:=x;exact⟨z,y,vs,r,ob,es,ep,k _ _ (.inl rfl) e,c⟩
 |dT kvs =>
  obtain⟨z,y,xs,r,ob,es,ep,e,c⟩:=x;exact⟨z,y,xs,Paired.OJ r fun p q z=>⟨z.1,ht _ _ z.2.1,z.2.2⟩,ob,es,ep,k _ _ (.inl rfl) e,c⟩
 |set S n=>obtain⟨ob,es,ep,t,e,c⟩:=x;exact⟨ob,es,ep,t,k _ _ (.inl rfl) e,c⟩
 |ins C dx fs =>
  obtain⟨d,z,ne,e,mA,⟨od,es,ep,e2,c⟩,r⟩:=x;exact⟨ho _ d,z,ne,k _ _ (.inl rfl) e,mA,⟨od,es,ep,k _ _ (.inr d) e2,c⟩,r⟩
 |own y=>obtain⟨ob,e⟩:=x;exact⟨ob,k _ _ (.inl rfl) e⟩
 |xd fs=>obtain⟨mA,⟨od,es,ep,e,c⟩,r⟩:=x;exact⟨mA,⟨od,es,ep,k _ _ (.inl rfl) e,c⟩,r⟩
 |TK lo hi=>obtain⟨t,u,v,e⟩:=x;exact⟨t,u,v,k _ _ (.inl rfl) e⟩
 |Gk ob u ih=>obtain⟨e,q⟩:=x;exact⟨k _ _ (.inl rfl) e,ih q⟩
 |OI ps =>
  have e:h.get? a=some { cls:=.none,data:=.fields ps }:=x;show h'.get? a=some { cls:=.none,data:=.fields ps };exact k a _ (.inl rfl) e
 |met f y =>
  have e:h.get? a=some (methodObj (.ref f) (.ref y)):=x;show h'.get? a=some (methodObj (.ref f) (.ref y));exact k a _ (.inl rfl) e
 |ext φ=>obtain⟨p,⟨o,e⟩,st⟩:=x;exact⟨st _ _ p fun o q=>k _ _ (.inl rfl) q,⟨o,k _ _ (.inl rfl) e⟩,st⟩
theorem nR.lt (x:nR P w H h)(e:H a=some o):a<h.objs.size:=(x a o e).lt
theorem nR.fresh (x:nR P w H h)(e:h.objs.size<=a):H a=none:=by
 cases q:H a with
 |none=>rfl
 |some u=>exact absurd (Nat.lt_of_lt_of_le (x.lt q) e) (Nat.lt_irrefl _)
theorem nR.kept (x:nR P w H h)(k:∀ b u,h.get? b=some u->h'.get? b=some u):nR P w H h':=fun a o e =>
 (x a o e).stay (fun b u _ q=>k b u q) (fun _ q=>q) fun _ _ q=>q
theorem nR.laid (x:nR P w H h)(k:∀ b u,h.get? b=some u->h'.get? b=some u)(hp:h.objs.size<=a)(new:dW P w (upd H a o) h' a o):nR P w (upd H a o) h':=fun b u e=>by
 have hn:=x.fresh hp
 by_cases hb:b=a
 ·subst hb;rw[ae]at e;cases e;exact new
 ·rw[ai hb]at e;exact(x b u e).stay (fun c v _ q=>k c v q) (fun c q=>by rw[ai (ao q hn)];exact q) fun c xs q=>by rw[ai (ao q hn)];exact q
end
noncomputable def Rd (H:Hp)(a:Addr)(u:HO):Prop:=H a=some u\/∃ o,H a=some (.Gk o u)
theorem Rd.ok {P:Program}{w:World}{H:Hp}{h:Heap}{a:Addr}{u:HO}(r:Rd H a u)(x:nR P w H h):dW P w H h a u:=by
 rcases r with r|⟨o,r⟩
 ·exact x a u r
 ·obtain⟨_,q⟩:=x a _ r;exact q
noncomputable def QO:Option HO->Prop
 |some (.lst _)=>True
 |some (.dK _)=>True
 |some (.dT _)=>True
 |some (.set _ _)=>True
 |some (.ins _ _ _)=>True
 |some (.ext _)=>True
 |_=>False
section
variable {P:Program} {w:World} {H:Hp} {h h':Heap} {x e:Addr} {o':HO}
theorem nR.write (ok:nR P w H h)(mu:QO (H x))(he:e=x\/H e=some (.own x))(k:∀ b u,b≠e->h.get? b=some u->h'.get? b=some u)(heo:∃ u,h'.get? e=some u)
  (new:dW P w (upd H x o') h' x o'):nR P w (upd H x o') h':=fun b u q=>by
 have QP:∀ c y,H c=some (.own y)->c≠x:=fun c y r z=>by subst z;rw[r]at mu;exact mu
 have TL:∀ c xs,H c=some (.tup xs)->c≠x:=fun c xs r z=>by subst z;rw[r]at mu;exact mu
 by_cases hb:b=x
 ·subst hb;rw[ae]at q;cases q;exact new
 ·rw[ai hb]at q
  by_cases hbe:b=e
  ·have q':H b=some (.own x):=by
    rcases he with z|z
    ·exact absurd (hbe.trans z) hb
    ·rw[hbe];exact z
   rw[q]at q';cases q';obtain⟨v,hv⟩:=heo;exact⟨v,by rw[hbe];exact hv⟩
  ·refine(ok b u q).stay (fun c v hc r=>k c v ?_ r) (fun c r=>by rw[ai (QP c b r)];exact r) fun c xs r=>by rw[ai (TL c xs r)];exact r
   rcases hc with rfl|hc
   ·exact hbe
   ·rintro rfl;rcases he with z|z
    ·exact QP c b hc z
    ·rw[hc]at z;cases z;exact hb rfl
end
structure Un (fs ex:List Addr)(H H':Hp)(h h':Heap):Prop where
 keep:∀ b o,h.get? b=some o->H b=none->b ∉ fs->b ∉ ex->h'.get? b=some o
 slot:∀ b o,h.get? b=some o->H b=none->b∈fs->b ∉ ex->∃ sl,h'.get? b=some { o with slots:=sl }
 free:∀ b o,h.get? b=some o->H b=none->b ∉ ex->H' b=none
 there:∀ b o,h.get? b=some o->b ∉ ex->∃ o',h'.get? b=some o'
 tups:∀ b xs,H b=some (.tup xs)->H' b=some (.tup xs)
 xa:∀ b o u,H b=some (.Gk o u)->H' b=some (.Gk o u)
 zi:∀ b ps,H b=some (.OI ps)->∃ more,H' b=some (.OI (ps++more))
section
variable {fs fs' ex ex':List Addr} {H H1 H2:Hp} {h h1 h2 h':Heap} {a x e:Addr} {o:HO}
theorem Un.any (u:Un fs ex H H1 h h1){b:Addr}{ob:Obj}(q:h.get? b=some ob)(n:H b=none)(hx:b ∉ ex):∃ sl,h1.get? b=some { ob with slots:=sl }:=by
 by_cases hb:b∈fs
 ·exact u.slot b ob q n hb hx
 ·exact⟨ob.slots,u.keep b ob q n hb hx⟩
theorem Un.kept (k:∀ b u,h.get? b=some u->h'.get? b=some u):Un fs ex H H h h' :=
 ⟨fun b ob q _ _ _=>k b ob q,fun b ob q _ _ _=>⟨ob.slots,k b ob q⟩,fun _ _ _ n _=>n,fun b ob q _=>⟨ob,k b ob q⟩,fun _ _ q=>q,fun _ _ _ q=>q,fun _ ps q=>⟨#[],by rw[q];simp⟩⟩
theorem Un.refl:Un fs ex H H h h:=Un.kept fun _ _ q=>q
theorem Un.laid (k:∀ b u,h.get? b=some u->h'.get? b=some u)(hp:h.objs.size<=a)(hn:H a=none):Un fs ex H (upd H a o) h h' where
 keep:=fun b u q _ _ _=>k b u q
 slot:=fun b u q _ _ _=>⟨u.slots,k b u q⟩
 free:=fun b u q n _=>by rw[ai (Nat.ne_of_lt (Nat.lt_of_lt_of_le (Heap.lt_size q) hp))];exact n
 there:=fun b u q _=>⟨u,k b u q⟩
 tups:=fun b xs q=>by rw[ai (ao q hn)];exact q
 xa:=fun b u xs q=>by rw[ai (ao q hn)];exact q
 zi:=fun b ps q=>⟨#[],by rw[ai (ao q hn),q];simp⟩
theorem Un.write (mu:QO (H x))(he:e=x\/H e=some (.own x))(k:∀ b u,b≠e->h.get? b=some u->h'.get? b=some u)(heo:∃ u,h'.get? e=some u):Un fs ex H (upd H x o) h h':=by
 have hx:∀ b,H b=none->b≠x:=fun b n z=>by subst z;rw[n]at mu;exact mu
 have hb:∀ b,H b=none->b≠e:=fun b n z=>by
  subst z;rcases he with r|r
  ·exact hx b n r
  ·rw[n]at r;cases r
 have hm:∀ b u,H b=some u->¬ QO (some u)->b≠x:=fun b u q nm z=>by subst z;rw[q]at mu;exact nm mu
 refine⟨fun b u q n _ _=>k b u (hb b n) q,fun b u q n _ _=>⟨u.slots,k b u (hb b n) q⟩,fun b u q n _=>by rw[ai (hx b n)];exact n,fun b u q _=>?_,
  fun b xs q=>by rw[ai (hm b _ q fun z=>z)];exact q,fun b u xs q=>by rw[ai (hm b _ q fun z=>z)];exact q,fun b ps q=>⟨#[],by rw[ai (hm b _ q fun z=>z),q];simp⟩⟩
 by_cases hbe:b=e
 ·subst hbe;exact heo
 ·exact⟨u,k b u hbe q⟩
end
noncomputable def Tb (h:Heap)(H:Hp):List Addr:=(List.range h.objs.size).filter fun a=>(H a).isSome
noncomputable def Be (h:Heap)(H:Hp):Heap:=hideAll h (Tb h H)
theorem Ij (h:Heap)(H:Hp):(Be h H).objs.size=h.objs.size:=PySem.W.hideAll_size _ _
theorem JU {h:Heap}{H:Hp}{b:Addr}{o:Obj}(e:h.get? b=some o)(n:H b=none):(Be h H).get? b=some o :=
 hideAll_get _ e fun hm=>by
  have q:(H b).isSome=true:=(List.mem_filter.mp hm).2;rw[n]at q;simp at q
theorem Mo {h:Heap}{H:Hp}{b:Addr}{o:Obj}(e:(Be h H).get? b=some o):h.get? b=some o/\H b=none:=by
 have e':h.get? b=some o:=of_hideAll (Tb h H) e;refine⟨e',?_⟩;cases q:H b with
 |none=>rfl
 |some x =>
  have hm:b∈Tb h H:=List.mem_filter.mpr ⟨mem_range.mpr (Heap.lt_size e'),by simp[q]⟩;have z:(Be h H).get? b=none:=hideAll_none (Tb h H) hm;rw[z]at e;cases e
noncomputable def Mp (g h:Heap)(L:Addr):List (Addr×Obj):=(List.range h.objs.size).filterMap fun a=>if a=L\/(g.get? a).isSome=true then none else(h.get? a).map fun o=>(a,o)
noncomputable def rest (g h:Heap)(L d:Addr):List (Addr×Obj):=(Mp g h L).filter fun p=>decide (p.1≠d)
end L2
namespace L2
open PySem PySem.Spec PyProof.Rows
structure Mod (K:Frag)(mg:Str->Option Value)(base:Heap):Prop where
 Mc:K.In base
 glob:base.Ns mainGlobals mg
 blt:∃ mb,base.Ns builtinsNs mb/\∀ x:Str,x ≠ "__name__"->mb x=bootBuiltins x
 nolimit:base.NoLimit
structure Cx where
 prog:Program
 w:World
 K:Frag
 mg:Str->Option Value
 base:Heap
 A:Around
 N:List Str
 s₀:Shared
 H₀:Hp
 env:Env
 outer:List Env
 stack:List Env
 ex:List Addr
 fn:Str->Bool
 calm:Bool
 pn:List (Addr×Obj)
 xe:Value->Shared->Prop
noncomputable def frs (l:List Env):List Addr:=l.filterMap (·.frame)
noncomputable abbrev Cx.fs (X:Cx):List Addr:=frs X.outer
noncomputable def QR (sc:Scope)(x:Str):Prop:=sc.names.lookup x=some .local\/sc.names.lookup x=some .cell\/sc.names.lookup x=some .free
noncomputable def Loc (sc:Scope)(x:Str):Prop:=sc.names.lookup x=some .local\/sc.names.lookup x=some .cell
noncomputable def Look (env:Env)(h:Heap)(m:Str->Option Value)(x:Str)(u:Value):Prop :=
 (env.kindOf x=some .local/\m x=some u)\/((env.kindOf x=some .cell\/env.kindOf x=some .free)/\∃ c,env.cells.lookup x=some c/\h.IsCell c (some u))
structure Cx.Ok (X:Cx):Prop where
 mod:Mod X.K X.mg X.base
 kind:X.env.scope.kind=.function
 glob:X.env.globals=mainGlobals
 blt:X.env.builtins=builtinsNs
 above:X.s₀.heap.objs.size<=X.env.locals
 inj:∀ x y c,X.env.cells.lookup x=some c->X.env.cells.lookup y=some c->x=y
 has:∀ x,(X.env.kindOf x=some .cell\/X.env.kindOf x=some .free)->∃ c,X.env.cells.lookup x=some c
 cab:∀ x c,X.fn x=true->X.env.cells.lookup x=some c->X.s₀.heap.objs.size<=c
 hd:X.calm=true->X.A.handled=none
 frames:X.A.frames=some X.stack
 NK:X.stack=X.outer\/(X.stack=X.env::X.outer/\X.env.frame=some X.env.locals)
 NL:∀ b∈X.ex,b≠X.env.locals/\∀ x c,X.env.cells.lookup x=some c->c≠b
 bs:∀ b o,X.base.get? b=some o->X.s₀.heap.get? b=some o/\X.H₀ b=none
 Gm:X.base.objs.size<=X.s₀.heap.objs.size
 zj:∀ b o,X.base.get? b=some o->b ∉ X.ex
 Bf:∀ b∈X.ex,b ∉ X.fs
 pO:X.s₀.heap.FunFrames X.base X.outer
 JV:∀ b∈X.fs,X.H₀ b=none
structure Inv (X:Cx)(pins:List (Addr×Obj))(σ:List (Option V))(H:Hp)(s:Shared):Prop where
 ok:X.Ok
 os:s.os=X.s₀.os
 bare:AllBare s.gens
 base:Un X.fs X.ex X.H₀ H X.s₀.heap s.heap
 loc:∃ m,s.heap.Ns X.env.locals m/\∀(i:Nat)(x:Str)(v:V),X.N[i]? = some x->σ[i]? = some (some v)->QR X.env.scope x->∃ u,RelV v u/\Look X.env s.heap m x u
 cell:∀ x c,X.env.cells.lookup x=some c->∃ v,s.heap.IsCell c v
 free:H X.env.locals=none
 iG:∀ x c,X.env.cells.lookup x=some c->H c=none
 pin:∀ p∈X.pn++pins,s.heap.get? p.1=some p.2/\H p.1=none/\p.1≠X.env.locals/\p.1 ∉ X.fs/\∀ v,p.2.data≠.cell v
 hok:nR X.prog X.w H s.heap
 len:σ.length=X.N.length
section
variable {X:Cx} {pins:List (Addr×Obj)} {σ:List (Option V)} {H H':Hp} {s:Shared} {h':Heap}
theorem Cx.Ok.TM (ok:X.Ok){b:Addr}{o:Obj}(e:X.base.get? b=some o):b ∉ X.fs:=fun hb=>by
 have:=(ok.pO.mem hb).1;rw[e]at this;cases this
theorem Inv.bs (I:Inv X pins σ H s):∀ b o,X.base.get? b=some o->s.heap.get? b=some o/\H b=none:=fun b o e =>
 ⟨I.base.keep b o (I.ok.bs b o e).1 (I.ok.bs b o e).2 (I.ok.TM e) (I.ok.zj b o e),I.base.free b o (I.ok.bs b o e).1 (I.ok.bs b o e).2 (I.ok.zj b o e)⟩
theorem Inv.bk (I:Inv X pins σ H s):∀ b o,X.base.get? b=some o->s.heap.get? b=some o:=fun b o e=>(I.bs b o e).1
theorem Inv.mod (I:Inv X pins σ H s):Mod X.K X.mg X.base:=I.ok.mod
theorem Inv.mV (I:Inv X pins σ H s):X.K.In s.heap:=I.ok.mod.Mc.keeps I.bk
theorem Inv.lt (I:Inv X pins σ H s):X.env.locals<s.heap.objs.size:=let ⟨_,hn,_⟩:=I.loc;hn.lt
theorem Inv.sz (I:Inv X pins σ H s):X.s₀.heap.objs.size<=s.heap.objs.size:=Nat.le_trans I.ok.above (Nat.le_of_lt I.lt)
theorem Inv.TN (I:Inv X pins σ H s){a:Addr}(h:s.heap.objs.size<=a):a ∉ X.fs:=fun hb=>by
 obtain⟨_,o,ho,_⟩:=I.ok.pO.mem hb;exact absurd (Nat.lt_of_lt_of_le (Heap.lt_size ho) (Nat.le_trans I.sz h)) (Nat.lt_irrefl _)
theorem Inv.OK (I:Inv X pins σ H s):∀ x c,X.env.cells.lookup x=some c->c≠X.env.locals:=fun x c e z=>by
 obtain⟨v,o,ho,hd⟩:=I.cell x c e;obtain⟨m,⟨o',es,ep,ho',hd',_⟩,_⟩:=I.loc;rw[z,ho']at ho;cases ho;rw[hd']at hd;cases hd
theorem Inv.pO (I:Inv X pins σ H s):s.heap.FunFrames X.base X.outer:=by
 have all:∀(l:List Env),(∀ b∈frs l,b∈X.fs)->X.s₀.heap.FunFrames X.base l->s.heap.FunFrames X.base l:=by
  intro l
  induction l with
  |nil=>intro _ _;trivial
  |cons env r ih =>
   intro hs hl;obtain⟨hk,⟨L,o,hf,hn,ho,hd⟩,hr⟩:=hl;have hL:L∈X.fs:=hs L (by unfold frs;rw[List.filterMap_cons,hf];exact mem_cons_self);obtain⟨sl,e⟩:=I.base.slot L o ho (I.ok.JV L hL) hL fun z=>I.ok.Bf L z hL;exact⟨hk,⟨L,_,hf,hn,e,hd⟩,ih (fun b hb=>hs b (by unfold frs;rw[List.filterMap_cons,hf];exact mem_cons_of_mem _ hb)) hr⟩
 exact all X.outer (fun _ hb=>hb) I.ok.pO
theorem Inv.stack (I:Inv X pins σ H s):s.heap.FunFrames X.base X.stack:=by
 rcases I.ok.NK with e|⟨e,hf⟩
 ·rw[e];exact I.pO
 ·rw[e];obtain⟨m,hn,_⟩:=I.loc;refine .cons (by rw[I.ok.kind];decide) hf hn ?_ I.pO;exact Heap.get?_none_of_le (Nat.le_trans I.ok.Gm I.ok.above)
theorem Inv.ER (I:Inv X pins σ H s):∀ b∈frs X.stack,b∈X.env.locals::X.fs:=fun b hb=>by
 rcases I.ok.NK with e|⟨e,hf⟩
 ·rw[e]at hb;exact mem_cons_of_mem _ hb
 ·rw[e]at hb;unfold frs at hb;rw[List.filterMap_cons,hf]at hb;exact hb
theorem Inv.Bg (I:Inv X pins σ H s):∀ b∈frs X.stack,H b=none:=fun b hb=>by
 rcases List.mem_cons.mp (I.ER b hb) with e|hb
 ·rw[e];exact I.free
 ·obtain⟨_,o,ho,_⟩:=I.ok.pO.mem hb;exact I.base.free b o ho (I.ok.JV b hb) fun z=>I.ok.Bf b z hb
theorem Inv.step {g':Array GenState}{t':Nat}{d':Drawn}{ch:List Addr}(I:Inv X pins σ H s)
  (hch:∀ b∈ch,(b∈X.ex\/X.s₀.heap.objs.size<=b)/\b≠X.env.locals/\(∀ x c,X.env.cells.lookup x=some c->c≠b)/\∀ p∈X.pn++pins,p.1≠b)
  (keep:∀ b o,b≠X.env.locals->b ∉ X.fs->b ∉ ch->s.heap.get? b=some o->H b=none->h'.get? b=some o)
  (slot:∀ b o,b≠X.env.locals->b∈X.fs->b ∉ ch->s.heap.get? b=some o->H b=none->∃ sl,h'.get? b=some { o with slots:=sl }) (free:∀ b o,b ∉ ch->s.heap.get? b=some o->H b=none->H' b=none)
  (there:∀ b o,b ∉ ch->s.heap.get? b=some o->∃ o',h'.get? b=some o')
  (tups:∀ b xs,H b=some (.tup xs)->H' b=some (.tup xs)) (xa:∀ b o u,H b=some (.Gk o u)->H' b=some (.Gk o u)) (zi:∀ b ps,H b=some (.OI ps)->∃ more,H' b=some (.OI (ps++more)))
  (ns:∀ m,s.heap.Ns X.env.locals m->h'.Ns X.env.locals m) (hok:nR X.prog X.w H' h') (hg:AllBare g') :
  Inv X pins σ H' { s with heap:=h',gens:=g',drawn:=d',toks:=t' }:=by
 have VM:∀ b o,X.s₀.heap.get? b=some o->b≠X.env.locals:=fun b o e=>Nat.ne_of_lt (Nat.lt_of_lt_of_le (Heap.lt_size e) I.ok.above);have NM:∀ b o,X.s₀.heap.get? b=some o->b ∉ X.ex->b ∉ ch:=fun b o e hx hb=>by
  rcases (hch b hb).1 with z|z
  ·exact hx z
  ·exact absurd (Nat.lt_of_lt_of_le (Heap.lt_size e) z) (Nat.lt_irrefl _)
 have cellK:∀ x c,X.env.cells.lookup x=some c->∀ v,s.heap.IsCell c v->h'.IsCell c v:=fun x c e v ⟨o,ho,hd⟩=>by
  have QS:c ∉ ch:=fun z=>(hch c z).2.2.1 x c e rfl
  by_cases hc:c∈X.fs
  ·obtain⟨sl,q⟩:=slot c o (I.OK x c e) hc QS ho (I.iG x c e);exact⟨_,q,hd⟩
  ·exact⟨o,keep c o (I.OK x c e) hc QS ho (I.iG x c e),hd⟩
 refine⟨I.ok,I.os,hg,⟨fun b o e n hb hx=>?_,fun b o e n hb hx=>?_,fun b o e n hx=>?_,fun b o e hx=>?_,fun b xs e=>tups b xs (I.base.tups b xs e),fun b o xs e=>xa b o xs (I.base.xa b o xs e),fun b ps e=>?_⟩,?_,fun x c e=>?_,?_,fun x c e=>?_,fun p hp=>?_,hok,I.len⟩
 ·exact keep b o (VM b o e) hb (NM b o e hx) (I.base.keep b o e n hb hx) (I.base.free b o e n hx)
 ·obtain⟨sl,e1⟩:=I.base.slot b o e n hb hx;obtain⟨sl',e2⟩:=slot b _ (VM b o e) hb (NM b o e hx) e1 (I.base.free b o e n hx);exact⟨sl',e2⟩
 ·obtain⟨o',e1⟩:=I.base.there b o e hx;exact free b o' (NM b o e hx) e1 (I.base.free b o e n hx)
 ·obtain⟨o',e1⟩:=I.base.there b o e hx;exact there b o' (NM b o e hx) e1
 ·obtain⟨m1,e1⟩:=I.base.zi b ps e;obtain⟨m2,e2⟩:=zi b _ e1;exact⟨m1++m2,by rw[e2,Array.append_assoc]⟩
 ·obtain⟨m,hn,hl⟩:=I.loc;refine⟨m,ns m hn,fun i x v e1 e2 e3=>?_⟩;obtain⟨u,r,l⟩:=hl i x v e1 e2 e3;refine⟨u,r,?_⟩;rcases l with l|⟨k,c,e,z⟩
  ·exact .inl l
  ·exact .inr ⟨k,c,e,cellK x c e _ z⟩
 ·obtain⟨v,z⟩:=I.cell x c e;exact⟨v,cellK x c e v z⟩
 ·obtain⟨m,⟨o,_,_,ho,_⟩,_⟩:=I.loc;exact free _ o (fun z=>(hch _ z).2.1 rfl) ho I.free
 ·obtain⟨v,o,ho,hd⟩:=I.cell x c e;exact free c o (fun z=>(hch c z).2.2.1 x c e rfl) ho (I.iG x c e)
 ·obtain⟨e,n,ne,nf,d⟩:=I.pin p hp;have QS:p.1 ∉ ch:=fun z=>(hch p.1 z).2.2.2 p hp rfl;exact⟨keep p.1 p.2 ne nf QS e n,free p.1 p.2 QS e n,ne,nf,d⟩
theorem Inv.un {t':Nat}(I:Inv X pins σ H s)(u:Un X.fs [] H H' s.heap h')(hok:nR X.prog X.w H' h'):Inv X pins σ H' { s with heap:=h',toks:=t' }:=by
 obtain⟨m,⟨o,es,ep,ho,r⟩,_⟩:=id I.loc;obtain⟨sl,hL⟩:=u.any ho I.free (by simp);exact I.step (g':=s.gens) (d':=s.drawn) (ch:=[]) (fun _ z=>nomatch z) (fun b o _ hb _ e n=>u.keep b o e n hb (by simp)) (fun b o _ hb _ e n=>u.slot b o e n hb (by simp)) (fun b o _ e n=>u.free b o e n (by simp)) (fun b o _ e=>u.there b o e (by simp)) u.tups u.xa u.zi (fun m' hm=>by
  obtain⟨o',es',ep',ho',r'⟩:=hm;rw[ho]at ho';cases ho';exact⟨_,es',ep',hL,r'⟩) hok I.bare
theorem Inv.call {g':Array GenState}{t':Nat}{d':Drawn}{ch:List Addr}(I:Inv X pins σ H s)(u:Un (frs X.stack) ch H H' s.heap h')(hok:nR X.prog X.w H' h')(hg:AllBare g')
  (hch:∀ b∈ch,(b∈X.ex\/X.s₀.heap.objs.size<=b)/\b≠X.env.locals/\(∀ x c,X.env.cells.lookup x=some c->c≠b)/\∀ p∈X.pn++pins,p.1≠b) :
  Inv X pins σ H' { s with heap:=h',gens:=g',drawn:=d',toks:=t' }:=by
 obtain⟨m,⟨o,es,ep,ho,r⟩,_⟩:=id I.loc;obtain⟨sl,hL⟩:=u.any ho I.free fun z=>(hch _ z).2.1 rfl;exact I.step (ch:=ch) hch (fun b o hL hb hc e n=>u.keep b o e n (fun z=>(List.mem_cons.mp (I.ER b z)).elim hL hb) hc) (fun b o _ _ hc e n=>u.any e n hc) (fun b o hc e n=>u.free b o e n hc) (fun b o hc e=>u.there b o e hc) u.tups u.xa u.zi (fun m' hm=>by
  obtain⟨o',es',ep',ho',r'⟩:=hm;rw[ho]at ho';cases ho';exact⟨_,es',ep',hL,r'⟩) hok hg
theorem Inv.turned {t':Nat}{it:Addr}(I:Inv X pins σ H s)(k:∀ b o,b≠it->s.heap.get? b=some o->h'.get? b=some o)(hn:H it=none)(hL:it≠X.env.locals)
  (h1:it∈X.ex\/X.s₀.heap.objs.size<=it) (h2:∀ x c,X.env.cells.lookup x=some c->c≠it) (h3:∀ p∈X.pn++pins,p.1≠it):Inv X pins σ H { s with heap:=h',toks:=t' }:=by
 have VN:∀ b u,H b=some u->b≠it:=fun b u e z=>by rw[z,hn]at e;cases e
 refine I.step (g':=s.gens) (d':=s.drawn) (ch:=[it]) (fun b hb=>?_) (fun b o _ _ hc e _=>k b o (fun z=>hc (by simp[z])) e) (fun b o _ _ hc e _=>⟨o.slots,k b o (fun z=>hc (by simp[z])) e⟩) (fun _ _ _ _ n=>n)
  (fun b o hc e=>⟨o,k b o (fun z=>hc (by simp[z])) e⟩) (fun _ _ e=>e) (fun _ _ _ e=>e) (fun b ps e=>⟨#[],by rw[e];simp⟩) (fun m hm=>?_) (fun b u e=>?_) I.bare
 ·have e:b=it:=by simpa using hb
  subst e;exact⟨h1,hL,h2,h3⟩
 ·obtain⟨o,es,ep,ho,r⟩:=hm;exact⟨o,es,ep,k _ o (Ne.symm hL) ho,r⟩
 ·refine(I.hok b u e).stay (fun c v hc q=>k c v ?_ q) (fun _ q=>q) fun _ _ q=>q;rcases hc with z|z
  ·rw[z];exact VN b u e
  ·exact VN c _ z
theorem Inv.tok (I:Inv X pins σ H s)(t:Nat):Inv X pins σ H { s with toks:=t }:=I.un (h':=s.heap) (t':=t) Un.refl I.hok
theorem Inv.kept {t':Nat}(I:Inv X pins σ H s)(k:∀ b u,s.heap.get? b=some u->h'.get? b=some u):Inv X pins σ H { s with heap:=h',toks:=t' }:=I.un (Un.kept k) (I.hok.kept k)
theorem Inv.laid {a:Addr}{o:HO}{t':Nat}(I:Inv X pins σ H s)(k:∀ b u,s.heap.get? b=some u->h'.get? b=some u)(hp:s.heap.objs.size<=a)(new:dW X.prog X.w (upd H a o) h' a o) :
  Inv X pins σ (upd H a o) { s with heap:=h',toks:=t' }:=I.un (Un.laid k hp (I.hok.fresh hp)) (I.hok.laid k hp new)
theorem Inv.write {x e:Addr}{o:HO}{t':Nat}(I:Inv X pins σ H s)(mu:QO (H x))(he:e=x\/H e=some (.own x))(k:∀ b u,b≠e->s.heap.get? b=some u->h'.get? b=some u)(heo:∃ u,h'.get? e=some u)
  (new:dW X.prog X.w (upd H x o) h' x o):Inv X pins σ (upd H x o) { s with heap:=h',toks:=t' }:=I.un (Un.write mu he k heo) (I.hok.write mu he k heo new)
theorem Inv.Gn {CW:List (Addr×Obj)}(I:Inv X pins σ H s)(h:∀ p∈CW,s.heap.get? p.1=some p.2/\H p.1=none/\p.1≠X.env.locals/\p.1 ∉ X.fs/\∀ v,p.2.data≠.cell v):Inv X CW σ H s :=
 ⟨I.ok,I.os,I.bare,I.base,I.loc,I.cell,I.free,I.iG,fun p hp=>(mem_append.mp hp).elim (fun z=>I.pin p (mem_append_left _ z)) (h p),I.hok,I.len⟩
theorem CY {N:List Str}(hN:N.Nodup){i j:Nat}{x:Str}(a:N[i]? = some x)(b:N[j]? = some x):i=j:=by
 obtain⟨h1,e1⟩:=List.getElem?_eq_some_iff.mp a;obtain⟨h2,e2⟩:=List.getElem?_eq_some_iff.mp b;exact(List.getElem_inj hN).mp (e1.trans e2.symm)
theorem zJ {M:Model}{A:Around}{E:Value->Shared->Prop}{i:Nat}{x:Str}{v:V}{u:Value}{Q:Unit->Shared->Prop}(I:Inv X pins σ H s)(hN:X.N.Nodup)(hi:X.N[i]? = some x)(hx:Loc X.env.scope x)(r:RelV v u)
  (h:∀ s',Inv X pins (σ.set i (some v)) H s'->(∃ a,Heap.SameBut a s.heap s'.heap/\(a=X.env.locals\/X.env.cells.lookup x=some a))->Q () s') (hf:X.fn x=true\/X.env.scope.names.lookup x=some .local:=by first|exact .inl rfl|exact .inr rfl|assumption):wpAny M A (storeName X.env x u) Q E s:=by
 obtain⟨m,hn,hl⟩:=id I.loc;have hcls:(X.env.scope.kind == .class||(X.env.scope.kind == .module&&X.env.locals != X.env.globals))=false:=by rw[I.ok.kind];rfl
 have VO:i<σ.length:=by rw[I.len];exact(List.getElem?_eq_some_iff.mp hi).1
 have OK:=I.OK;have tracked:∀{a:Addr} {h':Heap},(∃ o,s.heap.get? a=some o/\H a=none)->Heap.SameBut a s.heap h'->nR X.prog X.w H h':=fun {a h'} ha hs b ob e=>by
  obtain⟨_,_,hfree⟩:=ha;refine(I.hok b ob e).stay (fun c w' hc q=>(hs.2 c ?_).trans q) (fun _ q=>q) fun _ _ q=>q;rintro rfl;rcases hc with rfl|hc
  ·rw[hfree]at e;cases e
  ·rw[hfree]at hc;cases hc
 rcases hx with hk|hk
 ·refine wpAny_storeName_local hk hn (fun h' hn' hs=>?_) hcls;obtain⟨oL,_,_,hoL,_⟩:=id hn;refine h _ ⟨I.ok,I.os,I.bare,⟨fun b o e n hb hx=>?_,fun b o e n hb hx=>?_,I.base.free,fun b o e hx=>?_,I.base.tups,I.base.xa,I.base.zi⟩,⟨_,hn',fun j y v' e1 e2 e3=>?_⟩,fun y c e=>?_,I.free,I.iG,fun p hp=>?_,tracked ⟨oL,hoL,I.free⟩ hs,by simpa using I.len⟩ ⟨_,hs,.inl rfl⟩
  ·exact(hs.2 b (Nat.ne_of_lt (Nat.lt_of_lt_of_le (Heap.lt_size e) I.ok.above))).trans (I.base.keep b o e n hb hx)
  ·obtain⟨sl,e1⟩:=I.base.slot b o e n hb hx;exact⟨sl,(hs.2 b (Nat.ne_of_lt (Nat.lt_of_lt_of_le (Heap.lt_size e) I.ok.above))).trans e1⟩
  ·obtain⟨o',e1⟩:=I.base.there b o e hx;exact⟨o',(hs.2 b (Nat.ne_of_lt (Nat.lt_of_lt_of_le (Heap.lt_size e) I.ok.above))).trans e1⟩
  ·by_cases hj:j=i
   ·subst hj;rw[hi]at e1;cases e1;rw[List.getElem?_set_self VO]at e2;cases e2;exact⟨u,r,.inl ⟨hk,by simp⟩⟩
   ·rw[List.getElem?_set_ne (Ne.symm hj)]at e2;obtain⟨u',r',q⟩:=hl j y v' e1 e2 e3;refine⟨u',r',?_⟩;rcases q with ⟨k,e⟩|⟨k,c,e,z⟩
    ·refine .inl ⟨k,?_⟩;have:y≠x:=fun e=>hj (CY hN e1 (e ▸ hi));simp[this,e]
    ·exact .inr ⟨k,c,e,z.sameBut hs (OK y c e)⟩
  ·obtain⟨w',z⟩:=I.cell y c e;exact⟨w',z.sameBut hs (OK y c e)⟩
  ·obtain⟨e,n,ne,nf,d⟩:=I.pin p hp;exact⟨(hs.2 p.1 ne).trans e,n,ne,nf,d⟩
 ·have hfn:X.fn x=true:=by
   rcases hf with z|z
   ·exact z
   ·rw[z]at hk;cases hk
  obtain⟨c,hc⟩:=I.ok.has x (.inl hk);obtain⟨w',z⟩:=I.cell x c hc;refine wpAny_storeName_cell I.ok.kind hk hc z (fun h' hc' hs=>?_);obtain⟨oc,hoc,TQ⟩:=id z;refine h { s with heap:=h' } ⟨I.ok,I.os,I.bare,⟨fun b o e n hb hx=>?_,fun b o e n hb hx=>?_,I.base.free,fun b o e hx=>?_,I.base.tups,I.base.xa,I.base.zi⟩,⟨m,hn.sameBut hs (Ne.symm (OK x c hc)),fun j y v' e1 e2 e3=>?_⟩,fun y c' e=>?_,I.free,I.iG,fun p hp=>?_,tracked ⟨oc,hoc,I.iG x c hc⟩ hs,by simpa using I.len⟩ ⟨c,hs,.inr hc⟩
  ·exact(hs.2 b (Nat.ne_of_lt (Nat.lt_of_lt_of_le (Heap.lt_size e) (I.ok.cab x c hfn hc)))).trans (I.base.keep b o e n hb hx)
  ·obtain⟨sl,e1⟩:=I.base.slot b o e n hb hx;exact⟨sl,(hs.2 b (Nat.ne_of_lt (Nat.lt_of_lt_of_le (Heap.lt_size e) (I.ok.cab x c hfn hc)))).trans e1⟩
  ·obtain⟨o',e1⟩:=I.base.there b o e hx;exact⟨o',(hs.2 b (Nat.ne_of_lt (Nat.lt_of_lt_of_le (Heap.lt_size e) (I.ok.cab x c hfn hc)))).trans e1⟩
  ·by_cases hj:j=i
   ·subst hj;rw[hi]at e1;cases e1;rw[List.getElem?_set_self VO]at e2;cases e2;exact⟨u,r,.inr ⟨.inl hk,c,hc,hc'⟩⟩
   ·rw[List.getElem?_set_ne (Ne.symm hj)]at e2;obtain⟨u',r',q⟩:=hl j y v' e1 e2 e3;refine⟨u',r',?_⟩;rcases q with q|⟨k,c',e,z'⟩
    ·exact .inl q
    ·refine .inr ⟨k,c',e,z'.sameBut hs ?_⟩;rintro rfl;exact hj (CY hN e1 (I.ok.inj _ _ _ e hc ▸ hi))
  ·by_cases hcc:c'=c
   ·subst hcc;exact⟨_,hc'⟩
   ·obtain⟨w2,z2⟩:=I.cell y c' e;exact⟨w2,z2.sameBut hs hcc⟩
  ·obtain⟨e,n,ne,nf,d⟩:=I.pin p hp;refine⟨(hs.2 p.1 ?_).trans e,n,ne,nf,d⟩;intro q;rw[q,hoc]at e;have q':oc=p.2:=Option.some.inj e;exact d w' (by rw[<-q'];exact TQ)
theorem xc {M:Model}{A:Around}{E:Value->Shared->Prop}{i:Nat}{x:Str}{v:V}{u:Value}{Q:Unit->Shared->Prop}(I:Inv X pins σ H s)(hN:X.N.Nodup)(hi:X.N[i]? = some x)(hx:Loc X.env.scope x)(r:RelV v u)
  (h:∀ s',Inv X pins (σ.set i (some v)) H s'->Q () s') (hf:X.fn x=true\/X.env.scope.names.lookup x=some .local:=by first|exact .inl rfl|exact .inr rfl|assumption):wpAny M A (storeName X.env x u) Q E s :=
 zJ I hN hi hx r (fun s' I' _=>h s' I') hf
theorem Inv.call' {s':Shared}{ch:List Addr}(I:Inv X pins σ H s)(ho:s'.os=s.os)(u:Un (frs X.stack) ch H H' s.heap s'.heap)(hok:nR X.prog X.w H' s'.heap)(hg:AllBare s'.gens)
  (hch:∀ b∈ch,(b∈X.ex\/X.s₀.heap.objs.size<=b)/\b≠X.env.locals/\(∀ x c,X.env.cells.lookup x=some c->c≠b)/\∀ p∈X.pn++pins,p.1≠b):Inv X pins σ H' s':=by
 obtain⟨h',g',d',t',o'⟩:=s';have e:o'=s.os:=ho;subst e;exact I.call (g':=g') (t':=t') (d':=d') u hok hg hch
end
noncomputable abbrev XK:=Value->Option Addr->Hp->Prop
noncomputable abbrev St:=List (Option V)
noncomputable abbrev VK:=V->Hp->Prop
noncomputable abbrev TE:=St->Hp->VK->Prop
noncomputable abbrev TT:=St->Hp->(Bool->Hp->Prop)->Prop
noncomputable abbrev TA:=St->Hp->(List V->Hp->Prop)->Prop
structure Ends where
 nx:St->Hp->Prop
 rt:VK
 bk:St->Hp->Prop:=fun _ _=>False
 ct:St->Hp->Prop:=fun _ _=>False
noncomputable abbrev TS:=Ends->St->Hp->Prop
noncomputable def EP (X:Cx)(pins:List (Addr×Obj))(σ:St)(Q:VK)(u:Value)(s':Shared):Prop:=∃ v H',Inv X pins σ H' s'/\RelV v u/\Q v H'
noncomputable def TP (X:Cx)(pins:List (Addr×Obj))(σ:St)(Q:Bool->Hp->Prop)(b:Bool)(s':Shared):Prop:=∃ H',Inv X pins σ H' s'/\Q b H'
noncomputable def AP (X:Cx)(pins:List (Addr×Obj))(σ:St)(Q:List V->Hp->Prop)(us:List Value)(s':Shared):Prop:=∃ vs H',Inv X pins σ H' s'/\Vals vs us/\Q vs H'
noncomputable def SP (X:Cx)(pins:List (Addr×Obj))(D:Ends)(f:Flow)(s':Shared):Prop :=
 match f with
 |.next=>∃ σ' H',Inv X pins σ' H' s'/\D.nx σ' H'
 |.brk=>∃ σ' H',Inv X pins σ' H' s'/\D.bk σ' H'
 |.cont=>∃ σ' H',Inv X pins σ' H' s'/\D.ct σ' H'
 |.ret u=>∃ v σ' H',Inv X pins σ' H' s'/\RelV v u/\D.rt v H'
noncomputable def PE (X:Cx)(e:Expr)(t:TE):Prop :=
 ∀(pins:List (Addr×Obj)) (s:Shared) (σ:St) (H:Hp) (Q:VK),Inv X pins σ H s->t σ H Q->wpAny (model X.prog X.w) X.A (eval e X.env) (EP X pins σ Q) X.xe s
noncomputable def PT (X:Cx)(e:Expr)(t:TT):Prop :=
 ∀(pins:List (Addr×Obj)) (s:Shared) (σ:St) (H:Hp) (Q:Bool->Hp->Prop),Inv X pins σ H s->t σ H Q->wpAny (model X.prog X.w) X.A (isTrue e X.env (eval e X.env)) (TP X pins σ Q) X.xe s
noncomputable def PW (X:Cx)(e:Expr)(t:TT):Prop :=
 ∀(whole:Sem Value)(pins:List (Addr×Obj)) (s:Shared) (σ:St) (H:Hp) (Q:Bool->Hp->Prop),Inv X pins σ H s->t σ H Q->wpAny (model X.prog X.w) X.A (isTrue e X.env whole) (TP X pins σ Q) X.xe s
theorem PW.pt {X:Cx}{e:Expr}{t:TT}(h:PW X e t):PT X e t:=h _
noncomputable def PA (X:Cx)(es:List Expr)(t:TA):Prop :=
 ∀(pos:Pos)(pins:List (Addr×Obj)) (s:Shared) (σ:St) (H:Hp) (Q:List V->Hp->Prop),Inv X pins σ H s->t σ H Q->wpAny (model X.prog X.w) X.A (spliced (backTo pos (starEach es X.env))) (AP X pins σ Q) X.xe s
noncomputable def PS (X:Cx)(st:Stmt)(t:TS):Prop :=
 ∀(pins:List (Addr×Obj)) (s:Shared) (σ:St) (H:Hp) (D:Ends),Inv X pins σ H s->t D σ H->wpAny (model X.prog X.w) X.A (exec st X.env) (SP X pins D) X.xe s
noncomputable def wJ (X:Cx)(st:List Stmt)(t:TS):Prop :=
 ∀(pins:List (Addr×Obj)) (s:Shared) (σ:St) (H:Hp) (D:Ends),Inv X pins σ H s->t D σ H->wpAny (model X.prog X.w) X.A (execs st X.env) (SP X pins D) X.xe s
theorem bU {α:Type}{t:Sem α}{Q Q':α->Shared->Prop}{M:Model}{A:Around}{E:Value->Shared->Prop}{s:Shared}(h:wpAny M A t Q E s)(hQ:∀ a s,Q a s->Q' a s):wpAny M A t Q' E s:=wpAny_mono h hQ fun _ _ x=>x
end L2
namespace L2
open PySem PySem.Spec PyProof.Rows
section
variable {X:Cx}
inductive NN (i:Nat)(σ:St)(H:Hp)(Q:VK):Prop
 |mk (v:_) (cH:σ[i]? = some (some v)) (cI:Q v H):NN i σ H Q
noncomputable def QT (i:Nat):TE:=fun σ H Q=>NN i σ H Q
noncomputable def tC (v:V):TE:=fun _ H Q=>Q v H
theorem OL {i:Nat}{x:Str}{pos:Pos}(hN:X.N[i]? = some x)(hv:QR X.env.scope x)(hd:(x==("__debug__":Str))=false:=by decide)(hcd:(x==("__classdict__":Str))=false:=by decide):PE X (.Name x pos) (QT i):=by
 intro pins s σ H Q I h;obtain⟨v,e,h⟩:=h;obtain⟨m,hn,hl⟩:=I.loc;obtain⟨u,r,l⟩:=hl i x v hN e hv;have fin:EP X pins σ Q u s:=⟨v,H,I,r,h⟩;rcases l with ⟨hk,hm⟩|⟨hk,c,hc,hcell⟩
 ·exact wpAny_Name (wpAny_loadName_local I.ok.kind hk hn hm fin) hd
 ·rcases hk with hk|hk
  ·exact wpAny_Name (wpAny_loadName_cell I.ok.kind hk hc hcell fin) hd
  ·exact wpAny_Name (wpAny_loadName_free I.ok.kind hk hc hcell fin hcd) hd
theorem ak {i j pos}:PE X (.Constant (.int i) j pos) (tC (.int i)):=fun _ _ _ H _ I h=>wpAny_Constant_int ⟨.int i,H,I.tok _,⟨_,rfl⟩,h⟩
theorem eM {b j pos}:PE X (.Constant (.bool b) j pos) (tC (.bl b)):=fun _ _ _ H _ I h=>Constant_bool ⟨.bl b,H,I,rfl,h⟩
theorem h8 {j pos}:PE X (.Constant .none j pos) (tC .non):=fun _ _ _ H _ I h=>Constant_none ⟨.non,H,I,rfl,h⟩
theorem ax {x j pos}:PE X (.Constant (.str x) j pos) (tC (.str x)):=fun _ _ _ H _ I h=>Calls.Constant_str ⟨.str x,H,I.tok _,⟨_,rfl⟩,h⟩
noncomputable def Gl (X:Cx)(x:Str):Prop:=X.env.kindOf x=some .globalImplicit
theorem md {E:Value->Shared->Prop}{pins:List (Addr×Obj)}{s:Shared}{σ:St}{H:Hp}{x:Str}{u:Value}{pos:Pos}{Q:Value->Shared->Prop}(I:Inv X pins σ H s)(hg:Gl X x)(hm:X.mg x=some u)(h:Q u s)
  (hd:(x==("__debug__":Str))=false:=by decide):wpAny (model X.prog X.w) X.A (eval (.Name x pos) X.env) Q E s :=
 Calls.Name_function_global I.ok.kind hg (Calls.loadGlobal_global (by rw[I.ok.glob];exact I.mod.glob.keeps I.bk) hm h) hd
theorem kL {E:Value->Shared->Prop}{pins:List (Addr×Obj)}{s:Shared}{σ:St}{H:Hp}{x:Str}{u:Value}{pos:Pos}{Q:Value->Shared->Prop}(I:Inv X pins σ H s)(hg:Gl X x)(hm:X.mg x=none)(hv:bootBuiltins x=some u)(h:Q u s)
  (hn:x ≠ "__name__":=by decide) (hd:(x==("__debug__":Str))=false:=by decide):wpAny (model X.prog X.w) X.A (eval (.Name x pos) X.env) Q E s:=by
 obtain⟨mb,h1,h2⟩:=I.mod.blt;exact Calls.Name_function_global I.ok.kind hg (Calls.loadGlobal_builtin (by rw[I.ok.glob];exact I.mod.glob.keeps I.bk) hm (by rw[I.ok.blt];exact h1.keeps I.bk) ((h2 x hn).trans hv) h) hd
theorem aX {x:Str}{v:V}{u:Value}{pos:Pos}(hg:Gl X x)(hm:X.mg x=some u)(r:RelV v u)(hd:(x==("__debug__":Str))=false:=by decide):PE X (.Name x pos) (tC v) :=
 fun _ _ _ H _ I h=>md I hg hm ⟨v,H,I,r,h⟩ hd
theorem qV {x:Str}{v:V}{u:Value}{pos:Pos}(hg:Gl X x)(hm:X.mg x=none)(hv:bootBuiltins x=some u)(r:RelV v u)(hn:x ≠ "__name__":=by decide)(hd:(x==("__debug__":Str))=false:=by decide):PE X (.Name x pos) (tC v) :=
 fun _ _ _ H _ I h=>kL I hg hm hv ⟨v,H,I,r,h⟩ hn hd
variable {a b:Expr} {ta tb:TE} {pos:Pos}
noncomputable def tB (t:TE):TT:=fun σ H Q=>t σ H fun x H1=>∃ c,x=.bl c/\Q c H1
theorem a8 {e:Expr}{t:TE}(h:PE X e t)(he:∀ whole,isTrue e X.env whole=(do let v <-whole;standAt e.pos;holding [v] (truthy v)):=by intro _;rfl):PT X e (tB t):=by
 intro pins s σ H Q I hw;refine isTrue_plain (bU (h pins s σ H _ I hw) fun v s1 ⟨x,H1,I1,r1,q1⟩=>?_) (he _);obtain⟨d,rfl,q⟩:=q1;cases r1;exact wpAny_truthy_bool ⟨H1,I1,q⟩
variable {tA Tc:TT} {rest:List Expr}
noncomputable def TR (t u:TT):TT:=fun σ H Q=>t σ H fun c H1=>if c=true then u σ H1 Q else Q false H1
noncomputable def Xc (t u:TT):TT:=fun σ H Q=>t σ H fun c H1=>if c=true then Q true H1 else u σ H1 Q
noncomputable def TV (t:TT):TT:=fun σ H Q=>t σ H fun c H1=>Q (!c) H1
theorem dg (ha:PT X a tA):PW X (.BoolOp .And [a] pos) tA:=by
 intro wh pins s σ H Q I h;refine isTrue_and (bU (ha pins s σ H Q I h) fun c s1 e=>?_);cases c with
 |true=>exact isTrue_and_nil e
 |false=>exact e
theorem mf (ha:PT X a tA):PW X (.BoolOp .Or [a] pos) tA:=by
 intro wh pins s σ H Q I h;refine isTrue_or (bU (ha pins s σ H Q I h) fun c s1 e=>?_);cases c with
 |false=>exact isTrue_or_nil e
 |true=>exact e
theorem cE (ha:PT X a tA)(hb:PW X (.BoolOp .And (b::rest) pos) Tc):PW X (.BoolOp .And (a::b::rest) pos) (TR tA Tc):=by
 intro wh pins s σ H Q I h;refine isTrue_and (bU (ha pins s σ H _ I h) fun c s1 eN=>?_);obtain⟨H1,I1,q1⟩:=eN;cases c with
 |true=>exact hb wh pins s1 σ H1 Q I1 q1
 |false=>exact⟨H1,I1,q1⟩
theorem qW (ha:PT X a tA)(hb:PW X (.BoolOp .Or (b::rest) pos) Tc):PW X (.BoolOp .Or (a::b::rest) pos) (Xc tA Tc):=by
 intro wh pins s σ H Q I h;refine isTrue_or (bU (ha pins s σ H _ I h) fun c s1 eN=>?_);obtain⟨H1,I1,q1⟩:=eN;cases c with
 |true=>exact⟨H1,I1,q1⟩
 |false=>exact hb wh pins s1 σ H1 Q I1 q1
theorem dq (ha:PT X a tA):PT X (.UnaryOp .Not a pos) (TV tA):=by
 intro pins s σ H Q I h;exact isTrue_not (ha pins s σ H (fun c H1=>Q (!c) H1) I h)
noncomputable def QU (ta tb:TE):TE:=fun σ H Q=>ta σ H fun x H1=>∃ c,x=.bl c/\if c=true then tb σ H1 Q else Q (.bl false) H1
noncomputable def TX (ta tb:TE):TE:=fun σ H Q=>ta σ H fun x H1=>∃ c,x=.bl c/\if c=true then Q (.bl true) H1 else tb σ H1 Q
noncomputable def QV (ta:TE):TE:=fun σ H Q=>ta σ H fun x H1=>∃ c,x=.bl c/\Q (.bl (!c)) H1
theorem fQ {op}{t:TE}(h:PE X a t):PE X (.BoolOp op [a] pos) t:=fun pins s σ H Q I hw=>BoolOp_one (h pins s σ H Q I hw)
theorem gp (ha:PE X a ta)(hb:PE X (.BoolOp .And (b::rest) pos) tb):PE X (.BoolOp .And (a::b::rest) pos) (QU ta tb):=by
 intro pins s σ H Q I h;refine BoolOp_and (bU (ha pins s σ H _ I h) fun v s1 eN=>?_);obtain⟨x,H1,I1,r1,q1⟩:=eN;obtain⟨c,rfl,q1⟩:=q1;cases r1;refine wpAny_truthy_bool ?_;cases c with
 |true=>exact hb pins s1 σ H1 Q I1 q1
 |false=>exact⟨.bl false,H1,I1,rfl,q1⟩
theorem Gp (ha:PE X a ta)(hb:PE X (.BoolOp .Or (b::rest) pos) tb):PE X (.BoolOp .Or (a::b::rest) pos) (TX ta tb):=by
 intro pins s σ H Q I h;refine BoolOp_or (bU (ha pins s σ H _ I h) fun v s1 eN=>?_);obtain⟨x,H1,I1,r1,q1⟩:=eN;obtain⟨c,rfl,q1⟩:=q1;cases r1;refine wpAny_truthy_bool ?_;cases c with
 |false=>exact hb pins s1 σ H1 Q I1 q1
 |true=>exact⟨.bl true,H1,I1,rfl,q1⟩
theorem OM (ha:PE X a ta):PE X (.UnaryOp .Not a pos) (QV ta):=by
 intro pins s σ H Q I h;refine UnaryOp_ (bU (ha pins s σ H _ I h) fun v s1 eN=>?_);obtain⟨x,H1,I1,r1,q1⟩:=eN;obtain⟨c,rfl,q1⟩:=q1;cases r1;exact not_of (wpAny_truthy_bool ⟨.bl (!c),H1,I1,rfl,q1⟩)
noncomputable def Xd (t:TT)(ta tb:TE):TE:=fun σ H Q=>t σ H fun c H1=>if c=true then ta σ H1 Q else tb σ H1 Q
theorem dC {c:Expr}(hc:PT X c tA)(ha:PE X a ta)(hb:PE X b tb):PE X (.IfExp c a b pos) (Xd tA ta tb):=by
 intro pins s σ H Q I h;refine wpAny_IfExp (bU (hc pins s σ H _ I h) fun d s1 eN=>?_);obtain⟨H1,I1,q1⟩:=eN;cases d with
 |true=>exact ha pins s1 σ H1 Q I1 q1
 |false=>exact hb pins s1 σ H1 Q I1 q1
end
end L2
namespace L2
open PySem PySem.Spec PyProof.Rows
noncomputable def aL (K:Frag)(H:Hp)(a:Addr)(xs:List V):Prop :=
 Rd H a (.lst xs) \/
  ∃(o:Obj)(its:Array Value)(n:Nat),K.lookup a=some o/\o.cls=.type "list"/\o.dict=none/\o.data=.seq its n/\its.size<=sizeLine/\Vals xs its.toList
noncomputable def fc (K:Frag)(H:Hp)(a:Addr)(xs:List V):Prop :=
 Rd H a (.tup xs) \/
  ∃(o:Obj)(its:Array Value)(n:Nat),K.lookup a=some o/\o.cls=.type "tuple"/\o.data=.seq its n/\its.size<=sizeLine/\Vals xs its.toList
noncomputable def TY:Value->Option V
 |.none=>some .non
 |.bool b=>some (.bl b)
 |.int i _=>some (.int i)
 |.str x _=>some (.str x)
 |.bytes b _=>some (.JS b)
 |.float b _=>some (.flt b)
 |.ref a=>some (.ref a)
 |.type n=>some (.ty n)
 |_=>none
theorem RelV.abs {x:V}{u:Value}(r:RelV x u):TY u=some x:=by
 cases x with
 |non=>cases r;rfl
 |bl _=>cases r;rfl
 |int _=>obtain⟨t,rfl⟩:=r;rfl
 |str _=>obtain⟨t,rfl⟩:=r;rfl
 |JS _=>obtain⟨t,rfl⟩:=r;rfl
 |flt _=>obtain⟨t,rfl⟩:=r;rfl
 |ref _=>cases r;rfl
 |ty _=>cases r;rfl
theorem RelV.inj {x y:V}{u:Value}(r:RelV x u)(q:RelV y u):x=y:=Option.some.inj (r.abs.symm.trans q.abs)
theorem Vals.inj:∀{xs ys:List V} {us:List Value},Vals xs us->Vals ys us->xs=ys
 |_,_,_,.nil,.nil=>rfl
 |_,_,_,.cons r t,.cons r' t'=>by rw[r.inj r',Vals.inj t t']
section
variable {X:Cx} {pins:List (Addr×Obj)} {σ:St} {H:Hp} {s:Shared} {a:Addr} {xs ys:List V}
theorem aL.of {K:Frag}(h:H a=some (.lst xs)):aL K H a xs:=.inl (.inl h)
theorem fc.of {K:Frag}(h:H a=some (.tup xs)):fc K H a xs:=.inl (.inl h)
theorem Inv.list (I:Inv X pins σ H s)(h:aL X.K H a xs):∃ its:List Value,Vals xs its/\PlainL s.heap a its.toArray/\xs.length<=sizeLine:=by
 rcases h with h|⟨o,its,n,hk,hc,hd,hs,hz,r⟩
 ·obtain⟨z,its,n,r,e⟩:=h.ok I.hok;exact⟨its,r,⟨_,n,e,rfl,rfl,rfl⟩,z⟩
 ·refine⟨its.toList,r,⟨o,n,I.mV a o hk,hc,hd,by simpa using hs⟩,?_⟩;have e:=r.length;simp only [Array.length_toList]at e;omega
theorem Inv.tuple (I:Inv X pins σ H s)(h:fc X.K H a xs):∃ its:List Value,Vals xs its/\IsTup s.heap a its.toArray/\xs.length<=sizeLine:=by
 rcases h with h|⟨o,its,n,hk,hc,hs,hz,r⟩
 ·obtain⟨z,its,r,p⟩:=h.ok I.hok;exact⟨its,r,p,z⟩
 ·refine⟨its.toList,r,⟨o,I.mV a o hk,hc,n,by simpa using hs⟩,?_⟩;have e:=r.length;simp only [Array.length_toList]at e;omega
theorem Inv.CZ (I:Inv X pins σ H s)(h:aL X.K H a xs)(h':aL X.K H a ys):xs=ys:=by
 obtain⟨its,r,⟨o,n,e,_,_,d⟩,_⟩:=I.list h;obtain⟨its',r',⟨o',n',e',_,_,d'⟩,_⟩:=I.list h';rw[e]at e';cases e';rw[d]at d'
 injection d' with d1 _
 have:its=its':=by simpa using congrArg Array.toList d1
 subst this;exact r.inj r'
theorem Inv.Il (I:Inv X pins σ H s)(h:fc X.K H a xs)(h':fc X.K H a ys):xs=ys:=by
 obtain⟨its,r,⟨o,e,_,n,d⟩,_⟩:=I.tuple h;obtain⟨its',r',⟨o',e',_,n',d'⟩,_⟩:=I.tuple h';rw[e]at e';cases e';rw[d]at d'
 injection d' with d1 _
 have:its=its':=by simpa using congrArg Array.toList d1
 subst this;exact r.inj r'
end
noncomputable abbrev Cx.wish (X:Cx)(E:Value->Shared->Prop):Cx:={ X with xe:=E }
noncomputable abbrev Cx.NO (X:Cx):Cx:=X.wish fun _ _=>False
theorem Cx.Ok.wish {X:Cx}(ok:X.Ok)(E:Value->Shared->Prop):(X.wish E).Ok :=
 ⟨ok.mod,ok.kind,ok.glob,ok.blt,ok.above,ok.inj,ok.has,ok.cab,ok.hd,ok.frames,ok.NK,ok.NL,ok.bs,ok.Gm,ok.zj,ok.Bf,ok.pO,ok.JV⟩
theorem Cx.Ok.h9 {X:Cx}{E:Value->Shared->Prop}(ok:(X.wish E).Ok):X.Ok :=
 ⟨ok.mod,ok.kind,ok.glob,ok.blt,ok.above,ok.inj,ok.has,ok.cab,ok.hd,ok.frames,ok.NK,ok.NL,ok.bs,ok.Gm,ok.zj,ok.Bf,ok.pO,ok.JV⟩
section
variable {X:Cx} {pins:List (Addr×Obj)} {σ:St} {H:Hp} {s:Shared} {E:Value->Shared->Prop}
theorem Inv.wish (I:Inv X pins σ H s)(E:Value->Shared->Prop):Inv (X.wish E) pins σ H s:=⟨I.ok.wish E,I.os,I.bare,I.base,I.loc,I.cell,I.free,I.iG,I.pin,I.hok,I.len⟩
theorem Inv.h9 (I:Inv (X.wish E) pins σ H s):Inv X pins σ H s:=⟨I.ok.h9,I.os,I.bare,I.base,I.loc,I.cell,I.free,I.iG,I.pin,I.hok,I.len⟩
theorem SP.h9 {D:Ends}{f:Flow}{s':Shared}(h:SP (X.wish E) pins D f s'):SP X pins D f s':=by
 cases f with
 |next=>obtain⟨σ',H',I,q⟩:=h;exact⟨σ',H',I.h9,q⟩
 |brk=>obtain⟨σ',H',I,q⟩:=h;exact⟨σ',H',I.h9,q⟩
 |cont=>obtain⟨σ',H',I,q⟩:=h;exact⟨σ',H',I.h9,q⟩
 |ret u=>obtain⟨v,σ',H',I,r,q⟩:=h;exact⟨v,σ',H',I.h9,r,q⟩
theorem wJ.NO {st:List Stmt}{t:TS}(h:wJ X.NO st t):wJ X st t:=fun pins s σ H D I hw =>
 wpAny_mono (h pins s σ H D (I.wish _) hw) (fun _ _ q=>q.h9) fun _ _ z=>False.elim z
end
section
variable {X:Cx} {st:Stmt} {rest:List Stmt} {t u:TS} {e:Expr} {te:TE} {pos:Pos}
noncomputable def QW:TS:=fun D σ H=>D.nx σ H
noncomputable def Mq (t u:TS):TS:=fun D σ H=>t { D with nx:=u D } σ H
theorem aA:wJ X [] QW:=fun _ _ σ H _ I h=>wpAny_execs_nil ⟨σ,H,I,h⟩
theorem af (h1:PS X st t)(h2:wJ X rest u):wJ X (st::rest) (Mq t u):=by
 intro pins s σ H D I h;refine wpAny_execs_cons (bU (h1 pins s σ H { D with nx:=u D } I h) fun f s1 q=>?_);cases f with
 |next =>
  obtain⟨σ',H',I',q⟩:=q;exact h2 pins s1 σ' H' D I' q
 |ret v=>exact q
 |brk=>exact q
 |cont=>exact q
theorem ah (h1:PS X st t):wJ X [st] t:=by
 intro pins s σ H D I h;refine wpAny_execs_cons (bU (h1 pins s σ H D I h) fun f s1 q=>?_);cases f with
 |next=>exact wpAny_execs_nil q
 |ret v=>exact q
 |brk=>exact q
 |cont=>exact q
theorem Inv.quiet {pins:List (Addr×Obj)}{σ:St}{H:Hp}{s:Shared}(I:Inv X pins σ H s):interactive X.env=false:=by simp[interactive,I.ok.kind]
noncomputable def QX (te:TE):TS:=fun D σ H=>te σ H fun _ H1=>D.nx σ H1
theorem aO (he:PE X e te)(hs:swapsWith e none pos.line X.env=pure false:=by rfl):PS X (.Expr e pos) (QX te):=by
 intro pins s σ H D I h;exact wpAny_Expr_any (bU (he pins s σ H _ I h) fun v s1 ⟨x,H1,I1,r1,q1⟩=>⟨σ,H1,I1,q1⟩) I.quiet hs
noncomputable def TZ (te:TE):TS:=fun D σ H=>te σ H D.rt
theorem ar (he:PE X e te):PS X (.Return (some e) pos) (TZ te):=by
 intro pins s σ H D I h;exact wpAny_Return_some (bU (he pins s σ H _ I h) fun v s1 ⟨x,H1,I1,r1,q1⟩=>⟨x,σ,H1,I1,r1,q1⟩)
noncomputable def T6 (c:TT)(t u:TS):TS:=fun D σ H=>c σ H fun b H1=>if b=true then t D σ H1 else u D σ H1
theorem aM {c:Expr}{a b:List Stmt}{tc:TT}(hc:PT X c tc)(ha:wJ X a t)(hb:wJ X b u):PS X (.If c a b pos) (T6 tc t u):=by
 intro pins s σ H D I h;refine wpAny_If (bU (hc pins s σ H _ I h) fun d s1 eN=>?_);obtain⟨H1,I1,q1⟩:=eN;cases d with
 |true=>exact ha pins s1 σ H1 D I1 q1
 |false=>exact hb pins s1 σ H1 D I1 q1
noncomputable def ON:TS:=fun _ _ _=>False
theorem JW:PS X st ON:=fun _ _ _ _ _ _ h=>h.elim
end
noncomputable abbrev TG:=V->St->Hp->(St->Hp->Prop)->Prop
noncomputable abbrev JX:=List V->St->Hp->(St->Hp->Prop)->Prop
noncomputable def PG (X:Cx)(target:Expr)(t:TG):Prop :=
 ∀(pins:List (Addr×Obj)) (s:Shared) (σ:St) (H:Hp) (v:V) (u:Value) (Q:St->Hp->Prop),Inv X pins σ H s->RelV v u->t v σ H Q ->
  wpAny (model X.prog X.w) X.A (assign target X.env u) (fun _ s'=>∃ σ' H',Inv X pins σ' H' s'/\Q σ' H') X.xe s
noncomputable def QY (X:Cx)(ts:List Expr)(t:JX):Prop :=
 ∀(pins:List (Addr×Obj)) (s:Shared) (σ:St) (H:Hp) (vs:List V) (us:List Value) (Q:St->Hp->Prop),Inv X pins σ H s->Vals vs us->t vs σ H Q ->
  wpAny (model X.prog X.w) X.A (assignInOrder ((assignEach ts X.env).map (·.2)) us) (fun _ s'=>∃ σ' H',Inv X pins σ' H' s'/\Q σ' H') X.xe s
noncomputable abbrev OO:=V->V->V->Hp->(Hp->Prop)->Prop
noncomputable def QZ (X:Cx)(t:OO):Prop :=
 ∀(pins:List (Addr×Obj)) (s:Shared) (σ:St) (H:Hp) (o i v:V) (ov iv u:Value) (Q:Hp->Prop),Inv X pins σ H s->RelV o ov->RelV i iv->RelV v u->t o i v H Q ->
  wpAny (model X.prog X.w) X.A (setItem ov iv u) (fun _ s'=>∃ H',Inv X pins σ H' s'/\Q H') X.xe s
noncomputable abbrev Td:=V->V->Hp->VK->Prop
noncomputable def VP (X:Cx)(op:Operator)(t:Td):Prop :=
 ∀(pins:List (Addr×Obj)) (s:Shared) (σ:St) (H:Hp) (x y:V) (v u:Value) (Q:VK),Inv X pins σ H s->RelV x v->RelV y u->t x y H Q ->
  wpAny (model X.prog X.w) X.A (inplaceOp op v u) (EP X pins σ Q) X.xe s
section
variable {X:Cx} {pos:Pos}
noncomputable def xf (i:Nat):TG:=fun v σ H Q=>Q (σ.set i (some v)) H
theorem bQ {i:Nat}{x:Str}(hN:X.N.Nodup)(hi:X.N[i]? = some x)(hx:Loc X.env.scope x)(hf:X.fn x=true\/X.env.scope.names.lookup x=some .local:=by first|exact .inl rfl|exact .inr rfl|assumption):PG X (.Name x pos) (xf i):=by
 intro pins s σ H v u Q I r h;exact wpAny_assign_Name (xc I hN hi hx r (fun s' I'=>⟨_,H,I',h⟩) hf)
noncomputable def T7:JX:=fun vs σ H Q=>vs=[]/\Q σ H
inductive JY (t:TG)(u:JX)(vs:List V)(σ:St)(H:Hp)(Q:(St->Hp->Prop)):Prop
 |mk (v:_) (r:_) (cH:vs=v::r) (cI:t v σ H fun σ' H'=>u r σ' H' Q):JY t u vs σ H Q
noncomputable def Q0 (t:TG)(u:JX):JX:=fun vs σ H Q=>JY t u vs σ H Q
theorem cV:QY X [] T7:=by
 intro pins s σ H vs us Q I r h;obtain⟨e,h⟩:=h;subst e;cases r;exact assignInOrder_nil ⟨σ,H,I,h⟩
theorem aK {e:Expr}{es:List Expr}{t:TG}{u:JX}(h1:PG X e t)(h2:QY X es u)
  (hs:(assignEach (e::es) X.env).map (·.2)=assign e X.env::(assignEach es X.env).map (·.2):=by rfl):QY X (e::es) (Q0 t u):=by
 intro pins s σ H vs us Q I r h;obtain⟨v,vr,e1,h⟩:=h;subst e1;cases r with
 |cons r rr =>
  rw[hs];refine assignInOrder_cons (bU (h1 pins s σ H _ _ _ I r h) fun _ s1 eN=>?_);obtain⟨ZX,H1,I1,q1⟩:=eN;exact h2 pins s1 ZX H1 _ _ Q I1 rr q1
inductive NP (K:Frag)(n:Nat)(t:JX)(v:V)(σ:St)(H:Hp)(Q:(St->Hp->Prop)):Prop
 |mk (a:_) (xs:_) (cH:v=.ref a) (cI:fc K H a xs) (dh:xs.length=n) (fJ:t xs σ H Q):NP K n t v σ H Q
noncomputable def T8 (K:Frag)(n:Nat)(t:JX):TG:=fun v σ H Q=>NP K n t v σ H Q
theorem ff {es:List Expr}{k:Nat}{t:JX}{n:Nat}(hc:X.calm=true)(h:QY X es t)
  (hn:(assignEach es X.env).length=n:=by rfl) (hst:(assignEach es X.env).findIdx? (·.1)=none:=by rfl):PG X (.Tuple es k pos) (T8 X.K n t):=by
 intro pins s σ H v u Q I r hw;obtain⟨a,xs,e1,hq,hl,hw⟩:=hw;subst e1;cases r;obtain⟨its,rv,ht,hz⟩:=I.tuple hq;refine assign_Tuple_tuple (I.ok.hd hc) ht (by simp[hn,<-hl,rv.length]) hst fun h' hx=>?_;have I1:Inv X pins σ H { s with heap:=h' }:=I.kept (t':=s.toks) fun b o e=>hx b o (Nat.ne_of_lt (Heap.lt_size e)) e;exact h pins _ σ H xs _ Q I1 (by simpa using rv) hw
noncomputable def T9 (to ti:TE)(t:OO):TG:=fun v σ H Q=>to σ H fun o H1=>ti σ H1 fun i H2=>t o i v H2 fun H3=>Q σ H3
theorem nS {o i:Expr}{to ti:TE}{t:OO}(ho:PE X o to)(hi:PE X i ti)(hs:QZ X t)
  (ha:∀ v,assign (.Subscript o i pos) X.env v=(do
   let ov <-holding [v] (eval o X.env)
   let iv <-holding [v,ov] (eval i X.env)
   standAt pos
   holding [v,ov,iv] (setItem ov iv v)
   release [v,ov,iv] []):=by intro _;rfl):PG X (.Subscript o i pos) (T9 to ti t):=by
 intro pins s σ H v u Q I r h;rw[ha];refine wpAny_bind (wpAny_holding (bU (ho pins s σ H _ I h) fun ov s1 eN=>?_));obtain⟨x,H1,I1,r1,q1⟩:=eN;refine wpAny_bind (wpAny_holding (bU (hi pins s1 σ H1 _ I1 q1) fun iv s2 eN=>?_));obtain⟨y,H2,I2,r2,q2⟩:=eN;refine wpAny_bind (wpAny_standAt (wpAny_bind (wpAny_holding (bU (hs pins s2 σ H2 x y v ov iv u _ I2 r1 r2 r q2) fun _ s3 eN=>?_))));obtain⟨H3,I3,q3⟩:=eN;exact wpAny_release ⟨σ,H3,I3,q3⟩
noncomputable def Mr (te:TE)(g:TG):TS:=fun D σ H=>te σ H fun x H1=>g x σ H1 D.nx
theorem dD {tg e:Expr}{te:TE}{g:TG}(he:PE X e te)(hg:PG X tg g)(hs:swapsWithSole [tg] e pos.line X.env=pure false:=by rfl)(hw:swappedStores [tg] e X.env=pure none:=by rfl)
  (h1:(assignEach [tg] X.env).map (·.2)=[assign tg X.env]:=by rfl):PS X (.Assign [tg] e pos) (Mr te g):=by
 intro pins s σ H D I h;refine wpAny_Assign_stores (bU (he pins s σ H _ I h) fun v s1 ⟨x,H1,I1,r1,q1⟩=>?_) hs hw;rw[h1];exact bU (hg pins s1 σ H1 x v _ I1 r1 q1) fun _ s2 q=>q
theorem qv {i:Nat}{x:Str}{e:Expr}{te:TE}{pos':Pos}(hN:X.N.Nodup)(hi:X.N[i]? = some x)(hx:Loc X.env.scope x)(he:PE X e te)(hs:swapsWith e (some (.Name x pos')) pos.line X.env=pure false:=by rfl)(hf:X.fn x=true\/X.env.scope.names.lookup x=some .local:=by first|exact .inl rfl|exact .inr rfl|assumption) :
  PS X (.Assign [.Name x pos'] e pos) (Mr te (xf i)):=by
 intro pins s σ H D I h;refine wpAny_Assign_Name (bU (he pins s σ H _ I h) fun v s1 ⟨y,H1,I1,r1,q1⟩=>?_) hs;exact xc I1 hN hi hx r1 (fun s2 I2=>⟨_,H1,I2,q1⟩) hf
noncomputable def Ua (i:Nat)(te:TE)(ti:Td):TS:=fun D σ H=>∃ x,σ[i]? = some (some x)/\te σ H fun y H1=>ti x y H1 fun z H2=>D.nx (σ.set i (some z)) H2
theorem OP {i:Nat}{x:Str}{e:Expr}{te:TE}{op:Operator}{ti:Td}{pos':Pos}(hN:X.N.Nodup)(hi:X.N[i]? = some x)(hx:Loc X.env.scope x)(he:PE X e te)(ho:VP X op ti)(hf:X.fn x=true\/X.env.scope.names.lookup x=some .local:=by first|exact .inl rfl|exact .inr rfl|assumption) :
  PS X (.AugAssign (.Name x pos') op e pos) (Ua i te ti):=by
 intro pins s σ H D I h;obtain⟨v,e1,h⟩:=h;obtain⟨m,hn,hl⟩:=I.loc;have Ub:QR X.env.scope x:=by rcases hx with k|k;exact .inl k;exact .inr (.inl k)
 obtain⟨u,r,l⟩:=hl i x v hi e1 Ub;refine wpAny_AugAssign_Name ?_;have go:wpAny (model X.prog X.w) X.A (eval e X.env) (fun w s₂=>wpAny (model X.prog X.w) X.A (inplaceOp op u w) (fun r s₃=>wpAny (model X.prog X.w) X.A (storeName X.env x r) (fun _=>SP X pins D .next) X.xe s₃) X.xe s₂) X.xe s:=by
  refine bU (he pins s σ H _ I h) fun w s1 eN=>?_;obtain⟨y,H1,I1,r1,q1⟩:=eN;refine bU (ho pins s1 σ H1 v y u w _ I1 r r1 q1) fun z s2 eN=>?_;obtain⟨zv,H2,I2,r2,q2⟩:=eN;exact xc I2 hN hi hx r2 (fun s3 I3=>⟨_,H2,I3,q2⟩) hf
 rcases l with ⟨hk,hm⟩|⟨hk,c,hc,hcell⟩
 ·exact wpAny_loadName_local I.ok.kind hk hn hm go
 ·rcases hk with hk|hk
  ·exact wpAny_loadName_cell I.ok.kind hk hc hcell go
  ·rcases hx with k|k
   ·have:X.env.scope.names.lookup x=some .free:=hk;rw[k]at this;cases this
   ·have:X.env.scope.names.lookup x=some .free:=hk;rw[k]at this;cases this
noncomputable def Xe (f:Int->Int->Int):Td:=fun x y H Q=>∃ i j,x=.int i/\y=.int j/\Q (.int (f i j)) H
theorem OQ:VP X .Add (Xe fun i j=>i+j):=by
 intro pins s σ H x y v u Q I r1 r2 h;obtain⟨i,j,e1,e2,q⟩:=h;subst e1;subst e2;obtain⟨t,rfl⟩:=r1;obtain⟨t',rfl⟩:=r2;exact iadd_int ⟨.int _,H,I.tok _,⟨_,rfl⟩,q⟩
end
section
variable {X:Cx} {pos:Pos}
noncomputable def OR (c:TT)(tb:TS):TS:=fun D σ H=>∃ W:Nat->St->Hp->Prop,(∃ m,W m σ H)/\∀ m σ H,W m σ H ->
 c σ H fun b H1=>if b=true then ∃ N:St->Hp->Prop,(∀ σ' H',N σ' H'->∃ m',m'<m/\W m' σ' H')/\tb { D with nx:=N,ct:=N,bk:=D.nx } σ H1 else D.nx σ H1
theorem xg {c:Expr}{body:List Stmt}{tc:TT}{tb:TS}(hp:PassesOwn (model X.prog X.w) X.A X.env X.xe)(hc:PT X c tc)(hb:wJ X body tb):PS X (.While c body [] pos) (OR tc tb):=by
 intro pins s σ H D I h;obtain⟨W,⟨m0,w0⟩,turn⟩:=h;refine wpAny_While (codeAny_whileLoop (fun n s'=>∃ σ' H',Inv X pins σ' H' s'/\W n σ' H') ?_ m0 ⟨σ,H,I,w0⟩);rintro n s1 ⟨ZX,H1,I1,w1⟩;refine wpAny_passesOwn hp (bU (hc pins s1 ZX H1 _ I1 (turn n ZX H1 w1)) fun b s2 eN=>?_);obtain⟨H2,I2,q2⟩:=eN;cases b with
 |true =>
  obtain⟨N,hN,q2⟩:=q2;rw[if_pos rfl];refine wpAny_passesOwn hp (bU (hb pins s2 ZX H2 _ I2 q2) fun f s3 q3=>?_);cases f with
  |next =>
   obtain⟨ZY,H3,I3,n3⟩:=q3;obtain⟨m',hm,w3⟩:=hN ZY H3 n3;exact⟨m',hm,ZY,H3,I3,w3⟩
  |cont =>
   obtain⟨ZY,H3,I3,n3⟩:=q3;obtain⟨m',hm,w3⟩:=hN ZY H3 n3;exact⟨m',hm,ZY,H3,I3,w3⟩
  |brk=>exact q3
  |ret v=>exact q3
 |false =>
  rw[if_neg Bool.false_ne_true];exact wpAny_execs_nil ⟨ZX,H2,I2,q2⟩
end
structure It where
 go:Nat->Hp->Prop
 JZ:Nat->Hp->V->Hp->Prop
 stop:Nat->Hp->Prop
noncomputable def gW (X:Cx)(pins:List (Addr×Obj))(H:Hp)(b:Addr):Prop :=
 H b=none/\b≠X.env.locals/\b ∉ X.fs/\(b∈X.ex\/X.s₀.heap.objs.size<=b)/\(∀ x c,X.env.cells.lookup x=some c->c≠b)/\∀ p∈X.pn++pins,p.1≠b
theorem Inv.Bh {X:Cx}{pins:List (Addr×Obj)}{σ:St}{H H':Hp}{s:Shared}{b:Addr}(I:Inv X pins σ H s)(hb:s.heap.objs.size<=b)(hn:H' b=none):gW X pins H' b:=by
 refine⟨hn,Nat.ne_of_gt (Nat.lt_of_lt_of_le I.lt hb),I.TN hb,.inr (Nat.le_trans I.sz hb),fun x c e z=>?_,fun p hp z=>?_⟩
 ·obtain⟨v,q⟩:=I.cell x c e;exact absurd (Nat.lt_of_lt_of_le q.lt (by rw[z];exact hb)) (Nat.lt_irrefl _)
 ·exact absurd (Nat.lt_of_lt_of_le (Heap.lt_size (I.pin p hp).1) (by rw[z];exact hb)) (Nat.lt_irrefl _)
structure Turn (P:Program)(w:World)(K:Frag)(tg:Expr)(J:It)(fp:List Addr)(it:Addr)(tn:Nat->Heap->Prop):Prop where
 mem:it∈fp
 obj:∀ i h,tn i h->∀ b∈fp,∃ o,h.get? b=some o/\∀ v,o.data≠.cell v
 keep:∀ i h h',tn i h->(∀ b∈fp,∀ o,h.get? b=some o->h'.get? b=some o)->tn i h'
 item:∀(X:Cx),X.prog=P->X.w=w->X.K=K->X.calm=true->∀(i:Nat)(pins:List (Addr×Obj)) (s:Shared) (σ:St) (H:Hp) (E:Value->Shared->Prop),Inv X pins σ H s->(∀ b∈fp,gW X pins H b)->tn i s.heap->J.go i H ->
  wpAny (model P w) X.A (pyNext (.ref it)) (fun r s1=>∃ u,r=some u /\
   wpAny (model P w) X.A (letOwnedTupleGo tg (.ref it) u) (fun _ s2=>∃ x H',Inv X pins σ H' s2/\RelV x u/\J.JZ i H x H'/\tn (i+1) s2.heap/\∀ b∈fp,H' b=none) E s1) E s
 done:∀(X:Cx),X.prog=P->X.w=w->X.K=K->X.calm=true->∀(i:Nat)(pins:List (Addr×Obj)) (s:Shared) (σ:St) (H:Hp) (E:Value->Shared->Prop),Inv X pins σ H s->(∀ b∈fp,gW X pins H b)->tn i s.heap->J.stop i H ->
  wpAny (model P w) X.A (pyNext (.ref it)) (fun r s1=>r=none/\Inv X pins σ H s1) E s
 self:∀(A:Around)(i:Nat)(s:Shared)(Q:Value->Shared->Prop)(E:Value->Shared->Prop),tn i s.heap->Q (.ref it) s->wpAny (model P w) A (pyIter (.ref it)) Q E s
noncomputable abbrev TI:=St->Hp->(It->Hp->Prop)->Prop
noncomputable def PIE (X:Cx)(pins:List (Addr×Obj))(σ:St)(tg:Expr)(R:It->Hp->Prop)(itv:Value)(s2:Shared):Prop :=
 ∃(it:Addr)(fp:List Addr)(tn:Nat->Heap->Prop)(J:It)(H':Hp),itv=.ref it/\Inv X pins σ H' s2/\Turn X.prog X.w X.K tg J fp it tn/\tn 0 s2.heap/\(∀ b∈fp,gW X pins H' b)/\R J H'
noncomputable def PI (X:Cx)(tg iter:Expr)(wi:TI):Prop :=
 ∀(pins:List (Addr×Obj)) (s:Shared) (σ:St) (H:Hp) (R:It->Hp->Prop),Inv X pins σ H s->wi σ H R ->
  wpAny (model X.prog X.w) X.A (eval iter X.env) (fun v s1=>wpAny (model X.prog X.w) X.A (pyIter v) (PIE X pins σ tg R) X.xe s1) X.xe s
theorem Gq {M:Model}{A:Around}{E:Value->Shared->Prop}{s:Shared}{tg:Expr}{it:Addr}{u:Value}{o:Obj}{n:String}{vs:Array Value}{Q:Unit->Shared->Prop}(ho:s.heap.get? it=some o)(hc:o.cls=.type n)(hd:o.data=.fields vs)
  (hn:["enumerate","zip","dict_itemiterator","dict_reverseitemiterator","odict_iterator","itertools.zip_longest","itertools.pairwise"].contains n=false) (hQ:Q () s):wpAny M A (letOwnedTupleGo tg (.ref it) u) Q E s:=by
 unfold letOwnedTupleGo;cases tg <;> first
  |exact wpAny_pure hQ
  |(cases u <;> first
    |exact wpAny_pure hQ
    |(refine wpAny_bind (wpAny_load ho ?_);rw[hc,hd];show wpAny M A (if(["enumerate","zip","dict_itemiterator","dict_reverseitemiterator","odict_iterator","itertools.zip_longest","itertools.pairwise"].contains n&&vs[0]? == some (rawInt _))=true then _ else _) Q E s;rw[if_neg (by intro h;rw[hn,Bool.false_and]at h;cases h)];exact wpAny_pure hQ))
noncomputable def Ql (K:Frag)(a:Addr):It :=
 ⟨fun i H=>∃ xs x,aL K H a xs/\xs[i]? = some x,fun i H x H'=>H'=H/\∀ xs,aL K H a xs->xs[i]? = some x,fun i H=>∃ xs,aL K H a xs/\xs.length<=i⟩
noncomputable def NQ (lo:Int)(n:Nat):It:=⟨fun i _=>i<n,fun i H x H'=>H'=H/\x=.int (lo+i),fun i _=>n<=i⟩
theorem Im {P:Program}{w:World}{K:Frag}{tg:Expr}(a it:Addr):Turn P w K tg (Ql K a) [it] it (fun i h=>h.IsListIter it a i) where
 mem:=by simp
 obj:=fun i h st b hb=>by
  have e:b=it:=by simpa using hb
  subst e;obtain⟨o,e,c,d⟩:=st;exact⟨o,e,fun v z=>by rw[d]at z;cases z⟩
 keep:=fun i h h' st k=>st.at fun o e=>k it (by simp) o e
 item:=by
  intro X hP hw hK hc i pins s σ H E I hf st hg;subst hP hw hK;obtain⟨xs,x,hq,hx⟩:=hg;obtain⟨its,rv,p,hz⟩:=I.list hq;obtain⟨u,hu,ru⟩:=rv.get hx;obtain⟨f0,f1,f2,f3,f4,f5⟩:=hf it (by simp);refine wpAny_pyNext_list_item st p.isList (x:=u) (by simpa using hu) fun h' st' sb=>?_;have I1:Inv X pins σ H { s with heap:=h' }:=I.turned (t':=s.toks) (fun b o hb e=>(sb.2 b hb).trans e) f0 f1 f3 f4 f5;obtain⟨o,e,c,d⟩:=id st';exact⟨u,rfl,Gq (s:={ s with heap:=h' }) e c d (by decide) ⟨x,H,I1,ru,⟨rfl,fun ys hy=>by rw[I.CZ hy hq];exact hx⟩,st',fun b hb=>(hf b hb).1⟩⟩
 done:=by
  intro X hP hw hK hc i pins s σ H E I hf st hg;subst hP hw hK;obtain⟨xs,hq,hx⟩:=hg;obtain⟨its,rv,p,hz⟩:=I.list hq;obtain⟨f0,f1,f2,f3,f4,f5⟩:=hf it (by simp);have hl:=rv.length;exact wpAny_pyNext_list_end (I.ok.hd hc) st p.isList (by simp;omega) fun h' eb=>⟨rfl,I.turned (t':=s.toks) (fun b o hb e=>eb b o hb e) f0 f1 f3 f4 f5⟩
 self:=fun _ _ _ _ _ st h=>wpAny_pyIter_listiter st h
theorem ES {P:Program}{w:World}{K:Frag}{tg:Expr}(it:Addr)(lo:Int)(n:Nat):Turn P w K tg (NQ lo n) [it] it (fun i h=>IsRangeIter h it (lo+(i:Nat) * 1) ((n:Int)-(i:Nat)) 1) where
 mem:=by simp
 obj:=fun i h st b hb=>by
  have e:b=it:=by simpa using hb
  subst e;exact⟨_,st,fun v z=>by
   have z':Data.fields _=Data.cell v:=z;cases z'⟩
 keep:=fun i h h' st k=>k it (by simp) _ st
 item:=by
  intro X hP hw hK hc i pins s σ H E I hf st hg;subst hP hw hK;obtain⟨f0,f1,f2,f3,f4,f5⟩:=hf it (by simp);have W:=Walks.range (prog:=X.prog) (w:=X.w) (I.ok.hd hc) it lo 1 n;refine W.item i s _ _ hg st fun v h' tk hv st' kk=>?_;obtain⟨t,rfl⟩:=hv;have I1:Inv X pins σ H { s with heap:=h',toks:=tk }:=I.turned (fun b o hb e=>kk b o (by simpa using hb) e) f0 f1 f3 f4 f5;refine⟨_,rfl,Gq (s:={ s with heap:=h',toks:=tk }) (n:="range_iterator") st' rfl rfl (by decide) ⟨.int (lo+i),H,I1,⟨t,?_⟩,⟨rfl,rfl⟩,st',fun b hb=>(hf b hb).1⟩⟩;rw[Int.mul_one]
 done:=by
  intro X hP hw hK hc i pins s σ H E I hf st hg;subst hP hw hK;obtain⟨f0,f1,f2,f3,f4,f5⟩:=hf it (by simp);exact wpAny_pyNext_range_end (I.ok.hd hc) st (by have:n<=i:=hg;omega) fun h' eb=>⟨rfl,I.turned (t':=s.toks) (fun b o hb e=>eb b o hb e) f0 f1 f3 f4 f5⟩
 self:=fun _ _ _ _ _ st h=>wpAny_pyIter_rangeiter st h
end L2
namespace L2
open PySem PySem.Spec PyProof.Rows
section
variable {X:Cx} {tg:Expr}
inductive J0 (K:Frag)(R:(It->Hp->Prop))(x:V)(H1:Hp):Prop
 |mk (a:_) (cH:x=.ref a) (cI:(∃ xs,aL K H1 a xs)/\R (Ql K a) H1):J0 K R x H1
noncomputable def Q3 (K:Frag)(tl:TE):TI:=fun σ H R=>tl σ H fun x H1=>J0 K R x H1
theorem cW {l:Expr}{tl:TE}(hl:PE X l tl):PI X tg l (Q3 X.K tl):=by
 intro pins s σ H R I h;refine bU (hl pins s σ H _ I h) fun v s1 eN=>?_;obtain⟨x,H1,I1,r1,q1⟩:=eN;obtain⟨a,e,⟨xs,hq⟩,q⟩:=q1;subst e;cases r1;obtain⟨its,rv,p,hz⟩:=I1.list hq;refine wpAny_pyIter_list p.isList ?_;refine⟨s1.heap.objs.size,[s1.heap.objs.size],_,_,H1,rfl,I1.kept (t':=s1.toks) fun b o e=>Heap.get?_push_of_some _ e,Im a _,⟨_,Heap.get?_push_size _ rfl,rfl,rfl⟩,fun b hb=>?_,q⟩;have e:b=s1.heap.objs.size:=by simpa using hb
 subst e;exact I1.Bh (Nat.le_refl _) (I1.hok.fresh (Nat.le_refl _))
theorem C0 {pins:List (Addr×Obj)}{σ:St}{H:Hp}{s:Shared}{R:It->Hp->Prop}{E:Value->Shared->Prop}{lo hi:Int}{t u v:Tok}{tk:Nat}(I:Inv X pins σ H s)(h1:-(2 ^ 62)<=lo)(h2:lo<2 ^ 62)(h3:-(2 ^ 62)<=hi)(h4:hi<2 ^ 62)
  (q:R (NQ lo (hi-lo).toNat) H):wpAny (model X.prog X.w) X.A (pyIter (.ref s.heap.objs.size)) (PIE X pins σ tg R) E { s with heap:=s.heap.push { cls:=.type "range",data:=.fields #[.int lo t,.int hi u,.int 1 v] },toks:=tk }:=by
 refine wpAny_pyIter_range (IsRange.new ..) (small_one h1 h2 h3 h4) ?_;have I1:Inv X pins σ H { s with heap:=s.heap.push { cls:=.type "range",data:=.fields #[.int lo t,.int hi u,.int 1 v] },toks:=tk }:=I.kept fun b o e=>Heap.get?_push_of_some _ e;refine⟨(s.heap.push { cls:=.type "range",data:=.fields #[.int lo t,.int hi u,.int 1 v] }).objs.size,[(s.heap.push { cls:=.type "range",data:=.fields #[.int lo t,.int hi u,.int 1 v] }).objs.size],_,_,H,rfl,
  I1.kept (t':=tk) fun b o e=>Heap.get?_push_of_some _ e,ES _ lo (hi-lo).toNat,?_,fun b hb=>?_,q⟩
 ·have e1:lo+((0:Nat):Int) * 1=lo:=by simp
  have e2:(((hi-lo).toNat:Nat):Int)-((0:Nat):Int)=Builtin.Range.rangeSize lo hi 1:=by rw[rangeSize_one];split <;> omega
  show IsRangeIter _ _ (lo+((0:Nat):Int) * 1) ((((hi-lo).toNat:Nat):Int)-((0:Nat):Int)) 1;rw[e1,e2];exact Heap.get?_push_size _ rfl
 ·have e:b=(s.heap.push { cls:=.type "range",data:=.fields #[.int lo t,.int hi u,.int 1 v] }).objs.size:=by simpa using hb
  subst e;exact I1.Bh (Nat.le_refl _) (I1.hok.fresh (Nat.le_refl _))
inductive J1 (R:(It->Hp->Prop))(vs:List V)(H1:Hp):Prop
 |mk (j:Int) (cH:vs=[.int j]) (cI:-(2 ^ 62)<=j/\j<2 ^ 62/\R (NQ 0 j.toNat) H1):J1 R vs H1
noncomputable def Q5 (ta:TA):TI:=fun σ H R=>ta σ H fun vs H1=>J1 R vs H1
inductive J2 (R:(It->Hp->Prop))(vs:List V)(H1:Hp):Prop
 |mk (i j:Int) (cH:vs=[.int i,.int j]) (cI:(-(2 ^ 62)<=i/\i<2 ^ 62/\-(2 ^ 62)<=j/\j<2 ^ 62)) (dh:R (NQ i (j-i).toNat) H1):J2 R vs H1
noncomputable def Q6 (ta:TA):TI:=fun σ H R=>ta σ H fun vs H1=>J2 R vs H1
theorem jg {a:Expr}{ta:TA}{p pos:Pos}(hg:Gl X "range")(hm:X.mg "range"=none)(ha:PA X [a] ta)(hs:starEach [a] X.env=[(false,eval a X.env)]:=by rfl):PI X tg (.Call (.Name "range" p) [a] [] pos) (Q5 ta):=by
 intro pins s σ H R I h;refine Call_ (kL I hg hm boot_range (PyProof.Rows.callWith_type1 (bU (ha pos pins s σ H _ I h) fun us s1 ⟨vs,H1,I1,r1,q1⟩=>?_) hs rfl));obtain⟨j,e,q1,q2,q⟩:=q1;subst e;cases r1 with
 |cons r rr =>
  cases rr;obtain⟨t,rfl⟩:=r;exact call_range_1 (C0 I1 (by omega) (by omega) q1 q2 (by simpa using q))
theorem zK {a b:Expr}{ta:TA}{p pos:Pos}(hg:Gl X "range")(hm:X.mg "range"=none)(ha:PA X [a,b] ta)(hs:starEach [a,b] X.env=[(false,eval a X.env),(false,eval b X.env)]:=by rfl)(hs2:starEach [b] X.env=[(false,eval b X.env)]:=by rfl) :
  PI X tg (.Call (.Name "range" p) [a,b] [] pos) (Q6 ta):=by
 intro pins s σ H R I h;refine Call_ (kL I hg hm boot_range (PyProof.Rows.callWith_type1 (bU (ha pos pins s σ H _ I h) fun us s1 ⟨vs,H1,I1,r1,q1⟩=>?_) (by rw[hs,hs2]) (by rw[hs2];rfl)));obtain⟨i,j,e,⟨q1,q2,q3,q4⟩,q⟩:=q1;subst e;cases r1 with
 |cons r rr =>
  cases rr with
  |cons r' rr =>
   cases rr;obtain⟨t,rfl⟩:=r;obtain⟨t',rfl⟩:=r';exact call_range_2 (C0 I1 q1 q2 q3 q4 q)
noncomputable def Uc (wi:TI)(g:TG)(tb:TS):TS:=fun D σ H=>wi σ H fun J H1=>∃ W:Nat->Nat->St->Hp->Prop,(∃ m,W 0 m σ H1)/\∀ i m σ H,W i m σ H ->
 (J.stop i H/\D.nx σ H)\/(J.go i H/\∃ N:St->Hp->Prop,(∀ σ' H',N σ' H'->∃ m',m'<m/\W (i+1) m' σ' H')/\∀ x H',J.JZ i H x H'->g x σ H' fun ZZ H2=>tb { D with nx:=N,ct:=N,bk:=D.nx } ZZ H2)
noncomputable def xh (fp:List Addr)(h:Heap):List (Addr×Obj):=fp.filterMap fun b=>(h.get? b).map fun o=>(b,o)
theorem mh {fp:List Addr}{h:Heap}{b:Addr}{o:Obj}(hb:b∈fp)(e:h.get? b=some o):(b,o)∈xh fp h:=List.mem_filterMap.mpr ⟨b,hb,by rw[e];rfl⟩
theorem Io {fp:List Addr}{h:Heap}{p:Addr×Obj}(hp:p∈xh fp h):p.1∈fp/\h.get? p.1=some p.2:=by
 obtain⟨b,hb,e⟩:=List.mem_filterMap.mp hp;cases q:h.get? b with
 |none=>rw[q]at e;cases e
 |some o =>
  rw[q]at e;have e':(b,o)=p:=Option.some.inj e;subst e';exact⟨hb,q⟩
theorem Inv.pinned {pins:List (Addr×Obj)}{σ:St}{H:Hp}{s:Shared}{fp:List Addr}(I:Inv X pins σ H s)(hf:∀ b∈fp,gW X pins H b)(ho:∀ b∈fp,∃ o,s.heap.get? b=some o/\∀ v,o.data≠.cell v):Inv X (pins++xh fp s.heap) σ H s :=
 I.Gn fun p hp=>(mem_append.mp hp).elim (fun z=>I.pin p (mem_append_right _ z)) fun z=>by
  obtain⟨hb,e⟩:=Io z;obtain⟨f0,f1,f2,_⟩:=hf p.1 hb;obtain⟨o,e',d⟩:=ho p.1 hb;rw[e]at e';cases e';exact⟨e,f0,f1,f2,d⟩
theorem Inv.nV {pins pl:List (Addr×Obj)}{σ:St}{H:Hp}{s:Shared}(I:Inv X (pins++pl) σ H s):Inv X pins σ H s:=I.Gn fun p hp=>I.pin p (mem_append_right _ (mem_append_left _ hp))
theorem fg {iter:Expr}{body:List Stmt}{wi:TI}{g:TG}{tb:TS}{pos:Pos}(hp:PassesOwn (model X.prog X.w) X.A X.env X.xe)(hc:X.calm=true)(hi:PI X tg iter wi)(hg:PG X tg g)(hb:wJ X body tb)
  (hs:∀ x,foldedSetIterable iter X.env x=pure x:=by intro _;rfl):PS X (.For tg iter body [] pos) (Uc wi g tb):=by
 intro pins s σ H D I h;refine wpAny_For (bU (hi pins s σ H _ I h) fun v s1 h1=>bU h1 fun itv s2 h2=>?_) hs;obtain⟨it,fp,tn,J,H2,e,I2,T,st2,f2,W,⟨m0,w0⟩,turn⟩:=h2;subst e;have stat:∀{H':Hp},(∀ b∈fp,H' b=none)->∀ b∈fp,gW X pins H' b:=fun hn b hb=>⟨hn b hb,(f2 b hb).2⟩;refine codeAny_forLoop_any (fun n s'=>∃ i σ' H',Inv X pins σ' H' s'/\tn i s'.heap/\(∀ b∈fp,H' b=none)/\W i n σ' H') ?_ m0 ⟨0,σ,H2,I2,st2,fun b hb=>(f2 b hb).1,w0⟩;rintro n s3 ⟨i,ZY,H3,I3,st3,Q7,w3⟩;rcases turn i n ZY H3 w3 with ⟨stop,qn⟩|⟨go,N,hN,step⟩
 ·refine wpAny_passesOwn hp (bU (T.done X rfl rfl rfl hc i pins s3 ZY H3 X.xe I3 (stat Q7) st3 stop) fun r s4 eN=>?_);obtain⟨hr,I4⟩:=eN;subst hr;exact wpAny_execs_nil ⟨ZY,H3,I4,qn⟩
 ·refine wpAny_passesOwn hp (bU (T.item X rfl rfl rfl hc i pins s3 ZY H3 X.xe I3 (stat Q7) st3 go) fun r s4 eN=>?_);obtain⟨u,hr,h4⟩:=eN;subst hr;refine wpAny_passesOwn hp (bU h4 fun _ s5 eN=>?_);obtain⟨x,H5,I5,r5,y5,OS,Q8⟩:=eN;have Ud:=I5.pinned (stat Q8) (T.obj _ _ OS);refine wpAny_passesOwn hp (bU (hg _ s5 ZY H5 x u _ Ud r5 (step x H5 y5)) fun _ s6 eN=>?_);obtain⟨Z2,H6,I6,q6⟩:=eN;refine wpAny_passesOwn hp (bU (hb _ s6 Z2 H6 _ I6 q6) fun f s7 q7=>?_);have again:∀{Z4:St} {H7:Hp},Inv X (pins++xh fp s5.heap) Z4 H7 s7->N Z4 H7->∃ m,m<n/\∃ i σ' H',Inv X pins σ' H' s7/\tn i s7.heap/\(∀ b∈fp,H' b=none)/\W i m σ' H':=fun {Z4 H7} I7 n7=>by
   obtain⟨m',hm,w7⟩:=hN Z4 H7 n7;refine⟨m',hm,i+1,Z4,H7,I7.nV,T.keep _ _ _ OS fun b hb o e=>(I7.pin (b,o) (mem_append_right _ (mem_append_right _ (mh hb e)))).1,fun b hb=>?_,w7⟩;obtain⟨o,e,d⟩:=T.obj _ _ OS b hb;exact(I7.pin (b,o) (mem_append_right _ (mem_append_right _ (mh hb e)))).2.1
  cases f with
  |next=>obtain⟨Z4,H7,I7,n7⟩:=q7;exact again I7 n7
  |cont=>obtain⟨Z4,H7,I7,n7⟩:=q7;exact again I7 n7
  |brk=>obtain⟨Z4,H7,I7,q7⟩:=q7;exact⟨Z4,H7,I7.nV,q7⟩
  |ret v=>obtain⟨x7,Z4,H7,I7,r7,q7⟩:=q7;exact⟨x7,Z4,H7,I7.nV,r7,q7⟩
end
theorem jj {K:Frag}{a:Addr}{xs:List V}{g:TG}{tb:TS}{D:Ends}{σ:St}{H:Hp}(Pv:Nat->St->Hp->Prop)(h0:Pv 0 σ H)(hl:∀ i σ H,i<=xs.length->Pv i σ H->aL K H a xs)
  (hs:∀ i x σ H,xs[i]? = some x->Pv i σ H->g x σ H fun ZZ H2=>tb { D with nx:=Pv (i+1),ct:=Pv (i+1),bk:=D.nx } ZZ H2) (hd:∀ σ H,Pv xs.length σ H->D.nx σ H) :
  ∃ W:Nat->Nat->St->Hp->Prop,(∃ m,W 0 m σ H)/\∀ i m σ H,W i m σ H ->
   ((Ql K a).stop i H/\D.nx σ H)\/((Ql K a).go i H/\∃ N:St->Hp->Prop,(∀ σ' H',N σ' H'->∃ m',m'<m/\W (i+1) m' σ' H')/\∀ x H',(Ql K a).JZ i H x H'->g x σ H' fun ZZ H2=>tb { D with nx:=N,ct:=N,bk:=D.nx } ZZ H2):=by
 refine⟨fun i m σ H=>m=xs.length-i/\i<=xs.length/\Pv i σ H,⟨xs.length,by simp,Nat.zero_le _,h0⟩,?_⟩;rintro i m σ H ⟨rfl,hi,p⟩;have q:=hl i σ H hi p
 by_cases hlt:i<xs.length
 ·refine .inr ⟨⟨xs,xs[i],q,by simp[hlt]⟩,Pv (i+1),fun σ' H' p'=>⟨xs.length-(i+1),by omega,rfl,hlt,p'⟩,fun x H' y=>?_⟩;obtain⟨e,y⟩:=y;subst e;exact hs i x σ _ (y xs q) p
 ·have e:i=xs.length:=by omega
  subst e;exact .inl ⟨⟨xs,q,Nat.le_refl _⟩,hd σ H p⟩
theorem lg {lo:Int}{n:Nat}{g:TG}{tb:TS}{D:Ends}{σ:St}{H:Hp}(Pv:Nat->St->Hp->Prop)(h0:Pv 0 σ H)
  (hs:∀ i σ H,i<n->Pv i σ H->g (.int (lo+i)) σ H fun ZZ H2=>tb { D with nx:=Pv (i+1),ct:=Pv (i+1),bk:=D.nx } ZZ H2) (hd:∀ σ H,Pv n σ H->D.nx σ H) :
  ∃ W:Nat->Nat->St->Hp->Prop,(∃ m,W 0 m σ H)/\∀ i m σ H,W i m σ H ->
   ((NQ lo n).stop i H/\D.nx σ H)\/((NQ lo n).go i H/\∃ N:St->Hp->Prop,(∀ σ' H',N σ' H'->∃ m',m'<m/\W (i+1) m' σ' H')/\∀ x H',(NQ lo n).JZ i H x H'->g x σ H' fun ZZ H2=>tb { D with nx:=N,ct:=N,bk:=D.nx } ZZ H2):=by
 refine⟨fun i m σ H=>m=n-i/\i<=n/\Pv i σ H,⟨n,by simp,Nat.zero_le _,h0⟩,?_⟩;rintro i m σ H ⟨rfl,hi,p⟩
 by_cases hlt:i<n
 ·refine .inr ⟨hlt,Pv (i+1),fun σ' H' p'=>⟨n-(i+1),by omega,rfl,hlt,p'⟩,fun x H' y=>?_⟩;obtain⟨e,y⟩:=y;subst e y;exact hs i σ _ hlt p
 ·have e:i=n:=by omega
  subst e;exact .inl ⟨Nat.le_refl _,hd σ H p⟩
end L2
namespace L2
open PySem PySem.Spec PyProof.Rows
noncomputable abbrev R2:=V->V->Hp->VK->Prop
noncomputable def lh (X:Cx)(f:Value->Value->Sem Value)(r:R2):Prop :=
 ∀(pins:List (Addr×Obj)) (s:Shared) (σ:St) (H:Hp) (x y:V) (v u:Value) (Q:VK),Inv X pins σ H s->RelV x v->RelV y u->r x y H Q ->
  wpAny (model X.prog X.w) X.A (f v u) (EP X pins σ Q) X.xe s
noncomputable def Ue (X:Cx)(f:Value->Sem Value)(r:V->Hp->VK->Prop):Prop :=
 ∀(pins:List (Addr×Obj)) (s:Shared) (σ:St) (H:Hp) (x:V) (v:Value) (Q:VK),Inv X pins σ H s->RelV x v->r x H Q ->
  wpAny (model X.prog X.w) X.A (f v) (EP X pins σ Q) X.xe s
noncomputable def f7 (X:Cx)(f:Value)(r:List V->Hp->VK->Prop):Prop :=
 ∀(pins:List (Addr×Obj)) (s:Shared) (σ:St) (H:Hp) (xs:List V) (us:List Value) (Q:VK),Inv X pins σ H s->Vals xs us->r xs H Q ->
  wpAny (model X.prog X.w) X.A (call f us) (EP X pins σ Q) X.xe s
noncomputable def Q9 (r:R2)(ta tb:TE):TE:=fun σ H Q=>ta σ H fun x H1=>tb σ H1 fun y H2=>r x y H2 Q
noncomputable def Xg (r:V->Hp->VK->Prop)(ta:TE):TE:=fun σ H Q=>ta σ H fun x H1=>r x H1 Q
inductive VQ (C:Int->Int->Prop)(g:Int->Int->V)(x:V)(y:V)(H:Hp)(Q:VK):Prop
 |mk (i:_) (j:_) (cH:x=.int i) (cI:y=.int j) (dh:C i j/\Q (g i j) H):VQ C g x y H Q
noncomputable def rI (C:Int->Int->Prop)(g:Int->Int->V):R2:=fun x y H Q=>VQ C g x y H Q
inductive Ra (g:Int->Int->V)(x:V)(y:V)(H:Hp)(Q:VK):Prop
 |mk (i:_) (j:_) (cH:x=.int i) (cI:y=.int j) (dh:Q (g i j) H):Ra g x y H Q
noncomputable def NR (g:Int->Int->V):R2:=fun x y H Q=>Ra g x y H Q
noncomputable def rU (g:Int->V):V->Hp->VK->Prop:=fun x H Q=>∃ i,x=.int i/\Q (g i) H
section
variable {X:Cx} {a b c:Expr} {ta tb tc:TE} {pos:Pos}
theorem OT (ha:PE X a ta)(hb:PE X b tb){pins:List (Addr×Obj)}{s:Shared}{σ:St}{H:Hp}{R:V->V->Hp->Prop}(I:Inv X pins σ H s)
  (h:ta σ H fun x H1=>tb σ H1 fun y H2=>R x y H2) {Q:Value->Shared->Prop} {f:Value->Value->Sem Value}
  (hf:∀ v u s2 x y H2,Inv X pins σ H2 s2->RelV x v->RelV y u->R x y H2->wpAny (model X.prog X.w) X.A (f v u) Q X.xe s2) :
  wpAny (model X.prog X.w) X.A (eval a X.env) (fun v s₁=>wpAny (model X.prog X.w) X.A (eval b X.env) (fun u s₂=>wpAny (model X.prog X.w) X.A (f v u) Q X.xe s₂) X.xe s₁) X.xe s:=by
 refine bU (ha pins s σ H _ I h) fun v s1 eN=>?_;obtain⟨x,H1,I1,r1,q1⟩:=eN;refine bU (hb pins s1 σ H1 _ I1 q1) fun u s2 eN=>?_;obtain⟨y,H2,I2,r2,q2⟩:=eN;exact hf v u s2 x y H2 I2 r1 r2 q2
theorem aH {op:Operator}{r:R2}(ho:lh X (binaryOp op) r)(ha:PE X a ta)(hb:PE X b tb):PE X (.BinOp a op b pos) (Q9 r ta tb):=by
 intro pins s σ H Q I h;exact wpAny_BinOp (OT ha hb I h fun v u s2 x y H2 I2 rx ry q=>ho pins s2 σ H2 x y v u Q I2 rx ry q)
theorem J3 {op:UnaryOp}{r:V->Hp->VK->Prop}(ho:Ue X (unaryOp op) r)(ha:PE X a ta):PE X (.UnaryOp op a pos) (Xg r ta):=by
 intro pins s σ H Q I h;exact UnaryOp_ (bU (ha pins s σ H _ I h) fun v s1 ⟨x,H1,I1,r1,q1⟩=>ho pins s1 σ H1 x v Q I1 r1 q1)
theorem Te {f:Value->Value->Sem Value}{C:Int->Int->Prop}{g:Int->Int->Int}
  (rule:∀(i j:Int)(t u:Tok)(s:Shared)(Q:Value->Shared->Prop)(E:Value->Shared->Prop),C i j->Q (.int (g i j) s.toks) { s with toks:=s.toks+1 }->wpAny (model X.prog X.w) X.A (f (.int i t) (.int j u)) Q E s) :
  lh X f (rI C fun i j=>.int (g i j)):=by
 intro pins s σ H x y v u Q I rx ry h;obtain⟨i,j,rfl,rfl,hc,q⟩:=h;obtain⟨t,rfl⟩:=rx;obtain⟨t',rfl⟩:=ry;exact rule i j t t' s _ _ hc ⟨.int (g i j),H,I.tok _,⟨_,rfl⟩,q⟩
theorem Rb {f:Value->Value->Sem Value}{g:Int->Int->Int}
  (rule:∀(i j:Int)(t u:Tok)(s:Shared)(Q:Value->Shared->Prop)(E:Value->Shared->Prop),Q (.int (g i j) s.toks) { s with toks:=s.toks+1 }->wpAny (model X.prog X.w) X.A (f (.int i t) (.int j u)) Q E s) :
  lh X f (NR fun i j=>.int (g i j)):=by
 intro pins s σ H x y v u Q I rx ry h;obtain⟨i,j,rfl,rfl,q⟩:=h;obtain⟨t,rfl⟩:=rx;obtain⟨t',rfl⟩:=ry;exact rule i j t t' s _ _ ⟨.int (g i j),H,I.tok _,⟨_,rfl⟩,q⟩
theorem Mt {f:Value->Value->Sem Value}{g:Int->Int->Bool}
  (rule:∀(i j:Int)(t u:Tok)(s:Shared)(Q:Value->Shared->Prop)(E:Value->Shared->Prop),Q (.bool (g i j)) s->wpAny (model X.prog X.w) X.A (f (.int i t) (.int j u)) Q E s) :
  lh X f (NR fun i j=>.bl (g i j)):=by
 intro pins s σ H x y v u Q I rx ry h;obtain⟨i,j,rfl,rfl,q⟩:=h;obtain⟨t,rfl⟩:=rx;obtain⟨t',rfl⟩:=ry;exact rule i j t t' s _ _ ⟨.bl (g i j),H,I,rfl,q⟩
noncomputable def Ug (i j:Int):Prop:=0<j/\j<1073741824
noncomputable def Uh (i j:Int):Prop:=0<=j/\j<=1000000/\i.natAbs<2 ^ 64
noncomputable def OU (i j:Int):Prop:=(-(2 ^ 64)<i/\i<2 ^ 64)\/(-(2 ^ 64)<j/\j<2 ^ 64)
theorem OU.ok {i j:Int}(h:OU i j):IntMulOk i j:=by
 rcases h with ⟨h1,h2⟩|⟨h1,h2⟩
 ·exact .of_left (intBits_le_64 h1 h2)
 ·exact .of_right (intBits_le_64 h1 h2)
theorem aV:lh X (binaryOp .Add) (NR fun i j=>.int (i+j)):=Rb fun _ _ _ _ _ _ _ q=>add_int q
theorem dZ:lh X (binaryOp .Sub) (NR fun i j=>.int (i-j)):=Rb fun _ _ _ _ _ _ _ q=>sub_int q
theorem nW:lh X (binaryOp .Mult) (rI OU fun i j=>.int (i * j)):=Te fun _ _ _ _ _ _ _ hc q=>mul_int q hc.ok
theorem qX:lh X (binaryOp .FloorDiv) (rI Ug fun i j=>.int (i / j)):=Te fun i j _ _ _ _ _ hc q=>by
 have h1:(0:Int)<j:=hc.1;have h2:j<1073741824:=hc.2;exact floordiv_int (by omega) (by rw[Int.fdiv_eq_ediv_of_nonneg i (by omega)];exact q) (.inl (PyProof.noPylong_small (by omega)))
theorem dE:lh X (binaryOp .Mod) (rI (fun _ j=>0<j) fun i j=>.int (i % j)):=Te fun i j _ _ _ _ _ hc q=>by
 have h1:(0:Int)<j:=hc;exact mod_int' (by omega) (by rw[Int.fmod_eq_emod_of_nonneg i (by omega)];exact q)
theorem J4:lh X (binaryOp .Pow) (rI Uh fun i j=>.int (i ^ j.toNat)):=Te fun _ _ _ _ _ _ _ hc q=>pow_int_small hc.1 hc.2.1 hc.2.2 q
theorem Xh {f:Value->Sem Value}{g:Int->Int}
  (rule:∀(i:Int)(t:Tok)(s:Shared)(Q:Value->Shared->Prop)(E:Value->Shared->Prop),Q (.int (g i) s.toks) { s with toks:=s.toks+1 }->wpAny (model X.prog X.w) X.A (f (.int i t)) Q E s) :
  Ue X f (rU fun i=>.int (g i)):=by
 intro pins s σ H x v Q I rx h;obtain⟨i,rfl,q⟩:=h;obtain⟨t,rfl⟩:=rx;exact rule i t s _ _ ⟨.int (g i),H,I.tok _,⟨_,rfl⟩,q⟩
theorem ET:Ue X (unaryOp .USub) (rU fun i=>.int (-i)):=Xh fun _ _ _ _ _ q=>neg_int q
end
noncomputable def Rc:V->V->Bool
 |.non,.non=>true|.non,.int _=>true|.int _,.non=>true|.non,.bl _=>true|.bl _,.non=>true|.non,.str _=>true|.str _,.non=>true
 |.int _,.int _=>true|.bl _,.bl _=>true|.str _,.str _=>true|.JS _,.JS _=>true
 |.int _,.str _=>true|.str _,.int _=>true|.bl _,.str _=>true|.str _,.bl _=>true
 |_,_=>false
noncomputable def Xi:R2:=fun x y H Q=>Rc x y=true/\Q (.bl (decide (x=y))) H
noncomputable def Xj:R2:=fun x y H Q=>Rc x y=true/\Q (.bl (!decide (x=y))) H
theorem Gs {i j:Int}:decide (V.int i=V.int j)=(i==j):=by
 rw[Bool.eq_iff_iff];simp
theorem J5 {i j:Bool}:decide (V.bl i=V.bl j)=(i==j):=by
 rw[Bool.eq_iff_iff];simp
theorem Gu {i j:Str}:decide (V.str i=V.str j)=(i==j):=by
 rw[Bool.eq_iff_iff];simp
theorem Gv {i j:Array UInt8}:decide (V.JS i=V.JS j)=(i.toList==j.toList):=by
 rw[Bool.eq_iff_iff];cases i;cases j;simp
section
variable {X:Cx} {a b c:Expr} {ta tb tc:TE} {pos:Pos}
theorem bG {pins:List (Addr×Obj)}{σ:St}{H:Hp}{s:Shared}{Q:VK}{k k':Bool}(I:Inv X pins σ H s)(q:Q (.bl k) H)(e:k=k'):EP X pins σ Q (.bool k') s:=by
 subst e;exact⟨.bl k,H,I,rfl,q⟩
theorem bo:lh X (compareOp .Eq) Xi:=by
 intro pins s σ H x y v u Q I rx ry h;obtain⟨hs,q⟩:=h;cases x with
 |non =>
  cases rx;cases y with
  |non=>cases ry;exact PySem.EqNone.eq_none_none (bG I q (by simp))
  |bl j=>cases ry;exact PySem.EqNone.eq_none_bool (bG I q (by simp))
  |int j=>obtain⟨t',rfl⟩:=ry;exact PySem.EqNone.eq_none_int (bG I q (by simp))
  |str j=>obtain⟨t',rfl⟩:=ry;exact PySem.EqNone.eq_none_str (bG I q (by simp))
  |_=>exact absurd (show false=true from hs) Bool.false_ne_true
 |bl i =>
  cases rx;cases y with
  |non=>cases ry;exact PySem.EqNone.eq_bool_none (bG I q (by simp))
  |bl j=>cases ry;exact eq_bool (bG I q J5)
  |str j=>obtain⟨t',rfl⟩:=ry;exact PySem.EqMixed.eq_bool_str (bG I q (by simp))
  |_=>exact absurd (show false=true from hs) Bool.false_ne_true
 |int i =>
  obtain⟨t,rfl⟩:=rx;cases y with
  |non=>cases ry;exact PySem.EqNone.eq_int_none (bG I q (by simp))
  |int j=>obtain⟨t',rfl⟩:=ry;exact eq_int (bG I q Gs)
  |str j=>obtain⟨t',rfl⟩:=ry;exact PySem.EqMixed.eq_int_str (bG I q (by simp))
  |_=>exact absurd (show false=true from hs) Bool.false_ne_true
 |str i =>
  obtain⟨t,rfl⟩:=rx;cases y with
  |non=>cases ry;exact PySem.EqNone.eq_str_none (bG I q (by simp))
  |bl j=>cases ry;exact PySem.EqMixed.eq_str_bool (bG I q (by simp))
  |int j=>obtain⟨t',rfl⟩:=ry;exact PySem.EqMixed.eq_str_int (bG I q (by simp))
  |str j=>obtain⟨t',rfl⟩:=ry;exact eq_str (bG I q Gu)
  |_=>exact absurd (show false=true from hs) Bool.false_ne_true
 |JS i =>
  obtain⟨t,rfl⟩:=rx;cases y with
  |JS j=>obtain⟨t',rfl⟩:=ry;exact PySem.W.eq_bytes (bG I q Gv)
  |_=>exact absurd (show false=true from hs) Bool.false_ne_true
 |_=>cases y <;> exact absurd (show false=true from hs) Bool.false_ne_true
theorem nX:lh X (compareOp .NotEq) Xj:=by
 intro pins s σ H x y v u Q I rx ry h;obtain⟨hs,q⟩:=h;cases x with
 |non =>
  cases rx;cases y with
  |non=>cases ry;exact PySem.EqNone.ne_none_none (bG I q (by simp))
  |bl j=>cases ry;exact PySem.EqNone.ne_none_bool (bG I q (by simp))
  |int j=>obtain⟨t',rfl⟩:=ry;exact PySem.EqNone.ne_none_int (bG I q (by simp))
  |str j=>obtain⟨t',rfl⟩:=ry;exact PySem.EqNone.ne_none_str (bG I q (by simp))
  |_=>exact absurd (show false=true from hs) Bool.false_ne_true
 |bl i =>
  cases rx;cases y with
  |non=>cases ry;exact PySem.EqNone.ne_bool_none (bG I q (by simp))
  |bl j=>cases ry;exact ne_bool (bG I q (congrArg not J5))
  |str j=>obtain⟨t',rfl⟩:=ry;exact PySem.EqMixed.ne_bool_str (bG I q (by simp))
  |_=>exact absurd (show false=true from hs) Bool.false_ne_true
 |int i =>
  obtain⟨t,rfl⟩:=rx;cases y with
  |non=>cases ry;exact PySem.EqNone.ne_int_none (bG I q (by simp))
  |int j=>obtain⟨t',rfl⟩:=ry;exact ne_int (bG I q (congrArg not Gs))
  |str j=>obtain⟨t',rfl⟩:=ry;exact PySem.EqMixed.ne_int_str (bG I q (by simp))
  |_=>exact absurd (show false=true from hs) Bool.false_ne_true
 |str i =>
  obtain⟨t,rfl⟩:=rx;cases y with
  |non=>cases ry;exact PySem.EqNone.ne_str_none (bG I q (by simp))
  |bl j=>cases ry;exact PySem.EqMixed.ne_str_bool (bG I q (by simp))
  |int j=>obtain⟨t',rfl⟩:=ry;exact PySem.EqMixed.ne_str_int (bG I q (by simp))
  |str j=>obtain⟨t',rfl⟩:=ry;exact ne_str (bG I q (congrArg not Gu))
  |_=>exact absurd (show false=true from hs) Bool.false_ne_true
 |JS i =>
  obtain⟨t,rfl⟩:=rx;cases y with
  |JS j=>obtain⟨t',rfl⟩:=ry;exact PySem.W.ne_bytes (bG I q (congrArg not Gv))
  |_=>exact absurd (show false=true from hs) Bool.false_ne_true
 |_=>cases y <;> exact absurd (show false=true from hs) Bool.false_ne_true
theorem nY:lh X (compareOp .Lt) (NR fun i j=>.bl (decide (i<j))):=Mt fun _ _ _ _ _ _ _ q=>lt_int q
theorem lj:lh X (compareOp .LtE) (NR fun i j=>.bl (decide (i<=j))):=Mt fun _ _ _ _ _ _ _ q=>le_int q
theorem C1:lh X (compareOp .Gt) (NR fun i j=>.bl (decide (j<i))):=Mt fun _ _ _ _ _ _ _ q=>gt_int q
theorem NS:lh X (compareOp .GtE) (NR fun i j=>.bl (decide (j<=i))):=Mt fun _ _ _ _ _ _ _ q=>ge_int q
theorem bx:lh X (compareOp .In) (fun x y H Q=>∃ i j,x=.str i/\y=.str j/\Q (.bl (!(Builtin.Str.occurrences j i 0 j.length 1).isEmpty)) H):=by
 intro pins s σ H x y v u Q I rx ry h;obtain⟨i,j,rfl,rfl,q⟩:=h;obtain⟨t,rfl⟩:=rx;obtain⟨t',rfl⟩:=ry;exact in_str (bG I q rfl)
theorem xi:lh X (compareOp .Is) (fun x y H Q=>y=.non/\Q (.bl (decide (x=.non))) H):=by
 intro pins s σ H x y v u Q I rx ry h;obtain⟨rfl,q⟩:=h;cases ry;refine is_none_gen (bG I q ?_);cases x <;> first
  |(cases rx;rfl)
  |(obtain⟨t,rfl⟩:=rx;rfl)
theorem Bi:lh X (compareOp .IsNot) (fun x y H Q=>y=.non/\Q (.bl (!decide (x=.non))) H):=by
 intro pins s σ H x y v u Q I rx ry h;obtain⟨rfl,q⟩:=h;cases ry;refine isnot_none_gen (bG I q ?_);cases x <;> first
  |(cases rx;rfl)
  |(obtain⟨t,rfl⟩:=rx;rfl)
theorem lh.or {f:Value->Value->Sem Value}{r r':R2}(h:lh X f r)(h':lh X f r'):lh X f (fun x y H Q=>r x y H Q\/r' x y H Q):=by
 intro pins s σ H x y v u Q I rx ry q;rcases q with q|q
 ·exact h pins s σ H x y v u Q I rx ry q
 ·exact h' pins s σ H x y v u Q I rx ry q
theorem aD (b:Expr){op:CmpOp}(h:op≠.In:=by decide)(h2:op≠.NotIn:=by decide):behindInMarks op b=false:=by
 have e1:(op==CmpOp.In)=false:=by cases op <;> first|rfl|exact absurd rfl h
 have e2:(op==CmpOp.NotIn)=false:=by cases op <;> first|rfl|exact absurd rfl h2
 cases b <;> simp[behindInMarks,e1,e2]
theorem a9 {op:CmpOp}{r:R2}(ho:lh X (compareOp op) r)(ha:PE X a ta)(hb:PE X b tb)(hm:behindInMarks op b=false):PE X (.Compare a [op] [b] pos) (Q9 r ta tb):=by
 intro pins s σ H Q I h;exact wpAny_Compare1 (OT ha hb I h fun v u s2 x y H2 I2 rx ry q=>ho pins s2 σ H2 x y v u Q I2 rx ry q) hm
inductive J6 (Q:(Bool->Hp->Prop))(x:V)(H':Hp):Prop
 |mk (k:_) (cH:x=.bl k) (cI:Q k H'):J6 Q x H'
noncomputable def NT (t:TE):TT:=fun σ H Q=>t σ H fun x H'=>J6 Q x H'
theorem au {op:CmpOp}{r:R2}(ho:lh X (compareOp op) r)(ha:PE X a ta)(hb:PE X b tb)(hm:behindInMarks op b=false):PT X (.Compare a [op] [b] pos) (NT (Q9 r ta tb)):=by
 intro pins s σ H Q I h;refine wpAny_isTrue_Compare1 (bU (ha pins s σ H _ I h) fun v s1 ⟨x,H1,I1,r1,q1⟩=>bU (hb pins s1 σ H1 _ I1 q1) fun u s2 ⟨y,H2,I2,r2,q2⟩ =>
  bU (ho pins s2 σ H2 x y v u _ I2 r1 r2 q2) fun c s3 ⟨z,H3,I3,r3,k,e,q3⟩=>?_) hm
 subst e;cases r3;exact wpAny_truthy_bool ⟨H3,I3,q3⟩
noncomputable def J7 (r r':R2)(ta tb tc:TE):TE:=fun σ H Q=>ta σ H fun x H1=>tb σ H1 fun y H2=>r x y H2 fun z H3=>∃ k,z=.bl k /\
 (if k=true then tc σ H3 fun w' H4=>r' y w' H4 Q else Q (.bl false) H3)
theorem C2 {op op':CmpOp}{r r':R2}(ho:lh X (compareOp op) r)(ho':lh X (compareOp op') r')(ha:PE X a ta)(hb:PE X b tb)(hc:PE X c tc)
  (hm:lastMarks [op,op'] [b,c]=false:=by with_unfolding_all rfl):PE X (.Compare a [op,op'] [b,c] pos) (J7 r r' ta tb tc):=by
 intro pins s σ H Q I h;refine Compare_chain (bU (ha pins s σ H _ I h) fun v s1 ⟨x,H1,I1,r1,q1⟩=>chain_link (bU (hb pins s1 σ H1 _ I1 q1) fun u s2 ⟨y,H2,I2,r2,q2⟩ =>
  bU (ho pins s2 σ H2 x y v u _ I2 r1 r2 q2) fun d s3 ⟨z,H3,I3,r3,k,e,q3⟩=>?_)) hm
 subst e;cases r3;refine wpAny_truthy_bool ?_;cases k with
 |false=>exact ite_ff ⟨.bl false,H3,I3,rfl,q3⟩
 |true=>exact ite_tt (chain_last (bU (hc pins s3 σ H3 _ I3 q3) fun w' s4 ⟨z',H4,I4,r4,q4⟩=>ho' pins s4 σ H4 y z' u w' Q I4 r2 r4 q4))
theorem nZ {op op':CmpOp}{r r':R2}(ho:lh X (compareOp op) r)(ho':lh X (compareOp op') r')(ha:PE X a ta)(hb:PE X b tb)(hc:PE X c tc)
  (hm:lastMarks [op,op'] [b,c]=false:=by with_unfolding_all rfl):PT X (.Compare a [op,op'] [b,c] pos) (NT (J7 r r' ta tb tc)):=by
 intro pins s σ H Q I h;refine isTrue_chain (bU (ha pins s σ H _ I h) fun v s1 ⟨x,H1,I1,r1,q1⟩=>test_link (bU (hb pins s1 σ H1 _ I1 q1) fun u s2 ⟨y,H2,I2,r2,q2⟩ =>
  bU (ho pins s2 σ H2 x y v u _ I2 r1 r2 q2) fun d s3 ⟨z,H3,I3,r3,k,e,q3⟩=>?_)) hm
 subst e;cases r3;refine wpAny_truthy_bool ?_;cases k with
 |false =>
  obtain⟨k',e',q'⟩:=q3;cases e';exact ite_ff ⟨H3,I3,q'⟩
 |true =>
  refine ite_tt (test_last (bU (hc pins s3 σ H3 _ I3 q3) fun w' s4 ⟨z',H4,I4,r4,q4⟩=>bU (ho' pins s4 σ H4 y z' u w' _ I4 r2 r4 q4) fun d' s5 ⟨z2,H5,I5,r5,k2,e2,q5⟩=>?_));subst e2;cases r5;exact wpAny_truthy_bool ⟨H5,I5,q5⟩
theorem tT:(sizeLine:Nat)<2 ^ 63:=by rw[sizeLine_eq];decide
theorem ay:lh X (binaryOp .Add) (fun x y H Q=>∃ i j,x=.str i/\y=.str j/\i.length+j.length<=sizeLine/\Q (.str (i++j)) H):=by
 intro pins s σ H x y v u Q I rx ry h;obtain⟨i,j,rfl,rfl,hz,q⟩:=h;obtain⟨t,rfl⟩:=rx;obtain⟨t',rfl⟩:=ry;exact add_str (fun t' tk=>⟨.str (i++j),H,I.tok _,⟨_,rfl⟩,q⟩) hz
theorem vals1 {x:V}{us:List Value}(r:Vals [x] us):∃ u,us=[u]/\RelV x u:=by
 cases r with
 |cons r1 r2=>cases r2;exact⟨_,rfl,r1⟩
theorem vals2 {x y:V}{us:List Value}(r:Vals [x,y] us):∃ u w',us=[u,w']/\RelV x u/\RelV y w':=by
 cases r with
 |cons r1 r2 =>
  cases r2 with
  |cons r3 r4=>cases r4;exact⟨_,_,rfl,r1,r3⟩
theorem Ip (hc:X.calm=true):f7 X (.builtin "max") (fun xs H Q=>∃ i j,xs=[.int i,.int j]/\Q (.int (if j > i then j else i)) H):=by
 intro pins s σ H xs us Q I r h;obtain⟨i,j,rfl,q⟩:=h;obtain⟨u,w',rfl,⟨t,rfl⟩,⟨t',rfl⟩⟩:=vals2 r;refine max_two_ints (I.ok.hd hc) fun h' tk k=>⟨_,H,I.kept k,?_,q⟩
 by_cases hj:j > i
 ·rw[if_pos hj,if_pos hj];exact⟨_,rfl⟩
 ·rw[if_neg hj,if_neg hj];exact⟨_,rfl⟩
theorem Iq (hc:X.calm=true):f7 X (.builtin "min") (fun xs H Q=>∃ i j,xs=[.int i,.int j]/\Q (.int (if j<i then j else i)) H):=by
 intro pins s σ H xs us Q I r h;obtain⟨i,j,rfl,q⟩:=h;obtain⟨u,w',rfl,⟨t,rfl⟩,⟨t',rfl⟩⟩:=vals2 r;refine min_two_ints (I.ok.hd hc) fun h' tk k=>⟨_,H,I.kept k,?_,q⟩
 by_cases hj:j<i
 ·rw[if_pos hj,if_pos hj];exact⟨_,rfl⟩
 ·rw[if_neg hj,if_neg hj];exact⟨_,rfl⟩
theorem lp:f7 X (.type "int") (fun xs H Q=>(∃ i,xs=[.int i]/\Q (.int i) H)\/∃ k,xs=[.bl k]/\Q (.int (if k then 1 else 0)) H):=by
 intro pins s σ H xs us Q I r h;rcases h with ⟨i,rfl,q⟩|⟨k,rfl,q⟩
 ·obtain⟨u,rfl,t,rfl⟩:=vals1 r;exact call_int_int ⟨.int i,H,I,⟨_,rfl⟩,q⟩
 ·obtain⟨u,rfl,r1⟩:=vals1 r;cases r1;exact call_int_bool ⟨.int (if k then 1 else 0),H,I.tok _,⟨_,rfl⟩,q⟩
theorem mi:f7 X (.type "str") (fun xs H Q=>∃ i,xs=[.int i]/\i.natAbs.log2<1920/\Q (.str (toString i)) H):=by
 intro pins s σ H xs us Q I r h;obtain⟨i,rfl,hz,q⟩:=h;obtain⟨u,rfl,t,rfl⟩:=vals1 r;exact PySem.P.str_of_int hz ⟨.str _,H,I.tok _,⟨_,rfl⟩,q⟩
end
end L2
namespace L2
open PySem PySem.Spec PyProof.Rows
structure EU (h:Heap)(x dx C:Addr)(mA:Str->Option Value):Prop where
 obj:h.get? x=some (instObj C dx)
 ns:h.Ns1 dx mA
 ne:dx≠x
theorem Ir {h:Heap}{dx:Addr}{mA:Str->Option Value}(n:h.Ns1 dx mA):∃ od,h.get? dx=some od/\∀ name,lookIn name od=some (mA name):=by
 obtain⟨o,es,ep,ho,hd,hk,_,hm⟩:=n;refine⟨o,ho,fun name=>?_⟩;have e:=hm name;unfold nsFind findBy at e;rw[<-Array.find?_toList]at e;unfold lookIn;rw[hd];dsimp only;split
 ·rename_i y q
  rw[q]at e;exact congrArg some e
 ·rename_i q
  rw[q]at e;have a:es.toList.any (·.refKey)=false:=by
   rw[List.any_eq_false];intro y hy;obtain⟨z,t,hkey⟩:=hk y (Array.mem_toList_iff.mp hy);simp[DictEntry.refKey,hkey]
  have a':¬ es.toList.any (·.refKey)=true:=by rw[a];exact Bool.false_ne_true
  rw[if_neg a'];exact congrArg some e
theorem EU.look {h:Heap}{x dx C:Addr}{mA:Str->Option Value}(I:EU h x dx C mA):∃ od,PySem.W.InstAt h x (instObj C dx) C (some od)/\∀ name,lookIn name od=some (mA name) :=
 let ⟨od,ho,hl⟩:=Ir I.ns
 ⟨od,⟨I.obj,rfl,rfl,ho⟩,hl⟩
section
variable {prog:Program} {w:World} {A:Around} {E:Value->Shared->Prop} {s:Shared} {K:Frag} {x dx C f:Addr} {mA:Str->Option Value} {name:Str} {v:Value}
theorem get_map {expr:Bool}{Q:Value->Shared->Prop}(X:K.In s.heap)(I:EU s.heap x dx C mA)(hg:plainGet K C name=true)(hh:hasDictIn K C=true)
  (ha:findIn K (.ref C) name=some none) (hv:mA name=some v) (hv':handedIn v=true) (h:Q v { s with toks:=s.toks+1 }) :
  wpAny (model prog w) A (getAttr (.ref x) name expr) Q E s:=by
 obtain⟨od,J,hl⟩:=I.look;exact PySem.W.get_value X J (plainGet_of hg).1 (PySem.W.findObj_own hh ha rfl (by rw[hl,hv])) hv' h
theorem J8 {pl:Sem Bool}{Q:Value×List Value->Shared->Prop}(X:K.In s.heap)(I:EU s.heap x dx C mA)(hg:plainGet K C name=true)
  (hf:findIn K (.ref C) name=some (some (.ref f))) (ht:isFn K (.ref f)=true) (hv:mA name=none) (h:Q (.ref f,[.ref x]) s) :
  wpAny (model prog w) A (getMethod (.ref x) name pl) Q E s:=by
 obtain⟨od,J,hl⟩:=I.look;exact PySem.W.method_fn X J (plainGet_of hg).1 (plainGet_of hg).2 hf (beq_iff_eq.mp ht) (by show(lookIn name od).map (·.isSome)=some false;rw[hl,hv];rfl) h
theorem ix {ns:List Str}{Q:Unit->Shared->Prop}(X:K.In s.heap)(I:EU s.heap x dx C mA)
  (hs:findIn K (.ref C) "__setattr__"=some (some (.builtin "object.__setattr__"))) (hp:plainOver K C=true) (ht:takerIn K C name=some none) (hh:hasDictIn K C=true)
  (hw:PySem.Within mA ns) (hsz:ns.length<=sizeLine)
  (h:∀ h',EU h' x dx C (fun y=>if y=name then some v else mA y)->Heap.SameBut dx s.heap h'->Q () { s with heap:=h',toks:=s.toks+2 }) :
  wpAny (model prog w) A (setAttr (.ref x) name v) Q E s:=by
 obtain⟨od,J,hl⟩:=I.look;refine PySem.W.set_plain X J hs (PySem.W.osa_open (s:={ s with toks:=s.toks+1 }) (r:=none) X J hp ht fun b=>?_);obtain⟨cd,hc,hd'⟩:=PySem.W.any_some hh;have hx:s.heap.get? x=some ⟨.ref C,some dx,.plain,#[]⟩:=I.obj;refine wpAny_bind (wpAny_pure (wpAny_bind (wpAny_bind (wpAny_loadPart hx (wpAny_bind (PySem.W.Looks.here (s:={ s with toks:=s.toks+1 }) (PySem.W.looks_clsIn X hc) ?_))))));rw[hd'];refine wpAny_pure (a:=some dx) (wpAny_bind (wpAny_pure (wpAny_bind ?_)));refine wpAny_nsSet1 (s:={ s with toks:=s.toks+1 }) I.ns fun h' hn2 hs2=>?_;obtain⟨oD,esD,epD,hoD,hdD,hcD⟩:=hn2.count (PySem.Within.cons name v hw);refine wpAny_bind (wpAny_lookBehind hoD (by rw[hdD];exact pastItsLine_dict (Nat.le_trans hcD (by rw[length_cons];omega))) ?_);exact wpAny_pure (h _ ⟨(hs2.2 _ (Ne.symm I.ne)).trans I.obj,hn2,I.ne⟩ hs2)
theorem J9 {R:Result->Shared->Prop}{vs:List Value}{kw:List (Str×Value)}(X:K.In s.heap)(hm:makesIn K C=true)
  (hi:findIn K (.ref C) "__init__"=some (some (.ref f))) (hf:PySem.W.typeIn K (.ref f)=some (.type "function"))
  (h:codeAny (model prog w) (A.under (.builtin "type.__call__" ⟨.ref C::vs,kw⟩)) (.call (.ref f) ⟨.ref (s.heap.objs.size+1)::vs,kw⟩) (PySem.W.InitBack (s.heap.objs.size+1) R)
   { s with heap:=(s.heap.push emptyDict).push (instObj C s.heap.objs.size) }) :
  codeAny (model prog w) A (.call (.ref C) ⟨vs,kw⟩) R s:=by
 obtain⟨hh,g,d,t,os⟩:=s;exact PySem.W.make_core (PySem.W.makes_of X hm) (PySem.W.looks_findIn X hi) (fun self=>PySem.W.bind_fn X self hf) (.inl rfl) h
end
noncomputable def gX (f:Str)(v:V):List (Str×V)->List (Str×V)
 |[]=>[(f,v)]
 |(g,x)::r=>if g=f then(g,v)::r else(g,x)::gX f v r
theorem uD (f g:Str)(v:V):∀ fs:List (Str×V),(gX f v fs).lookup g=if g=f then some v else fs.lookup g
 |[]=>by
  show List.lookup g [(f,v)]=_
  by_cases h:g=f
  ·have hb:(g==f)=true:=beq_iff_eq.mpr h;simp only [List.lookup,hb,if_pos h]
  ·have hb:(g==f)=false:=beq_eq_false_iff_ne.mpr h;simp only [List.lookup,hb,if_neg h]
 |(k,x)::r=>by
  have ih:=uD f g v r;rw[show gX f v ((k,x)::r)=(if k=f then(k,v)::r else(k,x)::gX f v r) from rfl]
  by_cases hk:k=f
  ·rw[if_pos hk]
   by_cases h:g=k
   ·have hb:(g==k)=true:=beq_iff_eq.mpr h;simp only [List.lookup,hb,if_pos (h.trans hk)]
   ·have hb:(g==k)=false:=beq_eq_false_iff_ne.mpr h;simp only [List.lookup,hb,if_neg (fun e:g=f=>h (e.trans hk.symm))]
  ·rw[if_neg hk]
   by_cases h:g=k
   ·have hb:(g==k)=true:=beq_iff_eq.mpr h;simp only [List.lookup,hb,if_neg (fun e:g=f=>hk (h.symm.trans e))]
   ·have hb:(g==k)=false:=beq_eq_false_iff_ne.mpr h;simp only [List.lookup,hb];exact ih
theorem tU (f:Str)(v:V):∀ fs:List (Str×V),f∈(gX f v fs).map (·.1)/\∀ g,g∈fs.map (·.1)->g∈(gX f v fs).map (·.1)
 |[]=>⟨by simp[gX],fun g h=>by simp at h⟩
 |(k,x)::r=>by
  obtain⟨i1,i2⟩:=tU f v r;rw[show gX f v ((k,x)::r)=(if k=f then(k,v)::r else(k,x)::gX f v r) from rfl]
  by_cases hk:k=f
  ·rw[if_pos hk];subst hk;exact⟨by simp,fun g h=>by simpa using h⟩
  ·rw[if_neg hk];refine⟨?_,fun g h=>?_⟩
   ·rw[map_cons];exact mem_cons_of_mem _ i1
   ·rw[map_cons]at h ⊢;rcases List.mem_cons.mp h with e|e
    ·exact List.mem_cons.mpr (.inl e)
    ·exact mem_cons_of_mem _ (i2 g e)
theorem uE (f:Str)(v:V):∀ fs:List (Str×V),(gX f v fs).length<=fs.length+1
 |[]=>by simp[gX]
 |(k,x)::r=>by
  have ih:=uE f v r;rw[show gX f v ((k,x)::r)=(if k=f then(k,v)::r else(k,x)::gX f v r) from rfl]
  by_cases hk:k=f
  ·rw[if_pos hk,length_cons,length_cons];omega
  ·rw[if_neg hk,length_cons,length_cons];omega
theorem jU.some_of {v:V}{o:Option Value}(r:jU (some v) o):∃ u,o=some u/\RelV v u:=by
 cases o with
 |none=>exact(show False from r).elim
 |some u=>exact⟨u,rfl,r⟩
theorem jU.none_of {o:Option Value}(r:jU none o):o=none:=by
 cases o with
 |none=>rfl
 |some u=>exact(show False from r).elim
theorem Iu {v:V}{u:Value}(r:RelV v u):handedIn u=true:=by
 cases v with
 |non=>cases (show u=Value.none from r);rfl
 |bl b=>cases (show u=Value.bool b from r);rfl
 |int i=>obtain⟨t,e⟩:=(show ∃ t,u=Value.int i t from r);cases e;rfl
 |str x=>obtain⟨t,e⟩:=(show ∃ t,u=Value.str x t from r);cases e;rfl
 |JS b=>obtain⟨t,e⟩:=(show ∃ t,u=Value.bytes b t from r);cases e;rfl
 |flt b=>obtain⟨t,e⟩:=(show ∃ t,u=Value.float b t from r);cases e;rfl
 |ref a=>cases (show u=Value.ref a from r);rfl
 |ty n=>cases (show u=Value.type n from r);rfl
section
variable {P:Program} {w:World} {H H':Hp} {h h':Heap} {a C dx:Addr} {fs fs':List (Str×V)}
theorem wK (hok:nR P w H h)(e:H a=some (.ins C dx fs)):∃ mA,EU h a dx C mA/\(∀ f,jU (fs.lookup f) (mA f))/\PySem.Within mA (fs.map (·.1))/\fs.length<=1000/\H dx=some (.own a):=by
 obtain⟨d,z,ne,ob,mA,n,r,q⟩:=(show dW P w H h a (.ins C dx fs) from hok a _ e);exact⟨mA,⟨ob,n,ne⟩,r,q,z,d⟩
end
structure EN (K:Frag)(C:Addr):Prop where
 pg:plainGet K C Str.empty=true
 hd:hasDictIn K C=true
 po:plainOver K C=true
 sa:findIn K (.ref C) "__setattr__"=some (some (.builtin "object.__setattr__"))
theorem EN.get {K:Frag}{C:Addr}(c:EN K C)(f:Str):plainGet K C f=true:=c.pg
noncomputable def eO (K:Frag)(C:Addr)(f:Str):Prop:=findIn K (.ref C) f=some none
theorem eO.taker {K:Frag}{C:Addr}{f:Str}(n:eO K C f):takerIn K C f=some none:=by
 unfold takerIn;rw[show findIn K (.ref C) f=some none from n];rfl
structure Meth (K:Frag)(C:Addr)(m:Str)(f:Addr):Prop where
 at_:findIn K (.ref C) m=some (some (.ref f))
 fn:isFn K (.ref f)=true
 kp:keepIn K (.ref f)=true
section
variable {X:Cx} {pins:List (Addr×Obj)} {σ:St} {H:Hp} {s:Shared} {a C dx:Addr} {fs:List (Str×V)} {f:Str} {v:V} {A:Around} {E:Value->Shared->Prop}
theorem EV {b:Bool}{Q:Value->Shared->Prop}(I:Inv X pins σ H s)(e:H a=some (.ins C dx fs))(c:EN X.K C)(n:eO X.K C f)(l:fs.lookup f=some v)
  (h:∀ u s',Inv X pins σ H s'->RelV v u->Q u s'):wpAny (model X.prog X.w) A (getAttr (.ref a) f b) Q E s:=by
 obtain⟨mA,O,r,_,_,_⟩:=wK I.hok e;obtain⟨u,hu,ru⟩:=jU.some_of (v:=v) (o:=mA f) (by rw[<-l];exact r f);exact get_map I.mV O (c.get f) c.hd n hu (Iu ru) (h u _ (I.tok _) ru)
theorem mj {m:Str}{g:Addr}{pl:Sem Bool}{Q:Value×List Value->Shared->Prop}(I:Inv X pins σ H s)(e:H a=some (.ins C dx fs))(c:EN X.K C)(k:Meth X.K C m g)(l:fs.lookup m=none)
  (h:Q (.ref g,[.ref a]) s):wpAny (model X.prog X.w) A (getMethod (.ref a) m pl) Q E s:=by
 obtain⟨mA,O,r,_,_,_⟩:=wK I.hok e;have hn:mA m=none:=jU.none_of (by rw[<-l];exact r m);exact J8 I.mV O (c.get m) k.at_ k.fn hn h
theorem EW {y:V}{u:Value}{Q:Unit->Shared->Prop}(I:Inv X pins σ H s)(e:H a=some (.ins C dx fs))(c:EN X.K C)(n:eO X.K C f)(hl:fs.length<1000)(ry:RelV y u)
  (h:∀ s',Inv X pins σ (upd H a (.ins C dx (gX f y fs))) s'->Q () s'):wpAny (model X.prog X.w) A (setAttr (.ref a) f u) Q E s:=by
 obtain⟨mA,O,r,wi,_,ho⟩:=wK I.hok e;have hz:(fs.map (·.1)).length<=sizeLine:=by rw[length_map,sizeLine_eq];omega
 refine ix I.mV O c.sa c.po n.taker c.hd wi hz fun h' O' sb=>h _ ?_;have hd:∃ o,h'.get? dx=some o:=let ⟨o,_,_,e',_⟩:=O'.ns;⟨o,e'⟩;refine I.write (x:=a) (e:=dx) (by rw[e];exact True.intro) (.inr ho) (fun b q hb z=>(sb.2 b hb).trans z) hd ?_;refine⟨by rw[ai O.ne];exact ho,?_,O.ne,O'.obj,_,O'.ns,fun g=>?_,fun g hg=>?_⟩
 ·have:=uE f y fs;omega
 ·show jU ((gX f y fs).lookup g) (if g=f then some u else mA g);rw[uD]
  by_cases q:g=f
  ·rw[if_pos q,if_pos q];exact ry
  ·rw[if_neg q,if_neg q];exact r g
 ·by_cases q:g=f
  ·rw[q];exact(tU f y fs).1
  ·refine(tU f y fs).2 g (wi g fun z=>hg ?_);show(if g=f then some u else mA g)=none;rw[if_neg q];exact z
theorem Inv.made (I:Inv X pins σ H s):Inv X pins σ (upd (upd H s.heap.objs.size (.own (s.heap.objs.size+1))) (s.heap.objs.size+1) (.ins C s.heap.objs.size []))
  { s with heap:=(s.heap.push emptyDict).push (instObj C s.heap.objs.size) }:=by
 have e1:(s.heap.push emptyDict).get? s.heap.objs.size=some emptyDict:=Heap.get?_push_size s.heap rfl;have e2:((s.heap.push emptyDict).push (instObj C s.heap.objs.size)).get? (s.heap.objs.size+1)=some (instObj C s.heap.objs.size):=by
  have:=Heap.get?_push_size (s.heap.push emptyDict) (o:=instObj C s.heap.objs.size) rfl
  rwa [Heap.size_push]at this
 have e3:(s.heap.push emptyDict).Ns s.heap.objs.size (fun _=>none):=⟨emptyDict,#[],_,e1,rfl,(fun e he=>absurd he (by simp)),fun _=>rfl⟩;have I1:=I.laid (a:=s.heap.objs.size) (o:=.own (s.heap.objs.size+1)) (h':=s.heap.push emptyDict) (t':=s.toks) (fun b u q=>Heap.get?_push_of_some _ q) (Nat.le_refl _) ⟨_,e1⟩;refine I1.laid (a:=s.heap.objs.size+1) (o:=.ins C s.heap.objs.size []) (t':=s.toks) (fun b u q=>Heap.get?_push_of_some _ q) (Nat.le_of_eq (Heap.size_push _ _)) ?_;have ne:s.heap.objs.size≠s.heap.objs.size+1:=Nat.ne_of_lt (Nat.lt_succ_self _);refine⟨by rw[ai ne,ae],Nat.zero_le _,ne,e2,fun _=>none,(Heap.Ns1.of_empty e3).at fun o q=>Heap.get?_push_of_some _ q,fun _=>True.intro,fun y hy=>absurd rfl hy⟩
theorem Mu {prog:Program}{w:World}{env:Env}{e:Expr}{f:Str}{pos:Pos}{s:Shared}{Q:Value->Shared->Prop}(hb:attributeBase e f env (eval e env)=eval e env)
  (h:wpAny (model prog w) A (eval e env) (fun o s₁=>wpAny (model prog w) A (getAttr o f true) Q E s₁) E s):wpAny (model prog w) A (eval (.Attribute e f pos) env) Q E s :=
 Attribute_any_ h (by rw[arm_eval_Attribute,hb])
end
inductive NU (K:Frag)(f:Str)(Q:VK)(x:V)(H1:Hp):Prop
 |mk (a:_) (C:_) (dx:_) (fs:_) (v:_) (cH:x=.ref a) (cI:H1 a=some (.ins C dx fs)) (dh:EN K C) (fJ:eO K C f) (jh:fs.lookup f=some v) (zL:Q v H1):NU K f Q x H1
noncomputable def Rg (K:Frag)(ta:TE)(f:Str):TE:=fun σ H Q=>ta σ H fun x H1=>NU K f Q x H1
inductive NV (K:Frag)(f:Str)(D:Ends)(σ:St)(y:V)(x:V)(H2:Hp):Prop
 |mk (a:_) (C:_) (dx:_) (fs:_) (cH:x=.ref a) (cI:H2 a=some (.ins C dx fs)) (dh:EN K C) (fJ:eO K C f) (jh:fs.length<1000) (zL:D.nx σ (upd H2 a (.ins C dx (gX f y fs)))):NV K f D σ y x H2
noncomputable def Ui (K:Frag)(ta tv:TE)(f:Str):TS:=fun D σ H=>tv σ H fun y H1=>ta σ H1 fun x H2=>NV K f D σ y x H2
section
variable {X:Cx} {o e value:Expr} {f:Str} {pos pos' tpos:Pos} {ta tv:TE}
theorem a6 (he:PE X e ta)(hb:attributeBase e f X.env (eval e X.env)=eval e X.env):PE X (.Attribute e f pos) (Rg X.K ta f):=by
 intro pins s σ H Q I h;refine Mu hb (bU (he pins s σ H _ I h) fun u s1 eN=>?_);obtain⟨x,H1,I1,rx,a,C,dx,fs,v,ex,ea,c,n,l,q⟩:=eN;subst ex;obtain rfl:u=Value.ref a:=rx;exact EV I1 ea c n l fun u' s2 I2 ru=>⟨v,H1,I2,ru,q⟩
theorem jk (ha:PE X o ta)(hv:PE X value tv)(hs:swapsWith value (some (.Attribute o f pos')) pos.line X.env=pure false):PS X (.Assign [.Attribute o f pos'] value pos) (Ui X.K ta tv f):=by
 intro pins s σ H D I h;refine plainObj_wpAny_Assign_Attribute (bU (hv pins s σ H _ I h) fun u s1 ⟨y,H1,I1,ry,q⟩=>bU (ha pins s1 σ H1 _ I1 q) fun ov s2 ⟨x,H2,I2,rx,a,C,dx,fs,ex,ea,c,n,l,q2⟩=>?_) hs;subst ex;obtain rfl:ov=Value.ref a:=rx;exact EW I2 ea c n l ry fun s3 I3=>⟨σ,_,I3,q2⟩
end
section
variable {X:Cx} {pins:List (Addr×Obj)} {σ:St} {H:Hp} {s:Shared} {A:Around} {E:Value->Shared->Prop} {Q:Value->Shared->Prop} {c:Value} {b:Bool}
inductive lq (K:Frag)(H:Hp):V->Value->Prop where
 |non:lq K H .non (.type "NoneType")
 |bl (x:Bool):lq K H (.bl x) (.type "bool")
 |int (i:Int):lq K H (.int i) (.type "int")
 |str (x:Str):lq K H (.str x) (.type "str")
 |flt (x:UInt64):lq K H (.flt x) (.type "float")
 |lst {a:Addr} {xs:List V} (e:H a=some (.lst xs)):lq K H (.ref a) (.type "list")
 |Gk {a:Addr} {o:Obj} {xs:List V} (e:H a=some (.Gk o (.lst xs))):lq K H (.ref a) (.type "list")
 |tup {a:Addr} {xs:List V} (e:H a=some (.tup xs)):lq K H (.ref a) (.type "tuple")
 |dK {a:Addr} {kvs:List (Key×V)} (e:H a=some (.dK kvs)):lq K H (.ref a) (.type "dict")
 |dT {a:Addr} {kvs:List (List Key×V)} (e:H a=some (.dT kvs)):lq K H (.ref a) (.type "dict")
 |ins {a C dx:Addr} {fs:List (Str×V)} (e:H a=some (.ins C dx fs)) (cl:EN K C) (ha:findIn K (.ref C) "__class__"=some (some (.builtin "object.__class__")))
   (hn:specialIn K (.builtin "object.__class__") "__get__"=some (some (.builtin "getset_descriptor.__get__"))) (htk:PySem.W.takesIn K (.builtin "object.__class__")=some true)
   (hm:mroIn K C (.type "object")=some true):lq K H (.ref a) (.ref C)
theorem Iv {x:V}{u t:Value}(I:Inv X pins σ H s)(rx:RelV x u)(ty:lq X.K H x t)(e:kitOne X.K t c=some b)(h:∀ tk,Q (.bool b) { s with toks:=tk }) :
  wpAny (model X.prog X.w) A (call (.builtin "isinstance") [u,c]) Q E s:=by
 cases ty with
 |non=>cases (show u=Value.none from rx);exact kia_one PySem.W.kitx_none I.mV True.intro e (fun z=>nomatch z) h
 |bl y=>cases (show u=Value.bool y from rx);exact kia_one PySem.W.kitx_bool I.mV True.intro e (fun z=>nomatch z) h
 |int i=>obtain⟨t,q⟩:=(show ∃ t,u=Value.int i t from rx);cases q;exact kia_one PySem.W.kitx_int I.mV True.intro e (fun z=>nomatch z) h
 |str y=>obtain⟨t,q⟩:=(show ∃ t,u=Value.str y t from rx);cases q;exact kia_one PySem.W.kitx_str I.mV True.intro e (fun z=>nomatch z) h
 |flt y=>obtain⟨t,q⟩:=(show ∃ t,u=Value.float y t from rx);cases q;exact kia_one PySem.W.kitx_float I.mV True.intro e (fun z=>nomatch z) h
 | @lst a xs ea =>
  cases (show u=Value.ref a from rx);obtain⟨_,_,n,_,h1⟩:=(show dW X.prog X.w H s.heap a (.lst xs) from I.hok a _ ea);exact kia_one kitx_list I.mV ⟨_,h1,rfl⟩ e (fun z=>nomatch z) h
 | @Gk a ob xs ea =>
  cases (show u=Value.ref a from rx);obtain⟨_,_,_,n,_,h1⟩:=(show dW X.prog X.w H s.heap a (.Gk ob (.lst xs)) from I.hok a _ ea);exact kia_one kitx_list I.mV ⟨_,h1,rfl⟩ e (fun z=>nomatch z) h
 | @tup a xs ea =>
  cases (show u=Value.ref a from rx);obtain⟨_,_,_,p⟩:=(show dW X.prog X.w H s.heap a (.tup xs) from I.hok a _ ea);obtain⟨o,h1,h2,_⟩:=p;exact kia_one PySem.W.kitx_tuple I.mV ⟨o,h1,h2⟩ e (fun z=>nomatch z) h
 | @dK a kvs ea =>
  cases (show u=Value.ref a from rx);obtain⟨_,_,vs,_,p⟩:=(show dW X.prog X.w H s.heap a (.dK kvs) from I.hok a _ ea);obtain⟨o,es,ep,h1,h2,_⟩:=p;exact kia_one kitx_dict I.mV ⟨o,h1,h2.1⟩ e (fun z=>nomatch z) h
 | @dT a kvs ea =>
  cases (show u=Value.ref a from rx);obtain⟨_,_,xs,_,o,es,ep,h1,h2,_⟩:=(show dW X.prog X.w H s.heap a (.dT kvs) from I.hok a _ ea);exact kia_one kitx_dict I.mV ⟨o,h1,h2.1⟩ e (fun z=>nomatch z) h
 | @ins a C dx fs ea cl ha hn htk hm =>
  cases (show u=Value.ref a from rx);obtain⟨mA,O,_⟩:=wK I.hok ea;obtain⟨od,J,_⟩:=O.look;exact kia_one (PySem.W.kitx_own (cl.get _) cl.hd ha hn htk hm) I.mV J e (fun z=>nomatch z) h
end
end L2
namespace L2
open PySem PySem.Spec PyProof.Rows
structure ee (k:Nat)(A:Around):Prop where
 hd:A.handled=none
 dp:A.depth+3 * k+5<recursionLimit
 un:A.units+16 * k+200<cLine
theorem ee.mono {j k:Nat}{A:Around}(r:ee k A)(h:j<=k):ee j A:=⟨r.hd,by have:=r.dp;omega,by have:=r.un;omega⟩
theorem ee.deeper {k:Nat}{A:Around}(r:ee (k+1) A)(env:Env):ee k (A.deeper env) :=
 ⟨r.hd,by have:=r.dp;show A.depth+1+3 * k+5<_;omega,by have:=r.un;show A.units+3+16 * k+200<_;omega⟩
theorem EX {A:Around}{C:Addr}{us:List Value}{kw:List (Str×Value)}:(A.under (.builtin "type.__call__" ⟨.ref C::us,kw⟩)).depth=A.depth+1:=by
 first|rfl|simp[Around.under,Code.weight,Code.isCreation,Code.isGuard,Code.isCaller,Code.frames,Code.isFrame,guardIds]
theorem EY {A:Around}{C:Addr}{us:List Value}{kw:List (Str×Value)}:(A.under (.builtin "type.__call__" ⟨.ref C::us,kw⟩)).units=A.units+1:=by
 first|rfl|simp[Around.under,Code.cUnits,Code.frames,Code.isFrame]
theorem ee.make {k:Nat}{A:Around}(r:ee (k+1) A)(C:Addr)(us:List Value)(kw:List (Str×Value)):ee k (A.under (.builtin "type.__call__" ⟨.ref C::us,kw⟩)) :=
 ⟨r.hd,by have:=r.dp;rw[EX];omega,by have:=r.un;rw[EY];omega⟩
theorem ee.depth {k:Nat}{A:Around}(r:ee k A):A.depth<recursionLimit:=by have:=r.dp;omega
theorem ee.units {k:Nat}{A:Around}(r:ee k A):A.units+64<cLine:=by have:=r.un;omega
noncomputable def Mv:TA:=fun _ H Q=>Q [] H
noncomputable def Rh (ta:TE)(tr:TA):TA:=fun σ H Q=>ta σ H fun x H1=>tr σ H1 fun xs H2=>Q (x::xs) H2
section
variable {X:Cx} {e:Expr} {es:List Expr} {te:TE} {t:TA} {pos:Pos}
theorem ag:PA X [] Mv:=fun _ _ _ _ H Q I h=>Calls.spliced_nil ⟨[],H,I,.nil,h⟩
theorem aa (ha:PE X e te)(hr:PA X es t)(hs:starEach (e::es) X.env=(false,eval e X.env)::starEach es X.env:=by rfl):PA X (e::es) (Rh te t):=by
 intro pos pins s σ H Q I h;rw[hs];show wpAny _ _ (spliced ((false,eval e X.env)::backTo pos (starEach es X.env))) _ _ s;refine Calls.spliced_cons (bU (ha pins s σ H _ I h) fun u s1 eN=>?_);obtain⟨x,H1,I1,r1,q1⟩:=eN;exact bU (hr pos pins s1 σ H1 _ I1 q1) fun us s2 ⟨xs,H2,I2,r2,q2⟩=>⟨x::xs,H2,I2,.cons r1 r2,q2⟩
noncomputable def Uj (t:TA):TE:=fun σ H Q=>t σ H fun xs H1=>xs.length<=sizeLine/\∀ p,H1 p=none->Q (.ref p) (upd H1 p (.tup xs))
noncomputable def Uk (t:TA):TE:=fun σ H Q=>t σ H fun xs H1=>xs.length<=sizeLine/\∀ p,H1 p=none->Q (.ref p) (upd H1 p (.lst xs))
theorem dr {x1}(h:PA X es t):PE X (.Tuple es x1 pos) (Uj t):=by
 intro pins s σ H Q I hq;refine wpAny_Tuple_spliced (bU (h pos pins s σ H _ I hq) fun us s1 ⟨xs,H1,I1,r,z,q⟩=>⟨by rw[<-r.length];exact z,?_⟩);have hf:H1 s1.heap.objs.size=none:=I1.hok.fresh (Nat.le_refl _);refine⟨.ref s1.heap.objs.size,upd H1 s1.heap.objs.size (.tup xs),I1.laid (t':=s1.toks) (fun b u e=>Heap.get?_push_of_some _ e) (Nat.le_refl _) ?_,rfl,q _ hf⟩;exact⟨z,us,r,⟨_,Heap.get?_push_size _ rfl,rfl,_,rfl⟩⟩
theorem bq (h:PA X es t):PE X (.List es pos) (Uk t):=by
 intro pins s σ H Q I hq;refine wpAny_List_spliced (bU (h pos pins s σ H _ I hq) fun us s1 ⟨xs,H1,I1,r,z,q⟩=>⟨by rw[<-r.length];exact z,?_⟩);have hf:H1 s1.heap.objs.size=none:=I1.hok.fresh (Nat.le_refl _);refine⟨.ref s1.heap.objs.size,upd H1 s1.heap.objs.size (.lst xs),I1.laid (t':=s1.toks) (fun b u e=>Heap.get?_push_of_some _ e) (Nat.le_refl _) ?_,rfl,q _ hf⟩;exact⟨z,us,0,r,Heap.get?_push_size _ rfl⟩
end
noncomputable abbrev Sp:=List V->Hp->VK->XK->Prop
noncomputable abbrev Gw:=List Env->Hp->Shared->XK->Value->Shared->Prop
structure EZ (P:Program)(w:World)(K:Frag)(mg:Str->Option Value)(base:Heap)(A:Around)(outer:List Env)(s:Shared)(H:Hp):Prop where
 frames:A.frames=some outer
 mod:Mod K mg base
 bs:∀ b o,base.get? b=some o->s.heap.get? b=some o/\H b=none
 Gm:base.objs.size<=s.heap.objs.size
 pO:s.heap.FunFrames base outer
 JV:∀ b∈frs outer,H b=none
 hok:nR P w H s.heap
 bare:AllBare s.gens
noncomputable def CE (outer:List Env)(P:Program)(w:World)(H:Hp)(s:Shared)(Q:VK)(u:Value)(s':Shared):Prop :=
 ∃ v H',s'.os=s.os/\AllBare s'.gens/\Un (frs outer) [] H H' s.heap s'.heap/\nR P w H' s'.heap/\RelV v u/\Q v H'
noncomputable def CR (CX:Gw)(outer:List Env)(P:Program)(w:World)(H:Hp)(s:Shared)(Q:VK)(E:XK)(r:Result)(s':Shared):Prop :=
 match r with
 |.ok (.ret u)=>CE outer P w H s Q u s'
 |.ok _=>False
 |.error e=>CX outer H s E e s'
structure aS (P:Program)(w:World)(K:Frag)(mg:Str->Option Value)(base:Heap)(CX:Gw)(k:Nat)(f:Addr)(fd:FuncData)(ps:List Str)(sp:Sp):Prop where
 len:∀ vs H Q E,sp vs H Q E->vs.length=ps.length
 run:∀(A:Around)(outer:List Env)(s:Shared)(H:Hp)(args:Args)(us:List Value)(vs:List V)(Q:VK)(E:XK),ee k A->EZ P w K mg base A outer s H->BindsTo s fd args (ps.zip us)->Vals vs us->sp vs H Q E ->
  codeAny (model P w) A (.call (.ref f) args) (CR CX outer P w H s Q E) s
theorem aS.mono {P:Program}{w:World}{K:Frag}{mg:Str->Option Value}{base:Heap}{CX:Gw}{j k:Nat}{f:Addr}{fd:FuncData}{ps:List Str}{sp:Sp}(F:aS P w K mg base CX j f fd ps sp)(h:j<=k) :
  aS P w K mg base CX k f fd ps sp:=⟨F.len,fun A outer s H args us vs Q E hr=>F.run A outer s H args us vs Q E (hr.mono h)⟩
theorem EZ.make {P:Program}{w:World}{K:Frag}{mg:Str->Option Value}{base:Heap}{A:Around}{outer:List Env}{s:Shared}{H:Hp}(e:EZ P w K mg base A outer s H)(C:Addr)(us:List Value)(kw:List (Str×Value)) :
  EZ P w K mg base (A.under (.builtin "type.__call__" ⟨.ref C::us,kw⟩)) outer s H:=⟨by first|exact e.frames|(simpa [Around.under,Code.envs,Code.isFrame,pushEnvs] using e.frames),e.mod,e.bs,e.Gm,e.pO,e.JV,e.hok,e.bare⟩
section
variable {X:Cx} {pins:List (Addr×Obj)} {σ:St} {H:Hp} {s s':Shared}
theorem Inv.env0 (I:Inv X pins σ H s):EZ X.prog X.w X.K X.mg X.base X.A X.stack s H :=
 ⟨I.ok.frames,I.ok.mod,I.bs,Nat.le_trans I.ok.Gm I.sz,I.stack,I.Bg,I.hok,I.bare⟩
theorem Inv.after {Q:VK}{u:Value}(I:Inv X pins σ H s)(h:CE X.stack X.prog X.w H s Q u s'):EP X pins σ Q u s':=by
 obtain⟨v,H',os,bare,un,hok,r,q⟩:=h;obtain⟨hh,g,d,t,os'⟩:=s';obtain rfl:os'=s.os:=os;exact⟨v,H',I.call (h':=hh) (g':=g) (d':=d) (t':=t) (ch:=[]) un hok bare (fun b z=>absurd z (by simp)),r,q⟩
end
noncomputable def NW (sp:Sp)(jV:List V)(E:XK)(t:TA):TE:=fun σ H Q=>t σ H fun vs H1=>sp (vs++jV) H1 Q E
inductive Ka (C:Addr)(m:Str)(sp:Sp)(jV:List V)(E:XK)(t:TA)(σ:St)(Q:VK)(x:V)(H1:Hp):Prop
 |mk (a:_) (dx:_) (fs:_) (cH:x=.ref a) (cI:H1 a=some (.ins C dx fs)) (dh:fs.lookup m=none) (fJ:t σ H1 fun vs H2=>sp (x::(vs++jV)) H2 Q E):Ka C m sp jV E t σ Q x H1
noncomputable def NX (C:Addr)(m:Str)(sp:Sp)(jV:List V)(E:XK)(ta:TE)(t:TA):TE:=fun σ H Q=>ta σ H fun x H1=>Ka C m sp jV E t σ Q x H1
noncomputable def NY (C:Addr)(sp:Sp)(jV:List V)(E:XK)(t:TA):TE:=fun σ H Q=>t σ H fun vs H1=>∀ x dx,H1 x=none->H1 dx=none->dx≠x ->
 sp (.ref x::(vs++jV)) (upd (upd H1 dx (.own x)) x (.ins C dx [])) (fun v H2=>v=.non/\Q (.ref x) H2) E
noncomputable def Binds (K:Frag)(fd:FuncData)(ps:List Str)(ds:List Value):Prop :=
 ∀(s:Shared)(us:List Value),K.In s.heap->(us++ds).length=ps.length->BindsTo s fd ⟨us,[]⟩ (ps.zip (us++ds))
theorem Binds.all {K:Frag}{fd:FuncData}{ps:List Str}(h:∀ us:List Value,us.length=ps.length->bindArgs fd ⟨us,[]⟩=pure (ps.zip us)):Binds K fd ps []:=fun s us _ hl=>by
 rw[append_nil]at hl ⊢;exact .of_eq (h us hl)
noncomputable def Passes (CX:Gw)(X:Cx)(E:XK):Prop:=∀(pins:List (Addr×Obj)) (σ:St) (H:Hp) (s:Shared) (e:Value) (s':Shared),Inv X pins σ H s->CX X.stack H s E e s'->X.xe e s'
section
variable {X:Cx} {CX:Gw} {k:Nat} {f C:Addr} {fd:FuncData} {ps:List Str} {sp:Sp} {jV:List V} {ds:List Value} {E:XK} {x m:Str} {p pos apos:Pos} {e o:Expr} {es:List Expr} {ta:TE} {t:TA}
theorem E2 {pins:List (Addr×Obj)}{σ:St}{H:Hp}{s:Shared}{Q:VK}{us:List Value}{vs:List V}(F:aS X.prog X.w X.K X.mg X.base CX k f fd ps sp)(hr:ee k X.A)(hb:Binds X.K fd ps ds)(hd:Vals jV ds)(hx:Passes CX X E)
  (I:Inv X pins σ H s) (r:Vals vs us) (h:sp (vs++jV) H Q E):wpAny (model X.prog X.w) X.A (call (.ref f) us) (EP X pins σ Q) X.xe s:=by
 have r2:Vals (vs++jV) (us++ds):=r.append hd;have hl:(us++ds).length=ps.length:=by rw[<-r2.length];exact F.len _ _ _ _ h
 refine wpAny_call (codeAny_mono (F.run X.A X.stack s H ⟨us,[]⟩ (us++ds) (vs++jV) Q E hr I.env0 (hb s us I.mV hl) r2 h) fun r s' hq=>?_);cases r with
 |error e=>exact hx pins σ H s e s' I hq
 |ok fl =>
  cases fl with
  |ret u=>exact I.after hq
  |next=>exact False.elim hq
  |brk=>exact False.elim hq
  |cont=>exact False.elim hq
theorem mn (F:aS X.prog X.w X.K X.mg X.base CX k f fd ps sp)(hr:ee k X.A)(hg:Gl X x)(hm:X.mg x=some (.ref f))(hk:keepIn X.K (.ref f)=true)(hb:Binds X.K fd ps ds)(hd:Vals jV ds)(hx:Passes CX X E)
  (ha:PA X (e::es) t) (hdb:(x==("__debug__":Str))=false:=by decide) (he:starEach (e::es) X.env=(false,eval e X.env)::starEach es X.env:=by rfl) (hpl:(backTo pos (starEach es X.env)).any (·.1)=false:=by rfl) :
  PE X (.Call (.Name x p) (e::es) [] pos) (NW sp jV E t):=by
 intro pins s σ H Q I h;refine wpAny_Call_Name_kw (md I hg hm ?_ hdb);refine callWith_K (h₀:=X.base) I.ok.mod.Mc hk (bU (ha pos pins s σ H _ I h) fun us s1 ⟨vs,H1,I1,r,q⟩=>⟨I1.mV,?_⟩) he hpl;exact E2 F hr hb hd hx I1 r q
theorem cz {pl:Sem Bool}(he:PE X o ta)(c:EN X.K C)(hm:Meth X.K C m f)(F:aS X.prog X.w X.K X.mg X.base CX k f fd ps sp)(hr:ee k X.A)(hb:Binds X.K fd ps ds)(hd:Vals jV ds)(hx:Passes CX X E)(ha:PA X (e::es) t)
  (hst:starEach (e::es) X.env=(false,eval e X.env)::starEach es X.env:=by rfl) (hpl:(backTo pos (starEach es X.env)).any (·.1)=false:=by rfl)
  (ht:eval (.Call (.Attribute o m apos) (e::es) [] pos) X.env=(do
   let ov <-eval o X.env
   standAt apos.atName
   let (f,first) <-holding [ov] (getMethod ov m pl)
   callWith pos f first (backTo pos (starEach (e::es) X.env)) (backToKw pos (keywordEach [] X.env))):=by rfl) :
  PE X (.Call (.Attribute o m apos) (e::es) [] pos) (NX C m sp jV E ta t):=by
 intro pins s σ H Q I h;refine methodCall_KW (pl:=pl) (bU (he pins s σ H _ I h) fun u s1 ⟨x,H1,I1,rx,a,dx,fs,ex,ea,l,q⟩=>?_) ht;subst ex;obtain rfl:u=Value.ref a:=rx;refine mj I1 ea c hm l ?_;refine callWith_K (first:=[.ref a]) (h₀:=X.base) I.ok.mod.Mc hm.kp (bU (ha pos pins s1 σ H1 _ I1 q) fun us s2 ⟨vs,H2,I2,r,q2⟩=>⟨I2.mV,?_⟩) hst hpl;exact E2 (us:=.ref a::us) (vs:=.ref a::vs) F hr hb hd hx I2 (.cons rfl r) q2
theorem gq {pl:Sem Bool}(he:PE X o ta)(c:EN X.K C)(hm:Meth X.K C m f)(F:aS X.prog X.w X.K X.mg X.base CX k f fd ps sp)(hr:ee k X.A)(hb:Binds X.K fd ps ds)(hd:Vals jV ds)(hx:Passes CX X E)
  (ht:eval (.Call (.Attribute o m apos) [] [] pos) X.env=(do
   let ov <-eval o X.env
   standAt apos.atName
   let (f,first) <-holding [ov] (getMethod ov m pl)
   callWith pos f first (backTo pos (starEach [] X.env)) (backToKw pos (keywordEach [] X.env))):=by rfl) :
  PE X (.Call (.Attribute o m apos) [] [] pos) (NX C m sp jV E ta Mv):=by
 intro pins s σ H Q I h;refine methodCall_KW (pl:=pl) (bU (he pins s σ H _ I h) fun u s1 ⟨x,H1,I1,rx,a,dx,fs,ex,ea,l,q⟩=>?_) ht;subst ex;obtain rfl:u=Value.ref a:=rx;refine mj I1 ea c hm l ?_;exact callWith_K0 (first:=[.ref a]) I1.mV hm.kp (E2 (us:=[.ref a]) (vs:=[.ref a]) F hr hb hd hx I1 (.cons rfl .nil) q)
structure Mk (K:Frag)(C f:Addr):Prop where
 makes:makesIn K C=true
 init:findIn K (.ref C) "__init__"=some (some (.ref f))
 fn:isFn K (.ref f)=true
 kp:keepIn K (.ref C)=true
theorem C3 {pins:List (Addr×Obj)}{σ:St}{H:Hp}{s:Shared}{Q:VK}{us:List Value}{vs:List V}(M:Mk X.K C f)(F:aS X.prog X.w X.K X.mg X.base CX k f fd ps sp)(hr:ee (k+1) X.A)(hb:Binds X.K fd ps ds)(hd:Vals jV ds)
  (hx:Passes CX X E) (I:Inv X pins σ H s) (r:Vals vs us)
  (h:∀ x dx,H x=none->H dx=none->dx≠x->sp (.ref x::(vs++jV)) (upd (upd H dx (.own x)) x (.ins C dx [])) (fun v H2=>v=.non/\Q (.ref x) H2) E) :
  wpAny (model X.prog X.w) X.A (call (.ref C) us) (EP X pins σ Q) X.xe s:=by
 have hq:=h (s.heap.objs.size+1) s.heap.objs.size (I.hok.fresh (Nat.le_succ _)) (I.hok.fresh (Nat.le_refl _)) (Nat.ne_of_lt (Nat.lt_succ_self _));have I2:=Inv.made (C:=C) I;have r2:Vals (V.ref (s.heap.objs.size+1)::(vs++jV)) (Value.ref (s.heap.objs.size+1)::(us++ds)):=.cons rfl (r.append hd);have hl:(Value.ref (s.heap.objs.size+1)::us++ds).length=ps.length:=by
  have e:=r2.length;rw[F.len _ _ _ _ hq]at e;exact e.symm
 refine wpAny_call (J9 (f:=f) I.mV M.makes M.init (beq_iff_eq.mp M.fn) (codeAny_mono (F.run _ X.stack _ _ ⟨Value.ref (s.heap.objs.size+1)::us,[]⟩ (Value.ref (s.heap.objs.size+1)::(us++ds)) _ _ E (hr.make C us [])
  (I2.env0.make C us []) (hb _ (Value.ref (s.heap.objs.size+1)::us) I2.mV hl) r2 hq) fun r s' hq'=>?_))
 cases r with
 |error e=>exact hx pins σ _ _ e s' I2 hq'
 |ok fl =>
  cases fl with
  |ret u =>
   obtain⟨v,H',I3,rv,ev,q3⟩:=I2.after hq';subst ev;exact⟨rv,⟨V.ref (s.heap.objs.size+1),H',I3,rfl,q3⟩⟩
  |next=>exact False.elim hq'
  |brk=>exact False.elim hq'
  |cont=>exact False.elim hq'
theorem pC (M:Mk X.K C f)(F:aS X.prog X.w X.K X.mg X.base CX k f fd ps sp)(hr:ee (k+1) X.A)(hg:Gl X x)(hm:X.mg x=some (.ref C))(hb:Binds X.K fd ps ds)(hd:Vals jV ds)(hx:Passes CX X E)
  (ha:PA X (e::es) t) (hdb:(x==("__debug__":Str))=false:=by decide) (he:starEach (e::es) X.env=(false,eval e X.env)::starEach es X.env:=by rfl) (hpl:(backTo pos (starEach es X.env)).any (·.1)=false:=by rfl) :
  PE X (.Call (.Name x p) (e::es) [] pos) (NY C sp jV E t):=by
 intro pins s σ H Q I h;refine wpAny_Call_Name_kw (md I hg hm ?_ hdb);refine callWith_K (h₀:=X.base) I.ok.mod.Mc M.kp (bU (ha pos pins s σ H _ I h) fun us s1 ⟨vs,H1,I1,r,q⟩=>⟨I1.mV,?_⟩) he hpl;exact C3 M F hr hb hd hx I1 r q
theorem C4 (M:Mk X.K C f)(F:aS X.prog X.w X.K X.mg X.base CX k f fd ps sp)(hr:ee (k+1) X.A)(hg:Gl X x)(hm:X.mg x=some (.ref C))(hb:Binds X.K fd ps ds)(hd:Vals jV ds)(hx:Passes CX X E)
  (hdb:(x==("__debug__":Str))=false:=by decide):PE X (.Call (.Name x p) [] [] pos) (NY C sp jV E Mv):=by
 intro pins s σ H Q I h;refine wpAny_Call_Name_kw (md I hg hm ?_ hdb);exact callWith_K0 I.mV M.kp (C3 (us:=[]) M F hr hb hd hx I .nil h)
end
section
variable {X:Cx} {CX:Gw} {k:Nat} {f C:Addr} {fd:FuncData} {ps ks:List Str} {sp:Sp} {E:XK} {x m:Str} {p pos apos Xk:Pos} {e o:Expr} {es:List Expr} {kws:List Keyword} {te ta:TE} {t tk:TA} {nm:Option Str}
variable {g:List Value->List Value->List Value} {gV:List V->List V->List V}
end
structure aw (N P:List Str)(sc:Scope):Prop where
 kind:sc.kind=.function
 co:sc.isCoroutine=false
 gen:sc.isGenerator=false
 nd:N.Nodup
 pre:N.take P.length=P
 par:∀ x∈P,sc.names.lookup x=some .local\/sc.names.lookup x=some .cell
 OV:∀ y∈sc.names,y.2≠.free
theorem zM {kindOf:Str->Option NameKind}{x:Str}:∀{binds:List (Str×Value)} {m:Str->Option Value},(∀ v,(x,v) ∉ binds)->bindL kindOf binds m x=m x
 |[],_,_=>rfl
 |(n,v)::r,m,h=>by
  unfold bindL;rw[zM fun w hw=>h w (mem_cons_of_mem _ hw)];split
  ·have:x≠n:=by rintro rfl;exact h v mem_cons_self
   simp[this]
  ·rfl
theorem zN {kindOf:Str->Option NameKind}{x:Str}:∀{binds:List (Str×Value)} {m:Str->Option Value},(∀ v,(x,v) ∉ binds)->bindC kindOf binds m x=m x
 |[],_,_=>rfl
 |(n,v)::r,m,h=>by
  unfold bindC;rw[zN fun w hw=>h w (mem_cons_of_mem _ hw)];split
  ·rfl
  ·have:x≠n:=by rintro rfl;exact h v mem_cons_self
   simp[this]
theorem zO {kindOf:Str->Option NameKind}{x:Str}{v:Value}:∀{P:List Str} {vs:List Value} {i:Nat} {m:Str->Option Value},P.Nodup->P[i]? = some x->vs[i]? = some v->kindOf x=some .local ->
  bindL kindOf (P.zip vs) m x=some v
 |[],_,_,_,_,h,_,_=>by simp at h
 |_::_,[],_,_,_,_,h,_=>by simp at h
 |p::P,w::vs,0,m,nd,h1,h2,hk=>by
  simp at h1 h2;subst h1;subst h2;show bindL kindOf ((p,w)::P.zip vs) m p=_;unfold bindL;rw[zM fun v hv=>(List.nodup_cons.mp nd).1 (List.of_mem_zip hv).1,if_pos hk];simp
 |p::P,w::vs,i+1,m,nd,h1,h2,hk=>by
  show bindL kindOf ((p,w)::P.zip vs) m x=_;unfold bindL;exact zO (i:=i) (List.nodup_cons.mp nd).2 (by simpa using h1) (by simpa using h2) hk
theorem zP {kindOf:Str->Option NameKind}{x:Str}{v:Value}:∀{P:List Str} {vs:List Value} {i:Nat} {m:Str->Option Value},P.Nodup->P[i]? = some x->vs[i]? = some v->kindOf x≠some .local ->
  bindC kindOf (P.zip vs) m x=some v
 |[],_,_,_,_,h,_,_=>by simp at h
 |_::_,[],_,_,_,_,h,_=>by simp at h
 |p::P,w::vs,0,m,nd,h1,h2,hk=>by
  simp at h1 h2;subst h1;subst h2;show bindC kindOf ((p,w)::P.zip vs) m p=_;unfold bindC;rw[zN fun v hv=>(List.nodup_cons.mp nd).1 (List.of_mem_zip hv).1,if_neg hk];simp
 |p::P,w::vs,i+1,m,nd,h1,h2,hk=>by
  show bindC kindOf ((p,w)::P.zip vs) m x=_;unfold bindC;exact zP (i:=i) (List.nodup_cons.mp nd).2 (by simpa using h1) (by simpa using h2) hk
noncomputable def start (N:List Str)(vs:List V):St:=vs.map some++List.replicate (N.length-vs.length) none
noncomputable def kM (CX:Gw)(P:Program)(w:World)(K:Frag)(mg:Str->Option Value)(base:Heap)(N:List Str)(qual:Str)(scope:Scope)(f:Addr)(cd:Value)(A:Around)(outer:List Env)(s:Shared)(H:Hp)(E:XK):Cx where
 prog:=P
 w:=w
 K:=K
 mg:=mg
 base:=base
 A:=A.deeper (envOfC qual scope s.heap.objs.size f cd)
 N:=N
 s₀:=s
 H₀:=H
 env:=envOfC qual scope s.heap.objs.size f cd
 outer:=outer
 stack:=envOfC qual scope s.heap.objs.size f cd::outer
 ex:=[]
 calm:=true
 fn:=fun _=>true
 pn:=[]
 xe:=fun e s'=>wpAny (model P w) (A.deeper (envOfC qual scope s.heap.objs.size f cd)) (leaving (envOfC qual scope s.heap.objs.size f cd) e) (fun _ s''=>CX outer H s E e s'') (fun e' s''=>CX outer H s E e' s'') s'
theorem C5 {sc:Scope}{n:Nat}{x:Str}(h:sc.names.lookup x=some .cell):∃ c,(cellsFrom n sc.names []).lookup x=some c:=by
 have q:=PySem.W.cellsFrom_some sc.names n [] (.inl h);exact Option.isSome_iff_exists.mp q
theorem Iw {CX:Gw}{P:Program}{w:World}{K:Frag}{mg:Str->Option Value}{base:Heap}{N ps:List Str}{qual:Str}{scope:Scope}{f:Addr}{cd:Value}{A:Around}{outer:List Env}{s s1:Shared}{H:Hp}{E:XK}{us:List Value}{vs:List V}
  (S:aw N ps scope) (hd:A.handled=none) (e0:EZ P w K mg base A outer s H) (hl:vs.length=ps.length) (r:Vals vs us)
  (x:InCallC s s.heap.objs.size (bindL (envOfC qual scope s.heap.objs.size f cd).kindOf (ps.zip us) fun _=>none) (cellsFrom (s.heap.objs.size+1) scope.names []) (bindC (envOfC qual scope s.heap.objs.size f cd).kindOf (ps.zip us) fun _=>none) s1) :
  Inv (kM CX P w K mg base N qual scope f cd A outer s H E) [] (start N vs) H s1:=by
 have hpl:ps.length<=N.length:=by have:=congrArg List.length S.pre;rw[length_take]at this;omega
 obtain⟨h1,tk,rfl,hk⟩:=x.done;have Ri:∀ b:Addr,b ∉ (kM CX P w K mg base N qual scope f cd A outer s H E).ex:=fun b z=>absurd (show b∈([]:List Addr) from z) (by simp);refine⟨⟨e0.mod,S.kind,rfl,rfl,Nat.le_refl _,fun y z c h1 h2=>?_,fun y hy=>?_,fun y c _ h=>?_,fun _=>hd,Around.frames_deeper e0.frames,.inr ⟨rfl,rfl⟩,fun b z=>absurd z (Ri b),e0.bs,e0.Gm,fun b _ _=>Ri b,fun b z=>absurd z (Ri b),e0.pO,e0.JV⟩,
  rfl,e0.bare,Un.kept hk,⟨_,x.toInCall.ns,fun i y v h1 h2 h3=>?_⟩,fun y c h=>⟨_,x.cell y c h⟩,e0.hok.fresh (Nat.le_refl _),fun y c h=>?_,fun p hp=>absurd (show p∈([]:List (Addr×Obj)) from hp) (by simp),e0.hok.kept hk,?_⟩
 ·exact name_of_addr x.apart (PySem.mem_of_lookup h1) (PySem.mem_of_lookup h2)
 ·have hy:scope.names.lookup y=some .cell\/scope.names.lookup y=some .free:=hy;rcases hy with hy|hy
  ·exact C5 hy
  ·exact absurd rfl (S.OV _ (PySem.mem_of_lookup hy))
 ·exact Nat.le_of_lt (x.above y c (PySem.mem_of_lookup h))
 ·have hi:i<vs.length:=by
   unfold start at h2
   by_cases hi:i<vs.length
   ·exact hi
   ·rw[getElem?_append_right (by simpa using hi)]at h2;rw[List.getElem?_replicate]at h2;split at h2 <;> cases h2
  have ha:vs[i]? = some v:=by
   unfold start at h2;rw[List.getElem?_append_left (by simpa using hi),getElem?_map]at h2;cases e:vs[i]? with
   |none=>rw[e]at h2;cases h2
   |some a=>rw[e]at h2;cases h2;rfl
  obtain⟨u,hu,rv⟩:=r.get ha;have hp:ps[i]? = some y:=by
   rw[<-S.pre,List.getElem?_take_of_lt (by omega)];exact h1
  have VR:ps.Nodup:=by rw[<-S.pre];exact S.nd.sublist (List.take_sublist _ _)
  refine⟨u,rv,?_⟩;rcases S.par y (mem_of_getElem? hp) with k|k
  ·exact .inl ⟨k,zO VR hp hu k⟩
  ·obtain⟨c,e⟩:=C5 (n:=s.heap.objs.size+1) k;refine .inr ⟨.inl k,c,e,?_⟩;have q:=x.cell y c e;rw[zP VR hp hu (by show scope.names.lookup y≠_;rw[k];decide)]at q;exact q
 ·exact e0.hok.fresh (Nat.le_of_lt (x.above y c (PySem.mem_of_lookup h)))
 ·unfold start;show _=N.length;rw[length_append,length_map,List.length_replicate];omega
theorem Gx {CX:Gw}{P:Program}{w:World}{K:Frag}{mg:Str->Option Value}{base:Heap}{k:Nat}{f:Addr}{name qual:Str}{params:Arguments}{body:List Stmt}{scope:Scope}{dV kV doc pm cdv ct oc:Value}{an od:Option Addr}
  {osl:Array (Option Value)} {N ps:List Str} {sp:Sp} (lk:K.lookup f=some ⟨oc,od,.func (fnOf name qual params body scope dV kV doc pm an cdv ct),osl⟩) (hcd:codeIn K cdv qual=true) (S:aw N ps scope)
  (len:∀ vs H Q E,sp vs H Q E->vs.length=ps.length)
  (hbody:∀(A:Around)(outer:List Env)(s:Shared)(H:Hp)(vs:List V)(Q:VK)(E:XK),ee k (A.deeper (envOfC qual scope s.heap.objs.size f cdv))->sp vs H Q E ->
   ∃ t,wJ (kM CX P w K mg base N qual scope f cdv A outer s H E) body t/\t { nx:=fun _ H'=>Q .non H',rt:=Q } (start N vs) H) :
  aS P w K mg base CX (k+1) f (fnOf name qual params body scope dV kV doc pm an cdv ct) ps sp:=by
 refine⟨len,fun A outer s H args us vs Q E hr e0 hb r hsp=>?_⟩;have hl:=len _ _ _ _ hsp;have KX:K.In s.heap:=e0.mod.Mc.keeps fun b o e=>(e0.bs b o e).1;have lim:s.heap.NoLimit:=e0.mod.nolimit.keeps fun b o e=>(e0.bs b o e).1;have hkind:∀ y∈ps.zip us,scope.names.lookup y.1=some .local\/(scope.names.lookup y.1=some .cell/\((cellsFrom (s.heap.objs.size+1) scope.names []).lookup y.1).isSome=true):=fun⟨n,v⟩ hy=>by
  rcases S.par n (List.of_mem_zip hy).1 with q|q
  ·exact .inl q
  ·exact .inr ⟨q,PySem.W.cellsFrom_some _ _ _ (.inl q)⟩
 refine codeAny_call_function hr.depth (KX _ _ lk) rfl S.co S.gen rfl (PySem.W.codeRec_of KX hcd) (hb _ _ _ _ ?_);refine wpAny_newFunctionEnv_cells S.kind hkind fun env he s1 x=>?_;subst he;refine⟨lim.keeps x.toInCall.keep,codeAny_func ?_⟩;obtain⟨t,ht,hq⟩:=hbody A outer s H vs Q E (hr.deeper _) hsp;have I:Inv (kM CX P w K mg base N qual scope f cdv A outer s H E) [] (start N vs) H s1:=Iw S hr.hd e0 hl r x;refine wpAny_mono (ht [] s1 (start N vs) H _ I hq) (fun fl s' hs=>?_) fun e s' hs=>hs;have fin:∀{σ':St} {H':Hp} {v:V} {u:Value},Inv (kM CX P w K mg base N qual scope f cdv A outer s H E) [] σ' H' s'->RelV v u->Q v H'->CE outer P w H s Q u s' :=
  fun {σ' H' v u} J rv q=>⟨v,H',J.os,J.bare,J.base,J.hok,rv,q⟩
 cases fl with
 |ret u =>
  obtain⟨v,σ',H',J,rv,q⟩:=hs;exact fin J rv q
 |next =>
  obtain⟨σ',H',J,q⟩:=hs;exact fin (v:=V.non) (u:=Value.none) J rfl q
 |brk =>
  obtain⟨_,_,_,q⟩:=hs;exact False.elim q
 |cont =>
  obtain⟨_,_,_,q⟩:=hs;exact False.elim q
end L2
namespace L2
open PySem PySem.Spec PyProof.Rows
section
variable {X:Cx} {x:Str} {p pos:Pos} {e:Expr} {es:List Expr} {t:TA} {id T:String} {r:List V->Hp->VK->Prop}
noncomputable def VS (r:List V->Hp->VK->Prop)(t:TA):TE:=fun σ H Q=>t σ H fun vs H1=>r vs H1 Q
theorem aI (hc:f7 X (.builtin id) r)(hg:Gl X x)(hm:X.mg x=none)(hv:bootBuiltins x=some (.builtin id))(ha:PA X (e::es) t)(hn:x ≠ "__name__":=by decide)(hdb:(x==("__debug__":Str))=false:=by decide)
  (he:starEach (e::es) X.env=(false,eval e X.env)::starEach es X.env:=by rfl) (hpl:(backTo pos (starEach es X.env)).any (·.1)=false:=by rfl):PE X (.Call (.Name x p) (e::es) [] pos) (VS r t):=by
 intro pins s σ H Q I h;refine wpAny_Call_Name_kw (kL I hg hm hv ?_ hn hdb);exact PyProof.Rows.callWith_builtin1 (bU (ha pos pins s σ H _ I h) fun us s1 ⟨vs,H1,I1,r1,q1⟩=>hc pins s1 σ H1 vs us Q I1 r1 q1) he hpl
theorem bT (hc:f7 X (.type T) r)(hg:Gl X x)(hm:X.mg x=none)(hv:bootBuiltins x=some (.type T))(ha:PA X (e::es) t)(hn:x ≠ "__name__":=by decide)(hdb:(x==("__debug__":Str))=false:=by decide)
  (he:starEach (e::es) X.env=(false,eval e X.env)::starEach es X.env:=by rfl) (hpl:(backTo pos (starEach es X.env)).any (·.1)=false:=by rfl):PE X (.Call (.Name x p) (e::es) [] pos) (VS r t):=by
 intro pins s σ H Q I h;refine wpAny_Call_Name_kw (kL I hg hm hv ?_ hn hdb);exact PyProof.Rows.callWith_type1 (bU (ha pos pins s σ H _ I h) fun us s1 ⟨vs,H1,I1,r1,q1⟩=>hc pins s1 σ H1 vs us Q I1 r1 q1) he hpl
end
end L2
namespace HT
open PySem PyProof.Rows
section
open PySem.SeqAt
open PySem.AutoSeq1 (wpAny_loadPart')
open PySem.MeetsSeq PySem.MeetsSeq2 PySem.MeetsSeq3
end
section
variable {prog:Program} {w:World} {A:Around} {E:Value->Shared->Prop} {s:Shared}
noncomputable def gY (n d:Nat):Option Int->Nat
 |none=>d
 |some v=>if v<0 then(v+(n:Int)).toNat else min v.toNat n
theorem xj (n d:Nat):gY n d none=d:=rfl
theorem Bj (n d k:Nat):gY n d (some (k:Int))=min k n:=by
 show(if(k:Int)<0 then((k:Int)+(n:Int)).toNat else min (k:Int).toNat n)=min k n;rw[if_neg (by omega),Int.toNat_natCast]
theorem OW (n d:Nat)(hd:d<=n)(o:Option Int):gY n d o<=n:=by
 cases o with
 |none=>exact hd
 |some v =>
  show(if v<0 then(v+(n:Int)).toNat else min v.toNat n)<=n
  by_cases hv:v<0
  ·rw[if_pos hv];omega
  ·rw[if_neg hv];exact Nat.min_le_right _ _
theorem Gy (v:Int)(n d:Nat):(if v<0 then max (v+(n:Int)) 0 else min v (n:Int))=((gY n d (some v):Nat):Int):=by
 show(if v<0 then max (v+(n:Int)) 0 else min v (n:Int))=(((if v<0 then(v+(n:Int)).toNat else min v.toNat n):Nat):Int)
 by_cases hv:v<0
 ·simp only [if_pos hv];omega
 ·simp only [if_neg hv];omega
theorem E3 (lo hi:Option Int)(n:Nat):Builtin.Slice.sliceAdjust lo hi 1 (n:Int)=(((gY n 0 lo:Nat):Int),((gY n n hi:Nat):Int)):=by
 have h1:¬((1:Int)<0):=by omega
 unfold Builtin.Slice.sliceAdjust;simp only [h1,if_false];refine Prod.ext ?_ ?_
 ·cases lo with
  |none=>rfl
  |some v=>exact Gy v n 0
 ·cases hi with
  |none=>rfl
  |some v=>exact Gy v n n
theorem E4 (i j:Nat):Builtin.Slice.slicePlaces (i:Int) (j:Int) 1=j-i:=by
 unfold Builtin.Slice.slicePlaces;have h1:(1:Int) > 0:=by omega
 simp only [h1,if_true,Int.ediv_one];split <;> omega
theorem xk {v:Value}{o:Option Int}{Q:Option Int->Shared->Prop}(p:IsPart v o)(h:Q o s):wpAny (model prog w) A (Builtin.Slice.slicePartIndex v) Q E s:=by
 cases p with
 |none=>exact slicePart_none h
 |int i t=>exact slicePart_int h
theorem tV {sl:Addr}{vl vu:Value}{lo hi:Option Int}{n:Nat}{Q:Int×Int×Nat->Shared->Prop}(hs:s.heap.IsSliceOf sl vl vu .none)(pl:IsPart vl lo)(pu:IsPart vu hi)
  (h:Q (((gY n 0 lo:Nat):Int),1,gY n n hi-gY n 0 lo) s):wpAny (model prog w) A (Builtin.Slice.sliceApplied (.ref sl) (pure (n:Int))) Q E s:=by
 obtain⟨os,hos,hcs,hds⟩:=id hs;unfold Builtin.Slice.sliceApplied Builtin.Slice.sliceFields;refine wpAny_bind (wpAny_bind (wpAny_field hos hds (x:=vl) rfl (wpAny_bind (wpAny_field hos hds (x:=vu) rfl (wpAny_bind (wpAny_field hos hds (x:=.none) rfl (wpAny_pure ?_)))))));refine wpAny_bind (slicePart_none ?_);show wpAny _ _ (if((1:Int)==0)=true then _ else _) _ _ s;rw[if_neg (by decide)];refine wpAny_bind (xk pl (wpAny_bind (xk pu (wpAny_bind (wpAny_pure ?_)))));show wpAny _ _ (match Builtin.Slice.sliceAdjust lo hi 1 (n:Int) with|(lo,hi)=>pure (lo,(1:Int),Builtin.Slice.slicePlaces lo hi 1)) _ _ s;rw[E3 lo hi n];show wpAny _ _ (pure (((gY n 0 lo:Nat):Int),(1:Int),Builtin.Slice.slicePlaces ((gY n 0 lo:Nat):Int) ((gY n n hi:Nat):Int) 1)) _ _ s;rw[E4];exact wpAny_pure h
theorem Kb (xs:Array Value)(i k:Nat):((List.range k).filterMap fun(m:Nat)=>xs[((i:Int)+(m:Int) * 1).toNat]?).toArray=((xs.toList.drop i).take k).toArray:=by
 have e:(fun(m:Nat)=>xs[((i:Int)+(m:Int) * 1).toNat]?)=fun m=>xs[i+m]?:=by
  funext m
  have:((i:Int)+(m:Int) * 1).toNat=i+m:=by omega
  rw[this]
 rw[e];have:=pick_run xs i k;rw[List.filterMap_map]at this;have e2:((fun x=>xs[x]?) ∘ fun x=>i+x)=fun m=>xs[i+m]?:=rfl;rw[e2]at this;rw[this]
theorem qY {t sl:Addr}{items:Array Value}{vl vu:Value}{lo hi:Option Int}{Q:Value->Shared->Prop}(ht:IsTup s.heap t items)(hs:s.heap.IsSliceOf sl vl vu .none)(pl:IsPart vl lo)(pu:IsPart vu hi)
  (hw:¬(gY items.size 0 lo=0/\gY items.size items.size hi=items.size))
  (h:Q (.ref s.heap.objs.size) { s with heap:=s.heap.push { cls:=.type "tuple",data:=.seq ((items.toList.drop (gY items.size 0 lo)).take (gY items.size items.size hi-gY items.size 0 lo)).toArray } })
  (hsz:items.size<=sizeLine):wpAny (model prog w) A (getItem (.ref t) (.ref sl)) Q E s:=by
 have Gz:sizeOk (.seq ((items.toList.drop (gY items.size 0 lo)).take (gY items.size items.size hi-gY items.size 0 lo)).toArray):=by
  show((items.toList.drop (gY items.size 0 lo)).take (gY items.size items.size hi-gY items.size 0 lo)).toArray.size<=sizeLine;rw[size_toArray,length_take,length_drop,Array.length_toList];omega
 have hj:gY items.size items.size hi<=items.size:=OW _ _ (Nat.le_refl _) hi;obtain⟨os,hos,hcs,hds⟩:=id hs;have hTs:s.TypeIs (.ref sl) "slice":=⟨os,hos,hcs⟩;unfold getItem
 try with_reducible refine wpAny_holding ?_
 first|refine wpAny_bind (wpAny_pure ?_)|skip
 refine wpAny_bind (wpAny_sequenceKey ht.typeIs (by decide) ?_);refine wpAny_bind (wpAny_callSpecial?_slot (name:=Str.ofString "__getitem__") ht.typeIs PyProof.Rows.slot_tuple_getitem
  (wpAny_call_entry PyProof.Rows.slot_tuple_getitem ht.typeIs entry_tuple_getitem ?_ (args_tuple_getitem _ _)))
 show wpAny _ _ (Builtin.Tuple.tupleItemsOf (.ref t) >>= _) _ _ s;refine wpAny_bind (tupleItemsOf_ ht ?_);refine wpAny_bind (wpAny_typeOf hTs ?_);rw[if_pos (by decide)];refine wpAny_bind (tV hs pl pu ?_);have hno:¬((((gY items.size 0 lo:Nat):Int)==0&&(1:Int)==1&&(gY items.size items.size hi-gY items.size 0 lo)==items.size)=true):=by
  intro q;rw[Bool.and_eq_true,Bool.and_eq_true]at q;have q1:((gY items.size 0 lo:Nat):Int)=0:=eq_of_beq q.1.1;have q2:gY items.size items.size hi-gY items.size 0 lo=items.size:=eq_of_beq q.2;exact hw ⟨by omega,by omega⟩
 show wpAny _ _ (if(((gY items.size 0 lo:Nat):Int)==0&&(1:Int)==1&&(gY items.size items.size hi-gY items.size 0 lo)==items.size)=true then _ else _) _ _ s;rw[if_neg hno,Kb]
 first
  |exact wpAny_bind (m:=Builtin.Tuple.tupleExact _) (wpAny_newObj_type (wpAny_pure ⟨_,rfl,wpAny_pure h⟩) Gz)
  |exact wpAny_bind (m:=Builtin.Tuple.tupleExact _) (wpAny_newObj_type (wpAny_bind (wpAny_pure (wpAny_pure ⟨_,rfl,wpAny_pure h⟩))) Gz)
  |exact wpAny_bind (wpAny_bind (m:=Builtin.Tuple.tupleExact _) (wpAny_newObj_type (wpAny_pure (wpAny_pure ⟨_,rfl,wpAny_pure h⟩)) Gz))
  |exact wpAny_bind (wpAny_bind (m:=Builtin.Tuple.tupleExact _) (wpAny_newObj_type (wpAny_pure ⟨_,rfl,wpAny_pure h⟩) Gz))
end
end HT
namespace L2
open PySem PySem.Spec PyProof.Rows
noncomputable abbrev TO:=St->Hp->(Option Int->Hp->Prop)->Prop
noncomputable def PO (X:Cx)(e:Option Expr)(t:TO):Prop :=
 ∀(pins:List (Addr×Obj)) (s:Shared) (σ:St) (H:Hp) (Q:Option Int->Hp->Prop),Inv X pins σ H s->t σ H Q ->
  wpAny (model X.prog X.w) X.A (evalPart e X.env) (fun u s'=>∃ o H',Inv X pins σ H' s'/\IsPart u o/\Q o H') X.xe s
noncomputable def Mw:TO:=fun _ H Q=>Q none H
inductive Kc (Q:(Option Int->Hp->Prop))(x:V)(H1:Hp):Prop
 |mk (i:_) (cH:x=.int i) (cI:Q (some i) H1):Kc Q x H1
noncomputable def Rj (t:TE):TO:=fun σ H Q=>t σ H fun x H1=>Kc Q x H1
section
variable {X:Cx} {e:Expr} {te:TE} {lo hi:Option Expr} {tl th:TO} {pos p2:Pos}
theorem eF:PO X none Mw:=by
 intro pins s σ H Q I h;rw[evalPart_none];exact wpAny_pure ⟨none,H,I,.none,h⟩
theorem cX (h:PE X e te):PO X (some e) (Rj te):=by
 intro pins s σ H Q I hw;rw[evalPart_some];refine bU (h pins s σ H _ I hw) fun u s1 eN=>?_;obtain⟨x,H1,I1,r1,q1⟩:=eN;obtain⟨i,rfl,q⟩:=q1;obtain⟨t,rfl⟩:=r1;exact⟨some i,H1,I1,.int i t,q⟩
noncomputable def NZ (X:Cx)(r:V->Option Int->Option Int->Hp->VK->Prop):Prop :=
 ∀(pins:List (Addr×Obj)) (s:Shared) (σ:St) (H:Hp) (x:V) (v vl vu:Value) (lo hi:Option Int) (sl:Addr) (Q:VK),Inv X pins σ H s->RelV x v->s.heap.IsSliceOf sl vl vu .none->IsPart vl lo->IsPart vu hi->r x lo hi H Q ->
  ∃ T id,typeLookup (.type T) "__getitem__"=pure (some (.builtin id))/\s.TypeIs v T/\wpAny (model X.prog X.w) X.A (getItem v (.ref sl)) (EP X pins σ Q) X.xe s
theorem NZ.or {r r':V->Option Int->Option Int->Hp->VK->Prop}(h:NZ X r)(h':NZ X r'):NZ X (fun x lo hi H Q=>r x lo hi H Q\/r' x lo hi H Q):=by
 intro pins s σ H x v vl vu lo hi sl Q I rx hs pl pu q;rcases q with q|q
 ·exact h pins s σ H x v vl vu lo hi sl Q I rx hs pl pu q
 ·exact h' pins s σ H x v vl vu lo hi sl Q I rx hs pl pu q
noncomputable def Xl (r:V->Option Int->Option Int->Hp->VK->Prop)(te:TE)(tl th:TO):TE:=fun σ H Q=>te σ H fun x H1=>tl σ H1 fun l H2=>th σ H2 fun u H3=>r x l u H3 Q
theorem di {r:V->Option Int->Option Int->Hp->VK->Prop}(hr:NZ X r)(he:PE X e te)(hl:PO X lo tl)(hu:PO X hi th):PE X (.Subscript e (.Slice lo hi none p2) pos) (Xl r te tl th):=by
 intro pins s σ H Q I h;refine Subscript_ (bU (he pins s σ H _ I h) fun v s1 eN=>?_);obtain⟨x,H1,I1,r1,q1⟩:=eN;refine wpAny_Slice (bU (hl pins s1 σ H1 _ I1 q1) fun vl s2 ⟨l,H2,I2,pl,q2⟩=>bU (hu pins s2 σ H2 _ I2 q2) fun vu s3 ⟨u,H3,I3,pu,q3⟩=>?_);rw[evalPart_none];refine wpAny_pure ?_;have I4:Inv X pins σ H3 { s3 with heap:=s3.heap.push { cls:=.type "slice",data:=.fields #[vl,vu,.none] } }:=I3.kept (t':=s3.toks) fun b ob q=>Heap.get?_push_of_some _ q;obtain⟨T,id,hT,ht,hg⟩:=hr pins { s3 with heap:=s3.heap.push { cls:=.type "slice",data:=.fields #[vl,vu,.none] } } σ H3 x v vl vu l u s3.heap.objs.size Q I4 r1 (Heap.IsSliceOf.new ..) pl pu q3;show wpAny (model X.prog X.w) X.A (subscriptTail e (.Slice lo hi none p2) v (.ref s3.heap.objs.size)) (EP X pins σ Q) X.xe { s3 with heap:=s3.heap.push { cls:=.type "slice",data:=.fields #[vl,vu,.none] } };exact tail_any (ops:=[.ref s3.heap.objs.size,v]) ht hT hg (by with_unfolding_all rfl)
noncomputable def n0 (xs:List V)(lo hi:Option Int):List V:=(xs.drop (HT.gY xs.length 0 lo)).take (HT.gY xs.length xs.length hi-HT.gY xs.length 0 lo)
theorem uF (xs:List V)(lo hi:Option Int):(n0 xs lo hi).length<=xs.length:=by
 unfold n0;rw[length_take,length_drop];omega
inductive N0 (K:Frag)(x:V)(lo:Option Int)(hi:Option Int)(H:Hp)(Q:VK):Prop
 |mk (a:_) (xs:_) (cH:x=.ref a) (cI:fc K H a xs) (dh:¬(HT.gY xs.length 0 lo=0/\HT.gY xs.length xs.length hi=xs.length)) (fJ:∀ p,H p=none->Q (.ref p) (upd H p (.tup (n0 xs lo hi)))):N0 K x lo hi H Q
noncomputable def Um (K:Frag):V->Option Int->Option Int->Hp->VK->Prop:=fun x lo hi H Q=>N0 K x lo hi H Q
theorem gs:NZ X (Um X.K):=by
 intro pins s σ H x v vl vu lo hi sl Q I rx hs pl pu h;obtain⟨a,xs,rfl,hx,hw,q⟩:=h;cases rx;obtain⟨its,r,ht,hz⟩:=I.tuple hx;have hlen:its.toArray.size=xs.length:=by rw[size_toArray];exact r.length.symm
 refine⟨"tuple",_,PyProof.Rows.slot_tuple_getitem.lookup,ht.typeIs,?_⟩;refine HT.qY ht hs pl pu (by rw[hlen];exact hw) ?_ (by rw[hlen];exact hz);rw[hlen];refine⟨.ref s.heap.objs.size,_,I.laid (t':=s.toks) (o:=.tup (n0 xs lo hi)) (fun b ob q=>Heap.get?_push_of_some _ q) (Nat.le_refl _) ?_,rfl,q _ (I.hok.fresh (Nat.le_refl _))⟩;exact⟨Nat.le_trans (uF xs lo hi) hz,_,(r.drop (HT.gY xs.length 0 lo)).take (HT.gY xs.length xs.length hi-HT.gY xs.length 0 lo),IsTup.new _ _⟩
end
end L2
namespace L2
open PySem PySem.Spec PyProof.Rows
noncomputable def Ke (n:Nat)(i:Int):Option Nat:=if 0<=i then(if i<n then some i.toNat else none) else if -(n:Int)<=i then some (i+n).toNat else none
noncomputable def Md {α:Type}(xs:List α)(i:Int):Option α:=(Ke xs.length i).bind fun j=>xs[j]?
theorem GC {n:Nat}{i:Int}{j:Nat}(h:Ke n i=some j):seqIndex? i n=some j/\j<n/\-(n:Int)<=i/\i<n:=by
 unfold Ke at h
 by_cases h0:0<=i
 ·rw[if_pos h0]at h
  by_cases h1:i<n
  ·rw[if_pos h1]at h;have e:i.toNat=j:=Option.some.inj h;exact⟨by rw[seqIndex_of h0 h1,e],by omega,by omega,h1⟩
  ·rw[if_neg h1]at h;cases h
 ·rw[if_neg h0]at h
  by_cases h1:-(n:Int)<=i
  ·rw[if_pos h1]at h;have e:(i+n).toNat=j:=Option.some.inj h;exact⟨by rw[seqIndex_neg (by omega) h1,e],by omega,h1,by omega⟩
  ·rw[if_neg h1]at h;cases h
theorem Bl {α:Type}{xs:List α}{i:Int}{v:α}(h:Md xs i=some v):∃ j,seqIndex? i xs.length=some j/\xs[j]? = some v/\j<xs.length/\-(xs.length:Int)<=i/\i<xs.length:=by
 unfold Md at h;cases e:Ke xs.length i with
 |none=>rw[e]at h;cases h
 |some j =>
  rw[e]at h;obtain⟨h1,h2,h3,h4⟩:=GC e;exact⟨j,h1,h,h2,h3,h4⟩
theorem pE {α:Type}{xs:List α}{j:Nat}{v:α}(h:xs[j]? = some v):Md xs (j:Int)=some v:=by
 have hj:j<xs.length:=(List.getElem?_eq_some_iff.mp h).1;have e:Ke xs.length (j:Int)=some j:=by
  unfold Ke;rw[if_pos (by omega),if_pos (by omega)];simp
 unfold Md;rw[e];exact h
noncomputable def Mx (b:Expr):Prop:=∀ o i,subscripted b false o i=operate [o,i] (getItem o i)
noncomputable def Me (X:Cx)(r:R2):Prop :=
 ∀(value slice:Expr)(pins:List (Addr×Obj)) (s:Shared) (σ:St) (H:Hp) (x y:V) (v u:Value) (Q:VK),Inv X pins σ H s->RelV x v->RelV y u->r x y H Q ->
  subscripted slice false v u=operate [v,u] (getItem v u)->wpAny (model X.prog X.w) X.A (subscriptTail value slice v u) (EP X pins σ Q) X.xe s
noncomputable def VT (X:Cx)(id:String)(r:V->List V->Hp->VK->Prop):Prop :=
 ∀(pins:List (Addr×Obj)) (s:Shared) (σ:St) (H:Hp) (x:V) (xs:List V) (v:Value) (us:List Value) (Q:VK),Inv X pins σ H s->RelV x v->Vals xs us->r x xs H Q ->
  wpAny (model X.prog X.w) X.A (call (.builtin id) (v::us)) (EP X pins σ Q) X.xe s
section
variable {X:Cx} {a b:Expr} {ta tb:TE} {pos:Pos}
theorem Me.or {r r':R2}(h:Me X r)(h':Me X r'):Me X (fun x y H Q=>r x y H Q\/r' x y H Q):=by
 intro value slice pins s σ H x y v u Q I rx ry q hs;rcases q with q|q
 ·exact h value slice pins s σ H x y v u Q I rx ry q hs
 ·exact h' value slice pins s σ H x y v u Q I rx ry q hs
theorem bp {r:R2}(hr:Me X r)(ha:PE X a ta)(hb:PE X b tb)(hs:Mx b):PE X (.Subscript a b pos) (Q9 r ta tb):=by
 intro pins s σ H Q I h;exact Subscript_ (OT ha hb I h fun v u s2 x y H2 I2 rx ry q=>hr a b pins s2 σ H2 x y v u Q I2 rx ry q (hs _ _))
inductive N1 (K:Frag)(x:V)(y:V)(H:Hp)(Q:VK):Prop
 |mk (p:_) (xs:_) (i:_) (v:_) (cH:x=.ref p) (cI:y=.int i) (dh:aL K H p xs) (fJ:Md xs i=some v) (jh:Q v H):N1 K x y H Q
noncomputable def Bm (K:Frag):R2:=fun x y H Q=>N1 K x y H Q
inductive N3 (K:Frag)(x:V)(y:V)(H:Hp)(Q:VK):Prop
 |mk (p:_) (xs:_) (i:_) (v:_) (cH:x=.ref p) (cI:y=.int i) (dh:fc K H p xs) (fJ:Md xs i=some v) (jh:Q v H):N3 K x y H Q
noncomputable def Bn (K:Frag):R2:=fun x y H Q=>N3 K x y H Q
inductive N4 (x:V)(y:V)(H:Hp)(Q:VK):Prop
 |mk (z:_) (i:_) (c:_) (cH:x=.str z) (cI:y=.int i) (dh:z.length<=sizeLine) (fJ:Md z.cps.toList i=some c) (jh:Q (.str ⟨#[c]⟩) H):N4 x y H Q
noncomputable def Bo :R2:=fun x y H Q=>N4 x y H Q
theorem My:Me X (Bm X.K):=by
 intro value slice pins s σ H x y v u Q I rx ry h hs;obtain⟨p,xs,i,z,rfl,rfl,hq,he,q⟩:=h;cases rx;obtain⟨t,rfl⟩:=ry;obtain⟨its,r,pl,hz⟩:=I.list hq;obtain⟨j,h1,h2,h3,h4,h5⟩:=Bl he;obtain⟨w,ew,Mz⟩:=r.get h2;have hl:=r.length;have hn:=tT;have fin:EP X pins σ Q w s:=⟨z,H,I,Mz,q⟩
 by_cases h0:0<=i
 ·have hj:i.toNat=j:=by
   rw[seqIndex_of h0 h5]at h1;exact Option.some.inj h1
  exact item_listR pl.isList h0 (by omega) (by rw[hj];simpa using ew) fin hs
 ·have hj:(i+(its.toArray.size:Int)).toNat=j:=by
   rw[seqIndex_neg (by omega) h4]at h1;rw[size_toArray,<-hl];exact Option.some.inj h1
  exact subscriptTail_builtinR (x:=w) pl.isList.typeIs slot_list_getitem.lookup
   (wpAny_getItem_list_neg (Q:=fun r s'=>r=w/\EP X pins σ Q r s') pl.isList (by omega) (by rw[size_toArray] <;> omega) (by omega) (by rw[hj];simpa using ew) ⟨rfl,fin⟩) hs
theorem OX:Me X (Bn X.K):=by
 intro value slice pins s σ H x y v u Q I rx ry h hs;obtain⟨p,xs,i,z,rfl,rfl,hq,he,q⟩:=h;cases rx;obtain⟨t,rfl⟩:=ry;obtain⟨its,r,pl,hz⟩:=I.tuple hq;obtain⟨j,h1,h2,h3,h4,h5⟩:=Bl he;obtain⟨w,ew,Mz⟩:=r.get h2;have hl:=r.length;have hn:=tT;have fin:EP X pins σ Q w s:=⟨z,H,I,Mz,q⟩;exact subscriptTail_builtinR (x:=w) pl.typeIs slot_tuple_getitem.lookup
  (getItem_tuple (j:=j) (Q:=fun r s'=>r=w/\EP X pins σ Q r s') pl (by omega) (by omega) (by rw[size_toArray,<-hl];exact h1) (by simpa using ew) ⟨rfl,fin⟩) hs
theorem OY:Me X Bo:=by
 intro value slice pins s σ H x y v u Q I rx ry h hs;obtain⟨z,i,c,rfl,rfl,hz,he,q⟩:=h;obtain⟨t,rfl⟩:=rx;obtain⟨t',rfl⟩:=ry;obtain⟨j,h1,h2,h3,h4,h5⟩:=Bl he;have hl:z.cps.toList.length=z.length:=by simp[Str.length]
 rw[hl]at h1 h4 h5;have hn:=tT;exact tail_any (typeIs_str s z t) slot_str_getitem.lookup (getItem_str (c:=c) (by
  have e1:decide (i < -(2 ^ 63:Int))=false:=decide_eq_false (by omega);have e2:decide (i ≥ 2 ^ 63)=false:=decide_eq_false (by omega);rw[e1,e2,Bool.or_false]) (by rw[h1];simpa using h2) ⟨.str ⟨#[c]⟩,H,I.tok _,⟨_,rfl⟩,q⟩) hs
noncomputable def VU (K:Frag):R2:=fun x y H Q=>Bm K x y H Q\/Bn K x y H Q\/Bo x y H Q
theorem a7:Me X (VU X.K):=My.or (OX.or OY)
theorem E5 (its:List Value)(n j:Nat)(u:Value):Obj.mapSeq (·.setIfInBounds j u) { cls:=.type "list",data:=.seq its.toArray n } = { cls:=.type "list",data:=.seq (its.set j u).toArray n }:=by
 simp[Obj.mapSeq]
theorem Inv.lst {pins:List (Addr×Obj)}{σ:St}{H:Hp}{s:Shared}{p:Addr}{xs:List V}(I:Inv X pins σ H s)(h:H p=some (.lst xs)) :
  ∃(its:List Value)(n:Nat),Vals xs its/\s.heap.get? p=some { cls:=.type "list",data:=.seq its.toArray n }/\xs.length<=sizeLine:=by
 obtain⟨z,its,n,r,e⟩:=I.hok p _ h;exact⟨its,n,r,e,z⟩
theorem Inv.OZ {pins:List (Addr×Obj)}{σ:St}{H:Hp}{s:Shared}{p:Addr}{xs ys:List V}{its its':List Value}{n n':Nat}{f:Obj->Obj}(I:Inv X pins σ H s)(h:H p=some (.lst xs))
  (ho:s.heap.get? p=some { cls:=.type "list",data:=.seq its.toArray n }) (hf:f { cls:=.type "list",data:=.seq its.toArray n } = { cls:=.type "list",data:=.seq its'.toArray n' }) (r:Vals ys its') (hz:ys.length<=sizeLine) (t:Nat) :
  Inv X pins σ (upd H p (.lst ys)) { s with heap:=s.heap.update p f,toks:=t }:=by
 have e:(s.heap.update p f).get? p=some { cls:=.type "list",data:=.seq its'.toArray n' }:=by
  rw[Heap.get?_update_self f ho (by rw[hf] <;> rfl),hf]
 refine I.write (x:=p) (e:=p) (by rw[h];trivial) (.inl rfl) (fun b u hb q=>(Heap.get?_update_other _ _ (Ne.symm hb)).trans q) ⟨_,e⟩ ?_;exact⟨hz,its',n',r,e⟩
inductive Kf (o:V)(i:V)(v:V)(H:Hp)(Q:(Hp->Prop)):Prop
 |mk (p:_) (xs:_) (k:_) (j:_) (cH:o=.ref p) (cI:i=.int k) (dh:H p=some (.lst xs)) (fJ:Ke xs.length k=some j) (jh:Q (upd H p (.lst (xs.set j v)))):Kf o i v H Q
noncomputable def Rk :V->V->V->Hp->(Hp->Prop)->Prop:=fun o i v H Q=>Kf o i v H Q
theorem set_list:QZ X Rk:=by
 intro pins s σ H o i v ov iv u Q I ro ri rv h;obtain⟨p,xs,k,j,rfl,rfl,hp,hj,q⟩:=h;cases ro;obtain⟨t,rfl⟩:=ri;obtain⟨its,n,r,ho,hz⟩:=I.lst hp;obtain⟨h1,h2,h3,h4⟩:=GC hj;have hl:=r.length;have hn:=tT;have I':Inv X pins σ (upd H p (.lst (xs.set j v))) { s with heap:=s.heap.update p (Obj.mapSeq (·.setIfInBounds j u)) } :=
  I.OZ hp ho (E5 its n j u) (r.set rv j) (by rw[List.length_set];exact hz) s.toks
 by_cases h0:0<=k
 ·have hk:k.toNat=j:=by
   rw[seqIndex_of h0 h4]at h1;exact Option.some.inj h1
  exact PySem.W.ki_setAt ho h0 (by omega) (by rw[size_toArray,<-hl];exact h4) (by rw[hk];exact⟨_,I',q⟩)
 ·have hk:(k+(its.toArray.size:Int)).toNat=j:=by
   rw[seqIndex_neg (by omega) h3]at h1;rw[size_toArray,<-hl];exact Option.some.inj h1
  exact PySem.W.ki_setBack ho (by omega) (by rw[size_toArray,<-hl];exact h3) (by omega) (by rw[hk];exact⟨_,I',q⟩)
theorem Bp (lo hi:Option Int)(n:Nat):(sliceBounds lo hi none n).1=((HT.gY n 0 lo:Nat):Int)/\(sliceBounds lo hi none n).2.1=((HT.gY n n hi:Nat):Int)/\(sliceBounds lo hi none n).2.2=1:=by
 refine⟨?_,?_,rfl⟩
 ·cases lo with
  |none=>simp[sliceBounds,HT.gY]
  |some i =>
   simp only [sliceBounds,HT.gY,Option.getD_none,show(1:Int) > 0 by decide,if_true]
   by_cases h:i<0
   ·simp only [h,if_true] <;> omega
   ·simp only [h,if_false] <;> omega
 ·cases hi with
  |none=>simp[sliceBounds,HT.gY]
  |some i =>
   simp only [sliceBounds,HT.gY,Option.getD_none,show(1:Int) > 0 by decide,if_true]
   by_cases h:i<0
   ·simp only [h,if_true] <;> omega
   ·simp only [h,if_false] <;> omega
theorem zk (its:List Value)(lo hi:Option Int):slicePick its.toArray lo hi none=((its.drop (HT.gY its.length 0 lo)).take (HT.gY its.length its.length hi-HT.gY its.length 0 lo)).toArray:=by
 obtain⟨h1,h2,h3⟩:=Bp lo hi its.toArray.size;unfold slicePick;rw[h1,h2,h3];simp only [sliceRange_one,pick_run,size_toArray] <;> rfl
inductive N5 (K:Frag)(x:V)(lo:Option Int)(hi:Option Int)(H:Hp)(Q:VK):Prop
 |mk (a:_) (xs:_) (cH:x=.ref a) (cI:aL K H a xs) (dh:∀ p,H p=none->Q (.ref p) (upd H p (.lst (n0 xs lo hi)))):N5 K x lo hi H Q
noncomputable def Uo (K:Frag):V->Option Int->Option Int->Hp->VK->Prop:=fun x lo hi H Q=>N5 K x lo hi H Q
theorem eG:NZ X (Uo X.K):=by
 intro pins s σ H x v vl vu lo hi sl Q I rx hs pl pu h;obtain⟨a,xs,rfl,hx,q⟩:=h;cases rx;obtain⟨its,r,ht,hz⟩:=I.list hx;have hlen:=r.length;refine⟨"list",_,slot_list_getitem.lookup,ht.isList.typeIs,?_⟩;refine wpAny_getItem_list_slice ht.isList hs pl pu .none (by simp) ?_ (by rw[size_toArray] <;> omega);rw[zk,<-hlen];refine⟨.ref s.heap.objs.size,_,I.laid (t':=s.toks) (o:=.lst (n0 xs lo hi)) (fun b ob q=>Heap.get?_push_of_some _ q) (Nat.le_refl _) ?_,rfl,q _ (I.hok.fresh (Nat.le_refl _))⟩;exact⟨Nat.le_trans (uF xs lo hi) hz,_,0,(r.drop (HT.gY xs.length 0 lo)).take (HT.gY xs.length xs.length hi-HT.gY xs.length 0 lo),Heap.get?_push_size _ rfl⟩
noncomputable def pR:V->Bool
 |.non=>true
 |.bl _=>true
 |.int _=>true
 |.str _=>true
 |_=>false
noncomputable def GD:V->V->Bool
 |.non,.non=>true
 |.bl a,.bl b=>a==b
 |.bl a,.int b=>(if a then 1 else 0)==b
 |.int a,.bl b=>a==(if b then 1 else 0)
 |.int a,.int b=>a==b
 |.str a,.str b=>a==b
 |_,_=>false
theorem Kg {A:Around}{s:Shared}{y x:V}{u v:Value}(ry:RelV y u)(rx:RelV x v)(fy:pR y=true)(fx:pR x=true):SeqAt.EqAt A s u v (GD y x):=by
 cases y with
 |non =>
  cases ry;cases x with
  |non=>cases rx;exact SeqAt.EqAt.same _
  |bl b=>cases rx;exact SeqAt.EqAt.none_bool b
  |int b=>obtain⟨t,rfl⟩:=rx;exact SeqAt.EqAt.none_int b t
  |str b=>obtain⟨t,rfl⟩:=rx;exact SeqAt.EqAt.none_str b t
  |_=>exact absurd (show false=true from fx) Bool.false_ne_true
 |bl a =>
  cases ry;cases x with
  |non=>cases rx;exact SeqAt.EqAt.bool_none a
  |bl b=>cases rx;exact SeqAt.EqAt.bool_bool a b
  |int b=>obtain⟨t,rfl⟩:=rx;exact SeqAt.EqAt.bool_int a b t
  |str b=>obtain⟨t,rfl⟩:=rx;exact SeqAt.EqAt.bool_str a b t
  |_=>exact absurd (show false=true from fx) Bool.false_ne_true
 |int a =>
  obtain⟨t',rfl⟩:=ry;cases x with
  |non=>cases rx;exact SeqAt.EqAt.int_none a t'
  |bl b=>cases rx;exact SeqAt.EqAt.int_bool a t' b
  |int b=>obtain⟨t,rfl⟩:=rx;exact SeqAt.EqAt.int_int a t' b t
  |str b=>obtain⟨t,rfl⟩:=rx;exact SeqAt.EqAt.int_str a t' b t
  |_=>exact absurd (show false=true from fx) Bool.false_ne_true
 |str a =>
  obtain⟨t',rfl⟩:=ry;cases x with
  |non=>cases rx;exact SeqAt.EqAt.str_none a t'
  |bl b=>cases rx;exact SeqAt.EqAt.str_bool a t' b
  |int b=>obtain⟨t,rfl⟩:=rx;exact SeqAt.EqAt.str_int a t' b t
  |str b=>obtain⟨t,rfl⟩:=rx;exact SeqAt.EqAt.str_str a t' b t
  |_=>exact absurd (show false=true from fx) Bool.false_ne_true
 |_=>exact absurd (show false=true from fy) Bool.false_ne_true
noncomputable def E6 (x:V)(u:Value):Bool:=match u with
 |.none=>GD .non x
 |.bool b=>GD (.bl b) x
 |.int i _=>GD (.int i) x
 |.str z _=>GD (.str z) x
 |_=>false
theorem Kh {x y:V}{u:Value}(r:RelV y u)(f:pR y=true):E6 x u=GD y x:=by
 cases y with
 |non=>cases r;rfl
 |bl b=>cases r;rfl
 |int i=>obtain⟨t,rfl⟩:=r;rfl
 |str z=>obtain⟨t,rfl⟩:=r;rfl
 |_=>exact absurd (show false=true from f) Bool.false_ne_true
theorem qZ {x:V}:∀{xs:List V} {us:List Value},Vals xs us->xs.all pR=true->us.any (E6 x)=xs.any fun y=>GD y x
 |_,_,.nil,_=>rfl
 |y::xs,u::us,.cons r t,f=>by
  rw[List.all_cons,Bool.and_eq_true]at f;rw[List.any_cons,List.any_cons,Kh r f.1,qZ t f.2]
theorem n5 {A:Around}{s:Shared}{x:V}{v:Value}(rx:RelV x v)(fx:pR x=true):∀{xs:List V} {us:List Value},Vals xs us->xs.all pR=true->∀ u∈us,SeqAt.EqAt A s u v (E6 x u)
 |_,_,.nil,_=>fun u hu=>by cases hu
 |y::xs,u::us,.cons r t,f=>fun u' hu=>by
  rw[List.all_cons,Bool.and_eq_true]at f;rcases List.mem_cons.mp hu with rfl|hu
  ·rw[Kh r f.1];exact Kg r rx f.1 fx
  ·exact n5 rx fx t f.2 u' hu
noncomputable def inV (x:V)(xs:List V):Bool:=xs.any fun y=>GD y x
inductive Rl (K:Frag)(neg:Bool)(x:V)(y:V)(H:Hp)(Q:VK):Prop
 |mk (p:_) (xs:_) (cH:y=.ref p) (cI:(aL K H p xs\/fc K H p xs)) (dh:pR x=true) (fJ:xs.all pR=true) (jh:Q (.bl (if neg then !inV x xs else inV x xs)) H):Rl K neg x y H Q
noncomputable def VW (K:Frag)(neg:Bool):R2:=fun x y H Q=>Rl K neg x y H Q
theorem bA:lh X (compareOp .In) (VW X.K false):=by
 intro pins s σ H x y v u Q I rx ry h;obtain⟨p,xs,rfl,hq,fx,fs,q⟩:=h;cases ry;rcases hq with hq|hq
 ·obtain⟨its,r,pl,hz⟩:=I.list hq;refine SeqAt.in_listAt (E6 x) pl.isList (fun w hw=>n5 rx fx r fs w (by simpa using hw)) ⟨.bl _,H,I,rfl,?_⟩;rw[show its.toArray.any (E6 x)=its.any (E6 x) by simp,qZ r fs];exact q
 ·obtain⟨its,r,pl,hz⟩:=I.tuple hq;refine SeqAt.in_tupleAt (E6 x) pl (fun w hw=>n5 rx fx r fs w (by simpa using hw)) ⟨.bl _,H,I,rfl,?_⟩;rw[show its.toArray.any (E6 x)=its.any (E6 x) by simp,qZ r fs];exact q
theorem gu:lh X (compareOp .NotIn) (VW X.K true):=by
 intro pins s σ H x y v u Q I rx ry h;obtain⟨p,xs,rfl,hq,fx,fs,q⟩:=h;cases ry;rcases hq with hq|hq
 ·obtain⟨its,r,pl,hz⟩:=I.list hq;refine SeqAt.notIn_listAt (E6 x) pl.isList (fun w hw=>n5 rx fx r fs w (by simpa using hw)) ⟨.bl _,H,I,rfl,?_⟩;rw[show its.toArray.any (E6 x)=its.any (E6 x) by simp,qZ r fs];exact q
 ·obtain⟨its,r,pl,hz⟩:=I.tuple hq;refine SeqAt.notIn_tupleAt (E6 x) pl (fun w hw=>n5 rx fx r fs w (by simpa using hw)) ⟨.bl _,H,I,rfl,?_⟩;rw[show its.toArray.any (E6 x)=its.any (E6 x) by simp,qZ r fs];exact q
theorem gw:lh X (compareOp .NotIn) (fun x y H Q=>∃ i j,x=.str i/\y=.str j/\Q (.bl (!(!(Builtin.Str.occurrences j i 0 j.length 1).isEmpty))) H):=by
 intro pins s σ H x y v u Q I rx ry h;obtain⟨i,j,rfl,rfl,q⟩:=h;obtain⟨t,rfl⟩:=rx;obtain⟨t',rfl⟩:=ry;exact notIn_str ⟨.bl _,H,I,rfl,q⟩
theorem aB:f7 X (.builtin "len") (fun xs H Q=>∃ p ys,xs=[.ref p]/\(aL X.K H p ys\/fc X.K H p ys)/\Q (.int ys.length) H):=by
 intro pins s σ H xs us Q I r h;obtain⟨p,ys,rfl,hq,q⟩:=h;obtain⟨u,rfl,rx⟩:=vals1 r;cases rx;have hn:=tT;rcases hq with hq|hq
 ·obtain⟨its,r',pl,hz⟩:=I.list hq;have hlen:=r'.length;exact Calls.call_len_list pl.isList (by simp only [size_toArray] <;> omega) ⟨.int ys.length,H,I.tok _,⟨s.toks+1,by rw[size_toArray,hlen]⟩,q⟩
 ·obtain⟨its,r',pl,hz⟩:=I.tuple hq;have hlen:=r'.length;exact len_tuple pl (by simp only [size_toArray] <;> omega) ⟨.int ys.length,H,I.tok _,⟨s.toks+1,by rw[size_toArray,hlen]⟩,q⟩
theorem aC:f7 X (.builtin "len") (fun xs H Q=>∃ z,xs=[.str z]/\z.length<=sizeLine/\Q (.int z.length) H):=by
 intro pins s σ H xs us Q I r h;obtain⟨z,rfl,hz,q⟩:=h;obtain⟨u,rfl,t,rfl⟩:=vals1 r;have hn:=tT;exact len_str (by omega) ⟨.int z.length,H,I.tok _,⟨_,rfl⟩,q⟩
theorem f7.or {f:Value}{r r':List V->Hp->VK->Prop}(h:f7 X f r)(h':f7 X f r'):f7 X f (fun xs H Q=>r xs H Q\/r' xs H Q):=by
 intro pins s σ H xs us Q I rs q;rcases q with q|q
 ·exact h pins s σ H xs us Q I rs q
 ·exact h' pins s σ H xs us Q I rs q
theorem q0:f7 X (.type "list") (fun xs H Q=>∃ p ys,xs=[.ref p]/\(aL X.K H p ys\/fc X.K H p ys)/\∀ l,H l=none->Q (.ref l) (upd H l (.lst ys))):=by
 intro pins s σ H xs us Q I r h;obtain⟨p,ys,rfl,hq,q⟩:=h;obtain⟨u,rfl,rx⟩:=vals1 r;cases rx;have fin:∀(its:List Value),Vals ys its->ys.length<=sizeLine->∀(h':Heap)(c':Nat),(∀ b o',s.heap.get? b=some o'->h'.get? b=some o') ->
   h'.get? s.heap.objs.size=some { cls:=.type "list",dict:=none,data:=.seq its.toArray c',slots:=#[] }->EP X pins σ Q (.ref s.heap.objs.size) { s with heap:=h' }:=fun its r' hz h' c' kp e =>
  ⟨.ref s.heap.objs.size,_,I.laid (t':=s.toks) kp (Nat.le_refl _) (show dW X.prog X.w _ h' _ (.lst ys) from⟨hz,its,c',r',e⟩),rfl,q _ (I.hok.fresh (Nat.le_refl _))⟩
 rcases hq with hq|hq
 ·obtain⟨its,r',pl,hz⟩:=I.list hq;have hlen:=r'.length;obtain⟨o,ho,hc,n,hd⟩:=pl.isList;exact call_list_seq p (.inl rfl) ho hc hd (fun h' c' kp e=>fin its r' hz h' c' kp e) (by simp only [size_toArray] <;> omega)
 ·obtain⟨its,r',pl,hz⟩:=I.tuple hq;have hlen:=r'.length;obtain⟨o,ho,hc,n,hd⟩:=pl;exact call_list_seq p (.inr rfl) ho hc hd (fun h' c' kp e=>fin its r' hz h' c' kp e) (by simp only [size_toArray] <;> omega)
noncomputable def Up (K:Frag)(T:String)(x:V)(H:Hp):Prop:=match x with
 |.str _=>T = "str"
 |.int _=>T = "int"
 |.ref p=>(T = "list"/\∃ xs,aL K H p xs)\/(T = "tuple"/\∃ o,K.lookup p=some o/\o.cls=.type "tuple"/\o.dict=none) \/
   (T = "dict"/\((∃ kvs,H p=some (.dK kvs))\/∃ kvs,H p=some (.dT kvs)))\/(T = "set"/\∃ S n,H p=some (.set S n))
 |_=>False
theorem Ki {pins:List (Addr×Obj)}{σ:St}{H:Hp}{s:Shared}{T:String}{x:V}{v:Value}(I:Inv X pins σ H s)(r:RelV x v)(ty:Up X.K T x H) :
  s.TypeIs v T/\∀ a,v=.ref a->∃ ob,s.heap.get? a=some ob/\ob.dict=none:=by
 cases x with
 |str z =>
  obtain⟨t,rfl⟩:=r;cases (show T = "str" from ty);exact⟨typeIs_str s z t,fun _ e=>nomatch e⟩
 |int i =>
  obtain⟨t,rfl⟩:=r;cases (show T = "int" from ty);exact⟨typeIs_int s i t,fun _ e=>nomatch e⟩
 |ref p =>
  cases r;rcases ty with ⟨rfl,xs,hq⟩|⟨rfl,o,hk,hc,hd⟩|⟨rfl,hk⟩|⟨rfl,S,n,hk⟩
  ·obtain⟨its,_,pl,_⟩:=I.list hq;refine⟨pl.isList.typeIs,fun a e=>?_⟩;cases e;obtain⟨o,n,e,c,hd,_⟩:=pl;exact⟨o,e,hd⟩
  ·refine⟨⟨o,I.mV p o hk,hc⟩,fun a e=>?_⟩;cases e;exact⟨o,I.mV _ o hk,hd⟩
  ·have z:∃ o,s.heap.get? p=some o/\o.ExactDict:=by
    rcases hk with ⟨kvs,hk⟩|⟨kvs,hk⟩
    ·obtain⟨_,_,_,_,o,_,_,e,ex,_⟩:=I.hok p _ hk;exact⟨o,e,ex⟩
    ·obtain⟨_,_,_,_,o,_,_,e,ex,_⟩:=I.hok p _ hk;exact⟨o,e,ex⟩
   obtain⟨o,e,ex⟩:=z;refine⟨⟨o,e,ex.1⟩,fun a e2=>?_⟩;cases e2;exact⟨o,e,ex.2.1⟩
  ·obtain⟨o,_,_,_,e,ex,_⟩:=I.hok p _ hk;refine⟨⟨o,e,ex.1⟩,fun a e2=>?_⟩;cases e2;exact⟨o,e,ex.2.1⟩
 |_=>exact False.elim ty
noncomputable def Uq (K:Frag)(T:String)(r:V->List V->Hp->VK->Prop)(to:TE):TE:=fun σ H Q=>to σ H fun x H1=>Up K T x H1/\r x [] H1 Q
noncomputable def Xm (K:Frag)(T:String)(r:V->List V->Hp->VK->Prop)(to:TE)(t:TA):TE:=fun σ H Q=>to σ H fun x H1=>Up K T x H1/\t σ H1 fun xs H2=>r x xs H2 Q
variable {o e:Expr} {es:List Expr} {to:TE} {t:TA} {name:Str} {apos cpos:Pos} {T id:String} {r:V->List V->Hp->VK->Prop}
theorem Kj (pa:PlainAttrs T)(slot:Slot T name id)(hty:typeOf (.builtin id)=pure (.type "method_descriptor"))(hm:VT X id r)(ho:PE X o to)
  (hbase:attributeBase o name X.env (eval o X.env)=eval o X.env:=by rfl) (hline:(apos.endLine==cpos.line)=true:=by rfl):PE X (.Call (.Attribute o name apos) [] [] cpos) (Uq X.K T r to):=by
 intro pins s σ H Q I h;refine wpAny_Call_method0_late hbase hline (bU (ho pins s σ H _ I h) fun v s1 eN=>?_);obtain⟨x,H1,I1,r1,ty,q1⟩:=eN;obtain⟨h1,h2⟩:=Ki I1 r1 ty;exact⟨T,id,pa,slot,hty,h1,h2,Calls.callWith_builtin rfl (PySem.evalArgs_none (hm pins s1 σ H1 x [] v [] Q I1 r1 .nil q1))⟩
theorem ef (pa:PlainAttrs T)(slot:Slot T name id)(hty:typeOf (.builtin id)=pure (.type "method_descriptor"))(hm:VT X id r)(ho:PE X o to)(ha:PA X (e::es) t)
  (hbase:attributeBase o name X.env (eval o X.env)=eval o X.env:=by rfl)
  (hfew:((backTo cpos (starEach (e::es) X.env)).all (fun x=>!x.1)&&(backToKw cpos (keywordEach [] X.env)).all (fun x=>x.1.isSome)
   && decide ((e::es).length+([]:List Keyword).length+(if([]:List Keyword).isEmpty then 0 else 1)<30))=true:=by rfl)
  (hline:(apos.endLine==cpos.line)=true:=by rfl) (hs:starEach (e::es) X.env=(false,eval e X.env)::starEach es X.env:=by rfl) (hplain:(backTo cpos (starEach es X.env)).any (·.1)=false:=by rfl) :
  PE X (.Call (.Attribute o name apos) (e::es) [] cpos) (Xm X.K T r to t):=by
 intro pins s σ H Q I h;refine wpAny_Call_method_late hbase hfew hline rfl (bU (ho pins s σ H _ I h) fun v s1 eN=>?_);obtain⟨x,H1,I1,r1,ty,q1⟩:=eN;obtain⟨h1,h2⟩:=Ki I1 r1 ty;refine⟨T,id,pa,slot,hty,h1,h2,?_⟩;have hA:=ha cpos pins s1 σ H1 _ I1 q1;rw[hs]at hA ⊢;refine Calls.callWith_builtin (by show(false||(backTo cpos (starEach es X.env)).any (·.1))=false;rw[hplain] <;> rfl) (Calls.evalArgs_plain ?_);exact bU hA fun us s2 ⟨vs,H2,I2,r2,q2⟩=>hm pins s2 σ H2 x vs v us Q I2 r1 r2 q2
end
end L2
namespace L2
open PySem PySem.Spec PyProof.Rows
noncomputable def Qm (X:Cx)(id:String)(r:V->List V->Hp->VK->Prop):Prop :=
 ∀(pins:List (Addr×Obj)) (s:Shared) (σ:St) (H:Hp) (x:V) (xs:List V) (v:Value) (us:List Value) (Q:VK),Inv X pins σ H s->RelV x v->Vals xs us->r x xs H Q ->
  wpAny (model X.prog X.w) X.A (call (.builtin id) (v::us)) (EP X pins σ Q) X.xe s
theorem Vals.one {x:V}{us:List Value}(r:Vals [x] us):∃ u,us=[u]/\RelV x u:=vals1 r
theorem Vals.two {x y:V}{us:List Value}(r:Vals [x,y] us):∃ u v,us=[u,v]/\RelV x u/\RelV y v:=vals2 r
theorem Vals.zero:∀{us:List Value},Vals [] us->us=[]
 |_,.nil=>rfl
theorem Vals.dropLast {xs:List V}{us:List Value}(h:Vals xs us):Vals xs.dropLast us.dropLast:=by
 induction h with
 |nil=>exact .nil
 |cons r t ih =>
  cases t with
  |nil=>exact .nil
  |cons q t'=>exact .cons r ih
theorem Vals.rep {xs:List V}{us:List Value}(h:Vals xs us):∀ k:Nat,Vals (List.replicate k xs).flatten (List.replicate k us).flatten
 |0=>.nil
 |k+1=>by
  rw[List.replicate_succ,List.replicate_succ,List.flatten_cons,List.flatten_cons];exact Vals.append h (Vals.rep h k)
theorem E7 {α:Type}(l:List α):l.eraseIdx (l.length-1)=l.dropLast:=by
 induction l with
 |nil=>rfl
 |cons a r ih =>
  cases r with
  |nil=>rfl
  |cons b r =>
   have e:(a::b::r).length-1=((b::r).length-1)+1:=by
    have h1:(a::b::r).length=r.length+2:=rfl;have h2:(b::r).length=r.length+1:=rfl;omega
   rw[e,List.eraseIdx_cons_succ,ih]
   all_goals rfl
theorem foldl_rep (its:List Value):∀(k:Nat)(acc:List Value),
  List.foldl (fun x1 x2=>x1++x2) acc.toArray (List.replicate k its.toArray)=(acc++(List.replicate k its).flatten).toArray
 |0,acc=>by simp
 |k+1,acc=>by
  have e:acc.toArray++its.toArray=(acc++its).toArray:=by simp
  have e2:(acc++its)++(List.replicate k its).flatten=acc++(List.replicate (k+1) its).flatten:=by
   rw[List.replicate_succ,List.flatten_cons,List.append_assoc]
  rw[<-e2,<-foldl_rep its k (acc++its),<-e,List.replicate_succ,List.foldl_cons]
section
variable {X:Cx} {pins:List (Addr×Obj)} {σ:St} {H:Hp} {s:Shared} {l b:Addr} {xs ys zs:List V}
theorem Inv.MA {its its':List Value}{n:Nat}{f:Array Value->Array Value}{t':Nat}(I:Inv X pins σ H s)(hH:H l=some (.lst xs))
  (e:s.heap.get? l=some { cls:=.type "list",data:=.seq its.toArray n }) (hf:f its.toArray=its'.toArray) (hv:Vals ys its') (hz:ys.length<=sizeLine) :
  Inv X pins σ (upd H l (.lst ys)) { s with heap:=s.heap.update l (Obj.mapSeq f),toks:=t' }:=by
 have q:=PySem.IsL.update e f;rw[hf]at q;refine I.write (x:=l) (e:=l) (by rw[hH];exact trivial) (.inl rfl) (fun b' u hb hu=>(Heap.get?_update_other s.heap (Obj.mapSeq f) (Ne.symm hb)).trans hu) ⟨_,q⟩ ?_;exact⟨hz,its',_,hv,q⟩
theorem Inv.O0 {its:List Value}{t':Nat}(I:Inv X pins σ H s)(hv:Vals ys its)(hz:ys.length<=sizeLine) :
  Inv X pins σ (upd H s.heap.objs.size (.lst ys)) { s with heap:=s.heap.push { cls:=.type "list",data:=.seq its.toArray },toks:=t' } :=
 I.laid (fun _ _ q=>Heap.get?_push_of_some _ q) (Nat.le_refl _) ⟨hz,its,0,hv,Heap.get?_push_size _ rfl⟩
theorem Inv.fresh (I:Inv X pins σ H s):H s.heap.objs.size=none:=I.hok.fresh (Nat.le_refl _)
theorem Inv.Br (I:Inv X pins σ H s)(hH:H l=some (.lst xs)):xs.length<=sizeLine/\∃(its:List Value)(n:Nat),Vals xs its/\xs.length=its.length/\s.heap.get? l=some { cls:=.type "list",data:=.seq its.toArray n }:=by
 obtain⟨z,its,n,r,e⟩:=I.hok l _ hH;exact⟨z,its,n,r,r.length,e⟩
theorem xm {n:Nat}(h:n<=sizeLine):Builtin.List.listTooLong n=false:=by
 unfold Builtin.List.listTooLong;exact decide_eq_false (by omega)
end
section
variable {X:Cx}
inductive C6 (x:V)(vs:List V)(H:Hp)(Q:VK):Prop
 |mk (l:_) (xs:_) (y:_) (cH:x=.ref l) (cI:vs=[y]) (dh:H l=some (.lst xs)) (fJ:xs.length<sizeLine) (jh:Q .non (upd H l (.lst (xs++[y])))):C6 x vs H Q
noncomputable def MB :V->List V->Hp->VK->Prop:=fun x vs H Q=>C6 x vs H Q
theorem bB:Qm X "list.append" MB:=by
 intro pins s σ H x vs v us Q I rx rv h;obtain⟨l,xs,y,rfl,rfl,hH,hz,q⟩:=h;cases rx;obtain⟨u,rfl,ru⟩:=rv.one;obtain⟨z,its,n,r,hl,e⟩:=I.Br hH;refine call_meets F.slot_list_append ⟨_,e,rfl⟩ F.entry_list_append (F.args_list_append_2 _ _) (PySem.list_append l its.toArray n u (by rw[size_toArray];omega)) ⟨e,?_⟩;refine⟨.non,_,I.MA (its':=its++[u]) hH e (by simp) (r.append (.cons ru .nil)) ?_,rfl,q⟩;rw[length_append,List.length_singleton];omega
inductive N6 (x:V)(vs:List V)(H:Hp)(Q:VK):Prop
 |mk (l:_) (xs:_) (y:_) (cH:x=.ref l) (cI:vs=[]) (dh:H l=some (.lst xs)) (fJ:xs[xs.length-1]? = some y) (jh:Q y (upd H l (.lst xs.dropLast))):N6 x vs H Q
noncomputable def Ur :V->List V->Hp->VK->Prop:=fun x vs H Q=>N6 x vs H Q
theorem O1:Qm X "list.pop" Ur:=by
 intro pins s σ H x vs v us Q I rx rv h;obtain⟨l,xs,y,rfl,rfl,hH,hy,q⟩:=h;cases rx;have hus:=rv.zero;subst hus;obtain⟨z,its,n,r,hl,e⟩:=I.Br hH;obtain⟨u,hu,ru⟩:=r.get hy;have hy':its.toArray[its.toArray.size-1]? = some u:=by
  show its.toArray[its.length-1]? = some u;rw[<-Array.getElem?_toList,<-hl];exact hu
 refine call_meets F.slot_list_pop ⟨_,e,rfl⟩ F.entry_list_pop (F.args_list_pop_1 _) (MeetsSeq.list_pop_last l its.toArray n u hy' (by rw[size_toArray];omega)) ⟨e,?_⟩;refine⟨y,_,I.MA (its':=its.dropLast) hH e ?_ r.dropLast ?_,ru,q⟩
 ·show its.toArray.eraseIdxIfInBounds (its.toArray.size-1)=its.dropLast.toArray;rw[size_toArray,List.eraseIdxIfInBounds_toArray,E7]
 ·rw[List.length_dropLast];omega
inductive GG (x:V)(vs:List V)(H:Hp)(Q:VK):Prop
 |mk (l:_) (xs:_) (cH:x=.ref l) (cI:vs=[]) (dh:H l=some (.lst xs)) (fJ:Q .non (upd H l (.lst []))):GG x vs H Q
noncomputable def O2 :V->List V->Hp->VK->Prop:=fun x vs H Q=>GG x vs H Q
theorem Kk:Qm X "list.clear" O2:=by
 intro pins s σ H x vs v us Q I rx rv h;obtain⟨l,xs,rfl,rfl,hH,q⟩:=h;cases rx;have hus:=rv.zero;subst hus;obtain⟨z,its,n,r,hl,e⟩:=I.Br hH;refine call_meets F.slot_list_clear ⟨_,e,rfl⟩ F.entry_list_clear (F.args_list_clear_1 _) (AutoSeq1.list_clear_list_0 l its.toArray n (by rw[size_toArray];omega)) ⟨e,?_⟩;exact⟨.non,_,I.MA (its':=[]) (ys:=[]) hH e rfl .nil (Nat.zero_le _),rfl,q⟩
inductive N7 (x:V)(y:V)(H:Hp)(Q:VK):Prop
 |mk (l:_) (b:_) (xs:_) (zs:_) (cH:x=.ref l) (cI:y=.ref b) (dh:H l=some (.lst xs)) (fJ:H b=some (.lst zs)) (jh:xs.length+zs.length<=sizeLine) (zL:∀ p,H p=none->Q (.ref p) (upd H p (.lst (xs++zs)))):N7 x y H Q
noncomputable def Us :R2:=fun x y H Q=>N7 x y H Q
theorem aW:lh X (binaryOp .Add) Us:=by
 intro pins s σ H x y v u Q I rx ry h;obtain⟨l,b,xs,zs,rfl,rfl,hH,hB,hz,q⟩:=h;cases rx;cases ry;obtain⟨z,its,n,r,hl,e⟩:=I.Br hH;obtain⟨z2,its2,n2,r2,hl2,e2⟩:=I.Br hB;refine PySem.P.add_list e e2 ?_ (by rw[size_toArray,size_toArray];omega);have ea:its.toArray++its2.toArray=(its++its2).toArray:=by simp
 rw[ea];exact⟨.ref _,_,I.O0 (t':=s.toks) (r.append r2) (by rw[length_append];omega),rfl,q _ I.fresh⟩
noncomputable def Ut:R2:=fun x y H Q=>∃ l k xs,x=.ref l/\y=.int k/\H l=some (.lst xs)/\-(2 ^ 63)<=k/\k<2 ^ 63/\xs.length * k.toNat<=sizeLine /\
 ∀ p,H p=none->Q (.ref p) (upd H p (.lst (List.replicate k.toNat xs).flatten))
theorem len_rep {α:Type}(xs:List α)(k:Nat):(List.replicate k xs).flatten.length=k * xs.length:=by
 induction k with
 |zero=>simp
 |succ k ih=>rw[List.replicate_succ,List.flatten_cons,length_append,ih,Nat.succ_mul,Nat.add_comm]
theorem n6:lh X (binaryOp .Mult) Ut:=by
 intro pins s σ H x y v u Q I rx ry h;obtain⟨l,k,xs,rfl,rfl,hH,h1,h2,hz,q⟩:=h;cases rx;obtain⟨t,rfl⟩:=ry;obtain⟨z,its,n,r,hl,e⟩:=I.Br hH;have hlen:its.toArray.size * k.toNat<=sizeLine:=by rw[size_toArray,<-hl];exact hz
 have Uu:¬ its.toArray.size * k.toNat > (2 ^ 63-1) / 8:=by
  have:(sizeLine:Nat)<=(2 ^ 63-1) / 8:=by decide
  omega
 have hfit:¬(!Builtin.List.listFitsIndex k)=true:=by
  rw[fitsIndex_both h1 h2];exact Bool.false_ne_true
 have Rm:¬ Builtin.List.listTooLong (its.toArray.size * k.toNat)=true:=by
  rw[xm hlen];exact Bool.false_ne_true
 have hnew:List.foldl (fun x1 x2=>x1++x2) #[] (List.replicate (if its.toArray.isEmpty=true then 0 else k.toNat) its.toArray)=(List.replicate k.toNat its).flatten.toArray:=by
  have f0:∀ m:Nat,List.foldl (fun x1 x2=>x1++x2) #[] (List.replicate m its.toArray)=(List.replicate m its).flatten.toArray:=fun m=>by
   have:=foldl_rep its m [];rw[nil_append]at this;exact this
  rw[f0];cases its with
  |nil=>simp
  |cons a r'=>rw[if_neg (by simp)]
 refine wpAny_binaryOp_repeat_ref (T:="list") (U:="int") (by decide) ⟨_,e,rfl⟩ (fun s'=>typeIs_int s' k t) noFill_list_mul F.fills_int_mul F.slot_int_rmul repeat_list F.slot_int_index.lookup
  (call_meets F.slot_int_rmul (typeIs_int s k t) F.entry_int_rmul (F.args_int_rmul_2 _ _) (int___rmul___int_list k t l its.toArray n)
   ⟨e,rfl,⟨_,e,rfl⟩,call_meets F.slot_list_mul ⟨_,e,rfl⟩ F.entry_list_mul (F.args_list_mul_2 _ _) (AutoListH.list___mul___list_int_3 l its.toArray n k t hfit Uu Rm) ⟨e,?_⟩⟩)
 rw[hnew];exact⟨.ref _,_,I.O0 (t':=s.toks) (r.rep k.toNat) (by rw[len_rep,Nat.mul_comm];exact hz),rfl,q _ I.fresh⟩
end
section
variable {prog:Program} {w:World} {A:Around} {E:Value->Shared->Prop} {s:Shared}
theorem Iz (its its2:List Value)(a c:Nat):its.toArray.extract 0 a++its2.toArray++its.toArray.extract c its.toArray.size=(its.take a++its2++its.drop c).toArray:=by
 apply Array.toList_inj.mp
 first
  |(simp;exact List.take_of_length_le (by simp))
  |simp[List.take_of_length_le]
  |simp
theorem E8 {a c n:Nat}(hac:a<=c)(hc:c<=n):sliceBounds (some (a:Int)) (some (c:Int)) none n=((a:Int),(c:Int),1):=by
 simp only [sliceBounds,Option.getD_none];have h1:¬((a:Int)<0):=by omega
 have h2:¬((c:Int)<0):=by omega
 simp only [h1,h2,if_false,show(1:Int) > 0 by decide,if_true]
 congr 1
 ·omega
 ·congr 1;omega
set_option maxRecDepth 100000 in
theorem zm {l b sl:Addr}{items new:Array Value}{n n2:Nat}{vl vu:Value}{a c:Nat}{Q:Unit->Shared->Prop}
  (e:s.heap.get? l=some { cls:=.type "list",data:=.seq items n }) (e2:s.heap.get? b=some { cls:=.type "list",data:=.seq new n2 }) (hne:l≠b)
  (hs:s.heap.IsSliceOf sl vl vu .none) (pl:IsPart vl (some (a:Int))) (pu:IsPart vu (some (c:Int))) (hac:a<=c) (hc:c<=items.size)
  (hsz:items.size+new.size<=sizeLine) (h:Q () { s with heap:=s.heap.update l (Obj.mapSeq fun xs=>xs.extract 0 a++new++xs.extract c xs.size) }) :
  wpAny (model prog w) A (setItem (.ref l) (.ref sl) (.ref b)) Q E s:=by
 have hl:s.heap.IsList l items:=PySem.IsL.isList e;have hb:s.heap.IsList b new:=PySem.IsL.isList e2;obtain⟨os,hos,hcs,hds⟩:=id hs;have hTs:s.TypeIs (.ref sl) "slice":=⟨os,hos,hcs⟩;have hstep:¬((rawPart none==rawInt 0)=true):=Bool.false_ne_true;have hsame:Builtin.List.listSameRef (.ref l) (.ref b)=false:=by
  unfold Builtin.List.listSameRef;exact beq_eq_false_iff_ne.mpr hne
 have Uv:(max (a:Int) (c:Int)).toNat=c:=by omega
 have hz':((fun xs:Array Value=>xs.extract 0 a++new++xs.extract c xs.size) items).size<=sizeLine+1:=by
  simp only [Array.size_append,Array.size_extract];omega
 unfold setItem
 try with_reducible refine wpAny_holding ?_
 first|refine wpAny_bind (wpAny_pure ?_)|skip
 refine wpAny_bind (wpAny_sequenceKey hl.typeIs (by decide) ?_);refine wpAny_bind (wpAny_callSpecial?_slot (name:=Str.ofString "__setitem__") hl.typeIs slot_list_setitem
  (wpAny_call_entry slot_list_setitem hl.typeIs entry_list_setitem ?_ (args_list_setitem _ _ _)))
 show wpAny _ _ (Builtin.List.listSubscript? (.ref sl) >>= _) _ _ s;refine wpAny_bind ?_;unfold Builtin.List.listSubscript?;refine wpAny_bind (wpAny_specialOf hTs slice_no_index ?_);simp only [Option.isNone_none,if_true];refine wpAny_pure ?_;show wpAny _ _ (typeOf (.ref sl) >>= _) _ _ s;refine wpAny_bind (wpAny_typeOf hTs ?_)
 first
  |rw[if_neg (by decide)]
  |refine PySem.W.KFB.if_not (by decide) ?_
 rw[listSliceParts_eq];refine wpAny_bind (wpAny_bind (wpAny_field hos hds (x:=.none) rfl (wpAny_bind (wpAny_listPart .none ?_))));rw[if_neg hstep];refine wpAny_bind (wpAny_field hos hds (x:=vl) rfl (wpAny_bind (wpAny_listPart pl ?_)));refine wpAny_bind (wpAny_field hos hds (x:=vu) rfl (wpAny_bind (wpAny_listPart pu (wpAny_pure ?_))))
 first
  |simp only [hsame,Bool.false_eq_true,if_false]
  |refine PySem.W.KFB.if_not hsame ?_
  |(dsimp only;rw[if_neg (by rw[hsame];exact Bool.false_ne_true)])
 refine wpAny_bind (m:=Builtin.List.listAllItems (.ref b) "must assign iterable to extended slice") ?_;unfold Builtin.List.listAllItems;refine wpAny_bind (wpAny_typeOf hb.typeIs ?_)
 first
  |refine PySem.W.KFB.if_so (by decide) ?_
  |rw[if_pos (by decide)]
  |simp only [beq_self_eq_true,Bool.true_or,if_true]
 unfold Builtin.List.listItems;refine wpAny_bind (wpAny_seqItems e2 rfl (wpAny_pure ?_));refine wpAny_bind (wpAny_bind (wpAny_seqItems e rfl (wpAny_pure ?_)));refine wpAny_bind (wpAny_of_eq ((sliceIndices_raw (some (a:Int)) (some (c:Int)) none items.size (by simp)).trans (congrArg (pure:Int×Int×Int->Sem (Int×Int×Int)) (E8 hac hc))) ?_);show wpAny _ _ (if((1:Int)==1)=true then _ else _) _ _ s;rw[if_pos (by decide)];refine wpAny_bind (wpAny_rule ?_)
 first
  |simp only [xm hsz,Bool.false_eq_true,if_false]
  |refine PySem.W.KFB.if_not (xm hsz) ?_
 first|refine wpAny_bind (wpAny_pure ?_)|skip
 show wpAny _ _ (updateSeq l (fun xs=>xs.extract 0 ((a:Int)).toNat++new++xs.extract (max (a:Int) (c:Int)).toNat xs.size) >>= _) _ _ s;rw[Uv,Int.toNat_natCast];refine wpAny_bind (wpAny_updateSeq (hz:=Nat.le_trans (Nat.le_add_right _ _) hsz) (_hz':=hz') e rfl ?_);refine wpAny_bind (wpAny_letGo ?_)
 first
  |exact wpAny_bind (wpAny_pure (wpAny_pure ⟨.none,rfl,wpAny_pure h⟩))
  |exact wpAny_pure ⟨.none,rfl,wpAny_pure h⟩
end
section
variable {X:Cx}
theorem IA {pins:List (Addr×Obj)}{s:Shared}{σ:St}{H:Hp}{l b sl:Addr}{xs ys:List V}{a c:Int}{vl vu:Value}{Q:Unit->Shared->Prop}(I:Inv X pins σ H s)
  (hH:H l=some (.lst xs)) (hB:H b=some (.lst ys)) (hne:l≠b) (hs:s.heap.IsSliceOf sl vl vu .none) (ra:RelV (.int a) vl) (rc:RelV (.int c) vu) (h0:0<=a) (hac:a<=c) (hc:c<=xs.length)
  (hz:xs.length+ys.length<=sizeLine) (h:∀ s',Inv X pins σ (upd H l (.lst (xs.take a.toNat++ys++xs.drop c.toNat))) s'->Q () s') :
  wpAny (model X.prog X.w) X.A (setItem (.ref l) (.ref sl) (.ref b)) Q X.xe s:=by
 obtain⟨ta,rfl⟩:=ra;obtain⟨tc,rfl⟩:=rc;obtain⟨z,its,n,r,hl,e⟩:=I.Br hH;obtain⟨z2,its2,n2,r2,hl2,e2⟩:=I.Br hB;obtain⟨a',rfl⟩:=Int.eq_ofNat_of_zero_le h0;obtain⟨c',rfl⟩:=Int.eq_ofNat_of_zero_le (Int.le_trans h0 hac);simp only [Int.toNat_natCast]at h;refine zm (a:=a') (c:=c') e e2 hne hs (.int _ _) (.int _ _) (by omega) (by rw[size_toArray];omega) (by rw[size_toArray,size_toArray];omega) (h _ ?_);refine I.MA (its':=its.take a'++its2++its.drop c') (t':=s.toks) hH e ?_ (Vals.append (Vals.append (r.take _) r2) (r.drop _)) ?_
 ·exact Iz its its2 a' c'
 ·rw[length_append,length_append,length_take,length_drop];omega
end
end L2
namespace VX
open PySem PySem.W PySem.Calls PyProof.Rows
theorem wd {P:Params}{h:Heap}:∀(ns:List Int)(vs:List Value),WellAll P h vs (ns.map WData.int)->IntsAre vs ns:=by
 intro ns
 induction ns with
 |nil =>
  intro vs w;rw[List.map_nil]at w;cases w;exact .nil
 |cons n ns ih =>
  intro vs w;rw[map_cons]at w;cases w with
  |cons a b =>
   cases a;exact .cons _ _ (ih _ b)
theorem IB {l:OpenLaw}{n:Nat}(hn:l.most=some n){P:Params}{h:Heap}{args:List WData}{vals:List Value}
  (hpre:l.row.toRowW.claim.pre args=true) (hwl:WellAll P h vals args) :
  ∃ a vs ns,vals=[Value.ref a]/\args=[WData.list (ns.map WData.int)]/\h.get? a=some { cls:=.type "list",data:=.seq vs.toArray }/\IntsAre vs ns/\ns.length<=n:=by
 have hsh:WShape.hasAll [] args [.list .int]=true:=(pre_splitW hpre).1;have hc:l.pre.holds [] { args:=args } = true:=(pre_splitW hpre).2;obtain⟨d,r,rfl,h1,h2⟩:=hasAllW_cons hsh;obtain rfl:=hasAllW_nil h2;obtain⟨xs,rfl,h3⟩:=hasW_list h1;obtain⟨ns,rfl⟩:=items_int h3;have hlen:ns.length<=n:=by
  unfold OpenLaw.pre at hc;have h4:(WTm.not (.lt (.lit (.int (n:Int))) (.len (.arg 0)))).holds [] { args:=[.list (ns.map .int)] } = true:=by
   have h4:=(holds_andW hc).1;rw[hn]at h4;exact h4
  have h5:=condW_of h4 (w_not (w_lt w_lit (w_len_list (w_arg rfl))));rw[length_map]at h5;refine Nat.le_of_not_lt fun q=>?_;have q':(n:Int)<((ns.length:Nat):Int):=by omega
  first
   |(rw[decide_eq_true q']at h5;exact absurd h5 (by decide))
   |(simp at h5;omega)
 cases hwl with
 |cons w1 w2 =>
  cases w2;cases w1 with
  |list ho hall=>exact⟨_,_,ns,rfl,rfl,ho,wd ns _ hall,hlen⟩
theorem IC (l:OpenLaw)(args:List WData):l.row.toRowW.claim.post args (.bool true) args=true :=
 postW_of (r:=l.row.toRowW) (X:=(true==true))
  (show WShape.has [] (.bool true) .bool=true by first|rfl|decide|simp[WShape.has,WShape.arms,WShape.armsAll])
  (show(WTm.eq .res (.lit (.bool true))).value [] { args:=args,res:=some (.bool true),after:=args } = some (.bool (true==true)) from w_eq_bool (w_res rfl) w_lit) rfl
theorem C7 {l:OpenLaw}{n:Nat}{q:Program}{loose:List Str}{XP:(Str->Option Value)->Heap->Prop}{YP:World->Heap->Prop}{d:DefRec}
  (hn:l.most=some n) (hdf:d.params.defaults=[])
  (call:∀(w:World)(s₀ s₁:Shared)(mg mb:Str->Option Value)(fa:Addr)(o:Obj)(pm cd doc:Value)(a:Addr)(vs:List Value)(ns:List Int),
   Ground q loose [] XP w s₀ mg mb s₁.heap->YP w s₁.heap ->
   s₁.heap.get? fa=some o->o.data=.func (docDef d.name d.params d.body d.scope pm cd doc)->s₁.heap.CodeRec cd d.name->mg d.name=some (.ref fa) ->
   s₁.heap.get? a=some { cls:=.type "list",data:=.seq vs.toArray }->IntsAre vs ns->ns.length<=n->s₁.gens = #[] ->
   codeAny (model l.prog w) callerA (.call (.ref fa) ⟨[.ref a],[]⟩) (fun r s'=>r=.ok (.ret (.bool true))/\OldK s₁.heap s'.heap/\s'.os=s₁.os/\AllBare s'.gens) s₁) :
  WalkO q loose XP YP l.row.toRowW d [] (fun f vs=>PySem.call f vs):=by
 intro w s₀ s₁ mg mb G Y fa o pm cd doc dV kV ho hd hcd hD hmg hg args vals as hpre hlay hrd hwl hlo;obtain rfl:dV=.none:=Dflts.none hD hdf;obtain rfl:kV=.none:=Dflts.noKw hD;obtain⟨a,vs,ns,rfl,rfl,hobj,hints,hlen⟩:=IB hn hpre hwl;refine enter_call (codeAny_mono (call w s₀ s₁ mg mb fa o pm cd doc a vs ns G Y ho (fd_plain hd) hcd hmg hobj hints hlen hg) fun r s' hq=>?_);obtain⟨rfl,h2,h3,h4⟩:=hq;exact⟨.inl ⟨.bool true,.bool true,[],rfl,fun _=>rfl,.bool true,IC l _,fun _=>⟨List.Pairwise.nil,fun _ hm=>(nomatch hm)⟩⟩,h2,h3,h4⟩
section
variable {prog:Program} {w:World} {A:Around} {E:Value->Shared->Prop} {s:Shared} {K:Frag}
end
end VX
namespace L2
open PySem PySem.Spec PyProof.Rows
theorem zQ:∀{vs:List Value} {ns:List Int},IntsAre vs ns->Vals (ns.map V.int) vs
 |_,_,.nil=>.nil
 |_,_,.cons n t h=>.cons ⟨t,rfl⟩ (zQ h)
noncomputable def Only (H:Hp):Prop:=∀ b,H b=none\/∃ o xs,H b=some (.Gk o (.lst xs))
theorem Kl {P:Program}{w:World}{K:Frag}{mg mb:Str->Option Value}{CX:Gw}{k:Nat}{fa a:Addr}{fd:FuncData}{x:Str}{sp:Sp}{s₁:Shared}{vs:List Value}{ns:List Int}
  (KX:K.In s₁.heap) (hns:s₁.heap.Ns mainGlobals mg) (hb:s₁.heap.Ns builtinsNs mb) (hbb:∀ x:Str,x ≠ "__name__"->mb x=bootBuiltins x) (hlim:s₁.heap.NoLimit) (hg:s₁.gens = #[])
  (ha:s₁.heap.get? a=some { cls:=.type "list",data:=.seq vs.toArray }) (hi:IntsAre vs ns) (hl:ns.length<=sizeLine) (hr:ee k callerA)
  (F:∀ base:Heap,K.In base->base.Ns mainGlobals mg->aS P w K mg base CX k fa fd [x] sp) (hbind:∀(s:Shared)(u:Value),BindsTo s fd ⟨[u],[]⟩ [(x,u)])
  (hsp:∀ H:Hp,Only H->aL K H a (ns.map V.int)->sp [.ref a] H (fun v _=>v=.bl true) fun _ _ _=>False)
  (Uw:∀ H e s',CX [] H s₁ (fun _ _ _=>False) e s'->False) :
  codeAny (model P w) callerA (.call (.ref fa) ⟨[.ref a],[]⟩) (fun r s'=>r=.ok (.ret (.bool true))/\OldK s₁.heap s'.heap/\s'.os=s₁.os/\AllBare s'.gens) s₁:=by
 have rv:=zQ hi;have lenV:=hi.length;have core:∀ H:Hp,Only H->aL K H a (ns.map V.int)->nR P w H s₁.heap->(∀ b,H b≠none->b=a)->(H a≠none->K.lookup a=none) ->
   codeAny (model P w) callerA (.call (.ref fa) ⟨[.ref a],[]⟩) (fun r s'=>r=.ok (.ret (.bool true))/\OldK s₁.heap s'.heap/\s'.os=s₁.os/\AllBare s'.gens) s₁:=by
  intro H hO hS hok hA hK;have GH:∀{b:Addr} {o:Obj},s₁.heap.get? b=some o->H b=none->(Be s₁.heap H).get? b=some o:=fun e n=>JU e n;have Ri:∀{b:Addr} {o:Obj} {es:Array DictEntry} {ep:Nat},s₁.heap.get? b=some o->o.data=.dict es ep->H b=none:=fun {b o es ep} e d=>by
   cases q:H b with
   |none=>rfl
   |some u =>
    have e':b=a:=hA b (by rw[q];simp);subst e';rw[ha]at e;cases e;have d':Data.seq vs.toArray _=Data.dict es ep:=d;cases d'
  have Tf:∀{b:Addr} {m:Str->Option Value},s₁.heap.Ns b m->(Be s₁.heap H).Ns b m:=fun {b m} ⟨o,es,ep,e,d,r⟩=>⟨o,es,ep,GH e (Ri e d),d,r⟩;have VY:K.In (Be s₁.heap H):=fun b o e=>GH (KX b o e) (by
   cases q:H b with
   |none=>rfl
   |some u =>
    have e':b=a:=hA b (by rw[q];simp);subst e';rw[hK (by rw[q];simp)]at e;cases e)
  have hM:Mod K mg (Be s₁.heap H):=⟨VY,Tf hns,⟨mb,Tf hb,hbb⟩,let ⟨mc,h1,h2⟩:=hlim;⟨mc,Tf h1,h2⟩⟩;have e0:EZ P w K mg (Be s₁.heap H) callerA [] s₁ H:=⟨rfl,hM,fun b o e=>Mo e,Nat.le_of_eq (Ij _ _),trivial,fun b hb=>absurd (show b∈([]:List Addr) from hb) (by simp),hok,.of_eq hg⟩;refine codeAny_mono ((F _ VY (Tf hns)).run callerA [] s₁ H ⟨[.ref a],[]⟩ [.ref a] [.ref a] _ _ hr e0 (hbind s₁ (.ref a)) (.cons rfl .nil) (hsp H hO hS)) fun r s' h=>?_;cases r with
  |error e=>exact(Uw H e s' h).elim
  |ok fl =>
   cases fl with
   |next=>exact False.elim h
   |brk=>exact False.elim h
   |cont=>exact False.elim h
   |ret u =>
    obtain⟨v,H',os,bare,un,hok',r',q⟩:=h;have q':v=.bl true:=q;subst q';obtain rfl:u=Value.bool true:=r';refine⟨rfl,OldK.of_keep fun b o e=>?_,os,bare⟩;cases q:H b with
    |none=>exact un.keep b o e q (by intro z;exact absurd (show b∈([]:List Addr) from z) (by simp)) (by simp)
    |some u =>
     rcases hO b with z|⟨ob,xs,z⟩
     ·rw[q]at z;cases z
     ·have z2:=un.xa b ob _ z;obtain⟨e1,_⟩:=hok b _ z;obtain⟨e2,_⟩:=hok' b _ z2;rw[e]at e1;cases e1;exact e2
 cases hk:K.lookup a with
 |some o =>
  have e:=KX a o hk;rw[ha]at e;cases e;refine core (fun _=>none) (fun _=>.inl rfl) (.inr ⟨_,vs.toArray,_,hk,rfl,rfl,rfl,by rw[size_toArray,lenV];exact hl,by simpa using rv⟩) (fun b u z=>by have z':(none:Option HO)=some u:=z;cases z') (fun b z=>absurd rfl z) fun z=>absurd rfl z
 |none =>
  refine core (fun b=>if b=a then some (.Gk { cls:=.type "list",data:=.seq vs.toArray } (.lst (ns.map V.int))) else none) (fun b=>?_) (.inl (.inr ⟨{ cls:=.type "list",data:=.seq vs.toArray },if_pos rfl⟩)) (fun b u z=>?_) (fun b z=>?_) fun _=>hk
  ·by_cases hb:b=a
   ·exact .inr ⟨_,_,if_pos hb⟩
   ·exact .inl (if_neg hb)
  ·by_cases hb:b=a
   ·have z':=(if_pos hb).symm.trans z;cases z';subst hb;exact⟨ha,by rw[length_map];exact hl,vs,_,rv,ha⟩
   ·have z':=(if_neg hb).symm.trans z;cases z'
  ·by_cases hb:b=a
   ·exact hb
   ·exact absurd (if_neg hb) z
end L2
namespace L2
open PySem PySem.Spec PyProof.Rows
theorem MC {l:OpenLaw}{n k:Nat}{q:Program}{loose:List Str}{XP:(Str->Option Value)->Heap->Prop}{YP:World->Heap->Prop}{d:DefRec}{K:Params->Frag}{CX:World->Gw}{sp:World->Sp}{x:Str}
  (hn:l.most=some n) (hn2:n<=sizeLine) (hdf:d.params.defaults=[]) (hr:ee k callerA)
  (hY:∀(w:World)(h:Heap),YP w h->(K w.params).In h)
  (F:∀(w:World)(mg:Str->Option Value)(fa:Addr)(h:Heap),(K w.params).In h->h.Ns mainGlobals mg->mg d.name=some (.ref fa) ->
   ∃ fd:FuncData,(∀(s:Shared)(u:Value),BindsTo s fd ⟨[u],[]⟩ [(x,u)]) /\
    ∀ base:Heap,(K w.params).In base->base.Ns mainGlobals mg->aS l.prog w (K w.params) mg base (CX w) k fa fd [x] (sp w))
  (hsp:∀(w:World)(H:Hp)(a:Addr)(ns:List Int),ns.length<=n->Only H->aL (K w.params) H a (ns.map V.int)->sp w [.ref a] H (fun v _=>v=.bl true) fun _ _ _=>False)
  (Uw:∀(w:World)(H:Hp)(s:Shared)(e:Value)(s':Shared),CX w [] H s (fun _ _ _=>False) e s'->False) :
  WalkO q loose XP YP l.row.toRowW d [] (fun f vs=>PySem.call f vs):=by
 refine VX.C7 hn hdf fun w s₀ s₁ mg mb fa o pm cd doc a vs ns G Y ho hd hcd hmg hobj hints hlen hg=>?_;have KX:=hY w _ Y;obtain⟨fd,hb,hF⟩:=F w mg fa _ KX G.T.g hmg;exact Kl KX G.T.g G.T.b G.T.builtins G.T.nolimit hg hobj hints (Nat.le_trans hlen hn2) hr hF hb (fun H hO hS=>hsp w H a ns hlen hO hS) fun H e s'=>Uw w H s₁ e s'
end L2
namespace L2
open PySem PySem.Spec PyProof.Rows
noncomputable def inClass (s:Stmt)(j:Nat):Stmt:=match s with
 |.ClassDef _ _ _ body _ _ _ _ _ _ _=>body.getD j (.Pass ⟨0,0,0,0⟩)
 |_=>.Pass ⟨0,0,0,0⟩
noncomputable def cA (s:Stmt):Arguments:=match s with
 |.FunctionDef _ a _ _ _ _ _ _ _ _=>a
 |_=>{ posonlyargs:=[],args:=[],vararg:=none,kwonlyargs:=[],kw_defaults:=[],kwarg:=none,defaults:=[] }
noncomputable def bP (s:Stmt):List Stmt:=match s with
 |.FunctionDef _ _ b _ _ _ _ _ _ _=>b
 |_=>[]
noncomputable def aj (s:Stmt):Scope:=match s with
 |.FunctionDef _ _ _ _ _ _ sc _ _ _=>sc
 |_=>{ kind:=.function,names:=[],isGenerator:=false,isCoroutine:=false }
noncomputable abbrev fk:Gw:=fun _ _ _ _ _ _=>False
noncomputable abbrev E0:XK:=fun _ _ _=>False
theorem cC {X:Cx}:Passes fk X E0:=fun _ _ _ _ _ _ _ h=>h.elim
structure MD (K:Frag)(x qual:Str)(st:Stmt)(f:Addr)(fd:FuncData):Prop where
 ex:∃(oc:Value)(od:Option Addr)(kV doc pm:Value)(an:Option Addr)(cdv ct:Value)(osl:Array (Option Value)),
  fd=fnOf x qual (cA st) (bP st) (aj st) .none kV doc pm an cdv ct/\K.lookup f=some ⟨oc,od,.func fd,osl⟩/\codeIn K cdv qual=true
 kp:keepIn K (.ref f)=true
section
variable {P:Program} {w:World} {K:Frag} {mg:Str->Option Value} {base:Heap}
theorem MD.ok {x qual:Str}{st:Stmt}{f:Addr}{fd:FuncData}{N ps:List Str}{k:Nat}{sp:Sp}(F:MD K x qual st f fd)(S:aw N ps (aj st))(len:∀ vs H Q E,sp vs H Q E->vs.length=ps.length)
  (hbody:∀(cdv:Value)(A:Around)(outer:List Env)(s:Shared)(H:Hp)(vs:List V)(Q:VK)(E:XK),ee k (A.deeper (envOfC qual (aj st) s.heap.objs.size f cdv))->sp vs H Q E ->
   ∃ t,wJ (kM fk P w K mg base N qual (aj st) f cdv A outer s H E).NO (bP st) t/\t { nx:=fun _ H'=>Q .non H',rt:=Q } (start N vs) H):aS P w K mg base fk (k+1) f fd ps sp:=by
 obtain⟨oc,od,kV,doc,pm,an,cdv,ct,osl,rfl,lk,hcd⟩:=F.ex;refine Gx lk hcd S len fun A outer s H vs Q E hr hsp=>?_;obtain⟨t,h,q⟩:=hbody cdv A outer s H vs Q E hr hsp;exact⟨t,h.NO,q⟩
theorem E9 {x qual:Str}{st:Stmt}{f:Addr}{oc:Value}{od an:Option Addr}{osl:Array (Option Value)}{kV doc pm cdv ct:Value}(l:K.lookup f=some ⟨oc,od,.func (fnOf x qual (cA st) (bP st) (aj st) .none kV doc pm an cdv ct),osl⟩)
  (c:codeIn K cdv qual=true) (k:keepIn K (.ref f)=true):MD K x qual st f (fnOf x qual (cA st) (bP st) (aj st) .none kV doc pm an cdv ct):=⟨⟨oc,od,kV,doc,pm,an,cdv,ct,osl,rfl,l,c⟩,k⟩
end
theorem n9 {A:Around}{k:Nat}(hr:ee k A):A.units+1<cLine:=Nat.lt_of_le_of_lt (Nat.add_le_add_left (by decide:1<=64) _) hr.units
theorem aF {n:Nat}(h:n<=1000):n<sizeLine:=Nat.lt_of_le_of_lt h (by decide)
section
variable {X:Cx}
theorem pv (i:Nat){x:Str}{pos:Pos}(hN:X.N[i]? = some x:=by rfl)(hv:QR X.env.scope x:=by first|exact Or.inl rfl|exact Or.inr (Or.inl rfl)|exact Or.inr (Or.inr rfl))(hd:(x==("__debug__":Str))=false:=by decide)
  (hcd:(x==("__classdict__":Str))=false:=by decide):PE X (.Name x pos) (QT i):=OL hN hv hd hcd
end
theorem ck {A B:Prop}(h:B):if false=true then A else B:=by
 rw[if_neg Bool.false_ne_true];exact h
theorem gx {A B:Prop}(h:A):if true=true then A else B:=by
 rw[if_pos rfl];exact h
theorem aP {c A B:Prop}[Decidable c](h1:c->A)(h2:¬ c->B):if c then A else B:=by
 by_cases h:c
 ·rw[if_pos h];exact h1 h
 ·rw[if_neg h];exact h2 h
noncomputable def aq (H H':Hp):Prop:=∀ b o,H b=some o->H' b=some o
theorem aq.refl (H:Hp):aq H H:=fun _ _ h=>h
theorem aq.trans {H H1 H2:Hp}(a:aq H H1)(b:aq H1 H2):aq H H2:=fun c o h=>b c o (a c o h)
theorem aq.free {H H':Hp}(e:aq H H'){l:Addr}(h:H' l=Option.none):H l=Option.none:=by
 cases q:H l with
 |none=>rfl
 |some o =>
  rw[e l o q]at h;cases h
theorem aq.seq {K:Frag}{H H':Hp}{a:Addr}{xs:List V}(e:aq H H')(h:aL K H a xs):aL K H' a xs:=by
 rcases h with (h|⟨o,h⟩)|h
 ·exact .inl (.inl (e _ _ h))
 ·exact .inl (.inr ⟨o,e _ _ h⟩)
 ·exact .inr h
end L2
set_option maxHeartbeats 4000000
namespace L2
open PySem PySem.Spec PyProof.Rows
noncomputable def eB (env:Env):List (Str×NameKind)->List (Str×Addr)->List (Str×Addr)
 |[],acc=>acc
 |p::l,acc=>eB env l (if p.2 == .free then(p.1,(env.cells.lookup p.1).getD 0)::acc else acc)
theorem GI {env:Env}{scope:Scope}(h:∀ p∈scope.names,p.2=.free->∃ c,env.cells.lookup p.1=some c):closureFor scope env=pure (eB env scope.names []):=by
 have go:∀(l:List (Str×NameKind)) (acc:List (Str×Addr)),(∀ p∈l,p.2=.free->∃ c,env.cells.lookup p.1=some c) ->
   (forIn l acc fun(p:Str×NameKind) cs=>if(p.2==NameKind.free)=true then(cellOf env p.1 >>= fun a=>pure (ForInStep.yield ((p.1,a)::cs))) else pure (ForInStep.yield cs))=(pure (eB env l acc):Sem (List (Str×Addr))):=by
  intro l
  induction l with
  |nil=>intro acc _;rfl
  |cons p l ih =>
   intro acc hl;rw[List.forIn_cons];have hr:=fun q hq=>hl q (mem_cons_of_mem _ hq)
   by_cases hk:p.2=.free
   ·obtain⟨c,hc⟩:=hl p mem_cons_self hk;have e1:(p.2==NameKind.free)=true:=by rw[hk];rfl
    rw[if_pos e1];have e2:cellOf env p.1=pure c:=by unfold cellOf;rw[hc]
    rw[e2,pure_bind,pure_bind];show forIn l ((p.1,c)::acc) _=_;rw[ih _ hr];show _=pure (eB env l (if p.2 == .free then(p.1,(env.cells.lookup p.1).getD 0)::acc else acc));rw[if_pos e1,hc];rfl
   ·have e1:¬(p.2==NameKind.free)=true:=by intro z;exact hk (by simpa using z)
    rw[if_neg e1,pure_bind];show forIn l acc _=_;rw[ih _ hr];show _=pure (eB env l (if p.2 == .free then(p.1,(env.cells.lookup p.1).getD 0)::acc else acc));rw[if_neg e1]
 have e:=go scope.names [] h;unfold closureFor;show(forIn scope.names ([]:List (Str×Addr)) _ >>= fun r=>pure r)=_;rw[bind_pure];exact e
theorem zR {env:Env}{x:Str}:∀(l:List (Str×NameKind)) (acc:List (Str×Addr)) {c:Addr},(eB env l acc).lookup x=some c->acc.lookup x=some c\/((x,NameKind.free)∈l/\c=(env.cells.lookup x).getD 0)
 |[],acc,c,h=>.inl h
 |p::l,acc,c,h=>by
  rcases zR l _ h with z|⟨z,e⟩
  ·by_cases hk:(p.2==NameKind.free)=true
   ·rw[if_pos hk,List.lookup_cons]at z
    by_cases hx:(x==p.1)=true
    ·rw[hx]at z;have e:x=p.1:=by simpa using hx
     have e2:p.2=.free:=by simpa using hk
     refine .inr ⟨?_,?_⟩
     ·rw[e,<-e2];exact mem_cons_self
     ·rw[e];exact(Option.some.inj z).symm
    ·have hx':(x==p.1)=false:=by simpa using hx
     rw[hx']at z;exact .inl z
   ·rw[if_neg hk]at z;exact .inl z
  ·exact .inr ⟨mem_cons_of_mem _ z,e⟩
theorem xn {env:Env}{x:Str}:∀(l:List (Str×NameKind)) (acc:List (Str×Addr)),((acc.lookup x).isSome=true\/(x,NameKind.free)∈l)->((eB env l acc).lookup x).isSome=true
 |[],acc,h=>by
  rcases h with h|h
  ·exact h
  ·cases h
 |p::l,acc,h=>by
  refine xn l _ ?_;rcases h with h|h
  ·left
   by_cases hk:(p.2==NameKind.free)=true
   ·rw[if_pos hk,List.lookup_cons];cases (x==p.1) with
    |true=>rfl
    |false=>exact h
   ·rw[if_neg hk];exact h
  ·rcases List.mem_cons.mp h with e|h
   ·left
    have e1:p.1=x:=by rw[<-e]
    have e2:(p.2==NameKind.free)=true:=by rw[<-e];rfl
    rw[if_pos e2,List.lookup_cons,e1];simp
   ·exact .inr h
theorem jm {env:Env}{x:Str}{k:NameKind}:∀(l:List (Str×NameKind)),
  (l.map fun(n,k)=>if(k==NameKind.free&&env.scope.kind == .function&&env.kindOf n==some .cell) then(n,NameKind.cell) else(n,k)).lookup x=some k ->
   l.lookup x=some k\/(k=.cell/\l.lookup x=some .free)
 |[],h=>by cases h
 |(n,q)::l,h=>by
  rw[map_cons]at h;cases hx:(x==n) with
  |true =>
   rw[List.lookup_cons,hx]
   by_cases hc:(q==NameKind.free&&env.scope.kind == .function&&env.kindOf n==some .cell)=true
   ·simp only [hc,if_true,List.lookup_cons,hx]at h;have e:q=.free:=by
     have:=(Bool.and_eq_true_iff.mp (Bool.and_eq_true_iff.mp hc).1).1
     simpa using this
    right
    exact⟨(Option.some.inj h).symm,by rw[e]⟩
   ·have hc':(q==NameKind.free&&env.scope.kind == .function&&env.kindOf n==some .cell)=false:=by simpa using hc
    simp only [hc',Bool.false_eq_true,if_false,List.lookup_cons,hx]at h;exact .inl h
  |false =>
   rw[List.lookup_cons,hx];refine jm (env:=env) l ?_
   by_cases hc:(q==NameKind.free&&env.scope.kind == .function&&env.kindOf n==some .cell)=true
   ·simp only [hc,if_true,List.lookup_cons,hx]at h;exact h
   ·have hc':(q==NameKind.free&&env.scope.kind == .function&&env.kindOf n==some .cell)=false:=by simpa using hc
    simp only [hc',Bool.false_eq_true,if_false,List.lookup_cons,hx]at h;exact h
structure Bk where
 C:Addr
 s₂:Shared
 Z5:Hp
 fp:List Addr
 xe:Value->Shared->Prop
noncomputable def bY (X:Cx)(cn:List Str)(scope:Scope)(b:Bk):Cx where
 prog:=X.prog
 w:=X.w
 K:=X.K
 mg:=X.mg
 base:=X.base
 A:=X.A
 N:=cn++X.N
 s₀:=b.s₂
 H₀:=b.Z5
 env:=compEnvC scope (eB X.env scope.names []) b.C X.env
 outer:=X.stack
 stack:=X.stack
 ex:=b.fp
 fn:=fun _=>false
 calm:=X.calm
 pn:=[]
 xe:=b.xe
noncomputable def Km (sc:Scope)(N:List Str)(scope:Scope):Bool :=
 (scope.kind == .function) &&
 (scope.names.all fun p=>(p.2 != .cell)&&((p.2 != .free)||(sc.names.lookup p.1==some .cell)||(sc.names.lookup p.1==some .free))&&((p.2 != .local)||(scope.names.lookup p.1==some .local))) &&
 (N.all fun x=>scope.names.lookup x != some .local)
structure bL (sc:Scope)(N:List Str)(scope:Scope):Prop where
 kind:scope.kind=.function
 Kn:∀ p∈scope.names,p.2≠.cell
 free:∀ p∈scope.names,p.2=.free->sc.names.lookup p.1=some .cell\/sc.names.lookup p.1=some .free
 loc:∀ p∈scope.names,p.2=.local->scope.names.lookup p.1=some .local
 apart:∀ x∈N,scope.names.lookup x≠some .local
theorem bL.of {sc:Scope}{N:List Str}{scope:Scope}(h:Km sc N scope=true):bL sc N scope:=by
 unfold Km at h;rw[Bool.and_eq_true,Bool.and_eq_true]at h;obtain⟨⟨h1,h2⟩,h3⟩:=h;rw[all_eq_true]at h2 h3;refine⟨by simpa using h1,fun p hp=>?_,fun p hp e=>?_,fun p hp e=>?_,fun x hx=>?_⟩
 ·have:=h2 p hp;rw[Bool.and_eq_true,Bool.and_eq_true]at this
  simpa using this.1.1
 ·have:=h2 p hp;rw[Bool.and_eq_true,Bool.and_eq_true]at this;have q:=this.1.2;rw[e]at q;rw[Bool.or_eq_true,Bool.or_eq_true]at q;rcases q with (q|q)|q
  ·exact absurd q (by decide)
  ·exact .inl (by simpa using q)
  ·exact .inr (by simpa using q)
 ·have:=h2 p hp;rw[Bool.and_eq_true,Bool.and_eq_true]at this;have q:=this.2;rw[e]at q;rw[Bool.or_eq_true]at q;rcases q with q|q
  ·exact absurd q (by decide)
  ·simpa using q
 ·have:=h3 x hx
  simpa using this
section
variable {X:Cx} {pins:List (Addr×Obj)} {σ:St} {H:Hp}
theorem oa {l:List (Str×NameKind)}{x:Str}{k:NameKind}(h:l.lookup x=some k):(x,k)∈l:=PySem.mem_of_lookup h
theorem Inv.block {s₂:Shared}{h₁:Heap}{tk:Nat}{cn:List Str}{scope:Scope}{fp:List Addr}{xe:Value->Shared->Prop}{C D:Addr}{m:Str->Option Value}
  (I:Inv X pins σ H s₂) (F:bL X.env.scope X.N scope) (hc:X.calm=true) (hf:∀ b∈fp,gW X pins H b) (hfl:∀ b∈fp,b<s₂.heap.objs.size)
  (hC:s₂.heap.objs.size<=C) (hD:s₂.heap.objs.size<=D) (hDC:D≠C) (hn:h₁.Ns C m) (old:∀ b o,s₂.heap.get? b=some o->h₁.get? b=some o)
  (hacc:h₁.get? D=some { cls:=.type "list",data:=.seq ([]:List Value).toArray 0 }) :
  Inv (bY X cn scope ⟨C,s₂,H,fp,xe⟩) [] (List.replicate cn.length none++σ) (upd H D (.lst [])) { s₂ with heap:=h₁,toks:=tk }:=by
 have Bs:∀ x,((bY X cn scope ⟨C,s₂,H,fp,xe⟩).env.kindOf x=some .cell\/(bY X cn scope ⟨C,s₂,H,fp,xe⟩).env.kindOf x=some .free)->(x,NameKind.free)∈scope.names:=by
  intro x hx;have hx':(relabel scope X.env).names.lookup x=some .cell\/(relabel scope X.env).names.lookup x=some .free:=hx;rcases hx' with z|z
  ·rcases jm scope.names z with z|⟨_,z⟩
   ·exact absurd rfl (F.Kn _ (oa z))
   ·exact oa z
  ·rcases jm scope.names z with z|⟨e,_⟩
   ·exact oa z
   ·cases e
 have GJ:∀ x,(x,NameKind.free)∈scope.names->X.env.kindOf x=some .cell\/X.env.kindOf x=some .free:=fun x hx=>F.free _ hx rfl;have mr:∀ x c,(eB X.env scope.names []).lookup x=some c->X.env.cells.lookup x=some c:=by
  intro x c e;rcases zR _ _ e with z|⟨z,e2⟩
  ·cases z
  ·obtain⟨c',hc'⟩:=I.ok.has x (GJ x z);rw[hc']at e2 ⊢;rw[e2];rfl
 have Xn:(bY X cn scope ⟨C,s₂,H,fp,xe⟩).fs=frs X.stack:=rfl;have Ux:∀ b∈fp,b ∉ frs X.stack:=by
  intro b hb z;obtain⟨_,f1,f2,_⟩:=hf b hb;rcases List.mem_cons.mp (I.ER b z) with e|e
  ·exact f1 e
  ·exact f2 e
 have O3:∀ x c,X.env.cells.lookup x=some c->c<s₂.heap.objs.size:=by
  intro x c e;obtain⟨v,o,ho,_⟩:=I.cell x c e;exact Heap.lt_size ho
 have ok:(bY X cn scope ⟨C,s₂,H,fp,xe⟩).Ok:=by
  refine⟨I.ok.mod,?_,I.ok.glob,I.ok.blt,hC,fun x y c h1 h2=>I.ok.inj x y c (mr x c h1) (mr y c h2),fun x hx=>?_,fun x c z=>?_,fun _=>I.ok.hd hc,I.ok.frames,.inl rfl,fun b hb=>⟨?_,fun x c e=>?_⟩,
   fun b o e=>I.bs b o e,Nat.le_trans I.ok.Gm I.sz,fun b o e hb=>?_,fun b hb=>?_,I.stack,I.Bg⟩
  ·show(relabel scope X.env).kind=.function;exact F.kind
  ·have:=xn (env:=X.env) (x:=x) scope.names [] (.inr (Bs x hx));exact Option.isSome_iff_exists.mp this
  ·cases z
  ·exact Nat.ne_of_lt (Nat.lt_of_lt_of_le (hfl b hb) hC)
  ·exact(hf b hb).2.2.2.2.1 x c (mr x c e)
  ·have:X.base.objs.size<=X.s₀.heap.objs.size:=I.ok.Gm;rcases (hf b hb).2.2.2.1 with z|z
   ·exact I.ok.zj b o e z
   ·exact absurd (Nat.lt_of_lt_of_le (Heap.lt_size e) (Nat.le_trans I.ok.Gm z)) (Nat.lt_irrefl _)
  ·exact Ux b hb
 have Xo:H D=none:=I.hok.fresh hD;have Uy:nR X.prog X.w (upd H D (.lst [])) h₁:=I.hok.laid old hD ⟨Nat.zero_le _,[],0,.nil,hacc⟩;refine⟨ok,rfl,I.bare,Un.laid old hD Xo,⟨m,hn,fun i x v e1 e2 e3=>?_⟩,fun x c e=>?_,?_,fun x c e=>?_,fun p hp=>absurd (show p∈([]:List (Addr×Obj)) from hp) (by simp),Uy,?_⟩
 ·have hi:¬ i<cn.length:=by
   intro hi;rw[List.getElem?_append_left (by simpa using hi),List.getElem?_replicate]at e2;split at e2 <;> cases e2
  rw[getElem?_append_right (by simpa using hi),List.length_replicate]at e2;have e1':(cn++X.N)[i]? = some x:=e1;rw[getElem?_append_right (by omega)]at e1';obtain⟨m0,hm0,hl⟩:=I.loc;have VZ:x∈X.N:=mem_of_getElem? e1';have hfr:(x,NameKind.free)∈scope.names:=by
   have e3':(relabel scope X.env).names.lookup x=some .local\/(relabel scope X.env).names.lookup x=some .cell\/(relabel scope X.env).names.lookup x=some .free:=e3;rcases e3' with z|z|z
   ·rcases jm scope.names z with z|⟨e,_⟩
    ·exact absurd z (F.apart x VZ)
    ·cases e
   ·exact Bs x (.inl z)
   ·exact Bs x (.inr z)
  have hk:=GJ x hfr;have Ub:QR X.env.scope x:=by
   rcases hk with z|z
   ·exact .inr (.inl z)
   ·exact .inr (.inr z)
  obtain⟨u,r,lk⟩:=hl (i-cn.length) x v e1' e2 Ub;refine⟨u,r,?_⟩;rcases lk with ⟨z,_⟩|⟨_,c,ec,z⟩
  ·rcases hk with q|q
   ·rw[z]at q;cases q
   ·rw[z]at q;cases q
  ·have hcl:(eB X.env scope.names []).lookup x=some c:=by
    obtain⟨c',e'⟩:=Option.isSome_iff_exists.mp (xn (env:=X.env) (x:=x) scope.names [] (.inr hfr));rw[e'];have:=mr x c' e';rw[ec]at this;exact this.symm
   refine .inr ⟨?_,c,hcl,?_⟩
   ·have e3':(relabel scope X.env).names.lookup x=some .local\/(relabel scope X.env).names.lookup x=some .cell\/(relabel scope X.env).names.lookup x=some .free:=e3;rcases e3' with y|y|y
    ·rcases jm scope.names y with y|⟨e,_⟩
     ·exact absurd y (F.apart x VZ)
     ·cases e
    ·exact .inl y
    ·exact .inr y
   ·obtain⟨o,ho,hd⟩:=z;exact⟨o,old c o ho,hd⟩
 ·obtain⟨v,o,ho,hd⟩:=I.cell x c (mr x c e);exact⟨v,o,old c o ho,hd⟩
 ·show upd H D (.lst []) C=none;rw[ai (Ne.symm hDC)];exact I.hok.fresh hC
 ·rw[ai (Nat.ne_of_lt (Nat.lt_of_lt_of_le (O3 x c (mr x c e)) hD))];exact I.iG x c (mr x c e)
 ·show(List.replicate cn.length none++σ).length=(cn++X.N).length;rw[length_append,List.length_replicate,length_append,I.len]
theorem Inv.GK {s₂ s':Shared}{h':Heap}{cn:List Str}{scope:Scope}{fp:List Addr}{xe:Value->Shared->Prop}{C:Addr}{H':Hp}{σ':St}{pl:List (Addr×Obj)}
  (I:Inv X pins σ H s₂) (hf:∀ b∈fp,gW X pins H b) (hC:s₂.heap.objs.size<=C) (J:Inv (bY X cn scope ⟨C,s₂,H,fp,xe⟩) pl σ' H' s') (sb:Heap.SameBut C s'.heap h') :
  Inv X pins σ H' { s' with heap:=h' }:=by
 have NM:∀ b o,s₂.heap.get? b=some o->b≠C:=fun b o e=>Nat.ne_of_lt (Nat.lt_of_lt_of_le (Heap.lt_size e) hC);have u:Un (frs X.stack) fp H H' s₂.heap s'.heap:=J.base;have un:Un (frs X.stack) fp H H' s₂.heap h' :=
  ⟨fun b o e n hb hx=>(sb.2 b (NM b o e)).trans (u.keep b o e n hb hx),
   fun b o e n hb hx=>by
   obtain⟨sl,q⟩:=u.slot b o e n hb hx;exact⟨sl,(sb.2 b (NM b o e)).trans q⟩,
   u.free,fun b o e hx=>by
   obtain⟨o',q⟩:=u.there b o e hx;exact⟨o',(sb.2 b (NM b o e)).trans q⟩,u.tups,u.xa,u.zi⟩
 have fC:H' C=none:=J.free;have hok:nR X.prog X.w H' h':=fun b o e=>by
  refine(J.hok b o e).stay (fun c v hc q=>(sb.2 c ?_).trans q) (fun _ q=>q) fun _ _ q=>q;rintro rfl;rcases hc with z|z
  ·rw[<-z,fC]at e;cases e
  ·rw[fC]at z;cases z
 have os:s'.os=s₂.os:=J.os;refine I.call' (s':={ s' with heap:=h' }) os un hok J.bare fun b hb=>?_;obtain⟨_,f1,_,f3,f4,f5⟩:=hf b hb;exact⟨f3,f1,f4,f5⟩
end
end L2
set_option maxHeartbeats 4000000
namespace L2
open PySem PySem.Spec PyProof.Rows
theorem ID {prog:Program}{w:World}{A:Around}{R:Result->Shared->Prop}{s:Shared}{elt tg iter:Expr}{ifs:List Expr}{scope:Scope}{pos:Pos}{it acc:Value}{env:Env}(J:Nat->Shared->Prop)
  (turn:∀ n s,J n s->wpAny (model prog w) A (pyNext it) (fun r s₁=>(r=none/\R (.ok .next) s₁)\/∃ v,r=some v /\
   wpAny (model prog w) A (letOwnedTupleGo tg it v) (fun _ s₂=>wpAny (model prog w) A (assign tg env v) (fun _ s₃ =>
    wpAny (model prog w) A (forIn ifs true fun c r=>if r=true then do let ok <-isTrue c env (eval c env);pure (ForInStep.yield ok) else pure (ForInStep.yield r)) (fun ok s₄ =>
     if ok=true then wpAny (model prog w) A (eval elt env) (fun x s₅=>wpAny (model prog w) A (call (.builtin "list.append") [acc,x]) (fun _ s₆=>∃ m,m<n/\J m s₆) (notedBy (model prog w) A env fun e s'=>R (.error e) s') s₅)
      (notedBy (model prog w) A env fun e s'=>R (.error e) s') s₄
     else ∃ m,m<n/\J m s₄) (notedBy (model prog w) A env fun e s'=>R (.error e) s') s₃) (notedBy (model prog w) A env fun e s'=>R (.error e) s') s₂) (notedBy (model prog w) A env fun e s'=>R (.error e) s') s₁)
   (notedBy (model prog w) A env fun e s'=>R (.error e) s') s)
  (n:Nat) (h:J n s):codeAny (model prog w) A (.compLoop (.ListComp elt [⟨tg,iter,ifs,0⟩] scope pos) 0 it acc env) R s:=by
 refine codeAny_loop rfl J (fun n s hJ=>?_) n h;refine wpAny_noted (A:=A) (m:=compTurn (.ListComp elt [⟨tg,iter,ifs,0⟩] scope pos) 0 it acc env) (env:=env) ?_;rw[compTurn_list];refine wpAny_bind (wpAny_standAt (wpAny_bind (bU (turn n s hJ) fun r s₁ h₁=>?_)));rcases h₁ with ⟨e,h₁⟩|⟨v,e,h₁⟩
 ·subst e;exact wpAny_pure h₁
 ·subst e;refine wpAny_bind (bU h₁ fun _ s₂ h₂=>wpAny_bind (bU h₂ fun _ s₃ h₃=>wpAny_bind (bU h₃ fun ok s₄ h₄=>?_)));cases ok with
  |false=>exact wpAny_pure ⟨rfl,h₄⟩
  |true=>exact wpAny_bind (wpAny_bind (bU h₄ fun x s₅ h₅=>wpAny_bind (bU h₅ fun _ s₆ h₆=>wpAny_pure (wpAny_pure ⟨rfl,h₆⟩))))
noncomputable def PF (X:Cx)(ifs:List Expr)(t:TT):Prop :=
 ∀(pins:List (Addr×Obj)) (s:Shared) (σ:St) (H:Hp) (Q:Bool->Hp->Prop),Inv X pins σ H s->t σ H Q ->
  wpAny (model X.prog X.w) X.A (forIn ifs true fun c r=>if r=true then do let ok <-isTrue c X.env (eval c X.env);pure (ForInStep.yield ok) else pure (ForInStep.yield r)) (TP X pins σ Q) X.xe s
noncomputable def O4:TT:=fun _ H Q=>Q true H
theorem fh {X:Cx}:PF X [] O4:=by
 intro pins s σ H Q I h;rw[List.forIn_nil];exact wpAny_pure ⟨H,I,h⟩
theorem Ko {X:Cx}{c:Expr}{t:TT}(hc:PT X c t):PF X [c] t:=by
 intro pins s σ H Q I h;rw[List.forIn_cons];refine wpAny_bind ?_;rw[if_pos rfl];refine wpAny_bind (bU (hc pins s σ H Q I h) fun ok s1 q=>wpAny_pure ?_);show wpAny _ _ (forIn [] ok _) _ _ _;rw[List.forIn_nil];exact wpAny_pure q
noncomputable def Fb (X:Cx)(C:Addr)(e:Value)(s':Shared):Prop :=
 ∃ m,s'.heap.Ns C m/\∀ h',Heap.SameBut C s'.heap h'->∀ cenv:Env,cenv.locals=C->wpAny (model X.prog X.w) X.A (passOn "comprehension.variables-let-go" e cenv:Sem Value) (fun _ _=>False) X.xe { s' with heap:=h' }
noncomputable def lr (X:Cx)(scope:Scope)(C:Addr):Value->Shared->Prop :=
 notedBy (model X.prog X.w) X.A (compEnvC scope (eB X.env scope.names []) C X.env) (Fb X C)
noncomputable def Kp (n:Nat)(wi:TI)(g:Bk->TG)(tc:Bk->TT)(te:Bk->TE):TE:=fun σ H Q=>wi σ H fun J H1=>∀(D:Addr)(b:Bk),H1 D=none->∃ W:Nat->Nat->List V->St->Hp->Prop,
 (∃ m,W 0 m [] (List.replicate n none++σ) (upd H1 D (.lst [])))/\∀ i m ys σ H,W i m ys σ H ->
  (J.stop i H/\Q (.ref D) H)\/(J.go i H/\∀ x H',J.JZ i H x H'->g b x σ H' fun ZZ H2=>tc b ZZ H2 fun ok H3 =>
   if ok=true then te b ZZ H3 fun y H4=>H4 D=some (.lst ys)/\ys.length<sizeLine/\∃ m',m'<m/\W (i+1) m' (ys++[y]) ZZ (upd H4 D (.lst (ys++[y])))
   else ∃ m',m'<m/\W (i+1) m' ys ZZ H3)
section
variable {X:Cx} {tg iter elt:Expr} {ifs:List Expr} {scope:Scope} {pos:Pos} {cn:List Str} {wi:TI} {g:Bk->TG} {tc:Bk->TT} {te:Bk->TE} {TH:Bk->Prop}
theorem C8 {pins:List (Addr×Obj)}{σ:St}{H:Hp}{s₂:Shared}{it:Addr}{fp:List Addr}{tn:Nat->Heap->Prop}{J:It}{RR:Value->Addr->Result->Shared->Prop}{QQ:Addr->Hp->Prop}{EE:Value->Shared->Prop}
  (hcalm:X.calm=true) (F:bL X.env.scope X.N scope) (hg:∀ b,TH b->PG (bY X cn scope b) tg (g b)) (ht:∀ b,TH b->PF (bY X cn scope b) ifs (tc b)) (he:∀ b,TH b->PE (bY X cn scope b) elt (te b))
  (Uz:∀ C,s₂.heap.objs.size<=C->TH ⟨C,s₂,H,fp,lr X scope C⟩)
  (I:Inv X pins σ H s₂) (T:Turn X.prog X.w X.K tg J fp it tn) (st:tn 0 s₂.heap) (hf:∀ b∈fp,gW X pins H b)
  (h:∀(D:Addr)(b:Bk),H D=none->∃ W:Nat->Nat->List V->St->Hp->Prop,(∃ m,W 0 m [] (List.replicate cn.length none++σ) (upd H D (.lst [])))/\∀ i m ys σ H,W i m ys σ H ->
   (J.stop i H/\QQ D H)\/(J.go i H/\∀ x H',J.JZ i H x H'->g b x σ H' fun ZZ H2=>tc b ZZ H2 fun ok H3 =>
    if ok=true then te b ZZ H3 fun y H4=>H4 D=some (.lst ys)/\ys.length<sizeLine/\∃ m',m'<m/\W (i+1) m' (ys++[y]) ZZ (upd H4 D (.lst (ys++[y])))
    else ∃ m',m'<m/\W (i+1) m' ys ZZ H3))
  (hR:∀ C D σ' H' s',s₂.heap.objs.size<=C->Inv (bY X cn scope ⟨C,s₂,H,fp,lr X scope C⟩) [] σ' H' s'->QQ D H'->RR (.ref D) C (.ok .next) s')
  (hE:∀ C D e s',Fb X C e s'->RR (.ref D) C (.error e) s') :
  wpAny (model X.prog X.w) X.A (newList []) (fun acc s₃=>wpAny (model X.prog X.w) X.A (newFunctionEnv scope X.env.globals (eB X.env scope.names []) [] X.env.qual none .none (some X.env)) (fun cenv s₄ =>
   codeAny (model X.prog X.w) X.A (.compStart (.ListComp elt [⟨tg,iter,ifs,0⟩] scope pos) 0 (.ref it) acc { cenv with scope:=relabel scope X.env }) (RR acc cenv.locals) s₄) EE s₃) EE s₂:=by
 refine wpAny_newObj_type (wpAny_newFunctionEnv F.Kn (by intro y hy;simp at hy) (fun h₁ hns₁ hsb₁=>?_) F.kind);dsimp only at hns₁ hsb₁ ⊢;generalize hH2:s₂.heap.push { cls:=.type "list",dict:=none,data:=.seq ([]:List Value).toArray } = H2 at hns₁ hsb₁ ⊢;have hC:H2.objs.size=s₂.heap.objs.size+1:=by rw[<-hH2,Heap.size_push]
 have hDC:s₂.heap.objs.size≠H2.objs.size:=by omega
 have hCle:s₂.heap.objs.size<=H2.objs.size:=by omega
 have hfl:∀ b∈fp,b<s₂.heap.objs.size:=fun b hb=>by
  obtain⟨o,e,_⟩:=T.obj 0 _ st b hb;exact Heap.lt_size e
 have UA:∀ b o,s₂.heap.get? b=some o->H2.get? b=some o:=fun b o e=>hH2 ▸ Heap.get?_push_of_some _ e;have old:∀ b o,s₂.heap.get? b=some o->h₁.get? b=some o:=fun b o e=>by
  have hb:=Heap.lt_size e;refine hsb₁.extBut b o (Nat.ne_of_lt (Nat.lt_of_lt_of_le hb hCle)) (Heap.get?_push_of_some _ (UA b o e))
 have hacc:h₁.get? s₂.heap.objs.size=some { cls:=.type "list",data:=.seq ([]:List Value).toArray 0 } :=
  hsb₁.extBut _ _ hDC (Heap.get?_push_of_some _ (hH2 ▸ Heap.get?_push_size _ rfl))
 have I0:=Inv.block (cn:=cn) (xe:=lr X scope H2.objs.size) (tk:=s₂.toks+([]:List (Str×Value)).length) I F hcalm hf hfl hCle (Nat.le_refl _) hDC hns₁ old hacc;have th:=Uz _ hCle;obtain⟨W,⟨m0,w0⟩,turn⟩:=h s₂.heap.objs.size ⟨H2.objs.size,s₂,H,fp,lr X scope H2.objs.size⟩ (I.hok.fresh (Nat.le_refl _));have UB:∀{H':Hp},(∀ b∈fp,H' b=none)->∀ b∈fp,gW (bY X cn scope ⟨H2.objs.size,s₂,H,fp,lr X scope H2.objs.size⟩) [] H' b:=fun {H'} hn b hb=>by
  refine⟨hn b hb,(I0.ok.NL b hb).1,I0.ok.Bf b hb,.inl hb,(I0.ok.NL b hb).2,fun p hp=>absurd (show p∈([]:List (Addr×Obj)) from hp) (by simp)⟩
 have N8:(bY X cn scope ⟨H2.objs.size,s₂,H,fp,lr X scope H2.objs.size⟩).calm=true:=hcalm;have loop:∀ s₃:Shared,s₃ = { s₂ with heap:=h₁,toks:=s₂.toks+([]:List (Str×Value)).length } ->
   codeAny (model X.prog X.w) X.A (.compLoop (.ListComp elt [⟨tg,iter,ifs,0⟩] scope pos) 0 (.ref it) (.ref s₂.heap.objs.size) (compEnvC scope (eB X.env scope.names []) H2.objs.size X.env))
    (RR (.ref s₂.heap.objs.size) H2.objs.size) s₃:=by
  rintro s₃ rfl;have Tg:∀ e s',(bY X cn scope ⟨H2.objs.size,s₂,H,fp,lr X scope H2.objs.size⟩).xe e s' ->
    notedBy (model X.prog X.w) X.A (compEnvC scope (eB X.env scope.names []) H2.objs.size X.env) (fun e s'=>RR (.ref s₂.heap.objs.size) H2.objs.size (.error e) s') e s':=fun e s' z =>
   wpAny_mono (show notedBy (model X.prog X.w) X.A (compEnvC scope (eB X.env scope.names []) H2.objs.size X.env) (Fb X H2.objs.size) e s' from z) (fun _ _ q=>hE _ _ _ _ q) fun _ _ q=>hE _ _ _ _ q
  refine ID (env:=compEnvC scope (eB X.env scope.names []) H2.objs.size X.env)
   (fun n s'=>∃ i ys σ' H',Inv (bY X cn scope ⟨H2.objs.size,s₂,H,fp,lr X scope H2.objs.size⟩) [] σ' H' s'/\tn i s'.heap/\(∀ b∈fp,H' b=none)/\W i n ys σ' H') ?_ m0
   ⟨0,[],_,_,I0,T.keep _ _ _ st fun b _ o e=>old b o e,fun b hb=>?_,w0⟩
  ·rintro n s' ⟨i,ys,σ',H',I',st',fr',w'⟩;rcases turn i n ys σ' H' w' with ⟨stop,qn⟩|⟨go,step⟩
   ·refine wpAny_mono (T.done (bY X cn scope ⟨H2.objs.size,s₂,H,fp,lr X scope H2.objs.size⟩) rfl rfl rfl N8 i [] s' σ' H' (fun _ _=>False) I' (UB fr') st' stop) (fun r s4 ⟨hr,I4⟩=>?_) fun _ _ z=>z.elim;exact .inl ⟨hr,hR _ _ _ _ _ hCle I4 qn⟩
   ·refine wpAny_mono (T.item (bY X cn scope ⟨H2.objs.size,s₂,H,fp,lr X scope H2.objs.size⟩) rfl rfl rfl N8 i [] s' σ' H' (fun _ _=>False) I' (UB fr') st' go) (fun r s4 ⟨u,hr,h4⟩=>?_) fun _ _ z=>z.elim;refine .inr ⟨u,hr,wpAny_mono h4 (fun _ s5 ⟨x,H5,I5,r5,y5,OS,Q8⟩=>?_) fun _ _ z=>z.elim⟩;have Ud:=I5.pinned (UB Q8) (T.obj _ _ OS);refine wpAny_mono (hg _ th _ s5 σ' H5 x u _ Ud r5 (step x H5 y5)) (fun _ s6 ⟨Z2,H6,I6,q6⟩=>?_) Tg;refine wpAny_mono (ht _ th _ s6 Z2 H6 _ I6 q6) (fun ok s7 ⟨H7,I7,q7⟩=>?_) Tg;have back:∀{Z6:St} {H8:Hp} {s8:Shared},Inv (bY X cn scope ⟨H2.objs.size,s₂,H,fp,lr X scope H2.objs.size⟩) ([]++xh fp s5.heap) Z6 H8 s8->tn (i+1) s8.heap/\∀ b∈fp,H8 b=none:=fun {Z6 H8 s8} I8=>by
     refine⟨T.keep _ _ _ OS fun b hb o e=>(I8.pin (b,o) (mem_append_right _ (mem_append_right _ (mh hb e)))).1,fun b hb=>?_⟩;obtain⟨o,e,d⟩:=T.obj _ _ OS b hb;exact(I8.pin (b,o) (mem_append_right _ (mem_append_right _ (mh hb e)))).2.1
    cases ok with
    |false =>
     rw[if_neg Bool.false_ne_true]at q7 ⊢;obtain⟨m',hm,w7⟩:=q7;obtain⟨t8,f8⟩:=back I7;exact⟨m',hm,i+1,ys,Z2,H7,I7.nV,t8,f8,w7⟩
    |true =>
     rw[if_pos rfl]at q7 ⊢;refine wpAny_mono (he _ th _ s7 Z2 H7 _ I7 q7) (fun v s8 ⟨y,H8,I8,r8,hl,hz,m',hm,w8⟩=>?_) Tg;refine wpAny_mono (bB (X:=bY X cn scope ⟨H2.objs.size,s₂,H,fp,lr X scope H2.objs.size⟩) _ s8 Z2 H8 (.ref s₂.heap.objs.size) [y] (.ref s₂.heap.objs.size) [v] (fun _ H9=>W (i+1) m' (ys++[y]) Z2 H9) I8 rfl (.cons r8 .nil) ⟨_,ys,y,rfl,rfl,hl,hz,w8⟩)
      (fun _ s9 ⟨_,H9,I9,_,w9⟩=>?_) Tg
     obtain⟨t9,f9⟩:=back I9;exact⟨m',hm,i+1,_,Z2,H9,I9.nV,t9,f9,w9⟩
  ·rw[ai (Nat.ne_of_lt (hfl b hb))];exact(hf b hb).1
 exact codeAny_compStart_list (loop _ rfl) (T.self _ 0 _ _ _ (T.keep _ _ _ st fun b _ o e=>old b o e) (loop _ rfl))
theorem Kq (hcalm:X.calm=true)(F:bL X.env.scope X.N scope)(hi:PI X tg iter wi)(hg:∀ b,TH b->PG (bY X cn scope b) tg (g b))(ht:∀ b,TH b->PF (bY X cn scope b) ifs (tc b))
  (he:∀ b,TH b->PE (bY X cn scope b) elt (te b))
  (Uz:∀ pins σ H s₂ fp C,Inv X pins σ H s₂->(∀ b∈fp,gW X pins H b)->s₂.heap.objs.size<=C->TH ⟨C,s₂,H,fp,lr X scope C⟩)
  (hs:∀ x,foldedSetIterable iter X.env x=pure x:=by intro _;rfl):PE X (.ListComp elt [⟨tg,iter,ifs,0⟩] scope pos) (Kp cn.length wi g tc te):=by
 intro pins s σ H Q I h;rw[eval_ListComp];have hcl:closureFor scope X.env=pure (eB X.env scope.names []):=GI fun p hp e=>I.ok.has p.1 (F.free p hp e);refine wpAny_comprehension_free (use:=none) rfl hs hcl F.kind F.loc (bU (hi pins s σ H _ I h) fun xv s₁ h₁=>bU h₁ fun itv s₂ h₂=>?_);obtain⟨it,fp,tn,J,H2,rfl,I2,T,st,f2,R⟩:=h₂;refine C8 (QQ:=fun D H'=>Q (.ref D) H') (RR:=fun acc C=>compPost (model X.prog X.w) X.A X.xe none (EP X pins σ Q) acc C) hcalm F hg ht he (fun C hC=>Uz pins σ H2 s₂ fp C I2 f2 hC) I2 T st f2 R ?_ ?_
 ·intro C D σ' H' s' hC I' q;obtain⟨m,hm,_⟩:=I'.loc;exact⟨m,hm,fun h' sb=>⟨.ref D,H',I2.GK f2 hC I' sb,rfl,q⟩⟩
 ·intro C D e s' z;exact z
theorem dz (hcalm:X.calm=true)(F:bL X.env.scope X.N scope)(hi:PI X tg iter wi)(hg:∀ b,PG (bY X cn scope b) tg (g b))(ht:∀ b,PF (bY X cn scope b) ifs (tc b))(he:∀ b,PE (bY X cn scope b) elt (te b))
  (hs:∀ x,foldedSetIterable iter X.env x=pure x:=by intro _;rfl):PE X (.ListComp elt [⟨tg,iter,ifs,0⟩] scope pos) (Kp cn.length wi g tc te) :=
 Kq (TH:=fun _=>True) hcalm F hi (fun b _=>hg b) (fun b _=>ht b) (fun b _=>he b) (fun _ _ _ _ _ _ _ _ _=>trivial) hs
end
end L2
set_option maxHeartbeats 4000000
namespace L2
open PySem PySem.Spec PyProof.Rows
section
variable {X:Cx} {e:Expr} {es:List Expr} {te:TE} {pos:Pos}
noncomputable abbrev Rn:=St->Hp->(Str->Hp->Prop)->Prop
noncomputable abbrev O5:=Str->St->Hp->(Str->Hp->Prop)->Prop
noncomputable def UC (X:Cx)(pins:List (Addr×Obj))(σ:St)(Q:Str->Hp->Prop)(u:Value)(s':Shared):Prop:=∃ y t H',u=.str y t/\Inv X pins σ H' s'/\Q y H'
noncomputable def PP (X:Cx)(e:Expr)(t:Rn):Prop :=
 ∀(pins:List (Addr×Obj)) (s:Shared) (σ:St) (H:Hp) (Q:Str->Hp->Prop),Inv X pins σ H s->t σ H Q->wpAny (model X.prog X.w) X.A (eval e X.env) (UC X pins σ Q) X.xe s
noncomputable def Ti (X:Cx)(es:List Expr)(t:O5):Prop :=
 ∀(pins:List (Addr×Obj)) (s:Shared) (σ:St) (H:Hp) (acc:Str) (Q:Str->Hp->Prop),Inv X pins σ H s->t acc σ H Q ->
  Joins (model X.prog X.w) X.A X.xe (evalEach es X.env) acc (fun out s₁=>∃ H',Inv X pins σ H' s₁/\Q out H') s
noncomputable def Xp (x:Str):Rn:=fun _ H Q=>Q x H
noncomputable def Xq (te:TE):Rn:=fun σ H Q=>te σ H fun v H1=>(∃ z,v=.str z/\z.length<=sizeLine/\Q z H1)\/∃ i:Int,v=.int i/\i.natAbs.log2<1920/\Q (toString i) H1
theorem gy {x j}:PP X (.Constant (.str x) j pos) (Xp x):=fun _ _ _ H _ I h=>Calls.Constant_str ⟨x,_,H,rfl,I.tok _,h⟩
theorem jn (he:PE X e te):PP X (.FormattedValue e (-1) none pos) (Xq te):=by
 intro pins s σ H Q I h;refine FormattedValue_plain (bU (he pins s σ H _ I h) fun v s1 eN=>?_);obtain⟨x,H1,I1,r1,q1⟩:=eN;rcases q1 with ⟨z,rfl,hz,q⟩|⟨i,rfl,hi,q⟩
 ·obtain⟨t,rfl⟩:=r1;exact formatField_str (fun t' tk=>⟨z,t',H1,rfl,I1.tok _,q⟩) hz
 ·obtain⟨t,rfl⟩:=r1;exact formatField_int_small hi ⟨_,_,H1,rfl,I1.tok _,q⟩
noncomputable def Xr:O5:=fun acc _ H Q=>Q acc H
noncomputable def tJ (t:Rn)(u:O5):O5:=fun acc σ H Q=>t σ H fun y H1=>(acc++y).length<=sizeLine/\u (acc++y) σ H1 Q
theorem q8:Ti X [] Xr:=fun _ _ _ H _ _ I h=>⟨H,I,h⟩
theorem bN {t:Rn}{u:O5}(h1:PP X e t)(h2:Ti X es u):Ti X (e::es) (tJ t u):=by
 intro pins s σ H acc Q I h;refine wpAny_mono (h1 pins s σ H _ I h) (fun v s1 q=>?_) fun _ _ z=>z;obtain⟨y,tk,H1,rfl,I1,hz,q⟩:=q;exact⟨y,tk,rfl,hz,h2 pins s1 σ H1 _ Q I1 q⟩
noncomputable def tF (u:O5):TE:=fun σ H Q=>u Str.empty σ H fun out H1=>out.length<=sizeLine/\Q (.str out) H1
theorem q9 {e2:Expr}{u:O5}(h:Ti X (e::e2::es) u):PE X (.JoinedStr (e::e2::es) pos) (tF u):=by
 intro pins s σ H Q I hw;refine wpAny_JoinedStr ?_;have mono:∀(l:List (Sem Value)) (acc:Str) (Q1 Q2:Str->Shared->Prop) (s:Shared),(∀ o s,Q1 o s->Q2 o s)->Joins (model X.prog X.w) X.A X.xe l acc Q1 s->Joins (model X.prog X.w) X.A X.xe l acc Q2 s:=by
  intro l
  induction l with
  |nil=>intro acc Q1 Q2 s hm h;exact hm _ _ h
  |cons a l ih =>
   intro acc Q1 Q2 s hm h;refine wpAny_mono h (fun v s1 q=>?_) fun _ _ z=>z;obtain⟨y,t,e1,hz,q⟩:=q;exact⟨y,t,e1,hz,ih _ _ _ _ hm q⟩
 refine mono _ _ _ _ _ (fun out s1 q=>?_) (h pins s σ H _ _ I hw);obtain⟨H1,I1,hz,q⟩:=q;exact⟨hz,.str out,H1,I1.tok _,⟨_,rfl⟩,q⟩
theorem fq:f7 X (.type "int") (fun xs H Q=>∃ z n,xs=[.str z]/\PySem.intText? z=some n/\z.length<=640/\Q (.int n) H):=by
 intro pins s σ H xs us Q I r h;obtain⟨z,n,rfl,hn,hl,q⟩:=h;obtain⟨u,rfl,t,rfl⟩:=r.one;exact PySem.W.KIN.call_text hn hl ⟨.int n,H,I.tok _,⟨_,rfl⟩,q⟩
theorem xo {ys:List Str}:∀{us:List Value},Vals (ys.map V.str) us->StrsAre us ys:=by
 induction ys with
 |nil=>intro us r;rw[List.map_nil]at r;cases r;exact .nil
 |cons n ns ih =>
  intro us r;rw[map_cons]at r;cases r with
  |cons r1 r2 =>
   obtain⟨t,e⟩:=r1;subst e;exact .cons n t (ih r2)
noncomputable def rJoin (K:Frag):V->List V->Hp->VK->Prop:=fun x vs H Q=>∃ sep a ys,x=.str sep/\vs=[.ref a]/\aL K H a (ys.map V.str)/\(ys.map (·.length)).sum+ys.length * sep.length<=16777216/\Q (.str (Str.join sep ys)) H
theorem wL:Qm X "str.join" (rJoin X.K):=by
 intro pins s σ H x vs v us Q I rx rv h;obtain⟨sep,a,ys,rfl,rfl,hq,hz,q⟩:=h;obtain⟨t,rfl⟩:=rx;obtain⟨u,rfl,rfl⟩:=rv.one;obtain⟨its,r,p,_⟩:=I.list hq;refine join_list p.isList (xo r) hz fun t' k=>⟨.str (Str.join sep ys),H,I.tok _,⟨t',?_⟩,q⟩;show Value.str (Builtin.Str.glued sep ys) t'=_;rw[StrLaws.glued_eq_join]
theorem pS:∀(tk:Nat)(ys:List Str),Vals (ys.map V.str) (strsFrom tk ys)
 |_,[]=>.nil
 |tk,y::r=>.cons ⟨tk,rfl⟩ (pS (tk+1) r)
noncomputable def O6:V->List V->Hp->VK->Prop:=fun x vs H Q=>∃ z y,x=.str z/\vs=[.str y]/\(y.length==0)=false/\z.length<=sizeLine/\(Txt.split z y).length<=sizeLine /\
 ∀ p,H p=none->Q (.ref p) (upd H p (.lst ((Txt.split z y).map V.str)))
theorem Kr:Qm X "str.split" O6:=by
 intro pins s σ H x vs v us Q I rx rv h;obtain⟨z,y,rfl,rfl,hy,hz,hn,q⟩:=h;obtain⟨t,rfl⟩:=rx;obtain⟨u,rfl,tu,rfl⟩:=rv.one;have lay:∀(ws:List Value)(tk:Nat),Vals ((Txt.split z y).map V.str) ws->EP X pins σ Q (.ref s.heap.objs.size) { s with heap:=s.heap.push { cls:=.type "list",data:=.seq ws.toArray },toks:=tk }:=by
  intro ws tk hv;refine⟨.ref s.heap.objs.size,_,I.O0 hv (by rw[length_map];exact hn),rfl,q _ I.fresh⟩
 cases h1:(decide (z.length<y.length)||decide (Builtin.Str.strKind z<Builtin.Str.strKind y))
 ·cases hf:(Builtin.Str.occurrences z y 0 z.length (z.length+1)).isEmpty
  ·have es:Txt.split z y=Builtin.Str.partsBetween z (Builtin.Str.occurrences z y 0 z.length (z.length+1)) y.length:=(if_neg (ne_true_of_eq_false h1)).trans (if_neg (ne_true_of_eq_false hf));refine call_meets F.slot_str_split (typeIs_str _ _ _) F.entry_str_split (F.args_str_split_2 _ _) (meets_str_split_sep z y t tu h1 hy hf hz (by rw[<-es];exact hn)) ?_;rw[<-es];exact lay _ _ (pS _ _)
  ·have es:Txt.split z y=[z]:=(if_neg (ne_true_of_eq_false h1)).trans (if_pos hf);refine call_meets F.slot_str_split (typeIs_str _ _ _) F.entry_str_split (F.args_str_split_2 _ _) (meets_str_split_not_found z y t tu h1 hy hf) ?_;exact lay [.str z t] s.toks (by rw[es];exact .cons ⟨t,rfl⟩ .nil)
 ·have es:Txt.split z y=[z]:=if_pos h1;refine call_meets F.slot_str_split (typeIs_str _ _ _) F.entry_str_split (F.args_str_split_2 _ _) (meets_str_split_cannot_occur z y t tu h1) ?_;exact lay [.str z t] s.toks (by rw[es];exact .cons ⟨t,rfl⟩ .nil)
noncomputable def UD:V->Option Int->Option Int->Hp->VK->Prop:=fun x lo hi H Q=>∃ z,x=.str z/\z.length<=sizeLine/\Q (.str (Txt.slice z lo hi)) H
theorem zS {v:Value}{o:Option Int}(p:IsPart v o):∃ l:Option (Int×Tok),v=partValue l/\l.map (·.1)=o:=by
 cases p with
 |none=>exact⟨none,rfl,rfl⟩
 |int i t=>exact⟨some (i,t),rfl,rfl⟩
theorem gA:NZ X UD:=by
 intro pins s σ H x v vl vu lo hi sl Q I rx hs pl pu h;obtain⟨z,rfl,hz,q⟩:=h;obtain⟨t,rfl⟩:=rx;obtain⟨l,rfl,el⟩:=zS pl;obtain⟨u,rfl,eu⟩:=zS pu;subst el eu;refine⟨"str",_,F.slot_str_getitem.lookup,typeIs_str _ _ _,?_⟩;obtain⟨o,ho,hc,hd⟩:=hs;refine wpAny_getItem_str_slice (l:=l) (u:=u) (st:=none) ⟨o,ho,hc,hd⟩ rfl ?_;exact post_val_or_str ⟨Nat.le_trans (Txt.slice_le z _ _) hz,fun t' k=>⟨.str _,H,I.tok _,⟨t',rfl⟩,q⟩⟩
noncomputable def UE (z:Str):It:=⟨fun i _=>i<z.cps.size,fun i H x H'=>H'=H/\∃ c,z.cps[i]? = some c/\x=.str ⟨#[c]⟩,fun i _=>z.cps.size<=i⟩
noncomputable def UG (tl:TE):TI:=fun σ H R=>tl σ H fun x H1=>∃ z,x=.str z/\R (UE z) H1
theorem C9 {P:Program}{w:World}{K:Frag}{tg:Expr}{z:Str}{it:Addr}{T:String}{t:Tok}(hT:["enumerate","zip","dict_itemiterator","dict_reverseitemiterator","odict_iterator","itertools.zip_longest","itertools.pairwise"].contains T=false)
  (W:∀ A:Around,A.handled=none->Walks P w A it [it] [it] z.cps.size (SignAt z) (fun i h=>h.IsStrIter it T z t i)) 
  (S:∀(A:Around)(i:Nat)(s:Shared)(Q:Value->Shared->Prop)(E:Value->Shared->Prop),s.heap.IsStrIter it T z t i->Q (.ref it) s->wpAny (model P w) A (pyIter (.ref it)) Q E s) :
  Turn P w K tg (UE z) [it] it (fun i h=>h.IsStrIter it T z t i/\i<=z.cps.size) where
 mem:=by simp
 obj:=fun i h st b hb=>by
  have e:b=it:=by simpa using hb
  subst e;obtain⟨⟨o,e,c,d⟩,_⟩:=st;exact⟨o,e,fun v q=>by rw[d]at q;cases q⟩
 keep:=fun i h h' st k=>⟨by
  obtain⟨⟨o,e,c,d⟩,_⟩:=st;exact⟨o,k it (by simp) o e,c,d⟩,st.2⟩
 item:=by
  intro X hP hw hK hc i pins s σ H E I hf st hg;subst hP hw hK;obtain⟨f0,f1,f2,f3,f4,f5⟩:=hf it (by simp);have hgi:i<z.cps.size:=hg;refine(W X.A (I.ok.hd hc)).item i s _ _ hgi st.1 fun v h' tk hv st' kk=>?_;obtain⟨c,u,hc',rfl⟩:=hv;have I1:Inv X pins σ H { s with heap:=h',toks:=tk }:=I.turned (fun b o hb e=>kk b o (by simpa using hb) e) f0 f1 f3 f4 f5;obtain⟨o,e,cc,d⟩:=id st';exact⟨_,rfl,Gq (s:={ s with heap:=h',toks:=tk }) e cc d hT ⟨.str ⟨#[c]⟩,H,I1,⟨u,rfl⟩,⟨rfl,c,hc',rfl⟩,⟨st',hgi⟩,fun b hb=>(hf b hb).1⟩⟩
 done:=by
  intro X hP hw hK hc i pins s σ H E I hf st hg;subst hP hw hK;obtain⟨f0,f1,f2,f3,f4,f5⟩:=hf it (by simp);have hge:z.cps.size<=i:=hg;have e:i=z.cps.size:=Nat.le_antisymm st.2 hge;subst e;exact(W X.A (I.ok.hd hc)).done s _ _ st.1 fun h' tk kk=>⟨rfl,I.turned (fun b o hb e=>kk b o (by simpa using hb) e) f0 f1 f3 f4 f5⟩
 self:=fun A i s Q E st h=>S A i s Q E st.1 h
theorem Ks {tg l:Expr}{tl:TE}(hl:PE X l tl):PI X tg l (UG tl):=by
 intro pins s σ H R I h;refine bU (hl pins s σ H _ I h) fun v s1 eN=>?_;obtain⟨x,H1,I1,r1,q1⟩:=eN;obtain⟨z,rfl,q⟩:=q1;obtain⟨t,rfl⟩:=r1;have fp:∀ b∈[s1.heap.objs.size],gW X pins H1 b:=fun b hb=>by
  have e:b=s1.heap.objs.size:=by simpa using hb
  subst e;exact I1.Bh (Nat.le_refl _) (I1.hok.fresh (Nat.le_refl _))
 cases ha:z.cps.all (· < 128)
 ·refine wpAny_pyIter_wide ha ?_;refine⟨s1.heap.objs.size,[s1.heap.objs.size],_,_,H1,rfl,I1.kept (t':=s1.toks) fun b o e=>Heap.get?_push_of_some _ e,C9 (T:="str_iterator") (t:=t) (by decide) (fun A hA=>Walks.strWide hA _ z t)
   (fun A i s Q E st hq=>wpAny_pyIter_striter_wide st hq),⟨⟨_,Heap.get?_push_size _ rfl,rfl,rfl⟩,Nat.zero_le _⟩,fp,q⟩
 ·refine wpAny_pyIter_ascii ha ?_;refine⟨s1.heap.objs.size,[s1.heap.objs.size],_,_,H1,rfl,I1.kept (t':=s1.toks) fun b o e=>Heap.get?_push_of_some _ e,C9 (T:="str_ascii_iterator") (t:=t) (by decide) (fun A hA=>Walks.strAscii hA _ z t)
   (fun A i s Q E st hq=>wpAny_pyIter_striter_ascii st hq),⟨⟨_,Heap.get?_push_size _ rfl,rfl,rfl⟩,Nat.zero_le _⟩,fp,q⟩
theorem any_range:∀ bs:List Bool,(List.range bs.length).any (fun i=>bs.getD i false)=bs.any id
 |[]=>rfl
 |b::bs=>by
  rw[length_cons,List.range_succ_eq_map,List.any_cons,List.any_map,List.any_cons];have:((fun i=>(b::bs).getD i false) ∘ Nat.succ)=fun i=>bs.getD i false:=by
   funext i
   rfl
  rw[this,any_range bs];rfl
theorem xp:f7 X (.builtin "any") (fun xs H Q=>X.calm=true/\∃(a:Addr)(bs:List Bool),xs=[.ref a]/\aL X.K H a (bs.map V.bl)/\Q (.bl (bs.any id)) H):=by
 intro pins s σ H xs us Q I r h;obtain⟨hc,a,bs,rfl,hq,q⟩:=h;obtain⟨u,rfl,rfl⟩:=r.one;obtain⟨its,rv,p,hz⟩:=I.list hq;have hl:=rv.length;rw[length_map]at hl;have O7:∀(i:Nat)(v:Value),its.toArray[i]? = some v->v=Value.bool (bs.getD i false):=by
  intro i v hv;have hv':its[i]? = some v:=by simpa using hv
  have hi:i<its.length:=(List.getElem?_eq_some_iff.mp hv').1;have hb:i<bs.length:=by omega
  obtain⟨u,hu,ru⟩:=rv.get (i:=i) (x:=.bl (bs[i])) (by rw[getElem?_map,getElem?_eq_getElem hb];rfl);rw[hv']at hu;cases hu;have:v=.bool bs[i]:=ru;rw[this,List.getD_eq_getElem?_getD,getElem?_eq_getElem hb];rfl
 refine call_any_walk (wpAny_pyIter_list p.isList ?_);have UH:a≠s.heap.objs.size:=by
  obtain⟨o,ho,_⟩:=p.isList;exact Nat.ne_of_lt (Heap.lt_size ho)
 have hd:X.A.in1.handled=none:=I.ok.hd hc;refine⟨s.heap.objs.size,_,_,_,_,_,fun i=>bs.getD i false,rfl,Walks.list hd s.heap.objs.size a UH its.toArray,⟨⟨_,Heap.get?_push_size _ rfl,rfl,rfl⟩,p.isList.push _⟩,?_,?_⟩
 ·intro i v s' Q' E' hP hQ';rw[O7 i v hP];exact wpAny_truthy_bool hQ'
 ·intro h' tk kk;have e:(List.range its.toArray.size).any (fun i=>bs.getD i false)=bs.any id:=by
   rw[size_toArray,<-hl];exact any_range bs
  rw[e];refine⟨.bl _,H,I.kept (t':=tk) fun b o e=>kk b o (fun z=>?_) (Heap.get?_push_of_some _ e),rfl,q⟩;have:b=s.heap.objs.size:=by simpa using z
  exact absurd (Heap.lt_size e) (by rw[this];exact Nat.lt_irrefl _)
end
end L2
set_option maxHeartbeats 4000000
namespace L2
open PySem PySem.Spec PyProof.Rows PySem.SeqAt
inductive Kt (K:Frag)(H:Hp):Nat->V->V->Prop where
 |flat {n:Nat} {x:V} (f:pR x=true):Kt K H n x x
 |tup {n:Nat} {a b:Addr} {xs ys:List V} (ha:fc K H a xs) (hb:fc K H b ys) (hl:xs.length=ys.length) (h:∀(i:Nat) x y,xs[i]? = some x->ys[i]? = some y->Kt K H n x y):Kt K H (n+1) (.ref a) (.ref b)
 |lst {n:Nat} {a b:Addr} {xs ys:List V} (ha:aL K H a xs) (hb:aL K H b ys) (hl:xs.length=ys.length) (h:∀(i:Nat) x y,xs[i]? = some x->ys[i]? = some y->Kt K H n x y):Kt K H (n+1) (.ref a) (.ref b)
section
variable {X:Cx} {pins:List (Addr×Obj)} {σ:St} {H:Hp} {s:Shared}
theorem Ku:∀{x:V},pR x=true->GD x x=true:=by
 intro x f;cases x <;> first|(simp[GD];done)|(cases f)
theorem og (n:Nat):(List.range n).all (fun _=>true)=true:=by simp
theorem Kt.at {n:Nat}{x y:V}(d:Kt X.K H n x y)(I:Inv X pins σ H s):∀{A:Around} {u v:Value},A.units+n<cLine->RelV x u->RelV y v ->
  EqAt A s u v true/\(∀ a b,x=.ref a->y=.ref b->RcAt A s u v true/\RcNeAt A s u v false):=by
 induction d with
 | @flat n x f =>
  intro A u v hu ru rv;refine⟨?_,fun a b e _=>?_⟩
  ·have:=Kg (A:=A) (s:=s) ru rv f f;rw[Ku f]at this;exact this
  ·subst e;cases f
 | @tup n a b xs ys ha hb hl h ih =>
  intro A u v hu ru rv;cases ru;cases rv;obtain⟨its,r,p,_⟩:=I.tuple ha;obtain⟨its',r',p',_⟩:=I.tuple hb;have e1:=r.length;have e2:=r'.length;have he:∀ j (h1:j<its.toArray.size) (h2:j<its'.toArray.size),EqAt A.in1 s its.toArray[j] its'.toArray[j] true:=by
   intro j h1 h2;have h1':j<its.length:=by simpa using h1
   have h2':j<its'.length:=by simpa using h2
   have g1:xs[j]? = some xs[j]:=getElem?_eq_getElem (by omega);have g2:ys[j]? = some ys[j]:=getElem?_eq_getElem (by omega);obtain⟨u1,q1,k1⟩:=r.get g1;obtain⟨u2,q2,k2⟩:=r'.get g2;have z1:its.toArray[j]=u1:=by
    rw[getElem?_eq_getElem h1']at q1
    simpa using q1
   have z2:its'.toArray[j]=u2:=by
    rw[getElem?_eq_getElem h2']at q2
    simpa using q2
   rw[z1,z2];exact(ih j _ _ g1 g2 (by show A.units+1+n<cLine;omega) k1 k2).1
  have bt:((List.range (min its.toArray.size its'.toArray.size)).all (fun _=>true)&&its.toArray.size==its'.toArray.size)=true:=by
   rw[og];simp;omega
  have rc:RcAt A s (.ref a) (.ref b) true:=by
   have:=RcAt.tuples (A:=A) (e:=fun _=>true) (show s.heap.IsTuple a its.toArray from p) (show s.heap.IsTuple b its'.toArray from p') (by omega) he;rw[bt]at this;exact this
  have rn:RcNeAt A s (.ref a) (.ref b) false:=by
   have:=RcNeAt.tuples (A:=A) (e:=fun _=>true) (show s.heap.IsTuple a its.toArray from p) (show s.heap.IsTuple b its'.toArray from p') (by omega) he;rw[bt]at this;exact this
  refine⟨?_,fun _ _ _ _=>⟨rc,rn⟩⟩
  by_cases e:a=b
  ·subst e;exact EqAt.same _
  ·exact EqAt.of_refs e rc
 | @lst n a b xs ys ha hb hl h ih =>
  intro A u v hu ru rv;cases ru;cases rv;obtain⟨its,r,p,_⟩:=I.list ha;obtain⟨its',r',p',_⟩:=I.list hb;have e1:=r.length;have e2:=r'.length;have he:∀ j (h1:j<its.toArray.size) (h2:j<its'.toArray.size),EqAt A.in1 s its.toArray[j] its'.toArray[j] true:=by
   intro j h1 h2;have h1':j<its.length:=by simpa using h1
   have h2':j<its'.length:=by simpa using h2
   have g1:xs[j]? = some xs[j]:=getElem?_eq_getElem (by omega);have g2:ys[j]? = some ys[j]:=getElem?_eq_getElem (by omega);obtain⟨u1,q1,k1⟩:=r.get g1;obtain⟨u2,q2,k2⟩:=r'.get g2;have z1:its.toArray[j]=u1:=by
    rw[getElem?_eq_getElem h1']at q1
    simpa using q1
   have z2:its'.toArray[j]=u2:=by
    rw[getElem?_eq_getElem h2']at q2
    simpa using q2
   rw[z1,z2];exact(ih j _ _ g1 g2 (by show A.units+1+n<cLine;omega) k1 k2).1
  have bt:(List.range its.toArray.size).all (fun _=>true)=true:=og _;have rc:RcAt A s (.ref a) (.ref b) true:=by
   have:=RcAt.lists (A:=A) (e:=fun _=>true) p.isList p'.isList (by simp;omega) (by omega) he;rw[bt]at this;exact this
  have rn:RcNeAt A s (.ref a) (.ref b) false:=by
   have:=RcNeAt.lists (A:=A) (e:=fun _=>true) p.isList p'.isList (by simp;omega) (by omega) he;rw[bt]at this;exact this
  refine⟨?_,fun _ _ _ _=>⟨rc,rn⟩⟩
  by_cases e:a=b
  ·subst e;exact EqAt.same _
  ·exact EqAt.of_refs e rc
inductive N9 (K:Frag)(b:Bool)(x:V)(y:V)(H:Hp)(Q:VK):Prop
 |mk (a:_) (c:_) (cH:x=.ref a) (cI:y=.ref c) (dh:Kt K H 60 x y/\Q (.bl b) H):N9 K b x y H Q
noncomputable def Ro (K:Frag)(b:Bool):R2:=fun x y H Q=>N9 K b x y H Q
theorem aU (hu:X.A.units+64<cLine):lh X (compareOp .Eq) (Ro X.K true):=by
 intro pins s σ H x y v u Q I r1 r2 h;obtain⟨a,c,rfl,rfl,d,q⟩:=h;exact(((d.at I (A:=X.A) (by omega) r1 r2).2 a c rfl rfl).1) X.prog X.w X.xe _ ⟨.bl true,H,I,rfl,q⟩
theorem jo (hu:X.A.units+64<cLine):lh X (compareOp .NotEq) (Ro X.K false):=by
 intro pins s σ H x y v u Q I r1 r2 h;obtain⟨a,c,rfl,rfl,d,q⟩:=h;exact(((d.at I (A:=X.A) (by omega) r1 r2).2 a c rfl rfl).2) X.prog X.w X.xe _ ⟨.bl false,H,I,rfl,q⟩
theorem oh:f7 X (.builtin "isinstance") (fun xs H Q=>∃ x T t b,xs=[x,.ty T]/\lq X.K H x t/\kitOne X.K t (.type T)=some b/\Q (.bl b) H):=by
 intro pins s σ H xs us Q I r h;obtain⟨x,T,t,b,rfl,ty,e,q⟩:=h;obtain⟨u,v,rfl,r1,r2⟩:=r.two;cases r2;exact Iv I r1 ty e fun tk=>⟨.bl b,H,I.tok _,rfl,q⟩
noncomputable def Rp (K:Frag)(a:Addr):It :=
 ⟨fun i H=>∃ xs x,aL K H a xs/\xs[i]? = some x,fun i H x H'=>∃ y t,x=.ref t/\H t=none/\(∀ xs,aL K H a xs->xs[i]? = some y)/\H'=upd H t (.tup [.int i,y]),fun i H=>∃ xs,aL K H a xs/\xs.length<=i⟩
theorem du {a:Addr}{K:Frag}{X:Cx}{pins:List (Addr×Obj)}{σ:St}{H:Hp}{s:Shared}{xs:List V}{b:Addr}{o:Obj}(I:Inv X pins σ H s)(hq:aL X.K H a xs)(e:s.heap.get? b=some o)(hc:o.cls≠.type "list"):a≠b:=by
 rintro rfl;obtain⟨its,_,p,_⟩:=I.list hq;obtain⟨o',e',c',_⟩:=p.isList;rw[e]at e';cases e';exact hc c'
theorem Inv.Dc {tk:Nat}{h':Heap}{wr:List Addr}{T:Addr}{xs:List V}{vals:List Value}(I:Inv X pins σ H s)(hw:∀ b∈wr,gW X pins H b)(hT:s.heap.objs.size<=T)(ht:h'.IsTuple T vals.toArray)(rv:Vals xs vals)(hz:xs.length<=sizeLine)
  (kk:∀ b o,b ∉ wr->s.heap.get? b=some o->h'.get? b=some o) (there:∀ b∈wr,∃ o,h'.get? b=some o):Inv X pins σ (upd H T (.tup xs)) { s with heap:=h',toks:=tk }:=by
 have Kv:H T=none:=I.hok.fresh hT;have nT:∀ b o,s.heap.get? b=some o->b≠T:=fun b o e=>Nat.ne_of_lt (Nat.lt_of_lt_of_le (Heap.lt_size e) hT);refine I.step (g':=s.gens) (d':=s.drawn) (ch:=wr) (fun b hb=>?_) (fun b o _ _ hc e _=>kk b o hc e) (fun b o _ _ hc e _=>⟨o.slots,kk b o hc e⟩) (fun b o _ e n=>by rw[ai (nT b o e)];exact n)
  (fun b o hc e=>⟨o,kk b o hc e⟩) (fun b ys e=>by rw[ai (ao e Kv)];exact e) (fun b o u e=>by rw[ai (ao e Kv)];exact e) (fun b ps e=>⟨#[],by rw[ai (ao e Kv),e];simp⟩) (fun m hm=>?_) (fun b u e=>?_) I.bare
 ·obtain⟨_,f1,_,f3,f4,f5⟩:=hw b hb;exact⟨f3,f1,f4,f5⟩
 ·obtain⟨o,es,ep,ho,r⟩:=hm;exact⟨o,es,ep,kk _ o (fun z=>(hw _ z).2.1 rfl) ho,r⟩
 ·by_cases hb:b=T
  ·subst hb;rw[ae]at e;cases e;exact⟨hz,vals,rv,ht⟩
  ·rw[ai hb]at e;refine(I.hok b u e).stay (fun c v hc q=>kk c v (fun z=>?_) q) (fun c q=>by rw[ai (ao q Kv)];exact q) fun c ys q=>by rw[ai (ao q Kv)];exact q
   have hn:=(hw c z).1;rcases hc with hc|hc
   ·rw[hc,e]at hn;cases hn
   ·rw[hc]at hn;cases hn
theorem Inv.fR {tk:Nat}{h':Heap}{wr:List Addr}(I:Inv X pins σ H s)(hw:∀ b∈wr,gW X pins H b)(kk:∀ b o,b ∉ wr->s.heap.get? b=some o->h'.get? b=some o):Inv X pins σ H { s with heap:=h',toks:=tk }:=by
 refine I.step (g':=s.gens) (d':=s.drawn) (ch:=wr) (fun b hb=>?_) (fun b o _ _ hc e _=>kk b o hc e) (fun b o _ _ hc e _=>⟨o.slots,kk b o hc e⟩) (fun b o _ e n=>n)
  (fun b o hc e=>⟨o,kk b o hc e⟩) (fun b ys e=>e) (fun b o u e=>e) (fun b ps e=>⟨#[],by rw[e];simp⟩) (fun m hm=>?_) (fun b u e=>?_) I.bare
 ·obtain⟨_,f1,_,f3,f4,f5⟩:=hw b hb;exact⟨f3,f1,f4,f5⟩
 ·obtain⟨o,es,ep,ho,r⟩:=hm;exact⟨o,es,ep,kk _ o (fun z=>(hw _ z).2.1 rfl) ho,r⟩
 ·refine(I.hok b u e).stay (fun c v hc q=>kk c v (fun z=>?_) q) (fun c q=>q) fun c ys q=>q;have hn:=(hw c z).1;rcases hc with hc|hc
  ·rw[hc,e]at hn;cases hn
  ·rw[hc]at hn;cases hn
end
end L2
set_option maxHeartbeats 4000000
namespace L2
open PySem PySem.Spec PyProof.Rows PySem.SeqAt
section
variable {X:Cx}
theorem aE {k:Nat}{A:Around}(hr:ee k A):A.units+64<cLine:=hr.units
theorem br:bootBuiltins "len"=some (.builtin "len"):=by lk
theorem O8:bootBuiltins "min"=some (.builtin "min"):=by lk
theorem O9:bootBuiltins "max"=some (.builtin "max"):=by lk
theorem rb:bootBuiltins "enumerate"=some (.type "enumerate"):=by lk
theorem Kw:bootBuiltins "zip"=some (.type "zip"):=by lk
theorem fu:bootBuiltins "isinstance"=some (.builtin "isinstance"):=by lk
theorem tW:bootBuiltins "int"=some (.type "int"):=by lk
theorem ME:bootBuiltins "bool"=some (.type "bool"):=by lk
theorem Fc:bootBuiltins "str"=some (.type "str"):=by lk
theorem mv:bootBuiltins "list"=some (.type "list"):=by lk
theorem Fd:bootBuiltins "any"=some (.builtin "any"):=by lk
theorem Kx:bootBuiltins "all"=some (.builtin "all"):=by lk
theorem wN:bootBuiltins "dict"=some (.type "dict"):=by lk
end
end L2
namespace L2
open PySem PySem.Spec PyProof.Rows
end L2
namespace L2
open PySem
theorem cY {K:Frag}{H:Hp}{a l:Addr}{o:HO}{xs:List V}(h:aL K H a xs)(hn:H l=none):aL K (upd H l o) a xs:=by
 have ne:∀{u},H a=some u->a≠l:=fun e=>ao e hn;rcases h with (h|⟨u,h⟩)|h
 ·exact .inl (.inl (by rw[ai (ne h)];exact h))
 ·exact .inl (.inr ⟨u,by rw[ai (ne h)];exact h⟩)
 ·exact .inr h
theorem aq.upd {H:Hp}{l:Addr}{o:HO}(hn:H l=none):aq H (upd H l o):=fun b u e=>by
 rw[ai (ao e hn)];exact e
end L2
namespace L2
theorem aG {X:Cx}{b:List PySem.Stmt}{t:TS}{D:Ends}{σ:St}{H:Hp}(h:wJ X b t)(q:t D σ H):∃ t,wJ X b t/\t D σ H:=⟨t,h,q⟩
theorem dF (i j:Int):decide (V.int i=V.int j)=decide (i=j):=by
 by_cases h:i=j
 ·subst h;simp
 ·rw[decide_eq_false h];exact decide_eq_false fun e=>h (V.int.inj e)
end L2
namespace L2
open PySem
end L2
namespace L2
open PySem
end L2
set_option maxHeartbeats 4000000
namespace L2
open PySem PySem.Spec PyProof.Rows
section
variable {X:Cx} {tg:Expr}
theorem pF {pins:List (Addr×Obj)}{σ:St}{H:Hp}{s:Shared}{a:Addr}{xs:List V}{i:Nat}{y:V}(I:Inv X pins σ H s)(hq:aL X.K H a xs)(hy:xs[i]? = some y):∀ ys,aL X.K H a ys->ys[i]? = some y:=fun ys h=>by
 rw[I.CZ h hq];exact hy
theorem IE {P:Program}{w:World}{K:Frag}{es:List Expr}{k:Nat}{tp:Pos}(a e it:Addr)(hei:e≠it) :
  Turn P w K (.Tuple es k tp) (Rp K a) [e,it] e (fun i h=>(∃ old,IsEnum h e it i old)/\h.IsListIter it a i) where
 mem:=by simp
 obj:=fun i h st b hb=>by
  obtain⟨⟨old,he⟩,o,e2,c,d⟩:=st;rcases List.mem_cons.mp hb with rfl|hb
  ·exact⟨_,he,fun v z=>by
    have z':Data.fields _=Data.cell v:=z;cases z'⟩
  ·have:b=it:=by simpa using hb
   subst this;exact⟨o,e2,fun v z=>by rw[d]at z;cases z⟩
 keep:=fun i h h' st kp=>by
  obtain⟨⟨old,he⟩,hit⟩:=st;exact⟨⟨old,kp e (by simp) _ he⟩,hit.at fun o x=>kp it (by simp) o x⟩
 item:=by
  intro X hP hw hK hc i pins s σ H E I hf st hg;subst hP hw hK;obtain⟨xs,x,hq,hx⟩:=hg;obtain⟨its,rv,p,hz⟩:=I.list hq;obtain⟨u,hu,ru⟩:=rv.get hx;obtain⟨⟨old,he⟩,hit⟩:=st;have hle:a≠e:=du (K:=X.K) I hq he (by intro z;injection z with z;exact absurd z (by decide));have hli:a≠it:=by
   obtain⟨o,e2,c,_⟩:=hit;exact du (K:=X.K) I hq e2 (by rw[c];intro z;injection z with z;exact absurd z (by decide))
  have Xt:i<its.toArray.size:=by
   have:=(List.getElem?_eq_some_iff.mp hu).1
   simpa using this
  have W:=WalksT.enumerate (prog:=X.prog) (w:=X.w) (I.ok.hd hc) e it a hei hle hli its.toArray;refine W.item i s _ _ Xt ⟨⟨old,he⟩,hit,p.isList⟩ fun T vals h' tk hv hT ht mid kk=>?_;refine⟨_,rfl,?_⟩;obtain⟨t,x',hx',rfl⟩:=hv;have ex:x'=u:=by
   have:its[i]? = some x':=by simpa using hx'
   rw[hu]at this;exact(Option.some.inj this).symm
  subst ex;have fw:∀ b∈[e,it],gW X pins H b:=hf;have I1:Inv X pins σ (upd H T (.tup [.int i,x])) { s with heap:=h',toks:=tk }:=by
   refine I.Dc (vals:=[.int i t,x']) fw hT (by simpa using ht) (.cons ⟨t,rfl⟩ (.cons ru .nil)) (by show 2<=sizeLine;decide) kk fun b hb=>?_;obtain⟨⟨xx,ho⟩,⟨o,e2,_⟩,_⟩:=mid;rcases List.mem_cons.mp hb with rfl|hb
   ·exact⟨_,ho⟩
   ·have:b=it:=by simpa using hb
    subst this;exact⟨o,e2⟩
  have Kv:H T=none:=I.hok.fresh hT;have neT:∀ b∈[e,it],b≠T:=fun b hb z=>by
   subst z;exact W.apart i b _ mid hb
  refine W.go es k tp i T _ _ _ mid fun h'' st'' UI=>?_;have hf2:∀ b∈[e,it],gW X pins (upd H T (.tup [.int i,x])) b:=fun b hb=>by
   obtain⟨f0,fr⟩:=hf b hb;exact⟨by rw[ai (neT b hb)];exact f0,fr⟩
  refine⟨.ref T,upd H T (.tup [.int i,x]),I1.fR (tk:=tk) hf2 UI,rfl,⟨x,T,rfl,Kv,pF I hq hx,rfl⟩,⟨st''.1,st''.2.1⟩,fun b hb=>(hf2 b hb).1⟩
 done:=by
  intro X hP hw hK hc i pins s σ H E I hf st hg;subst hP hw hK;obtain⟨xs,hq,hx⟩:=hg;obtain⟨its,rv,p,hz⟩:=I.list hq;obtain⟨⟨old,he⟩,hit⟩:=st;have hl:=rv.length;refine wpAny_pyNext_enum_end (I.ok.hd hc) he hit p.isList (Array.getElem?_eq_none (by simp;omega)) fun h' hx'=>?_;exact⟨rfl,I.fR (tk:=s.toks) hf fun b o hb q=>hx' b o (fun z=>hb (by simp[z])) q⟩
 self:=fun _ _ _ _ _ st h=>by
  obtain⟨⟨old,he⟩,_⟩:=st;exact wpAny_pyIter_enum he h
theorem Pa {l:Expr}{tl:TE}(hl:PE X l tl)(hs:starEach [l] X.env=[(false,eval l X.env)])(pos:Pos)(pins:List (Addr×Obj))(s:Shared)(σ:St)(H:Hp){Q:VK}(I:Inv X pins σ H s)(h:tl σ H Q) :
  wpAny (model X.prog X.w) X.A (spliced (backTo pos (starEach [l] X.env))) (fun us s1=>∃ v u H1,Inv X pins σ H1 s1/\us=[u]/\RelV v u/\Q v H1) X.xe s:=by
 have ha:PA X [l] (fun σ H Q=>tl σ H fun x H1=>Q [x] H1):=aa hl ag hs;have mono:wpAny (model X.prog X.w) X.A (spliced (backTo pos (starEach [l] X.env))) (AP X pins σ fun vs H1=>∃ v,vs=[v]/\Q v H1) X.xe s:=by
  have he:PE X l (fun σ' H' Q'=>σ'=σ/\H'=H/\∀ v H1,Q v H1->Q' v H1):=by
   intro pins s σ' H' Q' I' hw;obtain⟨rfl,rfl,hm⟩:=hw;exact bU (hl pins s σ' H' Q I' h) fun u s1 ⟨v,H1,I1,r,q⟩=>⟨v,H1,I1,r,hm v H1 q⟩
  exact aa he ag hs pos pins s σ H _ I ⟨rfl,rfl,fun v H1 q=>⟨v,rfl,q⟩⟩
 refine bU mono fun us s1 eN=>?_;obtain⟨vs,H1,I1,r,v,e,q⟩:=eN;subst e;obtain⟨u,rfl,ru⟩:=r.one;exact⟨v,u,H1,I1,rfl,ru,q⟩
inductive Ky (K:Frag)(R:(It->Hp->Prop))(x:V)(H1:Hp):Prop
 |mk (a:_) (cH:x=.ref a) (cI:(∃ xs,aL K H1 a xs)/\R (Rp K a) H1):Ky K R x H1
noncomputable def Rq (K:Frag)(tl:TE):TI:=fun σ H R=>tl σ H fun x H1=>Ky K R x H1
theorem GL {l:Expr}{tl:TE}{p pos tp:Pos}{es:List Expr}{k:Nat}(hg:Gl X "enumerate")(hm:X.mg "enumerate"=none)(hl:PE X l tl)(hs:starEach [l] X.env=[(false,eval l X.env)]:=by rfl) :
  PI X (.Tuple es k tp) (.Call (.Name "enumerate" p) [l] [] pos) (Rq X.K tl):=by
 intro pins s σ H R I h;refine Call_ (kL I hg hm rb (PyProof.Rows.callWith_type1 (bU (Pa hl hs pos pins s σ H I h) fun us s1 ⟨v,u,H1,I1,e1,r1,q1⟩=>?_) (by rw[hs];rfl) (by rfl)))
 ·obtain⟨a,rfl,⟨xs,hq⟩,q⟩:=q1;subst e1;cases r1;obtain⟨its,rv,pl,hz⟩:=I1.list hq;refine call_enumerate_list pl.isList fun h' he hit hsz kk=>?_;have Xu:s1.heap.objs.size+1≠s1.heap.objs.size:=Nat.succ_ne_self _;refine wpAny_pyIter_enum he ?_;refine⟨s1.heap.objs.size+1,[s1.heap.objs.size+1,s1.heap.objs.size],_,_,H1,rfl,I1.kept (t':=s1.toks) kk,IE a _ _ Xu,⟨⟨.none,he⟩,hit⟩,fun b hb=>?_,q⟩;have hb':s1.heap.objs.size<=b:=by
   rcases List.mem_cons.mp hb with rfl|hb
   ·exact Nat.le_succ _
   ·have:b=s1.heap.objs.size:=by simpa using hb
    rw[this];exact Nat.le_refl _
  exact I1.Bh hb' (I1.hok.fresh hb')
end
end L2
set_option maxHeartbeats 4000000
namespace L2
open PySem PySem.Spec PyProof.Rows
structure tX (z TI TO i1 i2:Addr):Prop where
 TIz:TI≠z
 TOz:TO≠z
 i1z:i1≠z
 i2z:i2≠z
 TITO:TI≠TO
 TIi1:TI≠i1
 TIi2:TI≠i2
 TOi1:TO≠i1
 TOi2:TO≠i2
 i12:i1≠i2
section
variable {X:Cx}
noncomputable def Rr (z TI TO i1 i2 a b:Addr)(i:Nat)(h:Heap):Prop:=IsZip h z TI TO .none/\IsPair h TI (.ref i1) (.ref i2)/\(∃ x y,IsPair h TO x y)/\h.IsListIter i1 a i/\h.IsListIter i2 b i
theorem Kz {l m:Expr}{tl tm:TE}(hl:PE X l tl)(hm:PE X m tm)(hs:starEach [l,m] X.env=[(false,eval l X.env),(false,eval m X.env)])(hs2:starEach [m] X.env=[(false,eval m X.env)])(pos:Pos)(pins:List (Addr×Obj))(s:Shared)(σ:St)(H:Hp){Q:V->V->Hp->Prop}(I:Inv X pins σ H s)(h:tl σ H fun x H1=>tm σ H1 fun y H2=>Q x y H2) :
  wpAny (model X.prog X.w) X.A (spliced (backTo pos (starEach [l,m] X.env))) (fun us s1=>∃ x y u v H1,Inv X pins σ H1 s1/\us=[u,v]/\RelV x u/\RelV y v/\Q x y H1) X.xe s:=by
 have he:PE X l (fun σ' H' Q'=>σ'=σ/\H'=H/\∀ x H1,(tm σ H1 fun y H2=>Q x y H2)->Q' x H1):=by
  intro pins s σ' H' Q' I' hw;obtain⟨rfl,rfl,k⟩:=hw;exact bU (hl pins s σ' H' _ I' h) fun u s1 ⟨v,H1,I1,r,q⟩=>⟨v,H1,I1,r,k v H1 q⟩
 have hf:PE X m (fun σ' H' Q'=>∃ x,σ'=σ/\(tm σ H' fun y H2=>Q x y H2)/\∀ y H2,Q x y H2->Q' y H2):=by
  intro pins s σ' H' Q' I' hw;obtain⟨x,rfl,hh,k⟩:=hw;exact bU (hm pins s σ' H' _ I' hh) fun u s1 ⟨v,H1,I1,r,q⟩=>⟨v,H1,I1,r,k v H1 q⟩
 have main:=aa he (aa hf ag hs2) (by rw[hs,hs2]) pos pins s σ H (fun vs H2=>∃ x y,vs=[x,y]/\Q x y H2) I ⟨rfl,rfl,fun x H1 q=>⟨x,rfl,q,fun y H2 q2=>⟨x,y,rfl,q2⟩⟩⟩;refine bU main fun us s1 eN=>?_;obtain⟨vs,H1,I1,r,x,y,e,q⟩:=eN;subst e;obtain⟨u,v,rfl,r1,r2⟩:=r.two;exact⟨x,y,u,v,H1,I1,rfl,r1,r2,q⟩
end
end L2
set_option maxHeartbeats 4000000
namespace L2
open PySem
noncomputable abbrev GN (J:It)(g:TG)(tc:TT)(te:TE)(D:Addr)(R:Hp->Prop)(σ:St)(H:Hp):Prop:=∃ W:Nat->Nat->List V->St->Hp->Prop,(∃ m,W 0 m [] σ H)/\∀ i m ys σ H,W i m ys σ H ->
  (J.stop i H/\R H)\/(J.go i H/\∀ x H',J.JZ i H x H'->g x σ H' fun ZZ H2=>tc ZZ H2 fun ok H3 =>
   if ok=true then te ZZ H3 fun y H4=>H4 D=some (.lst ys)/\ys.length<sizeLine/\∃ m',m'<m/\W (i+1) m' (ys++[y]) ZZ (upd H4 D (.lst (ys++[y])))
   else ∃ m',m'<m/\W (i+1) m' ys ZZ H3)
noncomputable abbrev uG (g:TG)(tc:TT)(te:TE)(D:Addr)(ys:List V)(x:V)(σ:St)(H:Hp)(N:List V->St->Hp->Prop):Prop :=
 g x σ H fun ZZ H2=>tc ZZ H2 fun ok H3=>if ok=true then te ZZ H3 fun y H4=>H4 D=some (.lst ys)/\ys.length<sizeLine/\N (ys++[y]) ZZ (upd H4 D (.lst (ys++[y]))) else N ys ZZ H3
theorem qw {lo:Int}{n:Nat}{g:TG}{tc:TT}{te:TE}{D:Addr}{R:Hp->Prop}{σ:St}{H:Hp}(Pv:Nat->List V->St->Hp->Prop)(h0:Pv 0 [] σ H)
  (hs:∀ i ys σ H,i<n->Pv i ys σ H->∀ N:List V->St->Hp->Prop,(∀ ys σ H,Pv (i+1) ys σ H->N ys σ H)->uG g tc te D ys (.int (lo+i)) σ H N) (hd:∀ ys σ H,Pv n ys σ H->R H):GN (NQ lo n) g tc te D R σ H:=by
 refine⟨fun i m ys σ H=>m=n-i/\i<=n/\Pv i ys σ H,⟨n,by simp,Nat.zero_le _,h0⟩,?_⟩;rintro i m ys σ H ⟨rfl,hi,p⟩
 by_cases hlt:i<n
 ·refine .inr ⟨hlt,fun x H' y=>?_⟩;obtain⟨e,y⟩:=y;subst e y;exact hs i ys σ _ hlt p (fun ys' σ' H'=>∃ m',m'<n-i/\m'=n-(i+1)/\i+1<=n/\Pv (i+1) ys' σ' H') fun ys' σ' H' q=>⟨n-(i+1),by omega,rfl,hlt,q⟩
 ·have e:i=n:=by omega
  subst e;exact .inl ⟨Nat.le_refl _,hd ys σ H p⟩
theorem dG {K:Frag}{a:Addr}{xs:List V}{g:TG}{tc:TT}{te:TE}{D:Addr}{R:Hp->Prop}{σ:St}{H:Hp}(Pv:Nat->List V->St->Hp->Prop)(h0:Pv 0 [] σ H)(hl:∀ i ys σ H,Pv i ys σ H->aL K H a xs)
  (hs:∀ i ys x σ H,xs[i]? = some x->Pv i ys σ H->∀ N:List V->St->Hp->Prop,(∀ ys σ H,Pv (i+1) ys σ H->N ys σ H)->uG g tc te D ys x σ H N) (hd:∀ ys σ H,Pv xs.length ys σ H->R H):GN (Ql K a) g tc te D R σ H:=by
 refine⟨fun i m ys σ H=>m=xs.length-i/\i<=xs.length/\Pv i ys σ H,⟨xs.length,by simp,Nat.zero_le _,h0⟩,?_⟩;rintro i m ys σ H ⟨rfl,hi,p⟩;have q:=hl i ys σ H p
 by_cases hlt:i<xs.length
 ·refine .inr ⟨⟨xs,xs[i],q,by simp[hlt]⟩,fun x H' y=>?_⟩;obtain⟨e,y⟩:=y;subst e;exact hs i ys x σ _ (y xs q) p (fun ys' σ' H'=>∃ m',m'<xs.length-i/\m'=xs.length-(i+1)/\i+1<=xs.length/\Pv (i+1) ys' σ' H') fun ys' σ' H' q=>⟨xs.length-(i+1),by omega,rfl,hlt,q⟩
 ·have e:i=xs.length:=by omega
  subst e;exact .inl ⟨⟨xs,q,Nat.le_refl _⟩,hd ys σ H p⟩
theorem Df {z:Str}{g:TG}{tc:TT}{te:TE}{D:Addr}{R:Hp->Prop}{σ:St}{H:Hp}(Pv:Nat->List V->St->Hp->Prop)(h0:Pv 0 [] σ H)
  (hs:∀ i ys c σ H,z.cps[i]? = some c->Pv i ys σ H->∀ N:List V->St->Hp->Prop,(∀ ys σ H,Pv (i+1) ys σ H->N ys σ H)->uG g tc te D ys (.str ⟨#[c]⟩) σ H N) (hd:∀ ys σ H,Pv z.cps.size ys σ H->R H):GN (UE z) g tc te D R σ H:=by
 refine⟨fun i m ys σ H=>m=z.cps.size-i/\i<=z.cps.size/\Pv i ys σ H,⟨z.cps.size,by simp,Nat.zero_le _,h0⟩,?_⟩;rintro i m ys σ H ⟨rfl,hi,p⟩
 by_cases hlt:i<z.cps.size
 ·refine .inr ⟨hlt,fun x H' y=>?_⟩;obtain⟨e,c,hc,y⟩:=y;subst e y;exact hs i ys c σ _ hc p (fun ys' σ' H'=>∃ m',m'<z.cps.size-i/\m'=z.cps.size-(i+1)/\i+1<=z.cps.size/\Pv (i+1) ys' σ' H') fun ys' σ' H' q=>⟨z.cps.size-(i+1),by omega,rfl,hlt,q⟩
 ·have e:i=z.cps.size:=by omega
  subst e;exact .inl ⟨Nat.le_refl _,hd ys σ H p⟩
theorem Dg {K:Frag}{a:Addr}{xs:List V}{g:TG}{tb:TS}{D:Ends}{σ:St}{H:Hp}(Pv:Nat->St->Hp->Prop)(h0:Pv 0 σ H)(hl:∀ i σ H,Pv i σ H->aL K H a xs)
  (hs:∀ i x t σ H,xs[i]? = some x->Pv i σ H->H t=none->g (.ref t) σ (upd H t (.tup [.int i,x])) fun ZZ H2=>tb { D with nx:=Pv (i+1),ct:=Pv (i+1),bk:=D.nx } ZZ H2) (hd:∀ σ H,Pv xs.length σ H->D.nx σ H) :
  ∃ W:Nat->Nat->St->Hp->Prop,(∃ m,W 0 m σ H)/\∀ i m σ H,W i m σ H ->
   ((Rp K a).stop i H/\D.nx σ H)\/((Rp K a).go i H/\∃ N:St->Hp->Prop,(∀ σ' H',N σ' H'->∃ m',m'<m/\W (i+1) m' σ' H')/\∀ x H',(Rp K a).JZ i H x H'->g x σ H' fun ZZ H2=>tb { D with nx:=N,ct:=N,bk:=D.nx } ZZ H2):=by
 refine⟨fun i m σ H=>m=xs.length-i/\i<=xs.length/\Pv i σ H,⟨xs.length,by simp,Nat.zero_le _,h0⟩,?_⟩;rintro i m σ H ⟨rfl,hi,p⟩;have q:=hl i σ H p
 by_cases hlt:i<xs.length
 ·refine .inr ⟨⟨xs,xs[i],q,by simp[hlt]⟩,Pv (i+1),fun σ' H' p'=>⟨xs.length-(i+1),by omega,rfl,hlt,p'⟩,fun x H' y=>?_⟩;obtain⟨y0,t,rfl,hn,hy,rfl⟩:=y;exact hs i y0 t σ H (hy xs q) p hn
 ·have e:i=xs.length:=by omega
  subst e;exact .inl ⟨⟨xs,q,Nat.le_refl _⟩,hd σ H p⟩
end L2
namespace L2
open PySem
theorem bZ {j:Nat}{te:TE}{D:Addr}{ys:List V}{x:V}{σ:St}{H:Hp}{N:List V->St->Hp->Prop}
  (h:te (σ.set j (some x)) H fun y H4=>H4 D=some (.lst ys)/\ys.length<sizeLine/\N (ys++[y]) (σ.set j (some x)) (upd H4 D (.lst (ys++[y])))):uG (xf j) O4 te D ys x σ H N:=by
 unfold uG xf O4;exact(if_pos (rfl:true=true)).mpr h
end L2
set_option maxHeartbeats 4000000
namespace L2
open PySem PySem.Spec PyProof.Rows
open Sem (wp)
noncomputable abbrev qx (h:Heap)(z TI TO:Addr)(f0 f1:Value):Prop :=
 h.get? z=some { cls:=.type "zip",dict:=none,data:=.fields #[f0,f1,.bool false,.ref TI,.ref TO],slots:=#[] }
noncomputable def Loose (f0 f1:Value):Prop:=(f0=.none\/∃ a:Nat,f0=rawInt (a:Int))/\∃ b,f1=.bool b
section
variable {prog:Program} {w:World} {A:Around} {E:Value->Shared->Prop} {s:Shared}
theorem IF {a:Addr}{Q:Option Obj->Shared->Prop}(h:∀ o,Q o s):wpAny (model prog w) A (loadIfAlive a) Q E s:=fun _ _ _=>h _
theorem Dh {z TI TO:Addr}{f0 f1:Value}{Q:Bool->Shared->Prop}(hz:qx s.heap z TI TO f0 f1)(hf:Loose f0 f1)
  (hQ:∀(r:Bool)(h':Heap)(g1:Value),qx h' z TI TO f0 g1->Loose f0 g1->Heap.SameBut z s.heap h'->Q r { s with heap:=h' }) :
  wpAny (model prog w) A (Builtin.SmallTypes.ownedTupleIsFree (.ref z)) Q E s:=by
 unfold Builtin.SmallTypes.ownedTupleIsFree;refine wpAny_bind (wpAny_field hz rfl (x:=f0) rfl ?_);obtain⟨Xv,b,rfl⟩:=hf;rcases Xv with rfl|⟨a,rfl⟩
 ·exact wpAny_pure (hQ true s.heap _ hz ⟨.inl rfl,b,rfl⟩ ⟨rfl,fun _ _=>rfl⟩)
 ·show wpAny _ _ (loadIfAlive ((a:Int).toNat) >>= _) _ _ _;refine wpAny_bind (IF fun o=>?_);cases o with
  |none =>
   simp only [Option.isNone_none,if_true];exact wpAny_pure (hQ true s.heap _ hz ⟨.inr ⟨a,rfl⟩,b,rfl⟩ ⟨rfl,fun _ _=>rfl⟩)
  |some o =>
   simp only [Option.isNone_some,Bool.false_eq_true,if_false];refine wpAny_bind (wpAny_field hz rfl (x:=.bool b) rfl ?_);cases b with
   |true =>
    exact wpAny_pure (hQ false s.heap _ hz ⟨.inr ⟨a,rfl⟩,true,rfl⟩ ⟨rfl,fun _ _=>rfl⟩)
   |false =>
    show wpAny _ _ (setField (.ref z) 1 (.bool true) >>= _) _ _ _;refine wpAny_bind (wpAny_setField_rec hz (by simp) fun h₁ hz₁ hs₁=>?_);exact wpAny_pure (hQ false h₁ _ hz₁ ⟨.inr ⟨a,rfl⟩,true,rfl⟩ hs₁)
theorem IG {z TI TO i1 i2 l1 l2:Addr}{k1 k2:Nat}{xs ys:Array Value}{x y a b f0 f1:Value}{Q:Value->Shared->Prop}(D:ZipApart z TI TO i1 i2 l1 l2)
  (hz:qx s.heap z TI TO f0 f1) (hf:Loose f0 f1) (hTI:IsPair s.heap TI (.ref i1) (.ref i2)) (hTO:IsPair s.heap TO a b)
  (h1:s.heap.IsListIter i1 l1 k1) (h2:s.heap.IsListIter i2 l2 k2) (hl1:s.heap.IsList l1 xs) (hl2:s.heap.IsList l2 ys) (hx:xs[k1]? = some x) (hy:ys[k2]? = some y)
  (hQ:∀ h',(∃ g0 g1,qx h' z TI TO g0 g1/\Loose g0 g1)->(∃ a b,IsPair h' TO a b)->h'.IsListIter i1 l1 (k1+1)->h'.IsListIter i2 l2 (k2+1)->IsPair h' s.heap.objs.size x y->h'.objs.size=s.heap.objs.size+1 ->
   (∀ c o,c≠z->c≠TO->c≠i1->c≠i2->s.heap.get? c=some o->h'.get? c=some o)->Q (.ref s.heap.objs.size) { s with heap:=h' }) :
  wpAny (model prog w) A (Builtin.«zip.__next__» ⟨[.ref z],[]⟩) (fun fin s'=>∃ v,fin=.done (.ret v)/\Q v s') E s:=by
 show wpAny _ _ (field (.ref z) 2 >>= _) _ _ _;refine wpAny_bind (wpAny_field hz rfl (x:=.bool false) rfl ?_);show wpAny _ _ (field (.ref z) 3 >>= _) _ _ _;refine wpAny_bind (wpAny_field hz rfl (x:=.ref TI) rfl ?_);refine wpAny_bind (wpAny_seqItems hTI rfl ?_);show wpAny _ _ (Builtin.SmallTypes.ownedTupleIsFree (.ref z) >>= _) _ _ _;refine wpAny_bind (Dh hz hf fun r h₀ g1 Qn hl₀ hs₀=>?_);cases r with
 |true =>
  simp only [if_true];refine wpAny_bind (wpAny_rule ?_);refine wpAny_bind (wpAny_field Qn rfl (x:=.ref TO) rfl ?_);refine wpAny_bind (wpAny_setField_rec Qn (by simp) fun h₁ hz₁ KA=>?_)
  replace hz₁:qx h₁ z TI TO .ellipsis g1:=hz₁
  have hs₁:Heap.SameBut z s.heap h₁:=⟨KA.1.trans hs₀.1,fun c hc=>(KA.2 c hc).trans (hs₀.2 c hc)⟩;refine wpAny_bind ?_;simp only [List.zipIdx_cons,List.zipIdx_nil,List.forIn_cons,List.forIn_nil];refine wpAny_bind (wpAny_bind (wpAny_onRaise ?_));show wpAny _ _ (Builtin.SmallTypes.nextOf (.ref i1) >>= _) _ _ _;refine wpAny_bind (wpAny_nextOf_list_item (h1.extBut hs₁.extBut D.i1z) (hl1.extBut hs₁.extBut D.l1z) hx fun h₂ h1₂ hs₂=>wpAny_pure ?_);have hTO₂:IsPair h₂ TO a b:=hs₂.extBut _ _ D.TOi1 (hs₁.extBut _ _ D.TOz hTO);refine wpAny_bind (wpAny_seqItems hTO₂ rfl ?_);refine wpAny_bind (wpAny_updateSeq_pair hTO₂ fun h₃ hTO₃ hs₃=>?_)
  replace hTO₃:IsPair h₃ TO x b:=hTO₃
  refine wpAny_bind (wpAny_letGo (wpAny_pure ?_));refine wpAny_bind (wpAny_bind (wpAny_onRaise ?_));show wpAny _ _ (Builtin.SmallTypes.nextOf (.ref i2) >>= _) _ _ _;refine wpAny_bind (wpAny_nextOf_list_item (((h2.extBut hs₁.extBut D.i2z).extBut hs₂.extBut D.i12.symm).extBut hs₃.extBut D.TOi2.symm)
   (((hl2.extBut hs₁.extBut D.l2z).extBut hs₂.extBut D.l2i1).extBut hs₃.extBut D.l2TO) hy fun h₄ h2₄ hs₄=>wpAny_pure ?_)
  have hTO₄:IsPair h₄ TO x b:=hs₄.extBut _ _ D.TOi2 hTO₃;refine wpAny_bind (wpAny_seqItems hTO₄ rfl ?_);refine wpAny_bind (wpAny_updateSeq_pair hTO₄ fun h₅ hTO₅ hs₅=>?_)
  replace hTO₅:IsPair h₅ TO x y:=hTO₅
  refine wpAny_bind (wpAny_letGo (wpAny_pure (wpAny_pure ?_)));refine wpAny_bind (wpAny_seqItems hTO₅ rfl ?_);refine wpAny_bind (wpAny_newTuple ?_);have hsz:h₅.objs.size=s.heap.objs.size:=by rw[hs₅.1,hs₄.1,hs₃.1,hs₂.1,hs₁.1]
  have hz₅:qx h₅ z TI TO .ellipsis g1:=hs₅.extBut _ _ D.TOz.symm (hs₄.extBut _ _ D.i2z.symm (hs₃.extBut _ _ D.TOz.symm (hs₂.extBut _ _ D.i1z.symm hz₁)));have hk₅:∀ c o,c≠z->c≠TO->c≠i1->c≠i2->s.heap.get? c=some o->h₅.get? c=some o:=fun c o c1 c2 c3 c4 e =>
   hs₅.extBut _ _ c2 (hs₄.extBut _ _ c4 (hs₃.extBut _ _ c2 (hs₂.extBut _ _ c3 (hs₁.extBut _ _ c1 e))))
  have h1₅:h₅.IsListIter i1 l1 (k1+1):=((h1₂.extBut hs₃.extBut D.TOi1.symm).extBut hs₄.extBut D.i12).extBut hs₅.extBut D.TOi1.symm;have h2₅:h₅.IsListIter i2 l2 (k2+1):=h2₄.extBut hs₅.extBut D.TOi2.symm;have hzlt:z<h₅.objs.size:=Heap.lt_size hz₅;show wpAny _ _ (Builtin.SmallTypes.ownedTupleHandOut (.ref z) (.ref h₅.objs.size) >>= _) _ _ _;refine wpAny_bind ?_;unfold Builtin.SmallTypes.ownedTupleHandOut;have hz₆:qx (h₅.push { cls:=.type "tuple",data:=.seq #[x,y] }) z TI TO .ellipsis g1:=Heap.get?_push_of_some _ hz₅;refine wpAny_bind (wpAny_setField_rec hz₆ (by simp) fun h₇ hz₇ hs₇=>?_)
  replace hz₇:qx h₇ z TI TO (rawInt h₅.objs.size) g1:=hz₇
  refine wpAny_setField_rec hz₇ (by simp) fun h₈ hz₈ hs₈=>?_
  replace hz₈:qx h₈ z TI TO (rawInt h₅.objs.size) (.bool false):=hz₈
  have up:∀ c o,c≠z->h₅.get? c=some o->h₈.get? c=some o:=fun c o c1 e=>hs₈.extBut _ _ c1 (hs₇.extBut _ _ c1 (Heap.get?_push_of_some _ e));have hT₈:IsPair h₈ h₅.objs.size x y:=hs₈.extBut _ _ (Nat.ne_of_gt hzlt) (hs₇.extBut _ _ (Nat.ne_of_gt hzlt) (Heap.get?_push_size _ rfl));have hz8:h₈.objs.size=h₅.objs.size+1:=by rw[hs₈.1,hs₇.1,Heap.size_push]
  have hloose:∃ g0 g1,qx h₈ z TI TO g0 g1/\Loose g0 g1:=⟨_,_,hz₈,.inr ⟨_,rfl⟩,_,rfl⟩;rw[hsz]at hT₈ hz8;refine wpAny_pure ⟨_,rfl,?_⟩;show Q (.ref h₅.objs.size) _;rw[hsz];exact hQ h₈ hloose ⟨_,_,up _ _ D.TOz hTO₅⟩ (h1₅.at fun o e=>up _ o D.i1z e) (h2₅.at fun o e=>up _ o D.i2z e) hT₈ hz8 fun c o c1 c2 c3 c4 e=>up c o c1 (hk₅ c o c1 c2 c3 c4 e)
 |false =>
  simp only [Bool.false_eq_true,if_false];have hs₁:=hs₀;refine wpAny_bind ?_;rw[<-Array.forIn_toList];simp only [List.forIn_cons,List.forIn_nil];refine wpAny_bind (wpAny_bind (wpAny_holding ?_));show wpAny _ _ (Builtin.SmallTypes.nextOf (.ref i1) >>= _) _ _ _;refine wpAny_bind (wpAny_nextOf_list_item (h1.extBut hs₁.extBut D.i1z) (hl1.extBut hs₁.extBut D.l1z) hx fun h₂ h1₂ hs₂=>wpAny_pure (wpAny_pure ?_));refine wpAny_bind (wpAny_bind (wpAny_holding ?_));show wpAny _ _ (Builtin.SmallTypes.nextOf (.ref i2) >>= _) _ _ _;refine wpAny_bind (wpAny_nextOf_list_item ((h2.extBut hs₁.extBut D.i2z).extBut hs₂.extBut D.i12.symm)
   ((hl2.extBut hs₁.extBut D.l2z).extBut hs₂.extBut D.l2i1) hy fun h₄ h2₄ hs₄=>wpAny_pure (wpAny_pure (wpAny_pure ?_)))
  have hsz:h₄.objs.size=s.heap.objs.size:=by rw[hs₄.1,hs₂.1,hs₁.1]
  refine wpAny_bind (wpAny_newTuple (hsz:=by show 2<=sizeLine;decide) ?_);have up:∀ c o,c≠z->c≠i1->c≠i2->s.heap.get? c=some o->(h₄.push { cls:=.type "tuple",data:=.seq #[x,y] }).get? c=some o:=fun c o c1 c3 c4 e =>
   Heap.get?_push_of_some _ (hs₄.extBut _ _ c4 (hs₂.extBut _ _ c3 (hs₁.extBut _ _ c1 e)))
  have hz₄:qx (h₄.push { cls:=.type "tuple",data:=.seq #[x,y] }) z TI TO f0 g1:=Heap.get?_push_of_some _ (hs₄.extBut _ _ D.i2z.symm (hs₂.extBut _ _ D.i1z.symm Qn));have hT₈:IsPair (h₄.push { cls:=.type "tuple",data:=.seq #[x,y] }) h₄.objs.size x y:=Heap.get?_push_size _ rfl;have hz8:(h₄.push { cls:=.type "tuple",data:=.seq #[x,y] }).objs.size=h₄.objs.size+1:=Heap.size_push ..;refine wpAny_pure ⟨_,rfl,?_⟩;show Q (.ref h₄.objs.size) { s with heap:=h₄.push { cls:=.type "tuple",data:=.seq #[x,y] } };rw[hsz]at hT₈ hz8 ⊢;exact hQ _ ⟨_,_,hz₄,hl₀⟩ ⟨a,b,up _ _ D.TOz D.TOi1 D.TOi2 hTO⟩ ((h1₂.extBut hs₄.extBut D.i12).at fun o e=>Heap.get?_push_of_some _ e) (h2₄.at fun o e=>Heap.get?_push_of_some _ e) hT₈ hz8 fun c o c1 _ c3 c4 e=>up c o c1 c3 c4 e
theorem KC {z TI TO i1 i2 l1 l2:Addr}{k1:Nat}{xs:Array Value}{a b f0 f1:Value}{Q:Fin->Shared->Prop}(hh:A.handled=none)(D:ZipApart z TI TO i1 i2 l1 l2)
  (hz:qx s.heap z TI TO f0 f1) (hf:Loose f0 f1) (hTI:IsPair s.heap TI (.ref i1) (.ref i2)) (hTO:IsPair s.heap TO a b)
  (h1:s.heap.IsListIter i1 l1 k1) (hl1:s.heap.IsList l1 xs) (hend:xs[k1]? = none)
  (hE:∀ h' e,(∀ c o,c≠z->c≠TO->c≠i1->c≠i2->s.heap.get? c=some o->h'.get? c=some o)->(∃ o,h'.get? e=some o/\o.cls=.type "StopIteration")->E (.ref e) { s with heap:=h' }) :
  wpAny (model prog w) A (Builtin.«zip.__next__» ⟨[.ref z],[]⟩) Q E s:=by
 show wpAny _ _ (field (.ref z) 2 >>= _) _ _ _;refine wpAny_bind (wpAny_field hz rfl (x:=.bool false) rfl ?_);show wpAny _ _ (field (.ref z) 3 >>= _) _ _ _;refine wpAny_bind (wpAny_field hz rfl (x:=.ref TI) rfl ?_);refine wpAny_bind (wpAny_seqItems hTI rfl ?_);show wpAny _ _ (Builtin.SmallTypes.ownedTupleIsFree (.ref z) >>= _) _ _ _;refine wpAny_bind (Dh hz hf fun r h₀ g1 Qn hl₀ hs₀=>?_);cases r with
 |true =>
  simp only [if_true];refine wpAny_bind (wpAny_rule ?_);refine wpAny_bind (wpAny_field Qn rfl (x:=.ref TO) rfl ?_);refine wpAny_bind (wpAny_setField_rec Qn (by simp) fun h₁ hz₁ KA=>?_)
  replace hz₁:qx h₁ z TI TO .ellipsis g1:=hz₁
  have hs₁:Heap.SameBut z s.heap h₁:=⟨KA.1.trans hs₀.1,fun c hc=>(KA.2 c hc).trans (hs₀.2 c hc)⟩;refine wpAny_bind ?_;simp only [List.zipIdx_cons,List.zipIdx_nil,List.forIn_cons,List.forIn_nil];refine wpAny_bind (wpAny_bind (wpAny_onRaise ?_));show wpAny _ _ (Builtin.SmallTypes.nextOf (.ref i1) >>= _) _ _ _;refine wpAny_bind (wpAny_nextOf_list_end hh (h1.extBut hs₁.extBut D.i1z) (hl1.extBut hs₁.extBut D.l1z) hend fun h₂ e hs₂ he=>?_);obtain⟨oe,hoe,hce⟩:=he;have hz₂:qx h₂ z TI TO .ellipsis g1:=hs₂ _ _ D.i1z.symm hz₁;have hez:e≠z:=fun x=>by subst x;rw[hz₂]at hoe;cases hoe;simp at hce
  refine wpAny_setField_rec hz₂ (by simp) fun h₃ _ hs₃=>hE h₃ e (fun c o c1 _ c3 _ x=>hs₃.extBut _ _ c1 (hs₂ _ _ c3 (hs₁.extBut _ _ c1 x))) ⟨oe,hs₃.extBut _ _ hez hoe,hce⟩
 |false =>
  simp only [Bool.false_eq_true,if_false];refine wpAny_bind ?_;rw[<-Array.forIn_toList];simp only [List.forIn_cons,List.forIn_nil];refine wpAny_bind (wpAny_bind (wpAny_holding ?_));show wpAny _ _ (Builtin.SmallTypes.nextOf (.ref i1) >>= _) _ _ _;exact wpAny_bind (wpAny_nextOf_list_end hh (h1.extBut hs₀.extBut D.i1z) (hl1.extBut hs₀.extBut D.l1z) hend fun h₂ e hs₂ he=>hE h₂ e (fun c o c1 _ c3 _ x=>hs₂ _ _ c3 (hs₀.extBut _ _ c1 x)) he)
noncomputable def KG (z TI TO i1 i2 a b:Addr)(i:Nat)(h:Heap):Prop:=(∃ f0 f1,qx h z TI TO f0 f1/\Loose f0 f1)/\IsPair h TI (.ref i1) (.ref i2)/\(∃ x y,IsPair h TO x y)/\h.IsListIter i1 a i/\h.IsListIter i2 b i
theorem MF {e z TI TO i1 i2 l1 l2:Addr}{i:Nat}{xs ys:Array Value}{x y old:Value}{Q:Option Value->Shared->Prop}(D:ZipApart z TI TO i1 i2 l1 l2)(hne:∀ c∈[z,TI,TO,i1,i2],e≠c)
  (he:IsEnum s.heap e z i old) (hst:KG z TI TO i1 i2 l1 l2 i s.heap) (hl1:s.heap.IsList l1 xs) (hl2:s.heap.IsList l2 ys) (hx:xs[i]? = some x) (hy:ys[i]? = some y)
  (hQ:∀ h' tk,IsEnumOut h' e z ((i:Int)+1) (.ref s.heap.objs.size) (s.heap.objs.size+1)->KG z TI TO i1 i2 l1 l2 (i+1) h'->IsPair h' s.heap.objs.size x y ->
   h'.get? (s.heap.objs.size+1)=some { cls:=.type "tuple",data:=.seq #[.int i tk,.ref s.heap.objs.size] } ->
   (∀ c o,c ∉ [e,z,TO,i1,i2]->s.heap.get? c=some o->h'.get? c=some o)->Q (some (.ref (s.heap.objs.size+1))) { s with heap:=h',toks:=tk+1 }) :
  wpAny (model prog w) A (pyNext (.ref e)) Q E s:=by
 have hT:s.TypeIs (.ref e) "enumerate":=⟨_,he,rfl⟩;unfold pyNext;refine wpAny_bind (wpAny_attempt (wpAny_callSpecial?_slot (name:=Str.ofString "__next__") hT slot_enumerate_next
  (wpAny_call_entry slot_enumerate_next hT PySem.F.entry_enumerate_next ?_ (PySem.F.args_enumerate_next_1 _))))
 obtain⟨hp,g,d,tk,os⟩:=s;obtain⟨⟨f0,f1,hz,hlo⟩,hTI,⟨ta,tb,hTO⟩,g1,g2⟩:=hst;have ne:=fun c hc=>(hne c hc);have ez:e≠z:=hne z (by simp);have Xw:e≠TI:=hne TI (by simp);have V0:e≠TO:=hne TO (by simp);have V1:e≠i1:=hne i1 (by simp);have V2:e≠i2:=hne i2 (by simp);show wpAny _ _ (field (.ref e) 2 >>= _) _ _ _;refine wpAny_bind (wpAny_field he rfl (x:=.ref z) rfl ?_);refine wpAny_bind ?_;have Ru:Shared.TypeIs ⟨hp,g,d,tk,os⟩ (.ref z) "zip":=⟨_,hz,rfl⟩;unfold Builtin.SmallTypes.nextOf;refine wpAny_bind (wpAny_callSpecial?_slot (name:=Str.ofString "__next__") Ru slot_zip_next
  (wpAny_call_entry slot_zip_next Ru entry_zip_next (IG D hz hlo hTI hTO g1 g2 hl1 hl2 hx hy fun h₁ q1 q2 q3 q4 q5 q6 q7=>wpAny_pure ?_) (PySem.F.args_zip_next_1 _)))
 replace q5:IsPair h₁ hp.objs.size x y:=q5
 replace q6:h₁.objs.size=hp.objs.size+1:=q6
 replace q7:∀ c o,c≠z->c≠TO->c≠i1->c≠i2->hp.get? c=some o->h₁.get? c=some o:=q7
 have he₁:IsEnum h₁ e z i old:=q7 e _ ez V0 V1 V2 he;have st₁:KG z TI TO i1 i2 l1 l2 (i+1) h₁:=⟨q1,q7 TI _ D.TIz D.TITO D.TIi1 D.TIi2 hTI,q2,q3,q4⟩;show wpAny _ _ (field (.ref e) 3 >>= _) _ _ ⟨h₁,g,d,tk,os⟩;refine wpAny_bind (wpAny_field he₁ rfl (x:=rawInt i) rfl ?_);show wpAny _ _ (field (.ref e) 4 >>= _) _ _ ⟨h₁,g,d,tk,os⟩;refine wpAny_bind (wpAny_field he₁ rfl (x:=.none) rfl ?_);show wpAny _ _ (mkInt i >>= _) _ _ ⟨h₁,g,d,tk,os⟩;refine wpAny_bind (wpAny_mkInt ?_);show wpAny _ _ (setField (.ref e) 3 (rawInt ((i:Int)+1)) >>= _) _ _ ⟨h₁,g,d,tk+1,os⟩;refine wpAny_bind (wpAny_setField_rec he₁ (by simp) fun h₂ he₂ hs₂=>?_)
 replace hs₂:Heap.SameBut e h₁ h₂:=hs₂
 replace he₂:IsEnum h₂ e z ((i:Int)+1) old:=he₂
 show wpAny _ _ (setField (.ref e) 4 .none >>= _) _ _ ⟨h₂,g,d,tk+1,os⟩;refine wpAny_bind (wpAny_setField_rec he₂ (by simp) fun h₃ he₃ hs₃=>?_)
 replace hs₃:Heap.SameBut e h₂ h₃:=hs₃
 replace he₃:IsEnum h₃ e z ((i:Int)+1) old:=he₃
 show wpAny _ _ (newTuple [.int i tk,.ref hp.objs.size] >>= _) _ _ ⟨h₃,g,d,tk+1,os⟩;refine wpAny_bind (wpAny_newTuple ?_);have he₄:IsEnum (h₃.push { cls:=.type "tuple",data:=.seq #[.int i tk,.ref hp.objs.size] }) e z ((i:Int)+1) old:=Heap.get?_push_of_some _ he₃;have hsz:h₃.objs.size=hp.objs.size+1:=by rw[hs₃.1,hs₂.1,q6]
 have hel:e<hp.objs.size:=Heap.lt_size he;have ht₄:(h₃.push { cls:=.type "tuple",data:=.seq #[.int i tk,.ref hp.objs.size] }).get? (hp.objs.size+1)=some { cls:=.type "tuple",data:=.seq #[.int i tk,.ref hp.objs.size] }:=by rw[<-hsz];exact Heap.get?_push_size _ rfl
 have V3:∀ c o,c≠e->h₁.get? c=some o->(h₃.push { cls:=.type "tuple",data:=.seq #[.int i tk,.ref hp.objs.size] }).get? c=some o:=fun c o hc q =>
  Heap.get?_push_of_some _ (hs₃.extBut c o hc (hs₂.extBut c o hc q))
 generalize h₃.push { cls:=.type "tuple",data:=.seq #[.int i tk,.ref hp.objs.size] } = h₄ at he₄ ht₄ V3;show wpAny _ _ (Builtin.SmallTypes.ownedTupleIsFree (.ref e) >>= _) _ _ ⟨h₄,g,d,tk+1,os⟩;rw[hsz];refine wpAny_bind ?_;unfold Builtin.SmallTypes.ownedTupleIsFree;refine wpAny_bind (wpAny_field he₄ rfl (x:=.none) rfl (wpAny_pure ?_));simp only [if_true];refine wpAny_bind (wpAny_rule ?_);refine wpAny_bind (wpAny_field he₄ rfl (x:=old) rfl ?_);refine wpAny_bind (wpAny_setField_rec he₄ (by simp) fun h₅ he₅ hs₅=>?_)
 replace hs₅:Heap.SameBut e h₄ h₅:=hs₅
 replace he₅:IsEnum h₅ e z ((i:Int)+1) (.ref hp.objs.size):=he₅
 show wpAny _ _ (Builtin.SmallTypes.ownedTupleHandOut (.ref e) (.ref (hp.objs.size+1)) >>= _) _ _ ⟨h₅,g,d,tk+1,os⟩;refine wpAny_bind ?_;unfold Builtin.SmallTypes.ownedTupleHandOut;refine wpAny_bind (wpAny_setField_rec he₅ (by simp) fun h₆ he₆ hs₆=>?_)
 replace hs₆:Heap.SameBut e h₅ h₆:=hs₆
 replace he₆:IsEnumOut h₆ e z ((i:Int)+1) (.ref hp.objs.size) (hp.objs.size+1):=he₆
 refine wpAny_setField_rec he₆ (by simp) fun h₇ he₇ hs₇=>?_
 replace hs₇:Heap.SameBut e h₆ h₇:=hs₇
 replace he₇:IsEnumOut h₇ e z ((i:Int)+1) (.ref hp.objs.size) (hp.objs.size+1):=he₇
 have up:∀ c o,c≠e->h₁.get? c=some o->h₇.get? c=some o:=fun c o hc q=>hs₇.extBut c o hc (hs₆.extBut c o hc (hs₅.extBut c o hc (V3 c o hc q)));have nT:(hp.objs.size:Nat)≠e:=Nat.ne_of_gt hel;have UJ:(hp.objs.size+1:Nat)≠e:=Nat.ne_of_gt (Nat.lt_succ_of_lt hel);refine wpAny_bind (wpAny_letGo (wpAny_pure ⟨_,rfl,wpAny_pure (hQ h₇ tk he₇ ?_ (up _ _ nT q5) ?_ ?_)⟩))
 ·obtain⟨⟨u0,u1,u2,u3⟩,u4,⟨u5,u6,u7⟩,u8,u9⟩:=st₁;exact⟨⟨u0,u1,up _ _ ez.symm u2,u3⟩,up _ _ Xw.symm u4,⟨u5,u6,up _ _ V0.symm u7⟩,u8.at fun o q=>up _ o V1.symm q,u9.at fun o q=>up _ o V2.symm q⟩
 ·exact hs₇.extBut _ _ UJ (hs₆.extBut _ _ UJ (hs₅.extBut _ _ UJ ht₄))
 ·intro c o hc q;have hc':c≠e/\c≠z/\c≠TO/\c≠i1/\c≠i2:=by simpa using hc
  exact up c o hc'.1 (q7 c o hc'.2.1 hc'.2.2.1 hc'.2.2.2.1 hc'.2.2.2.2 q)
theorem Pb {e z TI TO i1 i2 l1 l2:Addr}{i:Nat}{xs:Array Value}{old:Value}{Q:Option Value->Shared->Prop}(hh:A.handled=none)(D:ZipApart z TI TO i1 i2 l1 l2)
  (he:IsEnum s.heap e z i old) (hst:KG z TI TO i1 i2 l1 l2 i s.heap) (hl1:s.heap.IsList l1 xs) (hx:xs[i]? = none)
  (hQ:∀ h',(∀ c o,c ∉ [e,z,TO,i1,i2]->s.heap.get? c=some o->h'.get? c=some o)->Q none { s with heap:=h' }):wpAny (model prog w) A (pyNext (.ref e)) Q E s:=by
 have hT:s.TypeIs (.ref e) "enumerate":=⟨_,he,rfl⟩;obtain⟨⟨f0,f1,hz,hlo⟩,hTI,⟨ta,tb,hTO⟩,g1,g2⟩:=hst;unfold pyNext;refine wpAny_bind (wpAny_attempt (wpAny_callSpecial?_slot (name:=Str.ofString "__next__") hT slot_enumerate_next
  (wpAny_call_entry slot_enumerate_next hT PySem.F.entry_enumerate_next ?_ (PySem.F.args_enumerate_next_1 _))))
 show wpAny _ _ (field (.ref e) 2 >>= _) _ _ _;refine wpAny_bind (wpAny_field he rfl (x:=.ref z) rfl ?_);refine wpAny_bind ?_;have Ru:s.TypeIs (.ref z) "zip":=⟨_,hz,rfl⟩;unfold Builtin.SmallTypes.nextOf;refine wpAny_bind (wpAny_callSpecial?_slot (name:=Str.ofString "__next__") Ru slot_zip_next
  (wpAny_call_entry slot_zip_next Ru entry_zip_next (KC hh D hz hlo hTI hTO g1 hl1 hx fun h' x hk hx'=>?_) (PySem.F.args_zip_next_1 _)))
 obtain⟨o,ho,hc⟩:=hx';refine wpAny_bind (wpAny_isInstance (T:="StopIteration") (b:=true) ⟨o,ho,hc⟩ isSubtype_stop ?_);refine wpAny_pure (hQ _ fun c o hc q=>?_);have hc':c≠e/\c≠z/\c≠TO/\c≠i1/\c≠i2:=by simpa using hc
 exact hk c o hc'.2.1 hc'.2.2.1 hc'.2.2.2.1 hc'.2.2.2.2 q
theorem oi (z TI TO:Addr) :
  Meets (Builtin.«enumerate.__new__» ⟨[.type "enumerate",.ref z],[]⟩) (fun _ R s=>IsZip s.heap z TI TO .none /\
   R (.ok (.ret (.ref s.heap.objs.size)))
    { s with heap:=s.heap.push { cls:=.type "enumerate",data:=.fields #[.none,.bool false,.ref z,rawInt 0,.none,.none] } }) :=
 .of_wp fun prog w A R s h=>by
  obtain⟨hp,g,d,tk,os⟩:=s;obtain⟨hl,h⟩:=h;have hsub:=sub_enumerate;have hL:IsZip (Shared.heap ⟨hp,g,d,tk,os⟩) z TI TO .none:=hl
  wp_walk using wpAny_loadPart' hl
  refine wpAny_stack_any fun st=>wpAny_pure ?_;split
  ·rename_i c _ _ _ _ _
   cases (c==Value.type "enumerate")
   ·wp_walk using wpAny_loadPart' hl,wpAny_pyIter_zip hL
    exact⟨_,rfl,h⟩
   ·wp_walk using wpAny_loadPart' hl,wpAny_pyIter_zip hL
    exact⟨_,rfl,h⟩
  ·wp_walk using wpAny_loadPart' hl,wpAny_pyIter_zip hL
   exact⟨_,rfl,h⟩
theorem qy {z TI TO:Addr}{Q:Value->Shared->Prop}(hz:IsZip s.heap z TI TO .none)
  (h:∀ h',IsEnum h' s.heap.objs.size z 0 .none->(∀ b o,s.heap.get? b=some o->h'.get? b=some o)->Q (.ref s.heap.objs.size) { s with heap:=h' }) :
  wpAny (model prog w) A (call (.type "enumerate") [.ref z]) Q E s:=by
 refine callType_new PySem.F.called_enumerate (by decide) (PySem.F.typeCall_enumerate_1 _) (PySem.F.newCall_enumerate_1 _) (fun obj=>PySem.F.args_object_init_2 obj _) PySem.F.entry_enumerate_new
  (oi z TI TO) ⟨hz,?_⟩
 show _/\_;have he:IsEnum (s.heap.push { cls:=.type "enumerate",data:=.fields #[.none,.bool false,.ref z,rawInt 0,.none,.none] }) s.heap.objs.size z 0 .none:=Heap.get?_push_size _ rfl;exact⟨⟨_,he,rfl⟩,h _ he fun b o x=>Heap.get?_push_of_some _ x⟩
end
end L2
set_option maxHeartbeats 4000000
namespace L2
open PySem PySem.Spec PyProof.Rows
section
variable {X:Cx} {pins:List (Addr×Obj)} {σ:St} {H:Hp} {s:Shared}
theorem Inv.MG {tk:Nat}{h':Heap}{wr:List Addr}{T U:Addr}{xs ys:List V}{vals vals2:List Value}(I:Inv X pins σ H s)(hw:∀ b∈wr,gW X pins H b)(hT:s.heap.objs.size<=T)(hU:s.heap.objs.size<=U)(hTU:T≠U)
  (ht:h'.IsTuple T vals.toArray) (rv:Vals xs vals) (hz:xs.length<=sizeLine) (hu:h'.IsTuple U vals2.toArray) (KH:Vals ys vals2) (hz2:ys.length<=sizeLine)
  (kk:∀ b o,b ∉ wr->s.heap.get? b=some o->h'.get? b=some o) (there:∀ b∈wr,∃ o,h'.get? b=some o):Inv X pins σ (upd (upd H T (.tup xs)) U (.tup ys)) { s with heap:=h',toks:=tk }:=by
 have Kv:H T=none:=I.hok.fresh hT;have Xx:H U=none:=I.hok.fresh hU;have nT:∀ b o,s.heap.get? b=some o->b≠T:=fun b o e=>Nat.ne_of_lt (Nat.lt_of_lt_of_le (Heap.lt_size e) hT);have nU:∀ b o,s.heap.get? b=some o->b≠U:=fun b o e=>Nat.ne_of_lt (Nat.lt_of_lt_of_le (Heap.lt_size e) hU);have up:∀{b:Addr} {o:HO},H b=some o->upd (upd H T (.tup xs)) U (.tup ys) b=some o:=fun e=>by
  rw[ai (ao e Xx),ai (ao e Kv)];exact e
 refine I.step (g':=s.gens) (d':=s.drawn) (ch:=wr) (fun b hb=>?_) (fun b o _ _ hc e _=>kk b o hc e) (fun b o _ _ hc e _=>⟨o.slots,kk b o hc e⟩) (fun b o _ e n=>by rw[ai (nU b o e),ai (nT b o e)];exact n)
  (fun b o hc e=>⟨o,kk b o hc e⟩) (fun b ys e=>up e) (fun b o u e=>up e) (fun b ps e=>⟨#[],by rw[up e];simp⟩) (fun m hm=>?_) (fun b u e=>?_) I.bare
 ·obtain⟨_,f1,_,f3,f4,f5⟩:=hw b hb;exact⟨f3,f1,f4,f5⟩
 ·obtain⟨o,es,ep,ho,r⟩:=hm;exact⟨o,es,ep,kk _ o (fun z=>(hw _ z).2.1 rfl) ho,r⟩
 ·by_cases hb:b=U
  ·subst hb;rw[ae]at e;cases e;exact⟨hz2,vals2,KH,hu⟩
  ·rw[ai hb]at e
   by_cases hb2:b=T
   ·subst hb2;rw[ae]at e;cases e;exact⟨hz,vals,rv,ht⟩
   ·rw[ai hb2]at e;refine(I.hok b u e).stay (fun c v hc q=>kk c v (fun z=>?_) q) (fun c q=>up q) fun c ys q=>up q;have hn:=(hw c z).1;rcases hc with hc|hc
    ·rw[hc,e]at hn;cases hn
    ·rw[hc]at hn;cases hn
noncomputable def KJ (K:Frag)(a b:Addr):It :=
 ⟨fun i H=>∃ xs ys x y,aL K H a xs/\aL K H b ys/\xs[i]? = some x/\ys[i]? = some y,
  fun i H p H'=>∃ x y t0 t1,p=.ref t1/\H t0=none/\H t1=none/\t0≠t1/\(∀ xs,aL K H a xs->xs[i]? = some x)/\(∀ ys,aL K H b ys->ys[i]? = some y)/\H'=upd (upd H t0 (.tup [x,y])) t1 (.tup [.int i,.ref t0]),
  fun i H=>∃ xs ys,aL K H a xs/\aL K H b ys/\xs.length<=i⟩
theorem MH {P:Program}{w:World}{K:Frag}{es:List Expr}{k:Nat}{tp:Pos}{e z TI TO i1 i2:Addr}(a b:Addr)(O:tX z TI TO i1 i2)(hne:∀ c∈[z,TI,TO,i1,i2],e≠c) :
  Turn P w K (.Tuple es k tp) (KJ K a b) [e,z,TI,TO,i1,i2] e (fun i h=>(∃ old,IsEnum h e z i old)/\KG z TI TO i1 i2 a b i h) where
 mem:=by simp
 obj:=fun i h st c hc=>by
  obtain⟨⟨old,he⟩,⟨f0,f1,hz,_⟩,hTI,⟨x,y,hTO⟩,⟨o1,e1,_,d1⟩,⟨o2,e2,_,d2⟩⟩:=st;have hc':c=e\/c=z\/c=TI\/c=TO\/c=i1\/c=i2:=by simpa using hc
  rcases hc' with rfl|rfl|rfl|rfl|rfl|rfl
  ·exact⟨_,he,fun v q=>by
    have q':Data.fields _=Data.cell v:=q;cases q'⟩
  ·exact⟨_,hz,fun v q=>by
    have q':Data.fields _=Data.cell v:=q;cases q'⟩
  ·exact⟨_,hTI,fun v q=>by
    have q':Data.seq _ _=Data.cell v:=q;cases q'⟩
  ·exact⟨_,hTO,fun v q=>by
    have q':Data.seq _ _=Data.cell v:=q;cases q'⟩
  ·exact⟨o1,e1,fun v q=>by rw[d1]at q;cases q⟩
  ·exact⟨o2,e2,fun v q=>by rw[d2]at q;cases q⟩
 keep:=fun i h h' st kp=>by
  obtain⟨⟨old,he⟩,⟨f0,f1,hz,hl⟩,hTI,⟨x,y,hTO⟩,h1,h2⟩:=st;exact⟨⟨old,kp e (by simp) _ he⟩,⟨f0,f1,kp z (by simp) _ hz,hl⟩,kp TI (by simp) _ hTI,⟨x,y,kp TO (by simp) _ hTO⟩,h1.at fun o q=>kp i1 (by simp) o q,h2.at fun o q=>kp i2 (by simp) o q⟩
 item:=by
  intro X hP hw hK hc i pins s σ H E I hf st hg;subst hP hw hK;obtain⟨xs,ys,x,y,hq,hq2,hx,hy⟩:=hg;obtain⟨⟨old,he⟩,Qo⟩:=st;have D:ZipApart z TI TO i1 i2 a b:=by
   obtain⟨⟨f0,f1,hz,_⟩,hTI,⟨x,y,hTO⟩,⟨o1,e1,c1,_⟩,⟨o2,e2,c2,_⟩⟩:=Qo;have nz:∀{c:Addr} {zs:List V},aL X.K H c zs->c≠z:=fun h=>du (K:=X.K) I h hz (by intro q;injection q with q;exact absurd q (by decide));have nT:∀{c:Addr} {zs:List V},aL X.K H c zs->c≠TO:=fun h=>du (K:=X.K) I h hTO (by intro q;injection q with q;exact absurd q (by decide));have n1:∀{c:Addr} {zs:List V},aL X.K H c zs->c≠i1:=fun h=>du (K:=X.K) I h e1 (by rw[c1];intro q;injection q with q;exact absurd q (by decide));have n2:∀{c:Addr} {zs:List V},aL X.K H c zs->c≠i2:=fun h=>du (K:=X.K) I h e2 (by rw[c2];intro q;injection q with q;exact absurd q (by decide));exact⟨O.TIz,O.TOz,O.i1z,O.i2z,O.TITO,O.TIi1,O.TIi2,O.TOi1,O.TOi2,O.i12,nz hq,nT hq,n1 hq,n2 hq,nz hq2,nT hq2,n1 hq2,n2 hq2⟩
  obtain⟨its,rv,p,_⟩:=I.list hq;obtain⟨its2,KH,p2,_⟩:=I.list hq2;obtain⟨u,hu,ru⟩:=rv.get hx;obtain⟨u2,hu2,UK⟩:=KH.get hy;refine MF D hne he Qo p.isList p2.isList (x:=u) (y:=u2) (by simpa using hu) (by simpa using hu2) fun h' tk q1 q2 q3 q4 kk=>?_;refine⟨_,rfl,?_⟩;have sub:∀ c∈[e,z,TO,i1,i2],c∈[e,z,TI,TO,i1,i2]:=fun c hc=>by
   have:c=e\/c=z\/c=TO\/c=i1\/c=i2:=by simpa using hc
   simp;rcases this with r|r|r|r|r <;> simp[r]
  have fw:∀ c∈[e,z,TO,i1,i2],gW X pins H c:=fun c hc=>hf c (sub c hc);have I1:Inv X pins σ (upd (upd H s.heap.objs.size (.tup [x,y])) (s.heap.objs.size+1) (.tup [.int i,.ref s.heap.objs.size])) { s with heap:=h',toks:=tk+1 }:=by
   refine I.MG (vals:=[u,u2]) (vals2:=[.int i tk,.ref s.heap.objs.size]) fw (Nat.le_refl _) (Nat.le_succ _) (Nat.ne_of_lt (Nat.lt_succ_self _)) ⟨_,q3,rfl,_,rfl⟩ (.cons ru (.cons UK .nil)) (by show 2<=sizeLine;decide)
    ⟨_,q4,rfl,_,rfl⟩ (.cons ⟨tk,rfl⟩ (.cons rfl .nil)) (by show 2<=sizeLine;decide) kk fun c hc=>?_
   obtain⟨⟨f0,f1,m1,_⟩,_,⟨_,_,m2⟩,⟨o1,m3,_⟩,⟨o2,m4,_⟩⟩:=q2;have:c=e\/c=z\/c=TO\/c=i1\/c=i2:=by simpa using hc
   rcases this with rfl|rfl|rfl|rfl|rfl
   ·exact⟨_,q1⟩
   ·exact⟨_,m1⟩
   ·exact⟨_,m2⟩
   ·exact⟨_,m3⟩
   ·exact⟨_,m4⟩
  have hT0:H s.heap.objs.size=none:=I.hok.fresh (Nat.le_refl _);have hT1:H (s.heap.objs.size+1)=none:=I.hok.fresh (Nat.le_succ _);have lt:∀ c∈[e,z,TI,TO,i1,i2],c<s.heap.objs.size:=fun c hc=>by
   obtain⟨⟨f0,f1,m1,_⟩,m5,⟨_,_,m2⟩,⟨o1,m3,_⟩,⟨o2,m4,_⟩⟩:=Qo;have hc':c=e\/c=z\/c=TI\/c=TO\/c=i1\/c=i2:=by simpa using hc
   rcases hc' with rfl|rfl|rfl|rfl|rfl|rfl
   ·exact Heap.lt_size he
   ·exact Heap.lt_size m1
   ·exact Heap.lt_size m5
   ·exact Heap.lt_size m2
   ·exact Heap.lt_size m3
   ·exact Heap.lt_size m4
  refine wpAny_letOwnedTupleGo_enum q1 fun h'' UL hs''=>?_;have hf2:∀ c∈[e,z,TI,TO,i1,i2],gW X pins (upd (upd H s.heap.objs.size (.tup [x,y])) (s.heap.objs.size+1) (.tup [.int i,.ref s.heap.objs.size])) c:=fun c hc=>by
   obtain⟨f0,fr⟩:=hf c hc;have l:=lt c hc;exact⟨by rw[ai (Nat.ne_of_lt (Nat.lt_succ_of_lt l)),ai (Nat.ne_of_lt l)];exact f0,fr⟩
  have Xy:∀ c o,c ∉ [e]->h'.get? c=some o->h''.get? c=some o:=fun c o hc q=>hs''.extBut c o (fun r=>hc (by simp[r])) q;have up:∀{c:Addr} {o:Obj},c∈[z,TI,TO,i1,i2]->h'.get? c=some o->h''.get? c=some o:=fun hc q=>hs''.extBut _ _ (hne _ hc).symm q;have fe:∀ c∈[e],gW X pins (upd (upd H s.heap.objs.size (.tup [x,y])) (s.heap.objs.size+1) (.tup [.int i,.ref s.heap.objs.size])) c:=fun c hc=>by
   have:c=e:=by simpa using hc
   exact hf2 c (by simp[this])
  refine⟨.ref (s.heap.objs.size+1),_,I1.fR (tk:=tk+1) (wr:=[e]) fe Xy,rfl,⟨x,y,s.heap.objs.size,s.heap.objs.size+1,rfl,hT0,hT1,Nat.ne_of_lt (Nat.lt_succ_self _),pF I hq hx,pF I hq2 hy,rfl⟩,?_,fun c hc=>(hf2 c hc).1⟩;obtain⟨⟨f0,f1,m1,m1'⟩,m5,⟨_,_,m2⟩,m3,m4⟩:=q2;exact⟨⟨_,by simpa using UL⟩,⟨f0,f1,up (by simp) m1,m1'⟩,up (by simp) m5,⟨_,_,up (by simp) m2⟩,m3.at fun o q=>up (by simp) q,m4.at fun o q=>up (by simp) q⟩
 done:=by
  intro X hP hw hK hc i pins s σ H E I hf st hg;subst hP hw hK;obtain⟨xs,ys,hq,hq2,hx⟩:=hg;obtain⟨⟨old,he⟩,Qo⟩:=st;have D:ZipApart z TI TO i1 i2 a b:=by
   obtain⟨⟨f0,f1,hz,_⟩,hTI,⟨x,y,hTO⟩,⟨o1,e1,c1,_⟩,⟨o2,e2,c2,_⟩⟩:=Qo;have nz:∀{c:Addr} {zs:List V},aL X.K H c zs->c≠z:=fun h=>du (K:=X.K) I h hz (by intro q;injection q with q;exact absurd q (by decide));have nT:∀{c:Addr} {zs:List V},aL X.K H c zs->c≠TO:=fun h=>du (K:=X.K) I h hTO (by intro q;injection q with q;exact absurd q (by decide));have n1:∀{c:Addr} {zs:List V},aL X.K H c zs->c≠i1:=fun h=>du (K:=X.K) I h e1 (by rw[c1];intro q;injection q with q;exact absurd q (by decide));have n2:∀{c:Addr} {zs:List V},aL X.K H c zs->c≠i2:=fun h=>du (K:=X.K) I h e2 (by rw[c2];intro q;injection q with q;exact absurd q (by decide));exact⟨O.TIz,O.TOz,O.i1z,O.i2z,O.TITO,O.TIi1,O.TIi2,O.TOi1,O.TOi2,O.i12,nz hq,nT hq,n1 hq,n2 hq,nz hq2,nT hq2,n1 hq2,n2 hq2⟩
  obtain⟨its,rv,p,_⟩:=I.list hq;have hl:=rv.length;refine Pb (I.ok.hd hc) D he Qo p.isList (Array.getElem?_eq_none (by simp;omega)) fun h' kk=>?_;refine⟨rfl,I.fR (tk:=s.toks) (wr:=[e,z,TO,i1,i2]) (fun c hc=>hf c ?_) kk⟩;have:c=e\/c=z\/c=TO\/c=i1\/c=i2:=by simpa using hc
  simp;rcases this with r|r|r|r|r <;> simp[r]
 self:=fun _ _ _ _ _ st h=>by
  obtain⟨⟨old,he⟩,_⟩:=st;exact wpAny_pyIter_enum he h
inductive Pc (K:Frag)(R:(It->Hp->Prop))(x:V)(y:V)(H2:Hp):Prop
 |mk (a:_) (b:_) (cH:x=.ref a) (cI:y=.ref b) (dh:(∃ xs,aL K H2 a xs)/\(∃ ys,aL K H2 b ys)/\R (KJ K a b) H2):Pc K R x y H2
noncomputable def Xz (K:Frag)(tl tm:TE):TI:=fun σ H R=>tl σ H fun x H1=>tm σ H1 fun y H2=>Pc K R x y H2
inductive UM (X:Cx)(pins:List (Addr×Obj))(σ:St)(R:V->V->Hp->Prop)(v:Value)(s1:Shared):Prop
 |mk (a b z TI TO i1 i2:Addr) (H1:Hp) (q:R (.ref a) (.ref b) H1) (e:v=.ref z) (I1:Inv X pins σ H1 s1) (O:tX z TI TO i1 i2) (g1:IsZip s1.heap z TI TO .none) (g2:Rr z TI TO i1 i2 a b 0 s1.heap) (g3:∀ c∈[z,TI,TO,i1,i2],gW X pins H1 c):UM X pins σ R v s1
theorem MI {l m:Expr}{tl tm:TE}{p pos:Pos}(hg:Gl X "zip")(hz:X.mg "zip"=none)(hl:PE X l tl)(hm:PE X m tm)(hs:starEach [l,m] X.env=[(false,eval l X.env),(false,eval m X.env)])(hs2:starEach [m] X.env=[(false,eval m X.env)])
  {R:V->V->Hp->Prop} (I:Inv X pins σ H s) (h:tl σ H fun x H1=>tm σ H1 fun y H2=>R x y H2) (hR:∀ x y H1,R x y H1->∃ a b,x=.ref a/\y=.ref b/\(∃ xs,aL X.K H1 a xs)/\∃ ys,aL X.K H1 b ys) :
  wpAny (model X.prog X.w) X.A (eval (.Call (.Name "zip" p) [l,m] [] pos) X.env) (UM X pins σ R) X.xe s:=by
 refine Call_ (kL I hg hz Kw (PyProof.Rows.callWith_type1 (bU (Kz hl hm hs hs2 pos pins s σ H I h) fun us s1 ⟨x,y,u,v,H1,I1,e1,r1,r2,q1⟩=>?_) (by rw[hs,hs2]) (by rw[hs2];rfl)));obtain⟨a,b,rfl,rfl,⟨xs,hq⟩,⟨ys,hq2⟩⟩:=hR _ _ _ q1;subst e1;cases r1;cases r2;obtain⟨its,rv,pl,_⟩:=I1.list hq;obtain⟨its2,KH,UN,_⟩:=I1.list hq2;refine call_zip_2 pl.isList UN.isList fun h' z1 z2 z3 z4 z5 hsz kk=>?_;have O:tX (s1.heap.objs.size+4) (s1.heap.objs.size+2) (s1.heap.objs.size+3) s1.heap.objs.size (s1.heap.objs.size+1):=by
  constructor <;> exact(by intro q;have q':(_:Nat)=_:=q;omega)
 refine⟨a,b,_,_,_,_,_,H1,q1,rfl,I1.kept (t':=s1.toks) kk,O,z1,⟨z1,z2,⟨_,_,z3⟩,z4,z5⟩,fun c hc=>?_⟩;have hc':s1.heap.objs.size<=c:=by
  have:c=s1.heap.objs.size+4\/c=s1.heap.objs.size+2\/c=s1.heap.objs.size+3\/c=s1.heap.objs.size\/c=s1.heap.objs.size+1:=by simpa using hc
  rcases this with r|r|r|r|r <;> (rw[r];first|exact Nat.le_add_right _ _|exact Nat.le_refl _)
 exact I1.Bh hc' (I1.hok.fresh hc')
theorem Rv {l m:Expr}{tl tm:TE}{p p2 pos pos2 tp:Pos}{es:List Expr}{k:Nat}(hg:Gl X "zip")(hz:X.mg "zip"=none)(hg2:Gl X "enumerate")(hm2:X.mg "enumerate"=none)(hl:PE X l tl)(hm:PE X m tm)
  (hs:starEach [l,m] X.env=[(false,eval l X.env),(false,eval m X.env)]:=by rfl) (hs2:starEach [m] X.env=[(false,eval m X.env)]:=by rfl)
  (hs3:starEach [Expr.Call (.Name "zip" p) [l,m] [] pos] X.env=[(false,eval (.Call (.Name "zip" p) [l,m] [] pos) X.env)]:=by rfl) :
  PI X (.Tuple es k tp) (.Call (.Name "enumerate" p2) [.Call (.Name "zip" p) [l,m] [] pos] [] pos2) (Xz X.K tl tm):=by
 intro pins s σ H R I h;have hev:wpAny (model X.prog X.w) X.A (spliced (backTo pos2 (starEach [Expr.Call (.Name "zip" p) [l,m] [] pos] X.env))) (fun us s1=>∃ v,us=[v]/\UM X pins σ (Pc X.K R) v s1) X.xe s:=by
  rw[hs3];refine Calls.spliced_cons (bU (MI hg hz hl hm hs hs2 I h fun x y H1 q=>?_) fun v s1 q=>Calls.spliced_nil ⟨v,rfl,q⟩);obtain⟨a,b,e1,e2,q1,q2,_⟩:=q;exact⟨a,b,e1,e2,q1,q2⟩
 refine Call_ (kL I hg2 hm2 rb (PyProof.Rows.callWith_type1 (bU hev fun us s1 q=>?_) (by rw[hs3];rfl) (by rfl)));obtain⟨v,e,q⟩:=q;subst e;obtain⟨a,b,z,TI,TO,i1,i2,H1,q,e,I1,O,g1,g2,g3⟩:=q;obtain⟨a',b',e1,e2,_,_,q⟩:=q;cases e1;cases e2;subst e;refine qy g1 fun h' he kk=>?_;refine wpAny_pyIter_enum he ?_;obtain⟨y1,y2,⟨y3,y4,y5⟩,y6,y7⟩:=g2;have hne:∀ c∈[z,TI,TO,i1,i2],s1.heap.objs.size≠c:=fun c hc=>by
  have hc':c=z\/c=TI\/c=TO\/c=i1\/c=i2:=by simpa using hc
  rcases hc' with rfl|rfl|rfl|rfl|rfl
  ·exact Nat.ne_of_gt (Heap.lt_size y1)
  ·exact Nat.ne_of_gt (Heap.lt_size y2)
  ·exact Nat.ne_of_gt (Heap.lt_size y5)
  ·obtain⟨_,y,_⟩:=y6;exact Nat.ne_of_gt (Heap.lt_size y)
  ·obtain⟨_,y,_⟩:=y7;exact Nat.ne_of_gt (Heap.lt_size y)
 refine⟨s1.heap.objs.size,[s1.heap.objs.size,z,TI,TO,i1,i2],_,_,H1,rfl,I1.kept (t':=s1.toks) kk,MH a b O hne,⟨⟨.none,he⟩,⟨.none,.bool false,kk _ _ y1,.inl rfl,false,rfl⟩,kk _ _ y2,⟨y3,y4,kk _ _ y5⟩,y6.at fun o q=>kk _ _ q,y7.at fun o q=>kk _ _ q⟩,fun c hc=>?_,q⟩;rcases List.mem_cons.mp hc with rfl|hc
 ·exact I1.Bh (Nat.le_refl _) (I1.hok.fresh (Nat.le_refl _))
 ·exact g3 c hc
end
theorem Pd {K:Frag}{a b:Addr}{xs ys:List V}{g:TG}{tb:TS}{D:Ends}{σ:St}{H:Hp}(Pv:Nat->St->Hp->Prop)(he:xs.length=ys.length)(h0:Pv 0 σ H)(hl:∀ i σ H,Pv i σ H->aL K H a xs/\aL K H b ys)
  (hs:∀ i x y t u σ H,xs[i]? = some x->ys[i]? = some y->Pv i σ H->H t=none->H u=none->t≠u->g (.ref u) σ (upd (upd H t (.tup [x,y])) u (.tup [.int i,.ref t])) fun ZZ H2=>tb { D with nx:=Pv (i+1),ct:=Pv (i+1),bk:=D.nx } ZZ H2) (hd:∀ σ H,Pv xs.length σ H->D.nx σ H) :
  ∃ W:Nat->Nat->St->Hp->Prop,(∃ m,W 0 m σ H)/\∀ i m σ H,W i m σ H ->
   ((KJ K a b).stop i H/\D.nx σ H)\/((KJ K a b).go i H/\∃ N:St->Hp->Prop,(∀ σ' H',N σ' H'->∃ m',m'<m/\W (i+1) m' σ' H')/\∀ x H',(KJ K a b).JZ i H x H'->g x σ H' fun ZZ H2=>tb { D with nx:=N,ct:=N,bk:=D.nx } ZZ H2):=by
 refine⟨fun i m σ H=>m=xs.length-i/\i<=xs.length/\Pv i σ H,⟨xs.length,by simp,Nat.zero_le _,h0⟩,?_⟩;rintro i m σ H ⟨rfl,hi,p⟩;obtain⟨q,q2⟩:=hl i σ H p
 by_cases hlt:i<xs.length
 ·have hlt2:i<ys.length:=by omega
  refine .inr ⟨⟨xs,ys,xs[i],ys[i],q,q2,by simp[hlt],by simp[hlt2]⟩,Pv (i+1),fun σ' H' p'=>⟨xs.length-(i+1),by omega,rfl,hlt,p'⟩,fun x H' y=>?_⟩;obtain⟨x0,y0,t,u,rfl,hn,hn2,tu,hx,hy,rfl⟩:=y;exact hs i x0 y0 t u σ H (hx xs q) (hy ys q2) p hn hn2 tu
 ·have e:i=xs.length:=by omega
  subst e;exact .inl ⟨⟨xs,ys,q,q2,Nat.le_refl _⟩,hd σ H p⟩
end L2
set_option maxHeartbeats 4000000
namespace L2
open PySem PySem.Spec PyProof.Rows
structure Bt (K:Frag)(x qual:Str)(st:Stmt)(f:Addr)(fd:FuncData)(dV:Value):Prop where
 ex:∃(oc:Value)(od:Option Addr)(kV doc pm:Value)(an:Option Addr)(cdv ct:Value)(osl:Array (Option Value)),
  fd=fnOf x qual (cA st) (bP st) (aj st) dV kV doc pm an cdv ct/\K.lookup f=some ⟨oc,od,.func fd,osl⟩/\codeIn K cdv qual=true
 kp:keepIn K (.ref f)=true
section
variable {P:Program} {w:World} {K:Frag} {mg:Str->Option Value} {base:Heap}
theorem Bt.ok {x qual:Str}{st:Stmt}{f:Addr}{fd:FuncData}{dV:Value}{N ps:List Str}{k:Nat}{sp:Sp}(F:Bt K x qual st f fd dV)(S:aw N ps (aj st))(len:∀ vs H Q E,sp vs H Q E->vs.length=ps.length)
  (hbody:∀(cdv:Value)(A:Around)(outer:List Env)(s:Shared)(H:Hp)(vs:List V)(Q:VK)(E:XK),ee k (A.deeper (envOfC qual (aj st) s.heap.objs.size f cdv))->sp vs H Q E ->
   ∃ t,wJ (kM fk P w K mg base N qual (aj st) f cdv A outer s H E).NO (bP st) t/\t { nx:=fun _ H'=>Q .non H',rt:=Q } (start N vs) H):aS P w K mg base fk (k+1) f fd ps sp:=by
 obtain⟨oc,od,kV,doc,pm,an,cdv,ct,osl,rfl,lk,hcd⟩:=F.ex;refine Gx lk hcd S len fun A outer s H vs Q E hr hsp=>?_;obtain⟨t,h,q⟩:=hbody cdv A outer s H vs Q E hr hsp;exact⟨t,h.NO,q⟩
theorem Bt.binds {x qual:Str}{st:Stmt}{f:Addr}{fd:FuncData}{T:Addr}{o:Obj}{items:Array Value}{n:Nat}{ps:List Str}{ds:List Value}(F:Bt K x qual st f fd (.ref T))(lk:K.lookup T=some o)(hs:o.data=.seq items n)
  (h:∀(kV doc pm:Value)(an:Option Addr)(cdv ct:Value)(us:List Value),(us++ds).length=ps.length->∃ k,bindArgs (fnOf x qual (cA st) (bP st) (aj st) (.ref T) kV doc pm an cdv ct) ⟨us,[]⟩=seqItems? (.ref T) >>= k/\k (some items)=pure (ps.zip (us++ds))):Binds K fd ps ds:=by
 obtain⟨oc,od,kV,doc,pm,an,cdv,ct,osl,rfl,Zs,hcd⟩:=F.ex;intro s us KI hl;obtain⟨k,h1,h2⟩:=h kV doc pm an cdv ct us hl;exact BindsTo.of_defaults rfl (KI _ _ lk) hs h1 h2
theorem GO {x qual:Str}{st:Stmt}{f:Addr}{oc:Value}{od an:Option Addr}{osl:Array (Option Value)}{dV kV doc pm cdv ct:Value}(l:K.lookup f=some ⟨oc,od,.func (fnOf x qual (cA st) (bP st) (aj st) dV kV doc pm an cdv ct),osl⟩)
  (c:codeIn K cdv qual=true) (k:keepIn K (.ref f)=true):Bt K x qual st f (fnOf x qual (cA st) (bP st) (aj st) dV kV doc pm an cdv ct) dV:=⟨⟨oc,od,kV,doc,pm,an,cdv,ct,osl,rfl,l,c⟩,k⟩
end
inductive Di (w:World):List DictEntry->List (Str×V)->Prop
 |nil:Di w [] []
 |cons {x:Str} {t:Tok} {u:Value} {v:V} {es:List DictEntry} {kvs:List (Str×V)}:RelV v u->Di w es kvs->Di w (⟨PyData.keyHash w.params x,.str x t,u⟩::es) ((x,v)::kvs)
structure KD (K:Frag)(w:World)(a:Addr)(kvs:List (Str×V)):Prop where
 sys:(a==sysModules)=false
 ok:∃ es n,K.lookup a=some ⟨.type "dict",none,.dict es n,#[]⟩/\Di w es.toList kvs/\(kvs.map (·.1)).Nodup
theorem Di.vs (P:Program){w:World}:∀{es:List DictEntry} {kvs:List (Str×V)},Di w es kvs->∃ vs:List (Key×Value),Pairs (bC P w) es vs/\vs.map (·.1)=kvs.map (fun p=>(Sum.inr p.1:Key)) /\
  (∀ e∈es,∃ k,(bC P w).is k e.key=true/\e.hash=(bC P w).hash k)/\∀ x,jU (kvs.lookup x) (valueAt vs (Sum.inr x))
 |_,_,.nil=>⟨[],.nil,rfl,fun e h=>by simp at h,fun x=>True.intro⟩
 |_,_,.cons (x:=x) (t:=t) (u:=u) (v:=v) r q=>by
  obtain⟨vs,h1,h2,h3,h4⟩:=Di.vs P q;refine⟨(Sum.inr x,u)::vs,.cons (eL P w x t) rfl h1,by rw[map_cons,map_cons,h2],fun e he=>?_,fun y=>?_⟩
  ·rcases List.mem_cons.mp he with rfl|he
   ·exact⟨Sum.inr x,eL P w x t,rfl⟩
   ·exact h3 e he
  ·by_cases hy:y=x
   ·subst hy;unfold valueAt;simp only [List.lookup_cons,List.find?_cons];simp;exact r
   ·unfold valueAt;have h5:=h4 y;unfold valueAt at h5;have e1:(y==x)=false:=by simpa using hy
    have e2:decide ((Sum.inr x:Key)=Sum.inr y)=false:=decide_eq_false fun e=>hy (Sum.inr.inj e).symm;simp only [List.lookup_cons,e1,List.find?_cons,e2];exact h5
theorem tY:∀{l:List Str},l.Nodup->(l.map (fun p=>(Sum.inr p:Key))).Nodup
 |[],_=>.nil
 |x::l,h=>by
  rw[map_cons,List.nodup_cons];obtain⟨h1,h2⟩:=List.nodup_cons.mp h;refine⟨fun z=>?_,tY h2⟩;obtain⟨y,hy,e⟩:=mem_map.mp z;cases e;exact h1 hy
theorem KD.dict (P:Program){K:Frag}{w:World}{a:Addr}{kvs:List (Str×V)}{h:Heap}(d:KD K w a kvs)(hi:K.In h):∃ vs,h.DictOf (bC P w) a vs/\∀ x,jU (kvs.lookup x) (valueAt vs (Sum.inr x)):=by
 obtain⟨es,n,lk,ok,nd⟩:=d.ok;obtain⟨vs,h1,h2,h3,h4⟩:=ok.vs P;refine⟨vs,⟨_,es,n,hi _ _ lk,⟨rfl,rfl,rfl⟩,rfl,fun e he=>h3 e (by simpa using he),h1,?_⟩,h4⟩;rw[h2];have:=tY nd;rw[List.map_map]at this;exact this
theorem jU.GP {o:Option V}{u:Option Value}(r:jU o u):o.isSome=u.isSome:=by
 cases o <;> cases u <;> first|rfl|exact False.elim r
theorem jU.Rw {o:Option V}{u:Option Value}{d:V}{d':Value}(r:jU o u)(rd:RelV d d'):RelV (o.getD d) (u.getD d'):=by
 cases o with
 |none=>cases u with
  |none=>exact rd
  |some _=>exact False.elim r
 |some v=>cases u with
  |none=>exact False.elim r
  |some _=>exact r
section
variable {X:Cx}
theorem Dj:lh X (compareOp .In) (fun x y H Q=>∃ a z kvs,x=.str z/\y=.ref a/\KD X.K X.w a kvs/\Q (.bl (kvs.lookup z).isSome) H):=by
 intro pins s σ H x y v u Q I rx ry h;obtain⟨a,z,kvs,rfl,rfl,d,q⟩:=h;obtain⟨t,rfl⟩:=rx;cases ry;obtain⟨vs,dd,rel⟩:=d.dict X.prog I.mV;refine wpAny_in_of (knd:=bC X.prog X.w) (k:=Sum.inr z) (eL _ _ z t) d.sys dd.mapOf ?_;rw[<-(rel z).GP];exact⟨.bl _,H,I.tok _,rfl,q⟩
theorem Dk:lh X (compareOp .NotIn) (fun x y H Q=>∃ a z kvs,x=.str z/\y=.ref a/\KD X.K X.w a kvs/\Q (.bl (!(kvs.lookup z).isSome)) H):=by
 intro pins s σ H x y v u Q I rx ry h;obtain⟨a,z,kvs,rfl,rfl,d,q⟩:=h;obtain⟨t,rfl⟩:=rx;cases ry;obtain⟨vs,dd,rel⟩:=d.dict X.prog I.mV;refine wpAny_notIn_of (knd:=bC X.prog X.w) (k:=Sum.inr z) (eL _ _ z t) d.sys dd.mapOf ?_;rw[<-(rel z).GP];exact⟨.bl _,H,I.tok _,rfl,q⟩
theorem zT:Me X (fun x y H Q=>∃ a z kvs r,x=.ref a/\y=.str z/\KD X.K X.w a kvs/\kvs.lookup z=some r/\Q r H):=by
 intro value slice pins s σ H x y v u Q I rx ry h hs;obtain⟨a,z,kvs,r,rfl,rfl,d,l,q⟩:=h;cases rx;obtain⟨t,rfl⟩:=ry;obtain⟨vs,dd,rel⟩:=d.dict X.prog I.mV;have hr:=rel z;rw[l]at hr;cases hv:valueAt vs (Sum.inr z) with
 |none=>rw[hv]at hr;exact False.elim hr
 |some rv =>
  rw[hv]at hr;exact subscriptTail_builtinR (x:=rv) dd.typeIs PySem.F.slot_dict_getitem.lookup
   (wpAny_getItem_of (knd:=bC X.prog X.w) (k:=Sum.inr z) (eL _ _ z t) dd.mapOf hv ⟨rfl,⟨r,H,I.tok _,hr,q⟩⟩) hs
noncomputable def Pe (K:Frag)(w:World)(td ty tx:TE):TE:=fun σ H Q=>td σ H fun x H1=>∃ a kvs,x=.ref a/\KD K w a kvs/\ty σ H1 fun y H2=>tx σ H2 fun z H3=>∃ k,y=.str k/\Q ((kvs.lookup k).getD z) H3
theorem KL {o e f:Expr}{apos cpos:Pos}{td ty tx:TE}(ho:PE X o td)(he:PE X e ty)(hf:PE X f tx)
  (base:attributeBase o "get" X.env (eval o X.env)=eval o X.env:=by rfl)
  (few:((backTo cpos (starEach [e,f] X.env)).all (fun x=>!x.1)&&(backToKw cpos (keywordEach [] X.env)).all (fun x=>x.1.isSome)
   && decide (([e,f]:List Expr).length+([]:List Keyword).length+(if([]:List Keyword).isEmpty then 0 else 1)<30))=true:=by rfl)
  (line:(apos.endLine==cpos.line)=true:=by rfl) (trees:backTo cpos (starEach [e,f] X.env)=[(false,eval e X.env),(false,eval f X.env)]:=by rfl) :
  PE X (.Call (.Attribute o "get" apos) [e,f] [] cpos) (Pe X.K X.w td ty tx):=by
 intro pins s σ H Q I h;refine wpAny_Call_method base few line PySem.F.plainAttrs_dict slot_dict_get PySem.F.type_dict_get (bU (ho pins s σ H _ I h) fun u s1 eN=>?_);obtain⟨x,H1,I1,rx,a,kvs,ex,d,q1⟩:=eN;subst ex;obtain rfl:u=Value.ref a:=rx;obtain⟨vs,dd,rel⟩:=d.dict X.prog I1.mV;refine⟨dd.typeIs,fun b q=>?_,?_⟩
 ·cases q;obtain⟨ob,_,_,h1,h2,_⟩:=dd;exact⟨ob,h1,h2.2.1⟩
 rw[trees];refine Calls.callWith_builtin rfl (Calls.evalArgs_plain (Calls.spliced_cons (bU (he pins s1 σ H1 _ I1 q1) fun iv s2 ⟨y,H2,I2,ry,q2⟩ =>
  Calls.spliced_cons (bU (hf pins s2 σ H2 _ I2 q2) fun fv s3 ⟨z,H3,I3,rz,k,ek,q3⟩=>Calls.spliced_nil ?_))))
 subst ek;obtain⟨t,rfl⟩:=ry;obtain⟨Zt,V4,UO⟩:=d.dict X.prog I3.mV;exact call_meetsIn slot_dict_get V4.typeIs PySem.F.entry_dict_get (PySem.F.args_dict_get_3 _ _ _) (meets_dict_get_default (bC X.prog X.w) a (eL _ _ k t) d.sys fv) ⟨_,V4.mapOf,_,H3,I3.tok _,(UO k).Rw rz,q3⟩
end
end L2
set_option maxHeartbeats 4000000
namespace L2
open PySem PySem.Spec PyProof.Rows
noncomputable def Rx (t:TE):TE:=fun σ H Q=>∃ R:V->Hp->Prop,t σ H R/\∀ v H',R v H'->Q v H'
noncomputable def Ry (t:TT):TT:=fun σ H Q=>∃ R:Bool->Hp->Prop,t σ H R/\∀ v H',R v H'->Q v H'
noncomputable def Rz (t:TS):TS:=fun D σ H=>∃ R:St->Hp->Prop,t { D with nx:=R } σ H/\∀ σ' H',R σ' H'->D.nx σ' H'
section
variable {X:Cx}
theorem bX {e:Expr}{t:TE}(h:PE X e t):PE X e (Rx t):=by
 intro pins s σ H Q I ⟨R,hR,hQ⟩;exact bU (h pins s σ H R I hR) fun u s1 ⟨v,H1,I1,r,q⟩=>⟨v,H1,I1,r,hQ v H1 q⟩
theorem cv {e:Expr}{t:TT}(h:PT X e t):PT X e (Ry t):=by
 intro pins s σ H Q I ⟨R,hR,hQ⟩;exact bU (h pins s σ H R I hR) fun u s1 ⟨H1,I1,q⟩=>⟨H1,I1,hQ u H1 q⟩
theorem jq {st:Stmt}{t:TS}(h:PS X st t):PS X st (Rz t):=by
 intro pins s σ H D I ⟨R,hR,hQ⟩;refine bU (h pins s σ H _ I hR) fun f s1 q=>?_;cases f with
 |next=>exact let ⟨σ',H',I',q'⟩:=q;⟨σ',H',I',hQ _ _ q'⟩
 |brk=>exact q
 |cont=>exact q
 |ret u=>exact q
end
theorem rf {t:TE}{σ:St}{H:Hp}{Q:VK}(v:V)(h:t σ H fun x H1=>x=v/\H1=H)(q:Q v H):∃ R:V->Hp->Prop,t σ H R/\∀ v H',R v H'->Q v H':=⟨_,h,by rintro _ _ ⟨rfl,rfl⟩;exact q⟩
theorem jW {t:TT}{σ:St}{H:Hp}{Q:Bool->Hp->Prop}(b:Bool)(h:t σ H fun x H1=>x=b/\H1=H)(q:Q b H):∃ R:Bool->Hp->Prop,t σ H R/\∀ v H',R v H'->Q v H':=⟨_,h,by rintro _ _ ⟨rfl,rfl⟩;exact q⟩
theorem KN {t:TS}{σ:St}{H:Hp}{D:Ends}(σ':St)(H':Hp)(h:t { D with nx:=fun ZX H1=>ZX=σ'/\H1=H' } σ H)(q:D.nx σ' H'):∃ R:St->Hp->Prop,t { D with nx:=R } σ H/\∀ σ' H',R σ' H'->D.nx σ' H' :=
 ⟨_,h,by rintro _ _ ⟨rfl,rfl⟩;exact q⟩
theorem i8 {x v:V}{H:Hp}(e:x=v):x=v/\H=H:=⟨e,rfl⟩
theorem c7 {x v:Bool}{H:Hp}(e:x=v):x=v/\H=H:=⟨e,rfl⟩
end L2
set_option maxHeartbeats 4000000
namespace L2
open PySem PySem.Spec PyProof.Rows
noncomputable abbrev Cx.names (X:Cx)(N:List Str):Cx:={ X with N:=N }
section
variable {X:Cx} {pins:List (Addr×Obj)} {σ:St} {H:Hp} {s:Shared}
theorem Cx.Ok.names {N:List Str}(o:X.Ok):(X.names N).Ok:=⟨o.mod,o.kind,o.glob,o.blt,o.above,o.inj,o.has,o.cab,o.hd,o.frames,o.NK,o.NL,o.bs,o.Gm,o.zj,o.Bf,o.pO,o.JV⟩
theorem Cx.Ok.Bu {N:List Str}(o:(X.names N).Ok):X.Ok:=⟨o.mod,o.kind,o.glob,o.blt,o.above,o.inj,o.has,o.cab,o.hd,o.frames,o.NK,o.NL,o.bs,o.Gm,o.zj,o.Bf,o.pO,o.JV⟩
theorem Inv.names {N:List Str}(I:Inv X pins σ H s)(hl:N.length=X.N.length)(h:∀(j:Nat) x v,N[j]? = some x->σ[j]? = some (some v)->X.N[j]? = some x):Inv (X.names N) pins σ H s:=by
 obtain⟨m,hm,hq⟩:=I.loc;exact⟨I.ok.names,I.os,I.bare,I.base,⟨m,hm,fun i x v e1 e2 e3=>hq i x v (h i x v e1 e2) e2 e3⟩,I.cell,I.free,I.iG,I.pin,I.hok,by rw[I.len];exact hl.symm⟩
theorem Inv.Bu {N:List Str}(I:Inv (X.names N) pins σ H s)(hl:N.length=X.N.length)(h:∀(j:Nat) x v,X.N[j]? = some x->σ[j]? = some (some v)->N[j]? = some x):Inv X pins σ H s:=by
 obtain⟨m,hm,hq⟩:=I.loc;exact⟨I.ok.Bu,I.os,I.bare,I.base,⟨m,hm,fun i x v e1 e2 e3=>hq i x v (h i x v e1 e2) e2 e3⟩,I.cell,I.free,I.iG,I.pin,I.hok,by rw[I.len];exact hl⟩
end
noncomputable def RA (k:Nat)(t:TE):TE:=fun σ H Q=>σ[k]? = some none/\t σ H Q
theorem MJ {X:Cx}{e:Expr}{t:TE}(k:Nat)(N:List Str)(h:PE (X.names N) e t)(hN:N=X.N.set k "":=by rfl):PE X e (RA k t):=by
 intro pins s σ H Q I ⟨hk,hw⟩;have hl:N.length=X.N.length:=by rw[hN,List.length_set]
 have a1:∀(j:Nat)(x:Str)(v:V),σ[j]? = some (some v)->N[j]? = X.N[j]?:=fun j x v e2=>by
  have hj:k≠j:=fun z=>by rw[<-z,hk]at e2;cases e2
  rw[hN,List.getElem?_set_ne hj]
 exact bU (h pins s σ H Q (I.names hl fun j x v e1 e2=>by rw[<-a1 j x v e2];exact e1) hw) fun u s1 ⟨v,H1,I1,r,q⟩=>⟨v,H1,I1.Bu hl fun j x v e1 e2=>by rw[a1 j x v e2];exact e1,r,q⟩
end L2
set_option maxHeartbeats 4000000
namespace L2
open PySem PySem.Spec PyProof.Rows
section
variable {X:Cx} {tg iter elt:Expr} {ifs:List Expr} {scope:Scope} {pos:Pos} {cn:List Str} {wi:TI} {g:Bk->TG} {tc:Bk->TT} {te:Bk->TE}
theorem xq {i:Nat}{x:Str}{pos' spos:Pos}(hN:X.N.Nodup)(hix:X.N[i]? = some x)(hx:X.env.scope.names.lookup x=some .local)(hcalm:X.calm=true)(F:bL X.env.scope X.N scope)(hi:PI X tg iter wi)
  (hg:∀ b,PG (bY X cn scope b) tg (g b)) (ht:∀ b,PF (bY X cn scope b) ifs (tc b)) (he:∀ b,PE (bY X cn scope b) elt (te b))
  (hsw:swapsWith (.ListComp elt [⟨tg,iter,ifs,0⟩] scope pos) (some (.Name x pos')) spos.line X.env=pure true:=by rfl)
  (hs:∀ x,foldedSetIterable iter X.env x=pure x:=by intro _;rfl):PS X (.Assign [.Name x pos'] (.ListComp elt [⟨tg,iter,ifs,0⟩] scope pos) spos) (Mr (Kp cn.length wi g tc te) (xf i)):=by
 intro pins s σ H D I h;rw[exec_Assign_Name_used _ _ _ _ hsw];refine wpAny_bind (wpAny_standAt (wpAny_bind ?_));rw[arm_evalThenUse_ListComp];refine wpAny_bind ?_;have hcl:closureFor scope X.env=pure (eB X.env scope.names []):=GI fun p hp e=>I.ok.has p.1 (F.free p hp e);refine wpAny_comprehension_free (use:=some (assign (.Name x pos') X.env)) rfl hs hcl F.kind F.loc (bU (hi pins s σ H _ I h) fun xv s₁ h₁=>bU h₁ fun itv s₂ h₂=>?_);obtain⟨it,fp,tn,J,H2,rfl,I2,T,st,f2,R⟩:=h₂;refine C8 (TH:=fun _=>True) (QQ:=fun D' H'=>D.nx (σ.set i (some (.ref D'))) H') (RR:=fun acc C=>compPost (model X.prog X.w) X.A X.xe (some (assign (.Name x pos') X.env)) _ acc C) hcalm F (fun b _=>hg b) (fun b _=>ht b) (fun b _=>he b) (fun _ _=>trivial) I2 T st f2 R ?_ ?_
 ·intro C D' σ' H' s' hC I' q;obtain⟨m,hm,_⟩:=I'.loc;have XA:H' C=none:=I'.free;have fC:gW X pins H' C:=I2.Bh hC XA;have I3:Inv X pins σ H' s':=I2.GK f2 hC I' ⟨rfl,fun _ _=>rfl⟩;show wpAny (model X.prog X.w) X.A (assign (.Name x pos') X.env (.ref D')) _ X.xe s';refine wpAny_assign_Name (zJ I3 hN hix (.inl hx) (v:=.ref D') rfl (fun s'' I4 ⟨a,sa,ha⟩=>?_) (.inr hx));have hne:C≠a:=by
   rcases ha with e|e
   ·rw[e];exact fC.2.1
   ·exact fun z=>fC.2.2.2.2.1 _ _ e z.symm
  obtain⟨o,es,ep,ho,r⟩:=hm;refine⟨m,⟨o,es,ep,(sa.2 C hne).trans ho,r⟩,fun h' sb=>?_⟩;refine wpAny_pure (wpAny_pure ⟨_,H',?_,q⟩);exact I4.fR (tk:=s''.toks) (wr:=[C]) (fun b hb=>by
   have:b=C:=by simpa using hb
   rw[this];exact fC) fun b o hb e=>(sb.2 b (fun z=>hb (by simp[z]))).trans e
 ·intro C D' e s' z;exact z
end
end L2
set_option maxHeartbeats 4000000
namespace L2
open PySem PySem.Spec PyProof.Rows PySem.SeqAt
section
variable {X:Cx}
inductive Oa (K:Frag)(neg:Bool)(x:V)(y:V)(H:Hp)(Q:VK):Prop
 |mk (a:_) (c:_) (xs:_) (cH:x=.ref a) (cI:y=.ref c) (dh:aL K H a xs) (fJ:aL K H c []) (jh:Q (.bl (if neg then !xs.isEmpty else xs.isEmpty)) H):Oa K neg x y H Q
noncomputable def RC (K:Frag)(neg:Bool):R2:=fun x y H Q=>Oa K neg x y H Q
theorem KO {pins:List (Addr×Obj)}{σ:St}{H:Hp}{s:Shared}{a c:Addr}{xs:List V}(hu:X.A.units+64<cLine)(I:Inv X pins σ H s)(ha:aL X.K H a xs)(hc:aL X.K H c []):RcAt X.A s (.ref a) (.ref c) xs.isEmpty/\RcNeAt X.A s (.ref a) (.ref c) (!xs.isEmpty):=by
 obtain⟨its,r,p,_⟩:=I.list ha;obtain⟨its',r',p',_⟩:=I.list hc;have e1:=r.length;have e2:=r'.length;simp at e2;cases xs with
 |nil =>
  simp at e1;have z1:its=[]:=by simpa using e1.symm
  have z2:its'=[]:=by simpa using e2.symm
  subst z1 z2;constructor
  ·have:=RcAt.lists (A:=X.A) (e:=fun _=>true) p.isList p'.isList rfl (by omega) (fun j h1 _=>absurd h1 (by simp))
   simpa using this
  ·have:=RcNeAt.lists (A:=X.A) (e:=fun _=>true) p.isList p'.isList rfl (by omega) (fun j h1 _=>absurd h1 (by simp))
   simpa using this
 |cons x t =>
  have hne:(its.toArray.size != its'.toArray.size)=true:=by
   simp at e1;have z2:its'=[]:=by simpa using e2.symm
   subst z2;have:its.length≠0:=by omega
   simpa using this
  exact⟨RcAt.lists_lengths p.isList p'.isList hne (by omega),RcNeAt.lists_lengths p.isList p'.isList hne (by omega)⟩
theorem KP (hu:X.A.units+64<cLine):lh X (compareOp .Eq) (RC X.K false):=by
 intro pins s σ H x y v u Q I r1 r2 h;obtain⟨a,c,xs,rfl,rfl,ha,hc,q⟩:=h;cases r1;cases r2;exact(KO hu I ha hc).1 X.prog X.w X.xe _ ⟨.bl _,H,I,rfl,q⟩
theorem Pf (hu:X.A.units+64<cLine):lh X (compareOp .NotEq) (RC X.K true):=by
 intro pins s σ H x y v u Q I r1 r2 h;obtain⟨a,c,xs,rfl,rfl,ha,hc,q⟩:=h;cases r1;cases r2;exact(KO hu I ha hc).2 X.prog X.w X.xe _ ⟨.bl _,H,I,rfl,q⟩
end
end L2
set_option maxHeartbeats 4000000
namespace L2
open PySem PySem.Spec PyProof.Rows
end L2
set_option maxHeartbeats 4000000
namespace L2
open PySem PySem.Spec PyProof.Rows
noncomputable def Qp (l:List Env)(G:Heap)(e:Addr)(cls:Value)(h:Heap):Prop :=
 ∃ B a0,(∀ b o,G.get? b=some o->b ∉ frs l->B.get? b=some o)/\Heap.FlyingW B l e cls a0 h/\G.UpToSlots h/\G.get? e=none
noncomputable def dU (P:Program)(w:World):Gw:=fun outer H s E ev s' =>
 ∃ a cls H' G,ev=.ref a/\s'.os=s.os/\AllBare s'.gens/\Un (frs outer) [] H H' s.heap G/\nR P w H' G/\Qp outer G a cls s'.heap/\E cls none H'
noncomputable abbrev GQ:=St->Value->Hp->Prop
noncomputable def WX (X:Cx)(XS:GQ):Value->Shared->Prop:=fun ev s' =>
 ∃ pins σ H' G a cls,ev=.ref a/\Inv X pins σ H' { s' with heap:=G }/\Qp X.stack G a cls s'.heap/\XS σ cls H'
noncomputable def WD (X:Cx)(XS:GQ):Value->Shared->Prop:=fun ev s'=>WX X XS ev s' \/
 ∃ pins σ H' G a cls args,ev=.ref a/\Inv X pins σ H' { s' with heap:=G }/\Heap.MadeExcOf G s'.heap a cls args/\XS σ cls H'
section
variable {X:Cx} {pins:List (Addr×Obj)} {σ:St} {H H':Hp} {s s':Shared}
theorem RD {XS:GQ}{ev:Value}(I:Inv X pins σ H s)(h:dU X.prog X.w X.stack H s (fun cls _ H'=>XS σ cls H') ev s'):WX X XS ev s':=by
 obtain⟨a,cls,H',G,e,os,bare,un,hok,XB,q⟩:=h;refine⟨pins,σ,H',G,a,cls,e,?_,XB,q⟩;exact I.call' (s':={ s' with heap:=G }) (ch:=[]) os un hok bare fun b z=>absurd z (by simp)
theorem strike {P:Program}{w:World}{h G:Heap}{L:Addr}{fs:List Addr}(un:Un fs [] H H' h G)(hok:nR P w H' G)(hL:h.objs.size<=L)(hf:H' L=none):Un fs [] H H' h (hideAll G [L])/\nR P w H' (hideAll G [L]):=by
 have get:∀{b o},G.get? b=some o->b≠L->(hideAll G [L]).get? b=some o:=fun e hn=>hideAll_get _ e (by simpa using hn);have ne:∀{b o},h.get? b=some o->b≠L:=fun e z=>absurd (z ▸ Heap.lt_size e) (Nat.not_lt.mpr hL);refine⟨⟨fun b o e n hb hx=>get (un.keep b o e n hb hx) (ne e),fun b o e n hb hx=>?_,un.free,fun b o e hx=>?_,un.tups,un.xa,un.zi⟩,fun b u e=>?_⟩
 ·obtain⟨sl,z⟩:=un.slot b o e n hb hx;exact⟨sl,get z (ne e)⟩
 ·obtain⟨o',z⟩:=un.there b o e hx;exact⟨o',get z (ne e)⟩
 ·refine(hok b u e).stay (fun c v hc q=>get q ?_) (fun _ q=>q) fun _ _ q=>q;rintro rfl;rcases hc with rfl|hc
  ·rw[hf]at e;cases e
  ·rw[hf]at hc;cases hc
theorem Qp.strike {env:Env}{outer:List Env}{G h:Heap}{B:Heap}{e L:Addr}{cls a0:Value}(hf:env.frame=some L)(cov:∀ b o,G.get? b=some o->b ∉ frs (env::outer)->B.get? b=some o)(fl:Heap.FlyingW B outer e cls a0 h)(up:G.UpToSlots h)(hn:G.get? e=none):Qp outer (hideAll G [L]) e cls h:=by
 have back:∀{b o},(hideAll G [L]).get? b=some o->G.get? b=some o/\b≠L:=fun {b o} q=>⟨of_hideAll _ q,fun z=>by
  rw[hideAll_none [L] (by rw[z];simp)]at q;cases q⟩
 refine⟨B,a0,fun b o q hb=>?_,fl,fun b o q hd=>up b o (back q).1 hd,?_⟩
 ·obtain⟨q1,q2⟩:=back q;refine cov b o q1 ?_;unfold frs;rw[List.filterMap_cons,hf];intro z;rcases List.mem_cons.mp z with z|z
  ·exact q2 z
  ·exact hb z
 ·cases q:(hideAll G [L]).get? e with
  |none=>rfl
  |some o=>rw[(back q).1]at hn;cases hn
end
theorem leaveX {P:Program}{w:World}{K:Frag}{mg:Str->Option Value}{base:Heap}{N:List Str}{qual:Str}{scope:Scope}{f:Addr}{cdv:Value}{A:Around}{outer:List Env}{s:Shared}{H:Hp}{E:XK}{ev:Value}{s':Shared}
  (h:WD (kM (dU P w) P w K mg base N qual scope f cdv A outer s H E) (fun _ cls H'=>E cls none H') ev s'):(kM (dU P w) P w K mg base N qual scope f cdv A outer s H E).xe ev s':=by
 rcases h with ⟨pins,σ,H',G,a,cls,rfl,I,⟨B,a0,cov,fl,up,hn⟩,q⟩|⟨pins,σ,H',G,a,cls,args,rfl,I,hm,q⟩
 ·show wpAny (model P w) _ (leaving _ (.ref a)) _ _ s';refine wpAny_leaves_onW I.ok.frames rfl fl fun h' UP UQ=>?_;obtain⟨un,hok⟩:=strike I.base I.hok I.ok.above I.free;exact⟨a,cls,H',_,rfl,I.os,I.bare,un,hok,Qp.strike rfl cov UP (up.trans UQ) hn,q⟩
 ·show wpAny (model P w) _ (leaving _ (.ref a)) _ _ s';have hin:∀ env∈(kM (dU P w) P w K mg base N qual scope f cdv A outer s H E).stack,∀ b,env.frame=some b->b∈frs (kM (dU P w) P w K mg base N qual scope f cdv A outer s H E).stack:=fun env he b hb=>List.mem_filterMap.mpr ⟨env,he,hb⟩;refine wpAny_leaves_madeW (base:=hideAll G (frs (kM (dU P w) P w K mg base N qual scope f cdv A outer s H E).stack)) (h:=G) I.ok.frames rfl (fun b o z=>of_hideAll _ z) (PySem.W.funFrames_hide I.stack hin) hm fun h' t UP _ _ UQ=>?_;obtain⟨un,hok⟩:=strike I.base I.hok I.ok.above I.free;exact⟨a,cls,H',_,rfl,I.os,I.bare,un,hok,Qp.strike rfl (fun b o z hb=>hideAll_get _ z hb) UP ((Heap.UpToSlots.of_keeps hm.keeps).trans UQ) hm.new,q⟩
theorem wJ.KQ {X:Cx}{E1:Value->Shared->Prop}{st:List Stmt}{t:TS}(h:wJ (X.wish E1) st t)(hE:∀ e s,E1 e s->X.xe e s):wJ X st t:=fun pins s σ H D I hw =>
 wpAny_mono (h pins s σ H D (I.wish _) hw) (fun _ _ q=>q.h9) hE
section
variable {P:Program} {w:World} {K:Frag} {mg:Str->Option Value} {base:Heap}
theorem MD.wO {x qual:Str}{st:Stmt}{f:Addr}{fd:FuncData}{N ps:List Str}{k:Nat}{sp:Sp}(F:MD K x qual st f fd)(S:aw N ps (aj st))(len:∀ vs H Q E,sp vs H Q E->vs.length=ps.length)
  (hbody:∀(cdv:Value)(A:Around)(outer:List Env)(s:Shared)(H:Hp)(vs:List V)(Q:VK)(E:XK),ee k (A.deeper (envOfC qual (aj st) s.heap.objs.size f cdv))->sp vs H Q E ->
   ∃ t,wJ ((kM (dU P w) P w K mg base N qual (aj st) f cdv A outer s H E).wish (WD (kM (dU P w) P w K mg base N qual (aj st) f cdv A outer s H E) fun _ cls H'=>E cls none H')) (bP st) t/\t { nx:=fun _ H'=>Q .non H',rt:=Q } (start N vs) H):aS P w K mg base (dU P w) (k+1) f fd ps sp:=by
 obtain⟨oc,od,kV,doc,pm,an,cdv,ct,osl,rfl,lk,hcd⟩:=F.ex;refine Gx lk hcd S len fun A outer s H vs Q E hr hsp=>?_;obtain⟨t,h,q⟩:=hbody cdv A outer s H vs Q E hr hsp;exact⟨t,h.KQ fun _ _ z=>leaveX z,q⟩
end
noncomputable def Pg (sp:Sp)(jV:List V)(XS:GQ)(t:TA):TE:=fun σ H Q=>t σ H fun vs H1=>sp (vs++jV) H1 Q fun cls _ H'=>XS σ cls H'
inductive GR (C:Addr)(m:Str)(sp:Sp)(jV:List V)(XS:GQ)(t:TA)(σ:St)(Q:VK)(x:V)(H1:Hp):Prop
 |mk (a:_) (dx:_) (fs:_) (cH:x=.ref a) (cI:H1 a=some (.ins C dx fs)) (dh:fs.lookup m=none) (fJ:t σ H1 fun vs H2=>sp (x::(vs++jV)) H2 Q fun cls _ H'=>XS σ cls H'):GR C m sp jV XS t σ Q x H1
noncomputable def KR (C:Addr)(m:Str)(sp:Sp)(jV:List V)(XS:GQ)(ta:TE)(t:TA):TE:=fun σ H Q=>ta σ H fun x H1=>GR C m sp jV XS t σ Q x H1
section
variable {X:Cx} {W:Value->Shared->Prop} {XS:GQ} {k:Nat} {f C:Addr} {fd:FuncData} {ps:List Str} {sp:Sp} {jV:List V} {ds:List Value} {x m:Str} {p pos apos:Pos} {e o:Expr} {es:List Expr} {ta:TE} {t:TA}
theorem wQ {pins:List (Addr×Obj)}{σ:St}{H:Hp}{s:Shared}{Q:VK}{us:List Value}{vs:List V}(F:aS X.prog X.w X.K X.mg X.base (dU X.prog X.w) k f fd ps sp)(hr:ee k X.A)(hb:Binds X.K fd ps ds)(hd:Vals jV ds)(hx:∀ ev s',WX X XS ev s'->W ev s')
  (I:Inv (X.wish W) pins σ H s) (r:Vals vs us) (h:sp (vs++jV) H Q fun cls _ H'=>XS σ cls H'):wpAny (model X.prog X.w) X.A (call (.ref f) us) (EP (X.wish W) pins σ Q) W s:=by
 have I0:=I.h9;have r2:Vals (vs++jV) (us++ds):=r.append hd;have hl:(us++ds).length=ps.length:=by rw[<-r2.length];exact F.len _ _ _ _ h
 refine wpAny_call (codeAny_mono (F.run X.A X.stack s H ⟨us,[]⟩ (us++ds) (vs++jV) Q _ hr I0.env0 (hb s us I0.mV hl) r2 h) fun r s' hq=>?_);cases r with
 |error e=>exact hx _ _ (RD I0 hq)
 |ok fl =>
  cases fl with
  |ret u=>exact I.after hq
  |next=>exact False.elim hq
  |brk=>exact False.elim hq
  |cont=>exact False.elim hq
theorem oj (F:aS X.prog X.w X.K X.mg X.base (dU X.prog X.w) k f fd ps sp)(hr:ee k X.A)(hg:Gl (X.wish W) x)(hm:X.mg x=some (.ref f))(hk:keepIn X.K (.ref f)=true)(hb:Binds X.K fd ps ds)(hd:Vals jV ds)(hx:∀ ev s',WX X XS ev s'->W ev s')
  (ha:PA (X.wish W) (e::es) t) (hdb:(x==("__debug__":Str))=false:=by decide) (he:starEach (e::es) X.env=(false,eval e X.env)::starEach es X.env:=by rfl) (hpl:(backTo pos (starEach es X.env)).any (·.1)=false:=by rfl) :
  PE (X.wish W) (.Call (.Name x p) (e::es) [] pos) (Pg sp jV XS t):=by
 intro pins s σ H Q I h;refine wpAny_Call_Name_kw (md I hg hm ?_ hdb);refine callWith_K (h₀:=X.base) I.ok.mod.Mc hk (bU (ha pos pins s σ H _ I h) fun us s1 ⟨vs,H1,I1,r,q⟩=>⟨I1.mV,?_⟩) he hpl;exact wQ (X:=X) F hr hb hd hx I1 r q
theorem bK {pl:Sem Bool}(ho:PE (X.wish W) o ta)(c:EN X.K C)(hm:Meth X.K C m f)(F:aS X.prog X.w X.K X.mg X.base (dU X.prog X.w) k f fd ps sp)(hr:ee k X.A)(hb:Binds X.K fd ps ds)(hd:Vals jV ds)(hx:∀ ev s',WX X XS ev s'->W ev s')(ha:PA (X.wish W) (e::es) t)
  (hst:starEach (e::es) X.env=(false,eval e X.env)::starEach es X.env:=by rfl) (hpl:(backTo pos (starEach es X.env)).any (·.1)=false:=by rfl)
  (ht:eval (.Call (.Attribute o m apos) (e::es) [] pos) X.env=(do
   let ov <-eval o X.env
   standAt apos.atName
   let (f,first) <-holding [ov] (getMethod ov m pl)
   callWith pos f first (backTo pos (starEach (e::es) X.env)) (backToKw pos (keywordEach [] X.env))):=by rfl) :
  PE (X.wish W) (.Call (.Attribute o m apos) (e::es) [] pos) (KR C m sp jV XS ta t):=by
 intro pins s σ H Q I h;refine methodCall_KW (pl:=pl) (bU (ho pins s σ H _ I h) fun u s1 ⟨x,H1,I1,rx,a,dx,fs,ex,ea,l,q⟩=>?_) ht;subst ex;obtain rfl:u=Value.ref a:=rx;refine mj I1 ea c hm l ?_;refine callWith_K (first:=[.ref a]) (h₀:=X.base) I.ok.mod.Mc hm.kp (bU (ha pos pins s1 σ H1 _ I1 q) fun us s2 ⟨vs,H2,I2,r,q2⟩=>⟨I2.mV,?_⟩) hst hpl;exact wQ (X:=X) (us:=.ref a::us) (vs:=.ref a::vs) F hr hb hd hx I2 (.cons rfl r) q2
theorem IH {pl:Sem Bool}(ho:PE (X.wish W) o ta)(c:EN X.K C)(hm:Meth X.K C m f)(F:aS X.prog X.w X.K X.mg X.base (dU X.prog X.w) k f fd ps sp)(hr:ee k X.A)(hb:Binds X.K fd ps ds)(hd:Vals jV ds)(hx:∀ ev s',WX X XS ev s'->W ev s')
  (ht:eval (.Call (.Attribute o m apos) [] [] pos) X.env=(do
   let ov <-eval o X.env
   standAt apos.atName
   let (f,first) <-holding [ov] (getMethod ov m pl)
   callWith pos f first (backTo pos (starEach [] X.env)) (backToKw pos (keywordEach [] X.env))):=by rfl) :
  PE (X.wish W) (.Call (.Attribute o m apos) [] [] pos) (KR C m sp jV XS ta Mv):=by
 intro pins s σ H Q I h;refine methodCall_KW (pl:=pl) (bU (ho pins s σ H _ I h) fun u s1 ⟨x,H1,I1,rx,a,dx,fs,ex,ea,l,q⟩=>?_) ht;subst ex;obtain rfl:u=Value.ref a:=rx;refine mj I1 ea c hm l ?_;exact callWith_K0 (first:=[.ref a]) I1.mV hm.kp (wQ (X:=X) (us:=[.ref a]) (vs:=[.ref a]) F hr hb hd hx I1 (.cons rfl .nil) q)
end
abbrev Ob:List Value:=[.type "ValueError",.type "Exception",.type "BaseException",.type "object"]
inductive Qq (K:Frag)(C:Addr):Prop
 |mk {bm:List Value} {N:Addr} {nm qn:Str} {bs:List Value} {hdct:Bool} {sn:List Str} {sub:List Value} {ab:Bool} {col:Option Bool} {dd:Option Addr} {k0 k1 k2 k3 k5:Option Value} (ho:K.lookup C=some (excClassObj nm qn C N bs bm hdct sn sub ab col dd k0 k1 k2 k3 k5 "ValueError.__new__"))
  (hok:PySem.W.nsOkIn K N=true) (hni:nsIn K N "__init__"=some none) (ht:PySem.W.tailIn K Ob bm=true):Qq K C
inductive V5 (h:Heap)(C:Addr):Prop
 |mk (bm:List Value) (N:Addr) (nm qn:Str) (bs:List Value) (hdct:Bool) (sn:List Str) (sub:List Value) (ab:Bool) (col:Option Bool) (dd:Option Addr) (k0 k1 k2 k3 k5:Option Value) (mN:Str->Option Value) (hC:h.get? C=some (excClassObj nm qn C N bs bm hdct sn sub ab col dd k0 k1 k2 k3 k5 "ValueError.__new__"))
  (hN:h.Ns N mN) (hni:mN "__init__"=none) (T:OwnTail h Ob bm):V5 h C
theorem Qq.obj {K:Frag}{C:Addr}{h:Heap}(q:Qq K C)(X:K.In h):V5 h C:=by
 obtain⟨ho,hok,hni,ht⟩:=q;exact⟨_,_,_,_,_,_,_,_,_,_,_,_,_,_,_,_,h.nsMap _,X _ _ ho,.of_isNs (PySem.W.isNs_of_in X hok),PySem.W.nsMap_none_of_in X hok hni,PySem.W.tail_of_in X ht⟩
noncomputable def Ph (C:Addr)(XS:GQ)(te:TA):TS:=fun _ σ H=>te σ H fun vs H1=>vs.length<=sizeLine/\XS σ (.ref C) H1
theorem eh {X:Cx}{XS:GQ}{W:Value->Shared->Prop}{C:Addr}{x:Str}{np cpos pos:Pos}{e:Expr}{es:List Expr}{t:TA}(hx:∀ ev s',WD X XS ev s'->W ev s')(hc:X.calm=true)(q:Qq X.K C)(hg:Gl (X.wish W) x)(hm:X.mg x=some (.ref C))(ha:PA (X.wish W) (e::es) t)
  (hdb:(x==("__debug__":Str))=false:=by decide) (he:starEach (e::es) X.env=(false,eval e X.env)::starEach es X.env:=by rfl) (hpl:(backTo cpos (starEach es X.env)).any (·.1)=false:=by rfl) :
  PS (X.wish W) (.Raise (some (.Call (.Name x np) (e::es) [] cpos)) none pos) (Ph C XS t):=by
 intro pins s σ H D I h;obtain⟨bm,N,nm,qn,bs,hdct,sn,sub,ab,col,dd,k0,k1,k2,k3,k5,mN,hC,hN,hni,T⟩:=q.obj I.mod.Mc;refine wpAny_Raise_call_subT (C:=C) (nm:=nm) (q:=qn) (N:=N) (bs:=bs) (bm:=bm) (hdct:=hdct) (sn:=sn) (sub:=sub) (ab:=ab) (col:=col) (dd:=dd) (k0:=k0) (k1:=k1) (k2:=k2) (k3:=k3) (k5:=k5) (mN:=mN)
  PySem.F.excBase_ValueError (T.hasType PySem.F.excBase_ValueError.hasBase) (I.ok.hd hc) ?_ hni (md I hg hm ⟨rfl,?_⟩ hdb)
 ·show(backTo cpos (starEach (e::es) X.env)).any (·.1)=false;rw[he];show(false||(backTo cpos (starEach es X.env)).any (·.1))=false;rw[hpl];rfl
 ·have h1:=ha cpos pins s σ H _ I h;show wpAny (model X.prog X.w) X.A (evalArgs (.ref C) true (backTo cpos (starEach (e::es) X.env)) []) _ W s;have h1:wpAny (model X.prog X.w) X.A (spliced (backTo cpos (starEach (e::es) X.env))) _ W s:=h1;rw[he]at h1 ⊢;refine Calls.evalArgs_plain (wpAny_mono h1 (fun us s1 ⟨vs,H1,I1,r,hz,q1⟩=>?_) fun _ _ z=>z);refine⟨rfl,by rw[<-r.length];exact hz,I1.bk _ _ hC,hN.keeps I1.bk,T.keeps I1.bk,fun h' a hm'=>hx _ _ (.inr ?_)⟩;exact⟨pins,σ,H1,s1.heap,a,.ref C,us,rfl,I1.h9,hm',q1⟩
noncomputable abbrev Cx.CQ (X:Cx)(pn:List (Addr×Obj)):Cx:={ X with pn:=pn }
noncomputable abbrev Cx.hand (X:Cx)(a:Addr):Cx:={ X with A:=X.A.mark (some (.ref a)),calm:=false,xe:=fun _ _=>False }
theorem Cx.Ok.CQ {X:Cx}(ok:X.Ok)(pn:List (Addr×Obj)):(X.CQ pn).Ok :=
 ⟨ok.mod,ok.kind,ok.glob,ok.blt,ok.above,ok.inj,ok.has,ok.cab,ok.hd,ok.frames,ok.NK,ok.NL,ok.bs,ok.Gm,ok.zj,ok.Bf,ok.pO,ok.JV⟩
theorem Cx.Ok.hand {X:Cx}(ok:X.Ok)(a:Addr):(X.hand a).Ok :=
 ⟨ok.mod,ok.kind,ok.glob,ok.blt,ok.above,ok.inj,ok.has,ok.cab,(fun z=>nomatch z),ok.frames,ok.NK,ok.NL,ok.bs,ok.Gm,ok.zj,ok.Bf,ok.pO,ok.JV⟩
section
variable {X:Cx} {pins CW:List (Addr×Obj)} {σ:St} {H H':Hp} {s:Shared}
theorem Inv.CQ (I:Inv X pins σ H s):Inv (X.CQ (X.pn++pins)) [] σ H s:=⟨I.ok.CQ _,I.os,I.bare,I.base,I.loc,I.cell,I.free,I.iG,fun p hp=>I.pin p (by simpa using hp),I.hok,I.len⟩
theorem Inv.om (I:Inv (X.CQ (X.pn++pins)) CW σ H s)(ok:X.Ok):Inv X pins σ H s:=⟨ok,I.os,I.bare,I.base,I.loc,I.cell,I.free,I.iG,fun p hp=>I.pin p (mem_append_left _ hp),I.hok,I.len⟩
theorem SP.om {D:Ends}{f:Flow}{s':Shared}(ok:X.Ok)(h:SP (X.CQ (X.pn++pins)) [] D f s'):SP X pins D f s':=by
 cases f with
 |next=>obtain⟨σ',H',I,q⟩:=h;exact⟨σ',H',I.om ok,q⟩
 |brk=>obtain⟨σ',H',I,q⟩:=h;exact⟨σ',H',I.om ok,q⟩
 |cont=>obtain⟨σ',H',I,q⟩:=h;exact⟨σ',H',I.om ok,q⟩
 |ret u=>obtain⟨v,σ',H',I,r,q⟩:=h;exact⟨v,σ',H',I.om ok,r,q⟩
theorem Inv.hand (I:Inv X pins σ H s)(a:Addr):Inv (X.hand a) pins σ H s:=⟨I.ok.hand a,I.os,I.bare,I.base,I.loc,I.cell,I.free,I.iG,I.pin,I.hok,I.len⟩
theorem Inv.Bv {a:Addr}(I:Inv (X.hand a) pins σ H s)(ok:X.Ok):Inv X pins σ H s:=⟨ok,I.os,I.bare,I.base,I.loc,I.cell,I.free,I.iG,I.pin,I.hok,I.len⟩
theorem Inv.flown {G h' B:Heap}(I:Inv X pins σ H { s with heap:=G })(cov:∀ b o,G.get? b=some o->b ∉ frs X.stack->B.get? b=some o)(st:B.StaysIn h')(up:G.UpToSlots h'):Inv X pins σ H { s with heap:=h' }:=by
 have keep:∀ b o,G.get? b=some o->b ∉ frs X.stack->h'.get? b=some o:=fun b o e hb=>st b o (cov b o e hb);have slot:∀ b o,G.get? b=some o->b∈frs X.stack->∃ sl,h'.get? b=some { o with slots:=sl }:=fun b o e hb=>by
  obtain⟨_,o',e',hd⟩:=I.stack.mem hb;have:o'=o:=Option.some.inj (e'.symm.trans e);subst this;exact up b o' e hd
 refine I.call' (s':={ s with heap:=h' }) (ch:=[]) rfl ⟨fun b o e _ hb _=>keep b o e hb,fun b o e _ hb _=>slot b o e hb,fun _ _ _ n _=>n,fun b o e _=>?_,fun _ _ q=>q,fun _ _ _ q=>q,fun _ ps q=>⟨#[],by rw[q];simp⟩⟩ (fun b u e=>?_) I.bare fun b z=>absurd z (by simp)
 ·by_cases hb:b∈frs X.stack
  ·obtain⟨sl,z⟩:=slot b o e hb;exact⟨_,z⟩
  ·exact⟨o,keep b o e hb⟩
 ·refine(I.hok b u e).stay (fun c v hc q=>keep c v q fun hm=>?_) (fun _ q=>q) fun _ _ q=>q;have hf:=I.Bg c hm;rcases hc with rfl|hc
  ·rw[hf]at e;cases e
  ·rw[hf]at hc;cases hc
end
end L2
set_option maxHeartbeats 4000000
namespace L2
open PySem PySem.Spec PyProof.Rows
structure Mf (K:Frag)(C:Addr):Prop where
 exc:Qq K C
 ga:findIn K (.ref C) "__getattribute__"=some (some (.builtin "BaseException.__getattribute__"))
 XC:findIn K (.ref C) "__getattr__"=some none
 cl:findIn K (.ref C) "__class__"=some (some (.builtin "object.__class__"))
section
variable {prog:Program} {w:World} {A:Around} {E:Value->Shared->Prop} {h:Heap} {g:Array GenState} {d:Drawn} {t:Nat} {os:OsState} {a:Addr} {o:Obj} {vs:Array Value} {K:Frag}
 {nm q:Str} {C N:Addr} {bs bm:List Value} {hdct:Bool} {sn:List Str} {sub:List Value} {ab:Bool} {col:Option Bool} {dd:Option Addr} {k0 k1 k2 k3 k5:Option Value} {newId:String}
end
section
variable {X:Cx}
theorem pT:Passes (dU X.prog X.w) X E0:=by
 intro _ _ _ _ _ _ _ h;obtain⟨_,_,_,_,_,_,_,_,_,_,z⟩:=h;exact z.elim
end
end L2
set_option maxHeartbeats 4000000
namespace L2
open PySem PySem.Spec PyProof.Rows
section
variable {P:Program} {w:World} {K:Frag} {mg:Str->Option Value} {base:Heap}
end
section
variable {X:Cx} {tg iter elt:Expr} {ifs:List Expr} {scope:Scope} {pos:Pos} {cn:List Str} {wi:TI} {g:Bk->TG} {tc:Bk->TT} {te:Bk->TE} {TH:Bk->Prop}
end
end L2
set_option maxHeartbeats 4000000
namespace L2
open PySem PySem.Spec PyProof.Rows
noncomputable def Pj (to:TE)(tl th:St->Hp->(Option Int->Hp->Prop)->Prop):TG:=fun v σ H Q=>to σ H fun x H1=>tl σ H1 fun l H2=>th σ H2 fun u H3 =>
 ∃(p b:Addr)(xs ys:List V)(a c:Int),x=.ref p/\v=.ref b/\l=some a/\u=some c/\H3 p=some (.lst xs)/\H3 b=some (.lst ys)/\p≠b/\0<=a/\a<=c/\c<=xs.length/\xs.length+ys.length<=sizeLine/\Q σ (upd H3 p (.lst (xs.take a.toNat++ys++xs.drop c.toNat)))
theorem Dl {X:Cx}{o:Expr}{lo hi:Option Expr}{p2 pos:Pos}{to:TE}{tl th:St->Hp->(Option Int->Hp->Prop)->Prop}(ho:PE X o to)(hl:PO X lo tl)(hu:PO X hi th)
  (ha:∀ v,assign (.Subscript o (.Slice lo hi none p2) pos) X.env v=(do
   let ov <-holding [v] (eval o X.env)
   let iv <-holding [v,ov] (eval (.Slice lo hi none p2) X.env)
   standAt pos
   holding [v,ov,iv] (setItem ov iv v)
   release [iv,v,ov] []):=by intro _;rfl):PG X (.Subscript o (.Slice lo hi none p2) pos) (Pj to tl th):=by
 intro pins s σ H v u Q I r h;rw[ha];refine wpAny_bind (wpAny_holding (bU (ho pins s σ H _ I h) fun ov s1 eN=>?_));obtain⟨x,H1,I1,r1,q1⟩:=eN;refine wpAny_bind (wpAny_holding ?_);refine wpAny_Slice (bU (hl pins s1 σ H1 _ I1 q1) fun vl s2 ⟨l,H2,I2,pl,q2⟩=>bU (hu pins s2 σ H2 _ I2 q2) fun vu s3 ⟨uu,H3,I3,pu,q3⟩=>?_);rw[evalPart_none];refine wpAny_pure ?_;have I4:Inv X pins σ H3 { s3 with heap:=s3.heap.push { cls:=.type "slice",data:=.fields #[vl,vu,.none] } }:=I3.kept (t':=s3.toks) fun b ob q=>Heap.get?_push_of_some _ q;obtain⟨p,b,xs,ys,a,c,rfl,rfl,rfl,rfl,hp,hb,hne,h0,hac,hc,hz,q4⟩:=q3;cases r1;cases r;refine wpAny_bind (wpAny_standAt (wpAny_bind (wpAny_holding ?_)));refine IA I4 hp hb hne (Heap.IsSliceOf.new ..) (by cases pl;exact⟨_,rfl⟩) (by cases pu;exact⟨_,rfl⟩) h0 hac hc hz fun s5 I5=>?_;exact wpAny_release ⟨σ,_,I5,q4⟩
end L2
namespace L2
open PySem PySem.Spec PyProof.Rows
section
variable {X:Cx}
theorem all_range:∀ bs:List Bool,(List.range bs.length).all (fun i=>bs.getD i false)=bs.all id
 |[]=>rfl
 |b::bs=>by
  rw[length_cons,List.range_succ_eq_map,List.all_cons,List.all_map,List.all_cons];have:((fun i=>(b::bs).getD i false) ∘ Nat.succ)=fun i=>bs.getD i false:=by
   funext i
   rfl
  rw[this,all_range bs];rfl
theorem Dm:f7 X (.builtin "all") (fun xs H Q=>X.calm=true/\∃(a:Addr)(bs:List Bool),xs=[.ref a]/\aL X.K H a (bs.map V.bl)/\Q (.bl (bs.all id)) H):=by
 intro pins s σ H xs us Q I r h;obtain⟨hc,a,bs,rfl,hq,q⟩:=h;obtain⟨u,rfl,rfl⟩:=r.one;obtain⟨its,rv,p,hz⟩:=I.list hq;have hl:=rv.length;rw[length_map]at hl;have O7:∀(i:Nat)(v:Value),its.toArray[i]? = some v->v=Value.bool (bs.getD i false):=by
  intro i v hv;have hv':its[i]? = some v:=by simpa using hv
  have hi:i<its.length:=(List.getElem?_eq_some_iff.mp hv').1;have hb:i<bs.length:=by omega
  obtain⟨u,hu,ru⟩:=rv.get (i:=i) (x:=.bl (bs[i])) (by rw[getElem?_map,getElem?_eq_getElem hb];rfl);rw[hv']at hu;cases hu;have:v=.bool bs[i]:=ru;rw[this,List.getD_eq_getElem?_getD,getElem?_eq_getElem hb];rfl
 refine call_all_walk (wpAny_pyIter_list p.isList ?_);have UH:a≠s.heap.objs.size:=by
  obtain⟨o,ho,_⟩:=p.isList;exact Nat.ne_of_lt (Heap.lt_size ho)
 have hd:X.A.in1.handled=none:=I.ok.hd hc;refine⟨s.heap.objs.size,_,_,_,_,_,fun i=>bs.getD i false,rfl,Walks.list hd s.heap.objs.size a UH its.toArray,⟨⟨_,Heap.get?_push_size _ rfl,rfl,rfl⟩,p.isList.push _⟩,?_,?_⟩
 ·intro i v s' Q' E' hP hQ';rw[O7 i v hP];exact wpAny_truthy_bool hQ'
 ·intro h' tk kk;have e:(List.range its.toArray.size).all (fun i=>bs.getD i false)=bs.all id:=by
   rw[size_toArray,<-hl];exact all_range bs
  rw[e];refine⟨.bl _,H,I.kept (t':=tk) fun b o e=>kk b o (fun z=>?_) (Heap.get?_push_of_some _ e),rfl,q⟩;have:b=s.heap.objs.size:=by simpa using z
  exact absurd (Heap.lt_size e) (by rw[this];exact Nat.lt_irrefl _)
noncomputable def Qr (lo:Int)(n:Nat):It:={ go:=fun i _=>i<n,JZ:=fun i H x H'=>H'=H/\x=V.int (lo-(i:Int)),stop:=fun i _=>n<=i }
theorem II {P:Program}{w:World}{K:Frag}{tg:Expr}(it:Addr)(lo:Int)(n:Nat):Turn P w K tg (Qr lo n) [it] it (fun i h=>IsRangeIter h it (lo+(i:Nat) * (-1)) ((n:Int)-(i:Nat)) (-1)) where
 mem:=by simp
 obj:=fun i h st b hb=>by
  have e:b=it:=by simpa using hb
  subst e;exact⟨_,st,fun v z=>by
   have z':Data.fields _=Data.cell v:=z;cases z'⟩
 keep:=fun i h h' st k=>k it (by simp) _ st
 item:=by
  intro X hP hw hK hc i pins s σ H E I hf st hg;subst hP hw hK;obtain⟨f0,f1,f2,f3,f4,f5⟩:=hf it (by simp);have W:=Walks.range (prog:=X.prog) (w:=X.w) (I.ok.hd hc) it lo (-1) n;refine W.item i s _ _ hg st fun v h' tk hv st' kk=>?_;obtain⟨t,rfl⟩:=hv;have I1:Inv X pins σ H { s with heap:=h',toks:=tk }:=I.turned (fun b o hb e=>kk b o (by simpa using hb) e) f0 f1 f3 f4 f5;refine⟨_,rfl,Gq (s:={ s with heap:=h',toks:=tk }) (n:="range_iterator") st' rfl rfl (by decide) ⟨.int (lo-i),H,I1,⟨t,?_⟩,⟨rfl,rfl⟩,st',fun b hb=>(hf b hb).1⟩⟩;have:lo+(i:Int) * (-1)=lo-i:=by omega
  rw[this]
 done:=by
  intro X hP hw hK hc i pins s σ H E I hf st hg;subst hP hw hK;obtain⟨f0,f1,f2,f3,f4,f5⟩:=hf it (by simp);exact wpAny_pyNext_range_end (I.ok.hd hc) st (by have:n<=i:=hg;omega) fun h' eb=>⟨rfl,I.turned (t':=s.toks) (fun b o hb e=>eb b o hb e) f0 f1 f3 f4 f5⟩
 self:=fun _ _ _ _ _ st h=>wpAny_pyIter_rangeiter st h
theorem rangeSize_down (a b:Int):Builtin.Range.rangeSize a b (-1)=if b<a then a-b else 0:=by
 unfold Builtin.Range.rangeSize;rw[if_neg (by decide)]
 by_cases h:a > b
 ·rw[if_pos h,if_pos h];show(a-b-1) / 1+1=a-b;omega
 ·rw[if_neg h,if_neg h]
theorem small_down {a b:Int}(h1:-(2 ^ 62)<=a)(h2:a<2 ^ 62)(h3:-(2 ^ 62)<=b)(h4:b<2 ^ 62):Builtin.Range.small a b (-1)=true:=by
 unfold Builtin.Range.small;rw[rangeSize_down];have f:∀ x:Int,-(2 ^ 63)<=x->x<2 ^ 63->Builtin.Range.rangeFitsLong x=true:=fun x p q=>by
  unfold Builtin.Range.rangeFitsLong;simp;omega
 rw[f a (by omega) (by omega),f b (by omega) (by omega),f (-1) (by omega) (by omega),f _ (by split <;> omega) (by split <;> omega),if_neg (show ¬((-1:Int) > 0) by decide),f (b+(-1+1)) (by omega) (by omega)];simp
theorem MK {tg:Expr}{pins:List (Addr×Obj)}{σ:St}{H:Hp}{s:Shared}{R:It->Hp->Prop}{E:Value->Shared->Prop}{lo hi:Int}{t u v:Tok}{tk:Nat}(I:Inv X pins σ H s)(h1:-(2 ^ 62)<=lo)(h2:lo<2 ^ 62)(h3:-(2 ^ 62)<=hi)(h4:hi<2 ^ 62)
  (q:R (Qr lo (lo-hi).toNat) H):wpAny (model X.prog X.w) X.A (pyIter (.ref s.heap.objs.size)) (PIE X pins σ tg R) E { s with heap:=s.heap.push { cls:=.type "range",data:=.fields #[.int lo t,.int hi u,.int (-1) v] },toks:=tk }:=by
 refine wpAny_pyIter_range (IsRange.new ..) (small_down h1 h2 h3 h4) ?_;have I1:Inv X pins σ H { s with heap:=s.heap.push { cls:=.type "range",data:=.fields #[.int lo t,.int hi u,.int (-1) v] },toks:=tk }:=I.kept fun b o e=>Heap.get?_push_of_some _ e;refine⟨(s.heap.push { cls:=.type "range",data:=.fields #[.int lo t,.int hi u,.int (-1) v] }).objs.size,[(s.heap.push { cls:=.type "range",data:=.fields #[.int lo t,.int hi u,.int (-1) v] }).objs.size],_,_,H,rfl,
  I1.kept (t':=tk) fun b o e=>Heap.get?_push_of_some _ e,II _ lo (lo-hi).toNat,?_,fun b hb=>?_,q⟩
 ·have e1:lo+((0:Nat):Int) * (-1)=lo:=by simp
  have e2:(((lo-hi).toNat:Nat):Int)-((0:Nat):Int)=Builtin.Range.rangeSize lo hi (-1):=by rw[rangeSize_down];split <;> omega
  show IsRangeIter _ _ (lo+((0:Nat):Int) * (-1)) ((((lo-hi).toNat:Nat):Int)-((0:Nat):Int)) (-1);rw[e1,e2];exact Heap.get?_push_size _ rfl
 ·have e:b=(s.heap.push { cls:=.type "range",data:=.fields #[.int lo t,.int hi u,.int (-1) v] }).objs.size:=by simpa using hb
  subst e;exact I1.Bh (Nat.le_refl _) (I1.hok.fresh (Nat.le_refl _))
noncomputable def RE (ta:TA):TI:=fun σ H R=>ta σ H fun vs H1=>∃ i j:Int,vs=[.int i,.int j,.int (-1)]/\(-(2 ^ 62)<=i/\i<2 ^ 62/\-(2 ^ 62)<=j/\j<2 ^ 62)/\R (Qr i (i-j).toNat) H1
theorem IJ {tg:Expr}{a b c:Expr}{ta:TA}{p pos:Pos}(hg:Gl X "range")(hm:X.mg "range"=none)(ha:PA X [a,b,c] ta)(hs:starEach [a,b,c] X.env=[(false,eval a X.env),(false,eval b X.env),(false,eval c X.env)]:=by rfl)(hs2:starEach [b,c] X.env=[(false,eval b X.env),(false,eval c X.env)]:=by rfl) :
  PI X tg (.Call (.Name "range" p) [a,b,c] [] pos) (RE ta):=by
 intro pins s σ H R I h;refine Call_ (kL I hg hm boot_range (PyProof.Rows.callWith_type1 (bU (ha pos pins s σ H _ I h) fun us s1 ⟨vs,H1,I1,r1,q1⟩=>?_) (by rw[hs,hs2]) (by rw[hs2];rfl)));obtain⟨i,j,e,⟨q1,q2,q3,q4⟩,q⟩:=q1;subst e;cases r1 with
 |cons r rr =>
  cases rr with
  |cons r' rr =>
   cases rr with
   |cons r'' rr =>
    cases rr;obtain⟨t,rfl⟩:=r;obtain⟨t',rfl⟩:=r';obtain⟨t'',rfl⟩:=r'';exact call_range_3 (by decide) (MK I1 q1 q2 q3 q4 q) (.inl rfl)
theorem KS {lo:Int}{n:Nat}{g:TG}{tb:TS}{D:Ends}{σ:St}{H:Hp}(Pv:Nat->St->Hp->Prop)(h0:Pv 0 σ H)
  (hs:∀ i σ H,i<n->Pv i σ H->g (.int (lo-i)) σ H fun ZZ H2=>tb { D with nx:=Pv (i+1),ct:=Pv (i+1),bk:=D.nx } ZZ H2) (hd:∀ σ H,Pv n σ H->D.nx σ H) :
  ∃ W:Nat->Nat->St->Hp->Prop,(∃ m,W 0 m σ H)/\∀ i m σ H,W i m σ H ->
   ((Qr lo n).stop i H/\D.nx σ H)\/((Qr lo n).go i H/\∃ N:St->Hp->Prop,(∀ σ' H',N σ' H'->∃ m',m'<m/\W (i+1) m' σ' H')/\∀ x H',(Qr lo n).JZ i H x H'->g x σ H' fun ZZ H2=>tb { D with nx:=N,ct:=N,bk:=D.nx } ZZ H2):=by
 refine⟨fun i m σ H=>m=n-i/\i<=n/\Pv i σ H,⟨n,by simp,Nat.zero_le _,h0⟩,?_⟩;rintro i m σ H ⟨rfl,hi,p⟩
 by_cases hlt:i<n
 ·refine .inr ⟨hlt,Pv (i+1),fun σ' H' p'=>⟨n-(i+1),by omega,rfl,hlt,p'⟩,fun x H' y=>?_⟩;obtain⟨e,y⟩:=y;subst e y;exact hs i σ _ hlt p
 ·have e:i=n:=by omega
  subst e;exact .inl ⟨Nat.le_refl _,hd _ _ p⟩
noncomputable def ML:TE:=fun _ _ _=>False
theorem KU {e:Expr}:PE X e ML:=fun _ _ _ _ _ _ h=>h.elim
end
end L2
namespace L2
open PySem PySem.Spec PyProof.Rows
section
variable {κ:Type} [DecidableEq κ]
noncomputable def mw (kvs:List (κ×V))(k:κ):Option V:=(kvs.find? fun kv=>decide (kv.1=k)).map (·.2)
noncomputable def putK (kvs:List (κ×V))(k:κ)(v:V):List (κ×V) :=
 if(kvs.any fun kv=>decide (kv.1=k))=true then kvs.map (fun kv=>if kv.1=k then(kv.1,v) else kv) else kvs++[(k,v)]
theorem xr {p:κ×V}{r:List (κ×V)}{k:κ}(e:p.1=k):mw (p::r) k=some p.2:=by simp[mw,List.find?_cons,e]
theorem xt {p:κ×V}{r:List (κ×V)}{k:κ}(e:¬ p.1=k):mw (p::r) k=mw r k:=by simp[mw,List.find?_cons,e]
theorem oq (k:κ):∀ kvs:List (κ×V),(kvs.any fun kv=>decide (kv.1=k))=(mw kvs k).isSome
 |[]=>rfl
 |p::r=>by
  rw[List.any_cons]
  by_cases e:p.1=k
  ·simp only [xr e,decide_eq_true e,Bool.true_or,Option.isSome_some]
  ·rw[xt e,decide_eq_false e,Bool.false_or];exact oq k r
theorem ot (kvs:List (κ×V))(k:κ)(v:V):(putK kvs k v).length<=kvs.length+1:=by
 unfold putK;split
 ·rw[length_map];omega
 ·rw[length_append,length_cons,List.length_nil];omega
theorem KW {kvs:List (κ×V)}{k:κ}(v:V)(h:mw kvs k=none):putK kvs k v=kvs++[(k,v)]:=by
 unfold putK;rw[oq,h];exact if_neg (by decide)
theorem jU.IK {o:Option V}{u:Option Value}(r:jU o u):o.isSome=u.isSome:=by
 cases o with
 |none=>cases u with
  |none=>rfl
  |some _=>exact(show False from r).elim
 |some _=>cases u with
  |none=>exact(show False from r).elim
  |some _=>rfl
theorem KV.val {kvs:List (κ×V)}{vs:List (κ×Value)}(r:KV kvs vs)(k:κ):jU (mw kvs k) (valueAt vs k):=by
 unfold KV at r
 induction r with
 |nil=>exact True.intro
 | @cons p q ps qs h t ih =>
  obtain⟨h1,h2⟩:=h
  by_cases e:p.1=k
  ·have e':q.1=k:=h1.symm.trans e;have b:valueAt (q::qs) k=some q.2:=by simp[valueAt,List.find?_cons,e']
   rw[xr e,b];exact h2
  ·have e':¬ q.1=k:=fun z=>e (h1.trans z);have b:valueAt (q::qs) k=valueAt qs k:=by simp[valueAt,List.find?_cons,e']
   rw[xt e,b];exact ih
theorem KV.any {kvs:List (κ×V)}{vs:List (κ×Value)}(r:KV kvs vs)(k:κ):(kvs.any fun kv=>decide (kv.1=k))=vs.any fun kv=>decide (kv.1=k):=by
 unfold KV at r
 induction r with
 |nil=>rfl
 |cons h t ih=>rw[List.any_cons,List.any_cons,ih,h.1]
theorem KV.repl {kvs:List (κ×V)}{vs:List (κ×Value)}(r:KV kvs vs)(k:κ){y:V}{u:Value}(ry:RelV y u) :
  KV (kvs.map fun kv=>if kv.1=k then(kv.1,y) else kv) (vs.map fun kv=>if kv.1=k then(kv.1,u) else kv):=by
 unfold KV at r ⊢
 induction r with
 |nil=>exact .nil
 | @cons p q ps qs h t ih =>
  rw[map_cons,map_cons];refine .cons ?_ ih;obtain⟨h1,h2⟩:=h
  by_cases e:p.1=k
  ·rw[if_pos e,if_pos (h1.symm.trans e)];exact⟨h1,ry⟩
  ·rw[if_neg e,if_neg (fun z=>e (h1.trans z))];exact⟨h1,h2⟩
theorem KV.put {kvs:List (κ×V)}{vs:List (κ×Value)}(r:KV kvs vs)(k:κ){y:V}{u:Value}(ry:RelV y u):KV (putK kvs k y) (stored vs k u):=by
 unfold putK stored;rw[r.any k]
 by_cases e:(vs.any fun kv=>decide (kv.1=k))=true
 ·rw[if_pos e,if_pos e];exact r.repl k ry
 ·rw[if_neg e,if_neg e];exact Paired.snoc r ⟨rfl,ry⟩
theorem KV.keys {kvs:List (κ×V)}{vs:List (κ×Value)}(r:KV kvs vs):kvs.map (·.1)=vs.map (·.1):=by
 unfold KV at r
 induction r with
 |nil=>rfl
 |cons h t ih=>rw[map_cons,map_cons,ih,h.1]
theorem KV.length {kvs:List (κ×V)}{vs:List (κ×Value)}(r:KV kvs vs):kvs.length=vs.length:=Paired.length r
end
theorem GS {P:Program}{w:World}{k:Key}{u:Value}(r:RelV (kV k) u):(bC P w).is k u=true:=by
 cases k with
 |inl i=>obtain⟨t,e⟩:=(show ∃ t,u=Value.int i t from r);subst e;exact CU P w i t
 |inr x=>obtain⟨t,e⟩:=(show ∃ t,u=Value.str x t from r);subst e;exact eL P w x t
theorem zU {P:Program}{w:World}:∀{ks:List Key} {us:List Value},Vals (ks.map kV) us->ItemsAre (bC P w) ks us
 |[],_,r=>by rw[List.map_nil]at r;cases r;exact .nil
 |k::ks,_,r=>by
  rw[map_cons]at r;cases r with
  |cons h t=>exact .cons (GS h) (zU t)
noncomputable abbrev KT (H:Hp):List (List Key×V)->List (List Key×Addr×Value)->Prop:=Paired fun p q=>p.1=q.1/\H q.2.1=some (.tup (p.1.map kV))/\RelV p.2 q.2.2
theorem KT.val {H:Hp}{kvs:List (List Key×V)}{xs:List (List Key×Addr×Value)}(r:KT H kvs xs)(k:List Key):jU (mw kvs k) ((atKey xs k).map (·.2)):=by
 induction r with
 |nil=>exact True.intro
 | @cons p q ps qs h t ih =>
  obtain⟨h1,_,h2⟩:=h
  by_cases e:p.1=k
  ·have e':q.1=k:=h1.symm.trans e;have b:atKey (q::qs) k=some q.2:=by simp[atKey,List.find?_cons,e']
   rw[xr e,b];exact h2
  ·have e':¬ q.1=k:=fun z=>e (h1.trans z);have b:atKey (q::qs) k=atKey qs k:=by simp[atKey,List.find?_cons,e']
   rw[xt e,b];exact ih
theorem KT.repl {H:Hp}{kvs:List (List Key×V)}{xs:List (List Key×Addr×Value)}(r:KT H kvs xs)(k:List Key){y:V}{u:Value}(ry:RelV y u) :
  KT H (kvs.map fun kv=>if kv.1=k then(kv.1,y) else kv) (xs.map (putAt k u)):=by
 induction r with
 |nil=>exact .nil
 | @cons p q ps qs h t ih =>
  rw[map_cons,map_cons];refine .cons ?_ ih;obtain⟨h1,h2,h3⟩:=h;unfold putAt
  by_cases e:p.1=k
  ·rw[if_pos e,if_pos (h1.symm.trans e)];exact⟨h1,h2,ry⟩
  ·rw[if_neg e,if_neg (fun z=>e (h1.trans z))];exact⟨h1,h2,h3⟩
theorem KT.put {H:Hp}{kvs:List (List Key×V)}{xs:List (List Key×Addr×Value)}(r:KT H kvs xs)(k:List Key){b:Addr}{y:V}{u:Value}(hb:H b=some (.tup (k.map kV)))(ry:RelV y u) :
  KT H (putK kvs k y) (storedH xs k b u):=by
 have e:(kvs.any fun kv=>decide (kv.1=k))=(atKey xs k).isSome:=by
  rw[oq,(r.val k).IK,Option.isSome_map]
 unfold putK storedH;rw[e]
 by_cases q:(atKey xs k).isSome=true
 ·rw[if_pos q,if_pos q];exact r.repl k ry
 ·rw[if_neg q,if_neg q];exact Paired.snoc r ⟨rfl,hb,ry⟩
theorem KT.keeps {H H':Hp}{kvs:List (List Key×V)}{xs:List (List Key×Addr×Value)}(r:KT H kvs xs)(ht:∀ b ys,H b=some (.tup ys)->H' b=some (.tup ys)):KT H' kvs xs :=
 Paired.OJ r fun _ _ z=>⟨z.1,ht _ _ z.2.1,z.2.2⟩
section
variable {P:Program} {w:World} {H:Hp} {h:Heap} {a:Addr}
theorem Oc {u:HO}(ok:nR P w H h)(e:Rd H a u):dW P w H h a u:=e.ok ok
theorem Dn {kvs:List (Key×V)}(ok:nR P w H h)(e:Rd H a (.dK kvs)):kvs.length<=sizeLine/\(a==sysModules)=false/\∃ vs,KV kvs vs/\h.DictOf (bC P w) a vs :=
 show dW P w H h a (.dK kvs) from Oc ok e
theorem RF {kvs:List (Key×V)}(ok:nR P w H h)(e:H a=some (.dK kvs)):kvs.length<=sizeLine/\(a==sysModules)=false/\∃ vs,KV kvs vs/\h.DictOf (bC P w) a vs:=Dn ok (.inl e)
theorem Fe {ks:List Key}(ok:nR P w H h)(e:H a=some (.tup (ks.map kV))):(tupleKind (bC P w)).is h ks a:=by
 obtain⟨_,its,r,o,h1,h2,n,h3⟩:=(show dW P w H h a (.tup (ks.map kV)) from ok a _ e);exact⟨o,its.toArray,n,h1,h2,h3,by simpa using zU r⟩
theorem KY {kvs:List (List Key×V)}(ok:nR P w H h)(e:Rd H a (.dT kvs)):kvs.length<=sizeLine/\(a==sysModules)=false /\
  ∃ xs,KT H kvs xs/\h.DictOfH (tupleKind (bC P w)) a xs:=by
 obtain⟨z,y,xs,r,o,es,ep,h1,h2,h3,h4,h5⟩:=(show dW P w H h a (.dT kvs) from Oc ok e);refine⟨z,y,xs,r,o,es,ep,h1,h2,h3,h4,fun x hx=>?_,h5⟩;have all:∀{l:List (List Key×V)} {m:List (List Key×Addr×Value)},KT H l m->∀ x∈m,(tupleKind (bC P w)).is h x.1 x.2.1:=by
  intro l m q
  induction q with
  |nil=>intro x hx;exact nomatch hx
  | @cons p q ps qs hq t ih =>
   intro x hx;rcases List.mem_cons.mp hx with e|hx
   ·subst e;exact Fe ok (by rw[<-hq.1];exact hq.2.1)
   ·exact ih x hx
 exact all r x hx
theorem RG {kvs:List (List Key×V)}(ok:nR P w H h)(e:H a=some (.dT kvs)):kvs.length<=sizeLine/\(a==sysModules)=false /\
  ∃ xs,KT H kvs xs/\h.DictOfH (tupleKind (bC P w)) a xs:=KY ok (.inl e)
end
noncomputable def xu (H:Hp)(a:Addr)(y:V)(r:Option V):Prop :=
 (∃ kvs k,Rd H a (.dK kvs)/\y=kV k/\r=mw kvs k)\/∃ kvs k b,Rd H a (.dT kvs)/\y=.ref b/\H b=some (.tup (k.map kV))/\r=mw kvs k
noncomputable def Ff (H:Hp)(a:Addr)(y v:V)(H':Hp):Prop :=
 (∃ kvs k,H a=some (.dK kvs)/\y=kV k/\kvs.length<sizeLine/\H'=upd H a (.dK (putK kvs k v))) \/
 ∃ kvs k b,H a=some (.dT kvs)/\y=.ref b/\H b=some (.tup (k.map kV))/\kvs.length<sizeLine/\H'=upd H a (.dT (putK kvs k v))
theorem xu.k {H:Hp}{a:Addr}{kvs:List (Key×V)}{k:Key}(e:H a=some (.dK kvs)):xu H a (kV k) (mw kvs k):=.inl ⟨kvs,k,.inl e,rfl,rfl⟩
theorem Ff.k {H:Hp}{a:Addr}{kvs:List (Key×V)}{k:Key}{v:V}(e:H a=some (.dK kvs))(hl:kvs.length<sizeLine):Ff H a (kV k) v (upd H a (.dK (putK kvs k v))):=.inl ⟨kvs,k,e,rfl,hl,rfl⟩
section
variable {X:Cx} {pins:List (Addr×Obj)} {σ:St} {H:Hp} {s:Shared} {a:Addr} {y v:V} {u r:Value} {o:Option V} {A:Around} {E:Value->Shared->Prop}
theorem Inv.big (I:Inv X pins σ H s):sysModules<s.heap.objs.size:=by
 have h:mainGlobals<s.heap.objs.size:=(I.mod.glob.keeps I.bk).lt;exact Nat.lt_trans (by decide) h
theorem IL {Q:Value->Shared->Prop}(hu:A.units+1<cLine)(I:Inv X pins σ H s)(g:xu H a y (some v))(ry:RelV y u)(h:∀ w' s',Inv X pins σ H s'->RelV v w'->Q w' s') :
  wpAny (model X.prog X.w) A (getItem (.ref a) u) Q E s:=by
 rcases g with ⟨kvs,k,e,ey,l⟩|⟨kvs,k,b,e,ey,eb,l⟩
 ·subst ey;obtain⟨z,hd,vs,rel,dd⟩:=Dn I.hok e;obtain⟨w',hw,Mz⟩:=jU.some_of (v:=v) (o:=valueAt vs k) (by rw[l];exact rel.val k);exact wpAny_getItem_of (GS ry) dd.mapOf hw (h w' _ (I.tok _) Mz)
 ·subst ey;cases (show u=Value.ref b from ry);obtain⟨z,hd,xs,rel,dd⟩:=KY I.hok e;obtain⟨w',hw,Mz⟩:=jU.some_of (v:=v) (o:=(atKey xs k).map (·.2)) (by rw[l];exact rel.val k);obtain⟨p,hp,hp2⟩:=Option.map_eq_some_iff.mp hw;refine wpAny_getItem_heap (tupleKind_room_in1 hu) (Fe I.hok eb) dd hp ?_;rw[hp2];exact h w' _ (I.tok _) Mz
theorem GU {h':Heap}{t':Nat}{ob:HO}(I:Inv X pins σ H s)(mu:QO (H a))(hs:Heap.SameBut a s.heap h')(he:∃ q,h'.get? a=some q)(new:dW X.prog X.w (upd H a ob) h' a ob) :
  Inv X pins σ (upd H a ob) { s with heap:=h',toks:=t' } :=
 I.write (x:=a) (e:=a) mu (.inl rfl) (fun b q hb z=>(hs.2 b hb).trans z) he new
theorem Fg {P:Program}{w:World}{H':Hp}{h':Heap}{kvs:List (Key×V)}{vs:List (Key×Value)}(z:kvs.length<=sizeLine)(hd:(a==sysModules)=false)(rel:KV kvs vs)(dd:h'.DictOf (bC P w) a vs) :
  dW P w H' h' a (.dK kvs):=⟨z,hd,vs,rel,dd⟩
theorem IM {H':Hp}{Q:Unit->Shared->Prop}(hu:A.units+1<cLine)(I:Inv X pins σ H s)(g:Ff H a y v H')(ry:RelV y u)(rv:RelV v r)(h:∀ s',Inv X pins σ H' s'->Q () s') :
  wpAny (model X.prog X.w) A (setItem (.ref a) u r) Q E s:=by
 rcases g with ⟨kvs,k,e,ey,l,eH⟩|⟨kvs,k,b,e,ey,eb,l,eH⟩
 ·subst ey eH;obtain⟨z,hd,vs,rel,dd⟩:=RF I.hok e;have hz:vs.length<=sizeLine:=by rw[<-rel.length];exact z
  have hl:(putK kvs k v).length<=sizeLine:=by have:=ot kvs k v;omega
  refine wpAny_setItem_pairs (hsz:=hz) (GS ry) dd fun h' Mg hs=>h _ ?_;have he:∃ q,h'.get? a=some q:=let ⟨q,_,_,hq,_⟩:=Mg;⟨q,hq⟩;exact GU I (by rw[e];exact True.intro) hs he (Fg hl hd (rel.put k rv) Mg)
 ·subst ey eH;cases (show u=Value.ref b from ry);obtain⟨z,hd,xs,rel,dd⟩:=RG I.hok e;have hz:xs.length<=sizeLine:=by rw[<-Paired.length rel];exact z
  have hl:(putK kvs k v).length<=sizeLine:=by have:=ot kvs k v;omega
  refine wpAny_setItem_heap (hsz:=hz) (tupleKind_room_in1 hu) (Fe I.hok eb) dd fun h' Mg hs=>h _ ?_;obtain⟨q,es,ep,hq,h2,h3,h4,_,h5⟩:=Mg;refine GU I (by rw[e];exact True.intro) hs ⟨q,hq⟩ ⟨hl,hd,_,(rel.put k eb rv).keeps fun c ys ec=>?_,q,es,ep,hq,h2,h3,h4,h5⟩;rw[ai (fm ec e (fun z=>nomatch z))];exact ec
end
section
variable {X:Cx} {pins:List (Addr×Obj)} {σ:St} {H:Hp} {s:Shared} {a:Addr} {kvs:List (Key×V)} {k:Key} {u:Value} {A:Around} {E:Value->Shared->Prop}
end
noncomputable def RH (i:Expr):Prop:=∀ ov iv,subscripted i false ov iv=operate [ov,iv] (getItem ov iv)
theorem MN {prog:Program}{w:World}{A:Around}{E:Value->Shared->Prop}{s:Shared}{env:Env}{value slice:Expr}{pos:Pos}{T id:String}{Q:Value->Shared->Prop}
  (hl:typeLookup (.type T) "__getitem__"=pure (some (.builtin id))) (hs:RH slice)
  (h:wpAny (model prog w) A (eval value env) (fun o s₁=>wpAny (model prog w) A (eval slice env) (fun i s₂=>s₂.TypeIs o T/\wpAny (model prog w) A (getItem o i) Q E s₂) E s₁) E s) :
  wpAny (model prog w) A (eval (.Subscript value slice pos) env) Q E s:=by
 refine Subscript_ (wpAny_mono h (fun o s₁ h₁=>wpAny_mono h₁ (fun i s₂ h₂=>?_) fun _ _ x=>x) fun _ _ x=>x);obtain⟨hT,h₂⟩:=h₂;unfold subscriptTail;refine wpAny_bind ?_;rw[getitemInPython_of_ne hT.not_modules];refine wpAny_bind (wpAny_specialOf hT hl ?_);have fin:wpAny (model prog w) A (subscripted slice false o i) (fun r s₃=>wpAny (model prog w) A (letTemporaryGo value o r >>= fun _=>pure r) Q E s₃) E s₂:=by
  rw[hs o i];exact wpAny_operating (wpAny_mono h₂ (fun r s₃ h₃=>wpAny_bind (wpAny_letTemporaryGo (wpAny_pure h₃))) fun _ _ x=>x)
 first
  |exact wpAny_pure (wpAny_bind fin)
  |exact wpAny_bind (wpAny_pure (wpAny_bind fin))
  |exact wpAny_bind fin
theorem Dp {X:Cx}{pins:List (Addr×Obj)}{σ:St}{H:Hp}{s:Shared}{a:Addr}{y:V}{o:Option V}(I:Inv X pins σ H s)(g:xu H a y o):s.TypeIs (.ref a) "dict":=by
 rcases g with ⟨kvs,k,e,_,_⟩|⟨kvs,k,b,e,_,_,_⟩
 ·obtain⟨_,_,vs,_,dd⟩:=Dn I.hok e;exact dd.typeIs
 ·obtain⟨_,_,xs,_,dd⟩:=KY I.hok e;exact dd.typeIs
noncomputable def RI (td ty:TE):TE:=fun σ H Q=>td σ H fun x H1=>ty σ H1 fun y H2=>∃ a v,x=.ref a/\xu H2 a y (some v)/\Q v H2
noncomputable def RJ (td ty tv:TE):TS:=fun D σ H=>tv σ H fun v H1=>td σ H1 fun x H2=>ty σ H2 fun y H3=>∃ a H4,x=.ref a/\Ff H3 a y v H4/\D.nx σ H4
section
variable {X:Cx} {o i e value:Expr} {pos pos' tpos:Pos} {td ty tv:TE}
theorem jZ (hu:X.A.units+1<cLine)(ho:PE X o td)(hi:PE X i ty)(hs:RH i):PE X (.Subscript o i pos) (RI td ty):=by
 intro pins s σ H Q I h;refine MN PySem.F.slot_dict_getitem.lookup hs (bU (ho pins s σ H _ I h) fun u s1 ⟨x,H1,I1,rx,q1⟩=>bU (hi pins s1 σ H1 _ I1 q1) fun iv s2 ⟨y,H2,I2,ry,a,v,ex,g,q2⟩=>?_);subst ex;obtain rfl:u=Value.ref a:=rx;exact⟨Dp I2 g,IL hu I2 g ry fun w' s3 I3 Mz=>⟨v,H2,I3,Mz,q2⟩⟩
theorem Bx (hu:X.A.units+1<cLine)(ho:PE X o td)(hi:PE X i ty)(hv:PE X value tv)(hs:swapsWith value (some (.Subscript o i pos')) pos.line X.env=pure false) :
  PS X (.Assign [.Subscript o i pos'] value pos) (RJ td ty tv):=by
 intro pins s σ H D I h;refine wpAny_Assign_Subscript (bU (hv pins s σ H _ I h) fun r s1 ⟨v,H1,I1,rv,q1⟩=>bU (ho pins s1 σ H1 _ I1 q1) fun u s2 ⟨x,H2,I2,rx,q2⟩=>bU (hi pins s2 σ H2 _ I2 q2) fun iv s3 ⟨y,H3,I3,ry,a,H4,ex,g,q3⟩=>?_) hs;subst ex;obtain rfl:u=Value.ref a:=rx;exact IM hu I3 g ry rv fun s4 I4=>⟨σ,H4,I4,q3⟩
end
section
variable {X:Cx} {pos:Pos}
end
noncomputable def fS (kvs more:List (Key×V)):List (Key×V):=more.foldl (fun acc kv=>putK acc kv.1 kv.2) kvs
theorem KV.merge:∀{more:List (Key×V)} {rs:List (Key×Value)} {kvs:List (Key×V)} {vs:List (Key×Value)},KV more rs->KV kvs vs->KV (fS kvs more) (merged vs rs):=by
 intro more rs kvs vs r;unfold KV at r
 induction r generalizing kvs vs with
 |nil=>intro q;exact q
 | @cons p q ps qs h t ih =>
  intro r0;have e:KV (putK kvs p.1 p.2) (stored vs q.1 q.2):=by
   have:=r0.put p.1 h.2;rw[<-h.1];exact this
  exact ih e
theorem pV:∀(more kvs:List (Key×V)),(fS kvs more).length<=kvs.length+more.length
 |[],kvs=>by show kvs.length<=kvs.length+0;omega
 |p::r,kvs=>by
  have h1:=pV r (putK kvs p.1 p.2);have h2:=ot kvs p.1 p.2;show(fS (putK kvs p.1 p.2) r).length<=_;rw[length_cons];omega
section
variable {X:Cx} {pins:List (Addr×Obj)} {σ:St} {H:Hp} {s:Shared} {a:Addr} {y d:V} {u r:Value} {o:Option V} {A:Around} {E:Value->Shared->Prop}
end
section
variable {X:Cx} {o e f:Expr} {apos cpos:Pos} {td ty tx:TE}
end
section
variable {X:Cx} {pins:List (Addr×Obj)} {σ:St} {H:Hp} {s:Shared} {a:Addr} {kvs:List (Key×V)} {A:Around} {E:Value->Shared->Prop}
theorem K0 {Q:Value->Shared->Prop}(I:Inv X pins σ H s)(e:Rd H a (.dK kvs))(h:∀ p s',H p=none->Inv X pins σ (upd H p (.dK kvs)) s'->Q (.ref p) s'):wpAny (model X.prog X.w) A (call (.type "dict") [.ref a]) Q E s:=by
 obtain⟨z,hd,vs,rel,dd⟩:=Dn I.hok e;refine kt_call_dict hd dd (by rw[<-rel.length];exact z) fun h' Mg hs=>?_;refine h _ _ (I.hok.fresh (Nat.le_refl _)) (I.laid (a:=s.heap.objs.size) (o:=.dK kvs) (t':=s.toks) (fun b q hq=>?_) (Nat.le_refl _) (Fg z (beq_eq_false_iff_ne.mpr (Ne.symm (Nat.ne_of_lt I.big))) rel Mg));exact(hs.2 b (Nat.ne_of_lt (Heap.lt_size hq))).trans (Heap.get?_push_of_some _ hq)
end
section
variable {X:Cx} {pins:List (Addr×Obj)} {σ:St} {H:Hp} {s:Shared} {a:Addr} {y:V} {u:Value} {A:Around} {E:Value->Shared->Prop}
end
end L2
namespace L2
open PySem PySem.Spec PyProof.Rows
section
variable {X:Cx}
end
section
variable {κ:Type} [DecidableEq κ]
theorem MO {kvs:List (κ×V)}{k:κ}{v:V}(h:mw kvs k=some v):k∈kvs.map (·.1):=by
 have q:(kvs.any fun kv=>decide (kv.1=k))=true:=by
  rw[oq,h]
  all_goals rfl
 obtain⟨p,hp,e⟩:=any_eq_true.mp q;exact mem_map.mpr ⟨p,hp,of_decide_eq_true e⟩
end
end L2
set_option maxHeartbeats 4000000
namespace L2
open PySem PySem.Spec PyProof.Rows
theorem RK {P:Program}{w:World}{k:Key}{u:Value}(h:(bC P w).is k u=true):RelV (kV k) u:=by
 rcases cN (show w6 k u=true from h) with ⟨i,t,rfl,rfl⟩|⟨x,t,rfl,rfl⟩
 ·exact⟨t,rfl⟩
 ·exact⟨t,rfl⟩
theorem Od:∀{xs:List V} {us:List Value},xs.length=us.length->(∀(i:Nat)(x:V)(u:Value),xs[i]? = some x->us[i]? = some u->RelV x u)->Vals xs us
 |[],[],_,_=>.nil
 |x::xs,u::us,hl,h=>.cons (h 0 x u rfl rfl) (Od (by simpa using hl) fun i y v e1 e2=>h (i+1) y v (by simpa using e1) (by simpa using e2))
 |[],_::_,hl,_=>by simp at hl
 |_::_,[],hl,_=>by simp at hl
section
variable {X:Cx}
theorem xw:f7 X (.type "list") (fun xs H Q=>X.calm=true/\∃ p kvs,xs=[.ref p]/\Rd H p (.dK kvs)/\∀ l,H l=none->Q (.ref l) (upd H l (.lst (kvs.map fun kv=>kV kv.1)))):=by
 intro pins s σ H xs us Q I r h;obtain⟨hc,p,kvs,rfl,hp,q⟩:=h;obtain⟨u,rfl,rx⟩:=vals1 r;cases rx;obtain⟨z,hd,vs,rel,dd⟩:=Dn I.hok hp;obtain⟨ep,da⟩:=dd.dictAt;have hl:=rel.length;refine PySem.W.kdl_call (PySem.W.kdl_dict (knd:=bC X.prog X.w) (kvs:=vs) (ep:=ep) hd) (I.ok.hd hc) da (by omega) fun h' tk acc' c' kp e it=>?_;refine⟨.ref s.heap.objs.size,_,I.laid (t':=tk) kp (Nat.le_refl _) (show dW X.prog X.w _ h' _ (.lst (kvs.map fun kv=>kV kv.1)) from⟨by rw[length_map];exact z,acc'.toList,c',?_,by rw[Array.toArray_toList];exact e⟩),rfl,q _ (I.hok.fresh (Nat.le_refl _))⟩;have hk:=rel.keys;have h1:acc'.toList.length=vs.length:=by rw[Array.length_toList];exact it.1
 refine Od (by rw[length_map,h1,hl]) fun i x u e1 e2=>?_;obtain⟨k,y,e3,e4⟩:=it.2 i u (by rw[<-Array.getElem?_toList];exact e2);have e5:(kvs.map (·.1))[i]? = some k:=by rw[hk,getElem?_map,e3];rfl
 have e6:(kvs.map fun kv=>kV kv.1)[i]? = some (kV k):=by
  rw[getElem?_map]at e5 ⊢;cases e7:kvs[i]? with
  |none=>rw[e7]at e5;cases e5
  |some w=>rw[e7]at e5;cases e5;rfl
 rw[e6]at e1;cases e1;exact RK e4
theorem qz:f7 X (.type "dict") (fun xs H Q=>∃ p kvs,xs=[.ref p]/\Rd H p (.dK kvs)/\∀ l,H l=none->Q (.ref l) (upd H l (.dK kvs))):=by
 intro pins s σ H xs us Q I r h;obtain⟨p,kvs,rfl,hp,q⟩:=h;obtain⟨u,rfl,rx⟩:=vals1 r;cases rx;exact K0 I hp fun l s' hl I'=>⟨.ref l,_,I',rfl,q l hl⟩
end
section
variable {P:Program} {w:World} {K:Frag} {mg:Str->Option Value} {base:Heap}
theorem Bt.wO {x qual:Str}{st:Stmt}{f:Addr}{fd:FuncData}{dV:Value}{N ps:List Str}{k:Nat}{sp:Sp}(F:Bt K x qual st f fd dV)(S:aw N ps (aj st))(len:∀ vs H Q E,sp vs H Q E->vs.length=ps.length)
  (hbody:∀(cdv:Value)(A:Around)(outer:List Env)(s:Shared)(H:Hp)(vs:List V)(Q:VK)(E:XK),ee k (A.deeper (envOfC qual (aj st) s.heap.objs.size f cdv))->sp vs H Q E ->
   ∃ t,wJ ((kM (dU P w) P w K mg base N qual (aj st) f cdv A outer s H E).wish (WD (kM (dU P w) P w K mg base N qual (aj st) f cdv A outer s H E) fun _ cls H'=>E cls none H')) (bP st) t/\t { nx:=fun _ H'=>Q .non H',rt:=Q } (start N vs) H):aS P w K mg base (dU P w) (k+1) f fd ps sp:=by
 obtain⟨oc,od,kV,doc,pm,an,cdv,ct,osl,rfl,lk,hcd⟩:=F.ex;refine Gx lk hcd S len fun A outer s H vs Q E hr hsp=>?_;obtain⟨t,h,q⟩:=hbody cdv A outer s H vs Q E hr hsp;exact⟨t,h.KQ fun _ _ z=>leaveX z,q⟩
end
end L2
set_option maxHeartbeats 4000000
namespace L2
open PySem PySem.Spec PyProof.Rows
theorem By:typeLookup (.type "list") "keys"=pure none:=by rw[typeLookup_type,builtinLookup_eq_fast];kernel_rfl
theorem uH:entryFor table "dict.update.loop" = some Builtin.«dict.update.loop»:=entryFor_of_tree (by kernel_rfl)
theorem j0:plainId "dict.update.loop" = true:=by lk
theorem Pk {α:Type}{xs:List α}{i:Nat}{y:α}(h:xs[i]? = some y):xs.drop i=y::xs.drop (i+1):=by
 obtain⟨h1,h2⟩:=List.getElem?_eq_some_iff.mp h;rw[List.drop_eq_getElem_cons h1,h2]
theorem zo {K:Type}[DecidableEq K](kvs:List (K×Value))(k:K)(v:Value):(stored kvs k v).length<=kvs.length+1:=by
 unfold stored;split
 ·simp
 ·simp
section
variable {prog:Program} {w:World} {A:Around} {E:Value->Shared->Prop} {s:Shared}
theorem Pl {a:Addr}{o:Obj}{xs:Array Value}{k:Nat}{Q:Option Value->Shared->Prop}(hx:s.heap.get? a=some o)(hc:o.cls=.type "list")(hdat:o.data=.seq xs k)(hd:o.dict=none)(hA:A.handled=none)
  (h:∀ h' tk,(∀ b ob,s.heap.get? b=some ob->h'.get? b=some ob)->Q none { s with heap:=h',toks:=tk }):wpAny (model prog w) A (getAttr? (.ref a) "keys") Q E s:=by
 obtain⟨oc,od,dt,sl⟩:=o;simp only at hc hdat hd;subst hc hdat hd;obtain⟨hp,g,d,tk,os⟩:=s;have hT:∀ tk',(⟨hp,g,d,tk',os⟩:Shared).TypeIs (.ref a) "list":=fun _=>⟨_,hx,rfl⟩;have f1:=sub_AttributeError;have f3:=F.slot_list_getattribute.lookup;have f4:=F.slot_list_getattribute.bind (.ref a);have f5:=am_list_getattr_none;unfold getAttr? getAttrBy? getAttrBy
 repeat (any_goals (first|assumption|exact hT _|((with_reducible show wpAny _ _ (call (Value.builtin "list.__getattribute__") _ _) _ _ _);refine call_meets F.slot_list_getattribute (hT _) am_entry_list_getattribute (F.args_list_getattribute_2 _ _) (meets_getattribute_miss_list a xs k sl "keys" _ By (by lk) (by size_fits)) ⟨hx,hA,fun h' tk' e hx'=>?_⟩)|wp_step))
 obtain⟨t',u',he⟩:=hx'.there;show wpAny _ _ (getattributeRaised _ _ _ _ _ _ _) _ _ _;unfold getattributeRaised
 repeat (any_goals (first|assumption|wp_step))
 exact h _ _ hx'.keeps
theorem RL {K:Type}[DecidableEq K]{knd:KeyKind prog w K}{I d:Addr}{fp wr:List Addr}{n:Nat}{P:Nat->Value->Prop}{St:Nat->Heap->Prop}(W:Walks prog w A.in1 I fp wr n P St)(hdf:d ∉ fp)(hn:n<=1000)(h0:Heap)(ps:List (K×Value))(hl:ps.length=n){R:Result->Shared->Prop}
  (hP:∀ i v,i<n->P i v->∃ p o k key u m,ps[i]? = some (k,u)/\v=.ref p/\h0.get? p=some o/\o.cls=.type "tuple"/\o.data=.seq #[key,u] m/\knd.is k key=true/\p≠d/\p ∉ wr) :
  ∀(j i:Nat)(s:Shared)(kvs:List (K×Value)),n-i=j->i<=n->St i s.heap->s.heap.DictOf knd d kvs->kvs.length<=i->(∀ b o,b≠d->b ∉ wr->h0.get? b=some o->s.heap.get? b=some o) ->
  (∀ h' tk,h'.DictOf knd d ((ps.drop i).foldl (fun acc q=>stored acc q.1 q.2) kvs)->(∀ b o,b≠d->b ∉ wr->h0.get? b=some o->h'.get? b=some o)->R (.ok (.ret .none)) { s with heap:=h',toks:=tk }) ->
  codeAny (model prog w) A (.builtin "dict.update.loop" ⟨[.ref d,.ref I,rawInt i,.none],[]⟩) R s:=by
 have hdw:d ∉ wr:=fun h=>hdf (W.sub _ h);intro j
 induction j with
 |zero =>
  intro i s kvs hk hi hst hD hlen hkp hR;have hin:i=n:=by omega
  subst hin;refine codeAny_builtin uH ?_;rw[Around.under_plainId j0 _];show wpAny _ A.in1 (pyNext (.ref I) >>= _) _ _ s;refine wpAny_bind (W.done s _ _ hst fun h' tk hm=>?_);show wpAny _ _ (Builtin.Dict.addKeywords d [] >>= _) _ _ _;refine wpAny_bind (wpAny_pure (wpAny_pure ?_));refine hR h' tk ?_ fun b o hb hb' e=>hm b o hb' (hkp b o hb hb' e);rw[List.drop_eq_nil_of_le (by omega)];obtain⟨o,es,ep,e,r⟩:=hD;exact⟨o,es,ep,hm d o hdw e,r⟩
 |succ j ih =>
  intro i s kvs hk hi hst hD hlen hkp hR;have hlt:i<n:=by omega
  refine codeAny_builtin uH ?_;rw[Around.under_plainId j0 _];show wpAny _ A.in1 (pyNext (.ref I) >>= _) _ _ s;refine wpAny_bind (W.item i s _ _ hlt hst fun v h' tk hPv hst' hm=>?_);obtain⟨p,o,k,key,u,m,hps,rfl,hp,hc,hdt,hkey,hpd,MP⟩:=hP i v hlt hPv;have hp':h'.get? p=some o:=hm p o MP (hkp p o hpd MP hp);have hD':h'.DictOf knd d kvs:=by
   obtain⟨o,es,ep,e,r⟩:=hD;exact⟨o,es,ep,hm d o hdw e,r⟩
  refine wpAny_bind (wpAny_holding (wpAny_bind (wpAny_tryCatch ?_)));unfold Builtin.Dict.pairItems;refine wpAny_bind (wpAny_typeOf (T:="tuple") ⟨o,hp',hc⟩ ?_);rw[if_pos (by decide)];refine wpAny_bind (wpAny_seqItems hp' hdt ?_);refine wpAny_pure ?_;show wpAny _ _ (holding [key,u] (dictSet d key u)) _ _ _;refine wpAny_holding (wpAny_dictSet_pairs (knd:=knd) hkey hD' (fun h'' hd'' hs''=>?_) (by rw[sizeLine_eq];omega));refine wpAny_pure ⟨plainId_quiet j0 _,?_⟩;have RM:St (i+1) h'':=W.frame _ _ _ hst' fun b hb o e=>(hs''.2 b fun z=>hdf (z ▸ hb)).trans e;refine ih (i+1) { s with heap:=h'',toks:=tk+1 } (stored kvs k u) (by omega) hlt RM hd'' (by have:=zo kvs k u;omega) (fun b o hb hb' e=>(hs''.2 b hb).trans (hm b o hb' (hkp b o hb hb' e))) fun h3 tk3 we hk3=>?_;refine hR h3 tk3 ?_ hk3;rw[Pk hps];exact we
end
section
variable {X:Cx}
theorem Fh:f7 X (.type "dict") (fun xs H Q=>X.calm=true/\∃(p:Addr)(ys:List V)(kvs:List (Key×V)),xs=[.ref p]/\aL X.K H p ys/\Paired (fun y kv=>∃ q,y=.ref q/\H q=some (.tup [kV kv.1,kv.2])) ys kvs/\kvs.length<=900/\∀ l,H l=none->Q (.ref l) (upd H l (.dK (fS [] kvs)))):=by
 intro pins s σ H xs us Q I r h;obtain⟨hcalm,p,ys,kvs,rfl,hp,hy,hz,q⟩:=h;obtain⟨u,rfl,rx⟩:=vals1 r;cases rx;obtain⟨its,ri,⟨ol,nl,hol,hcl,hdl,hdat⟩,hsz⟩:=I.list hp;have XE:=hy.length;have XF:=ri.length;have build:∀{ys:List V} {kvs:List (Key×V)} {its:List Value},Paired (fun y kv=>∃ q,y=.ref q/\H q=some (.tup [kV kv.1,kv.2])) ys kvs->Vals ys its->∃ ps:List (Key×Value),KV kvs ps/\ps.length=its.length /\
   ∀(i:Nat) v,its[i]? = some v->∃ p o k key u m,ps[i]? = some (k,u)/\v=.ref p/\s.heap.get? p=some o/\o.cls=.type "tuple"/\o.data=.seq #[key,u] m/\(bC X.prog X.w).is k key=true:=by
  intro ys kvs its h1
  induction h1 generalizing its with
  |nil =>
   intro h2;cases h2;exact⟨[],.nil,rfl,fun i v e=>by simp at e⟩
  | @cons y kv ys kvs r _ ih =>
   intro h2;cases h2 with
   | @cons _ u _ us ry rt =>
    obtain⟨q,rfl,hq⟩:=r;obtain rfl:u=Value.ref q:=ry;obtain⟨tv,rv,⟨o,ho,hc,m,hd⟩,_⟩:=I.tuple (fc.of hq);obtain⟨k1,hk1⟩:∃ a b,tv=[a,b]:=by
     have:=rv.length
     match tv,this with
     |[a,b],_=>exact⟨a,b,rfl⟩
    obtain⟨u1,rfl⟩:=hk1;cases rv with
    |cons r1 KH =>
     cases KH with
     |cons r2 _ =>
      obtain⟨ps,h3,h4,h5⟩:=ih rt;refine⟨(kv.1,u1)::ps,.cons ⟨rfl,r2⟩ h3,by simp[h4],fun i v e=>?_⟩
      match i,e with
      |0,e =>
       simp at e;subst e;exact⟨q,o,kv.1,k1,u1,m,rfl,rfl,ho,hc,hd,GS r1⟩
      |i+1,e =>
       simp at e;obtain⟨p,o,k,key,u,m,z1,z2⟩:=h5 i v e;exact⟨p,o,k,key,u,m,by simpa using z1,z2⟩
 obtain⟨ps,rel,XG,hps⟩:=build hy ri;refine callType_codes (Q₁:=fun obj s₁=>obj=.ref s.heap.objs.size/\s₁ = { s with heap:=s.heap.push { cls:=.type "dict",data:=.dict #[] } }) PySem.F.kt_called_dict (PySem.F.kt_typeCall_dict_1 _) PySem.F.entry_dict_init (kt_code_dict_new _ ⟨rfl,rfl⟩) ?_;rintro obj s₁ ⟨rfl,rfl⟩;have hnew:(s.heap.push { cls:=.type "dict",data:=.dict #[] }).DictOf (bC X.prog X.w) s.heap.objs.size []:=Heap.DictOf.new s.heap;have up:∀ b o,s.heap.get? b=some o->(s.heap.push { cls:=.type "dict",data:=.dict #[] }).get? b=some o:=fun b o e=>Heap.get?_push_of_some _ e;refine⟨hnew.typeIs,PySem.F.args_dict_init_2 _ _,?_⟩;unfold Builtin.«dict.__init__»;refine wpAny_bind ?_;unfold Builtin.Dict.selfAndRest;refine wpAny_bind (wpAny_notOrdered_dict hnew.typeIs ?_);show wpAny _ _ (pure (s.heap.objs.size,[Value.ref p])) _ _ _;refine wpAny_pure ?_;show wpAny _ _ (Builtin.Dict.updateFrom "dict.__init__" s.heap.objs.size (.ref p) [] .none) _ _ _;unfold Builtin.Dict.updateFrom;refine wpAny_bind (wpAny_typeOf (T:="list") ⟨ol,up _ _ hol,hcl⟩ ?_);rw[if_pos (by decide)];have hA:X.A.handled=none:=I.ok.hd hcalm;refine wpAny_bind (Pl (up _ _ hol) hcl hdat hdl hA fun h1 Zw US=>?_);rw[if_pos (show(none:Option Value).isNone=true from rfl)];refine wpAny_bind (wpAny_rule ?_);have up1:∀ b o,s.heap.get? b=some o->h1.get? b=some o:=fun b o e=>US b o (up b o e);have il:h1.IsList p its.toArray:=⟨ol,up1 _ _ hol,hcl,nl,hdat⟩;refine wpAny_bind (wpAny_pyIter_list il ?_);have hsz1:s.heap.objs.size<h1.objs.size:=Heap.lt_size (US _ _ (Heap.get?_push_size _ rfl));have XH:p≠h1.objs.size:=Nat.ne_of_lt (Heap.lt_size (up1 _ _ hol));have hD1:h1.DictOf (bC X.prog X.w) s.heap.objs.size []:=by
  obtain⟨o,es,ep,e,r⟩:=hnew;exact⟨o,es,ep,US _ _ e,r⟩
 have Oe:∀{b o},s.heap.get? b=some o->b<s.heap.objs.size:=fun e=>Heap.lt_size e;refine wpAny_pure ⟨plainId_quiet j0 _,?_⟩;have W:Walks X.prog X.w X.A.in1.in1 h1.objs.size [h1.objs.size,p] [h1.objs.size] its.toArray.size (fun i v=>its.toArray[i]? = some v) (fun i h=>h.IsListIter h1.objs.size p i/\h.IsList p its.toArray):=Walks.list (show X.A.in1.in1.handled=none from hA) h1.objs.size p XH its.toArray;have hn:its.toArray.size<=1000:=by rw[size_toArray];omega
 refine RL (knd:=bC X.prog X.w) W (d:=s.heap.objs.size) ?_ hn s.heap ps (by rw[size_toArray];exact XG) ?_ _ 0 _ [] rfl (Nat.zero_le _) ⟨⟨_,Heap.get?_push_size _ rfl,rfl,rfl⟩,?_⟩ ?_ (Nat.zero_le _) ?_ ?_
 ·intro z;rcases List.mem_cons.mp z with z|z
  ·exact absurd z (Nat.ne_of_lt hsz1)
  ·exact absurd (mem_singleton.mp z) (Nat.ne_of_gt (Oe hol))
 ·intro i v hi e;obtain⟨p',o,k,key,u,m,z1,z2,z3,z4,z5,z6⟩:=hps i v (by simpa using e);exact⟨p',o,k,key,u,m,z1,z2,z3,z4,z5,z6,Nat.ne_of_lt (Oe z3),fun z=>absurd (mem_singleton.mp z) (Nat.ne_of_lt (Nat.lt_trans (Oe z3) hsz1))⟩
 ·exact il.push _
 ·obtain⟨o,es,ep,e,r⟩:=hD1;exact⟨o,es,ep,Heap.get?_push_of_some _ e,r⟩
 ·exact fun b o hb hb' e=>Heap.get?_push_of_some _ (up1 b o e)
 ·intro h' tk hd' hk';refine⟨rfl,.ref s.heap.objs.size,_,I.laid (a:=s.heap.objs.size) (o:=.dK (fS [] kvs)) (t':=tk) (fun b o e=>?_) (Nat.le_refl _) (Fg ?_ (beq_eq_false_iff_ne.mpr (Ne.symm (Nat.ne_of_lt I.big))) (rel.merge .nil) hd'),rfl,q _ (I.hok.fresh (Nat.le_refl _))⟩
  ·exact hk' b o (Nat.ne_of_lt (Oe e)) (fun z=>absurd (mem_singleton.mp z) (Nat.ne_of_lt (Nat.lt_trans (Oe e) hsz1))) e
  ·have h1:=pV kvs [];rw[List.length_nil]at h1;rw[sizeLine_eq];omega
end
end L2
set_option maxHeartbeats 4000000
namespace L2
open PySem PySem.Spec PyProof.Rows
section
variable {prog:Program} {w:World} {A:Around} {E:Value->Shared->Prop} {s:Shared}
theorem MQ {it l:Addr}{i:Nat}{items:Array Value}{R:Value->Shared->Prop}{E:Value->Shared->Prop}(hh:A.handled=none)(hne:l≠it)(st:s.heap.IsTupleIter it l i/\s.heap.IsTuple l items)
  (some_:∀ x,items[i]? = some x->∀ h',(h'.IsTupleIter it l (i+1)/\h'.IsTuple l items)->Heap.SameBut it s.heap h'->R x { s with heap:=h' })
  (none_:items[i]? = none->∀ h' e,Heap.ExtBut it s.heap h'->(∃ o,h'.get? e=some o/\o.cls=.type "StopIteration")->E (.ref e) { s with heap:=h' }) :
  wpAny (model prog w) A (Builtin.«tuple_iterator.__next__» ⟨[.ref it],[]⟩) (fun fin s'=>∃ v,fin=.done (.ret v)/\R v s') E s:=by
 have ti:=st.1;obtain⟨⟨o,ho,hc,hd⟩,tl⟩:=st;obtain⟨ol,hol,hcl,nl,hdl⟩:=id tl;show wpAny _ _ (field (.ref it) 0 >>= _) _ _ s;refine wpAny_bind (wpAny_field ho hd (x:=.ref l) rfl ?_);show wpAny _ _ (ite _ _ _) _ _ s;rw[if_neg (by exact Bool.false_ne_true)];show wpAny _ _ (field (.ref it) 1 >>= _) _ _ s;refine wpAny_bind (wpAny_field ho hd (x:=.int i 0) rfl (wpAny_bind (wpAny_seqItems hol hdl ?_)));rw[Int.toNat_natCast];cases hx:items[i]? with
 |some x =>
  simp only [hx];refine wpAny_bind (wpAny_setField ho hd (by simp) (wpAny_pure ⟨x,rfl,some_ x hx _ ⟨⟨_,Heap.get?_update_self _ ho (Obj.isFreed_of_fields (Obj.data_mapFields hd _)),(Obj.cls_mapFields ..).trans hc,?_⟩,tl.extBut (Heap.SameBut.update ..).extBut hne⟩ (Heap.SameBut.update ..)⟩));rw[Obj.data_mapFields hd];simp[rawInt]
 |none =>
  simp only [hx];refine wpAny_bind (wpAny_rule (wpAny_bind (wpAny_setField ho hd (by simp) ?_)));refine wpAny_bind (m:=newExc (.type "StopIteration") []) ?_;unfold newExc newTuple;refine wpAny_bind (wpAny_newObj_type ?_ (by size_fits));refine wpAny_bind (m:=firstArgMember _ _) (wpAny_of_eq (a:=Value.none) (by rfl) (wpAny_newObj_type ?_ (by size_fits)));unfold raiseNew;refine wpAny_bind (wpAny_handled ?_);rw[hh];refine wpAny_bind (wpAny_pure (wpAny_throw ?_));exact none_ hx _ _ (((Heap.SameBut.update ..).extBut.push _).push _) ⟨_,Heap.get?_push_size _ rfl,rfl⟩
theorem GZ {it l:Addr}{i:Nat}{items:Array Value}{R:Value->Shared->Prop}{E:Value->Shared->Prop}(hh:A.handled=none)(hne:l≠it)(st:s.heap.IsTupleIter it l i/\s.heap.IsTuple l items)
  (some_:∀ x,items[i]? = some x->∀ h',(h'.IsTupleIter it l (i+1)/\h'.IsTuple l items)->Heap.SameBut it s.heap h'->R x { s with heap:=h' })
  (none_:items[i]? = none->∀ h' e,Heap.ExtBut it s.heap h'->(∃ o,h'.get? e=some o/\o.cls=.type "StopIteration")->E (.ref e) { s with heap:=h' }) :
  wpAny (model prog w) A (Builtin.SmallTypes.nextOf (.ref it)) R E s:=by
 unfold Builtin.SmallTypes.nextOf;refine wpAny_bind (wpAny_callSpecial?_slot (name:=Str.ofString "__next__") st.1.typeIs F.slot_tuple_iterator_next (wpAny_call_entry F.slot_tuple_iterator_next st.1.typeIs F.entry_tuple_iterator_next ?_ (F.args_tuple_iterator_next_1 _)));exact MQ (A:=A.in1) hh hne st (fun x hx h' a b=>wpAny_pure (some_ x hx h' a b)) none_
theorem zV (hh:A.handled=none)(it l:Addr)(hne:l≠it)(items:Array Value) :
  Draws prog w A it [it,l] items.size (fun i v=>items[i]? = some v) (fun i h=>h.IsTupleIter it l i/\h.IsTuple l items) where
 live:=fun _ _ st=>let ⟨o,ho,_⟩:=st.1;⟨o,ho⟩
 frame:=fun _ _ _ st hk=>⟨st.1.at fun o e=>hk it (by simp) o e,st.2.at fun o e=>hk l (by simp) o e⟩
 item:=fun i s Q E hi st hQ=>GZ hh hne st (fun x hx h' a b=>hQ x h' s.toks hx a b) fun e=>by rw[Array.getElem?_eq_getElem hi]at e;cases e
 done:=fun s Q E st hE=>GZ hh hne st (fun x hx=>by rw[Array.getElem?_eq_none (Nat.le_refl _)]at hx;cases hx) fun _=>hE
structure UT (z TI TO i1 i2:Addr)(f1 f2:List Addr):Prop where
 zt:TI≠z/\TO≠z/\TI≠TO
 m1:i1∈f1
 m2:i2∈f2
 o1:∀ c∈f1,c≠z/\c≠TI/\c≠TO/\c≠i2
 o2:∀ c∈f2,c≠z/\c≠TI/\c≠TO/\c≠i1
variable {z TI TO i1 i2:Addr} {f1 f2:List Addr} {n1 n2:Nat} {P1 P2:Nat->Value->Prop} {S1 S2:Nat->Heap->Prop} {i j:Nat} {a b:Value}
theorem MR {R:Value->Shared->Prop}(Z:UT z TI TO i1 i2 f1 f2)(D1:Draws prog w A i1 f1 n1 P1 S1)(D2:Draws prog w A i2 f2 n2 P2 S2)
  (hz:IsZip s.heap z TI TO .none) (hTI:IsPair s.heap TI (.ref i1) (.ref i2)) (hTO:IsPair s.heap TO a b) (h1:S1 i s.heap) (h2:S2 j s.heap) (l1:i<=n1) (l2:j<=n2)
  (both:i<n1->j<n2->∀ x y h' tk T,P1 i x->P2 j y->s.heap.objs.size<=T->IsZip h' z TI TO (rawInt T)->IsPair h' TO x y->S1 (i+1) h'->S2 (j+1) h'->IsPair h' T x y ->
   (∀ c o,c ∉ [z,TO,i1,i2]->s.heap.get? c=some o->h'.get? c=some o)->R (.ref T) { s with heap:=h',toks:=tk })
  (stop:i=n1\/j=n2->∀ h' tk e,(∀ c o,c ∉ [z,TO,i1,i2]->s.heap.get? c=some o->h'.get? c=some o)->(∃ o,h'.get? e=some o/\o.cls=.type "StopIteration")->E (.ref e) { s with heap:=h',toks:=tk }) :
  wpAny (model prog w) A (Builtin.«zip.__next__» ⟨[.ref z],[]⟩) (fun fin s'=>∃ v,fin=.done (.ret v)/\R v s') E s:=by
 obtain⟨tz,oz,tt⟩:=Z.zt;have a1:=Z.o1 i1 Z.m1;have a2:=Z.o2 i2 Z.m2;show wpAny _ _ (field (.ref z) 2 >>= _) _ _ _;refine wpAny_bind (wpAny_field hz rfl (x:=.bool false) rfl ?_);refine wpAny_bind (m:=field (.ref z) 3) (wpAny_field hz rfl (x:=.ref TI) rfl (wpAny_bind (wpAny_seqItems hTI rfl ?_)));refine wpAny_bind (m:=Builtin.SmallTypes.ownedTupleIsFree (.ref z)) ?_;unfold Builtin.SmallTypes.ownedTupleIsFree;refine wpAny_bind (wpAny_field hz rfl (x:=.none) rfl (wpAny_pure ?_));simp only [if_true];refine wpAny_bind (wpAny_rule (wpAny_bind (wpAny_field hz rfl (x:=.ref TO) rfl (wpAny_bind (wpAny_setField_rec hz (by simp) fun g1 z1 b1=>?_)))))
 replace z1:IsZip g1 z TI TO .ellipsis:=z1
 have s1:S1 i g1:=D1.frame _ _ _ h1 fun c hc o e=>b1.extBut _ _ (Z.o1 c hc).1 e;have s2:S2 j g1:=D2.frame _ _ _ h2 fun c hc o e=>b1.extBut _ _ (Z.o2 c hc).1 e;have o1:IsPair g1 TO a b:=b1.extBut _ _ oz hTO;refine wpAny_bind ?_;simp only [List.zipIdx_cons,List.zipIdx_nil,List.forIn_cons,List.forIn_nil];refine wpAny_bind (wpAny_bind (wpAny_onRaise ?_));refine wpAny_bind (m:=Builtin.SmallTypes.nextOf (.ref i1)) ?_
 by_cases e1:i<n1
 ·refine D1.item i _ _ _ e1 s1 fun x g2 t2 px Qs b2=>wpAny_pure ?_;have z2:IsZip g2 z TI TO .ellipsis:=b2.extBut _ _ (Ne.symm a1.1) z1;have o2:IsPair g2 TO a b:=b2.extBut _ _ (Ne.symm a1.2.2.1) o1;have XI:S2 j g2:=D2.frame _ _ _ s2 fun c hc o e=>b2.extBut _ _ (Z.o2 c hc).2.2.2 e;refine wpAny_bind (wpAny_seqItems o2 rfl (wpAny_bind (wpAny_updateSeq_pair o2 fun g3 o3 b3=>wpAny_bind (wpAny_letGo (wpAny_pure ?_)))))
  replace o3:IsPair g3 TO x b:=o3
  have z3:IsZip g3 z TI TO .ellipsis:=b3.extBut _ _ (Ne.symm oz) z2;have UU:S1 (i+1) g3:=D1.frame _ _ _ Qs fun c hc o e=>b3.extBut _ _ (Z.o1 c hc).2.2.1 e;have V6:S2 j g3:=D2.frame _ _ _ XI fun c hc o e=>b3.extBut _ _ (Z.o2 c hc).2.2.1 e;refine wpAny_bind (wpAny_bind (wpAny_onRaise ?_));refine wpAny_bind (m:=Builtin.SmallTypes.nextOf (.ref i2)) ?_
  by_cases e2:j<n2
  ·refine D2.item j _ _ _ e2 V6 fun y g4 t4 py XJ b4=>wpAny_pure ?_;have z4:IsZip g4 z TI TO .ellipsis:=b4.extBut _ _ (Ne.symm a2.1) z3;have o4:IsPair g4 TO x b:=b4.extBut _ _ (Ne.symm a2.2.2.1) o3;have XM:S1 (i+1) g4:=D1.frame _ _ _ UU fun c hc o e=>b4.extBut _ _ (Z.o1 c hc).2.2.2 e;refine wpAny_bind (wpAny_seqItems o4 rfl (wpAny_bind (wpAny_updateSeq_pair o4 fun g5 o5 b5=>wpAny_bind (wpAny_letGo (wpAny_pure (wpAny_pure ?_))))))
   replace o5:IsPair g5 TO x y:=o5
   have z5:IsZip g5 z TI TO .ellipsis:=b5.extBut _ _ (Ne.symm oz) z4;have XN:S1 (i+1) g5:=D1.frame _ _ _ XM fun c hc o e=>b5.extBut _ _ (Z.o1 c hc).2.2.1 e;have XO:S2 (j+1) g5:=D2.frame _ _ _ XJ fun c hc o e=>b5.extBut _ _ (Z.o2 c hc).2.2.1 e;have sz:g5.objs.size=s.heap.objs.size:=by rw[b5.1,b4.1,b3.1,b2.1,b1.1]
   refine wpAny_bind (wpAny_seqItems o5 rfl (wpAny_bind (wpAny_newTuple ?_)));refine wpAny_bind (m:=Builtin.SmallTypes.ownedTupleHandOut (.ref z) (.ref g5.objs.size)) ?_;unfold Builtin.SmallTypes.ownedTupleHandOut;have z6:IsZip (g5.push { cls:=.type "tuple",data:=.seq #[x,y] }) z TI TO .ellipsis:=Heap.get?_push_of_some _ z5;refine wpAny_bind (wpAny_setField_rec z6 (by simp) fun g7 z7 b7=>?_)
   replace z7:IsZip g7 z TI TO (rawInt g5.objs.size):=z7
   refine wpAny_setField_rec z7 (by simp) fun g8 z8 b8=>wpAny_pure ⟨_,rfl,?_⟩;have up:∀ c o,c≠z->g5.get? c=some o->g8.get? c=some o:=fun c o hc e=>b8.extBut _ _ hc (b7.extBut _ _ hc (Heap.get?_push_of_some _ e));refine both e1 e2 x y g8 _ g5.objs.size px py (by rw[sz];exact Nat.le_refl _) z8 (up _ _ oz o5) (D1.frame _ _ _ XN fun c hc o e=>up _ _ (Z.o1 c hc).1 e) (D2.frame _ _ _ XO fun c hc o e=>up _ _ (Z.o2 c hc).1 e)
    (b8.extBut _ _ (Nat.ne_of_gt (Heap.lt_size z5)) (b7.extBut _ _ (Nat.ne_of_gt (Heap.lt_size z5)) (Heap.get?_push_size _ rfl))) fun c o hc e=>?_
   simp only [List.mem_cons,List.not_mem_nil,or_false,not_or]at hc;obtain⟨c1,c2,c3,c4⟩:=hc;exact up _ _ c1 (b5.extBut _ _ c2 (b4.extBut _ _ c4 (b3.extBut _ _ c2 (b2.extBut _ _ c3 (b1.extBut _ _ c1 e)))))
  ·have ej:j=n2:=by omega
   refine D2.done _ _ _ (ej ▸ V6) fun g4 e b4 he=>?_;obtain⟨oe,hoe,hce⟩:=he;have z4:IsZip g4 z TI TO .ellipsis:=b4 _ _ (Ne.symm a2.1) z3;have hez:e≠z:=fun q=>by subst q;rw[z4]at hoe;cases hoe;simp at hce
   refine wpAny_setField_rec z4 (by simp) fun g5 _ b5=>stop (.inr ej) g5 _ e (fun c o hc q=>?_) ⟨oe,b5.extBut _ _ hez hoe,hce⟩;simp only [List.mem_cons,List.not_mem_nil,or_false,not_or]at hc;obtain⟨c1,c2,c3,c4⟩:=hc;exact b5.extBut _ _ c1 (b4 _ _ c4 (b3.extBut _ _ c2 (b2.extBut _ _ c3 (b1.extBut _ _ c1 q))))
 ·have ei:i=n1:=by omega
  refine D1.done _ _ _ (ei ▸ s1) fun g2 e b2 he=>?_;obtain⟨oe,hoe,hce⟩:=he;have z2:IsZip g2 z TI TO .ellipsis:=b2 _ _ (Ne.symm a1.1) z1;have hez:e≠z:=fun q=>by subst q;rw[z2]at hoe;cases hoe;simp at hce
  refine wpAny_setField_rec z2 (by simp) fun g3 _ b3=>stop (.inl ei) g3 _ e (fun c o hc q=>?_) ⟨oe,b3.extBut _ _ hez hoe,hce⟩;simp only [List.mem_cons,List.not_mem_nil,or_false,not_or]at hc;obtain⟨c1,c2,c3,c4⟩:=hc;exact b3.extBut _ _ c1 (b2 _ _ c3 (b1.extBut _ _ c1 q))
theorem Ha {R:Option Value->Shared->Prop}(Z:UT z TI TO i1 i2 f1 f2)(D1:Draws prog w A.in1 i1 f1 n1 P1 S1)(D2:Draws prog w A.in1 i2 f2 n2 P2 S2)
  (hz:IsZip s.heap z TI TO .none) (hTI:IsPair s.heap TI (.ref i1) (.ref i2)) (hTO:IsPair s.heap TO a b) (h1:S1 i s.heap) (h2:S2 j s.heap) (l1:i<=n1) (l2:j<=n2)
  (both:i<n1->j<n2->∀ x y h' tk T,P1 i x->P2 j y->s.heap.objs.size<=T->IsZip h' z TI TO (rawInt T)->IsPair h' TO x y->S1 (i+1) h'->S2 (j+1) h'->IsPair h' T x y ->
   (∀ c o,c ∉ [z,TO,i1,i2]->s.heap.get? c=some o->h'.get? c=some o)->R (some (.ref T)) { s with heap:=h',toks:=tk })
  (stop:i=n1\/j=n2->∀ h' tk,(∀ c o,c ∉ [z,TO,i1,i2]->s.heap.get? c=some o->h'.get? c=some o)->R none { s with heap:=h',toks:=tk }) :
  wpAny (model prog w) A (pyNext (.ref z)) R E s:=by
 have hT:s.TypeIs (.ref z) "zip":=⟨_,hz,rfl⟩;unfold pyNext;refine wpAny_bind (wpAny_attempt (wpAny_callSpecial?_slot (name:=Str.ofString "__next__") hT F.slot_zip_next (wpAny_call_entry F.slot_zip_next hT F.entry_zip_next ?_ (F.args_zip_next_1 _))));refine MR Z D1 D2 hz hTI hTO h1 h2 l1 l2 (fun e1 e2 x y h' tk T px py hT z' o' s1 s2 p k=>wpAny_pure (both e1 e2 x y h' tk T px py hT z' o' s1 s2 p k)) fun e h' tk ex k eN=>?_;obtain⟨o,ho,hc⟩:=eN;exact wpAny_bind (wpAny_isInstance (T:="StopIteration") (b:=true) ⟨o,ho,hc⟩ isSubtype_stop (wpAny_pure (stop e h' tk k)))
end
section
variable {X:Cx}
end
end L2
set_option maxHeartbeats 4000000
namespace L2
open PySem PySem.Spec PyProof.Rows
section
variable {X:Cx}
theorem Pn {st:Stmt}{t:TS}(h:PS X.NO st t):PS X st t:=fun pins s σ H D I hw=>wpAny_mono (h pins s σ H D (I.wish _) hw) (fun _ _ q=>q.h9) fun _ _ z=>z.elim
noncomputable def K1 (K:Frag)(cls:Value)(D:Ends)(σ:St)(H:Hp):List (Addr×TS)->Prop
 |[]=>False
 |c::r=>(exmOne K cls (.ref c.1)=some true/\c.2 D σ H)\/(exmOne K cls (.ref c.1)=some false/\K1 K cls D σ H r)
noncomputable def PH (X:Cx)(h:ExceptHandler)(c:Addr×TS):Prop:=∃ x np b₀ suite hpos,h=.ExceptHandler (some (.Name x np)) none (b₀::suite) hpos/\Gl X x/\X.mg x=some (.ref c.1)/\(x==("__debug__":Str))=false/\∀ pn a,wJ ((X.CQ pn).hand a) (b₀::suite) c.2
inductive Of (X:Cx):List ExceptHandler->List (Addr×TS)->Prop
 |nil:Of X [] []
 |cons {h:ExceptHandler} {c:Addr×TS} {hs:List ExceptHandler} {cs:List (Addr×TS)}:PH X h c->Of X hs cs->Of X (h::hs) (c::cs)
theorem MS:Of X [] []:=.nil
theorem fA {CT:Addr}{x:Str}{b₀:Stmt}{suite:List Stmt}{np hpos:Pos}{ts:TS}{hs:List ExceptHandler}{cs:List (Addr×TS)}(h:∀ pn a,wJ ((X.CQ pn).hand a) (b₀::suite) ts)(hg:Gl X x)(hm:X.mg x=some (.ref CT))(r:Of X hs cs)(hd:(x==("__debug__":Str))=false:=by decide) :
  Of X (.ExceptHandler (some (.Name x np)) none (b₀::suite) hpos::hs) ((CT,ts)::cs):=.cons ⟨x,np,b₀,suite,hpos,rfl,hg,hm,hd,h⟩ r
theorem handles {pins:List (Addr×Obj)}{σ:St}{H:Hp}{G B:Heap}{s1:Shared}{a:Addr}{cls a0:Value}{l:List Env}{D:Ends}(I1:Inv X pins σ H { s1 with heap:=G })(cov:∀ b o,G.get? b=some o->b ∉ frs X.stack->B.get? b=some o)(hok:X.Ok) :
  ∀{hs:List ExceptHandler} {cs:List (Addr×TS)},Of X hs cs->∀ h5,Heap.FlyingW B l a cls a0 h5->G.UpToSlots h5->K1 X.K cls D σ H cs->wpAny (model X.prog X.w) X.A (handleBy (.ref a) X.env hs) (fun f s'=>SP X pins D f s') X.xe { s1 with heap:=h5 }:=by
 intro hs cs hh
 induction hh with
 |nil=>intro h5 _ _ p;exact p.elim
 | @cons h c hs cs h0 _ ih =>
  intro h5 Mh U5 p;obtain⟨x,np,b₀,suite,hpos,rfl,hg,hm,hd,XQ⟩:=h0;have I5:Inv X pins σ H { s1 with heap:=h5 }:=I1.flown cov Mh.1 U5;have XR:=I5.hand a;refine wpAny_handleBy_cons (codeAny_handlers_test (md XR hg hm ?_ hd)) (by intro q;cases q);obtain⟨ob,hob,hobc⟩:=Mh.there;rcases p with ⟨hx,q⟩|⟨hx,q⟩
  ·refine(exm_one (M:=model X.prog X.w) I5.mV (hobc ▸ (PySem.W.Looks.ld hob).andThen .now) hx).here ?_;refine codeAny_handlers_suite ?_;refine lands_againW Mh fun h6 XT XU=>?_;have U6:=U5.trans XU;have I6:Inv X pins σ H { s1 with heap:=h6 }:=I1.flown cov XT.1 U6;refine wpAny_mono ((XQ (X.pn++pins) a) [] _ _ _ D (I6.CQ.hand a) q) (fun f s9 z=>?_) fun _ _ z=>z.elim;cases f with
   |next=>obtain⟨σ9,H9,J,w⟩:=z;exact⟨_,H9,(J.Bv (hok.CQ _)).om hok,w⟩
   |brk=>obtain⟨σ9,H9,J,w⟩:=z;exact⟨_,H9,(J.Bv (hok.CQ _)).om hok,w⟩
   |cont=>obtain⟨σ9,H9,J,w⟩:=z;exact⟨_,H9,(J.Bv (hok.CQ _)).om hok,w⟩
   |ret u=>obtain⟨v,σ9,H9,J,r,w⟩:=z;exact⟨v,_,H9,(J.Bv (hok.CQ _)).om hok,r,w⟩
  ·refine(exm_one (M:=model X.prog X.w) I5.mV (hobc ▸ (PySem.W.Looks.ld hob).andThen .now) hx).here ?_;exact ih h5 Mh U5 q
noncomputable def RN (K:Frag)(cs:List (Addr×TS))(tb:GQ->TS):TS:=fun D σ H=>tb (fun σ' cls H'=>K1 K cls D σ' H' cs) D σ H
theorem MT {body:List Stmt}{h₀:ExceptHandler}{hs:List ExceptHandler}{cs:List (Addr×TS)}{pos:Pos}{tb:GQ->TS}
  (hb:∀ pn XS,wJ ((X.CQ pn).wish (WX (X.CQ pn) XS)) body (tb XS)) (hh:Of X (h₀::hs) cs) (hst:X.stack=X.env::X.outer) (hfr:X.env.frame=some X.env.locals) :
  PS X (.Try body (h₀::hs) [] [] pos) (RN X.K cs tb):=by
 intro pins s σ H D I h;refine wpAny_Try_except (wpAny_mono (hb (X.pn++pins) _ [] s σ H D (I.CQ.wish _) h) (fun f s1 q=>?_) fun ev s1 z=>?_)
 ·have q':SP X pins D f s1:=q.h9.om I.ok;cases f with
  |next=>exact wpAny_execs_nil q'
  |brk=>exact q'
  |cont=>exact q'
  |ret u=>exact q'
 ·obtain⟨CW,σ',H',G,a,cls,rfl,I',⟨B,a0,cov,fl,up,hn⟩,q⟩:=z;have I1:Inv X pins σ' H' { s1 with heap:=G }:=I'.om I.ok;have hF:X.A.frames=some (X.env::X.outer):=by rw[<-hst];exact I.ok.frames
  have fl:Heap.FlyingW B (X.env::X.outer) a cls a0 s1.heap:=by rw[<-hst];exact fl
  refine wpAny_looks_onW hF hfr fl fun h4 RO XW=>?_;refine wpAny_landsW RO fun h5 Mh XX=>?_;exact handles I1 cov I.ok hh h5 Mh ((up.trans XW).trans XX) q
end
end L2
set_option maxHeartbeats 4000000
namespace L2
open PySem PySem.Spec PyProof.Rows
section
variable {prog:Program} {w:World} {A:Around} {E:Value->Shared->Prop} {s:Shared}
noncomputable def xy (n:Nat)(l1 l2:Addr)(h h':Heap):Prop:=IsZip h' (n+4) (n+2) (n+3) .none/\IsPair h' (n+2) (.ref n) (.ref (n+1))/\IsPair h' (n+3) .none .none/\h'.IsListIter n l1 0/\h'.IsTupleIter (n+1) l2 0/\∀ c o,h.get? c=some o->h'.get? c=some o
theorem Dq (h:Heap)(l1 l2:Addr):∀ g1 g2 g3 g4 g5:Heap,g1=h.push { cls:=.type "list_iterator",data:=.fields #[.ref l1,.int 0 0] }->g2=g1.push { cls:=.type "tuple_iterator",data:=.fields #[.ref l2,.int 0 0] } ->
  g3=g2.push { cls:=.type "tuple",data:=.seq #[.ref h.objs.size,.ref g1.objs.size] }->g4=g3.push { cls:=.type "tuple",data:=.seq #[.none,.none] } ->
  g5=g4.push { cls:=.type "zip",data:=.fields #[.none,.bool false,.bool false,.ref g2.objs.size,.ref g3.objs.size] }->g4.objs.size=h.objs.size+4/\xy h.objs.size l1 l2 h g5:=by
 rintro g1 g2 g3 g4 g5 e1 e2 e3 e4 e5;have n1:g1.objs.size=h.objs.size+1:=by rw[e1,Heap.size_push]
 have n2:g2.objs.size=h.objs.size+2:=by rw[e2,Heap.size_push,n1]
 have n3:g3.objs.size=h.objs.size+3:=by rw[e3,Heap.size_push,n2]
 have n4:g4.objs.size=h.objs.size+4:=by rw[e4,Heap.size_push,n3]
 have k1:∀ c o,h.get? c=some o->g1.get? c=some o:=fun c o q=>by rw[e1];exact Heap.get?_push_of_some _ q
 have k2:∀ c o,g1.get? c=some o->g2.get? c=some o:=fun c o q=>by rw[e2];exact Heap.get?_push_of_some _ q
 have k3:∀ c o,g2.get? c=some o->g3.get? c=some o:=fun c o q=>by rw[e3];exact Heap.get?_push_of_some _ q
 have k4:∀ c o,g3.get? c=some o->g4.get? c=some o:=fun c o q=>by rw[e4];exact Heap.get?_push_of_some _ q
 have k5:∀ c o,g4.get? c=some o->g5.get? c=some o:=fun c o q=>by rw[e5];exact Heap.get?_push_of_some _ q
 have a1:g1.get? h.objs.size=some { cls:=.type "list_iterator",data:=.fields #[.ref l1,.int 0 0] }:=by rw[e1];exact Heap.get?_push_size _ rfl
 have a2:g2.get? (h.objs.size+1)=some { cls:=.type "tuple_iterator",data:=.fields #[.ref l2,.int 0 0] }:=by rw[e2,<-n1];exact Heap.get?_push_size _ rfl
 have a3:g3.get? (h.objs.size+2)=some { cls:=.type "tuple",data:=.seq #[.ref h.objs.size,.ref (h.objs.size+1)] }:=by rw[e3,<-n1,<-n2];exact Heap.get?_push_size _ rfl
 have a4:g4.get? (h.objs.size+3)=some { cls:=.type "tuple",data:=.seq #[.none,.none] }:=by rw[e4,<-n3];exact Heap.get?_push_size _ rfl
 have a5:g5.get? (h.objs.size+4)=some { cls:=.type "zip",data:=.fields #[.none,.bool false,.bool false,.ref (h.objs.size+2),.ref (h.objs.size+3)] }:=by rw[e5,<-n2,<-n3,<-n4];exact Heap.get?_push_size _ rfl
 exact⟨n4,a5,k5 _ _ (k4 _ _ a3),k5 _ _ a4,⟨_,k5 _ _ (k4 _ _ (k3 _ _ (k2 _ _ a1))),rfl,rfl⟩,⟨_,k5 _ _ (k4 _ _ (k3 _ _ a2)),rfl,rfl⟩,fun c o q=>k5 _ _ (k4 _ _ (k3 _ _ (k2 _ _ (k1 _ _ q))))⟩
theorem MU (l1 l2:Addr)(xs ys:Array Value):Meets (Builtin.«zip.__new__» ⟨[.type "zip",.ref l1,.ref l2],[]⟩)
  (fun _ R s=>s.heap.IsList l1 xs/\s.heap.IsTuple l2 ys/\∀ h',xy s.heap.objs.size l1 l2 s.heap h'->R (.ok (.ret (.ref (s.heap.objs.size+4)))) { s with heap:=h' }) :=
 .of_wp fun prog w A R s q=>by
  obtain⟨hp,g,d,tk,os⟩:=s;obtain⟨t1,t2,q⟩:=q;have hsub:=sub_zip;have w1:Heap.IsList (Shared.heap ⟨hp,g,d,tk,os⟩) l1 xs:=t1;have w2:Heap.IsTuple (Shared.heap ⟨hp.push { cls:=.type "list_iterator",data:=.fields #[.ref l1,.int 0 0] },g,d,tk,os⟩) l2 ys:=Heap.IsTuple.push t2 _
  wp_walk using wpAny_pyIter_list w1,wpAny_pyIter_tuple w2
  refine⟨_,rfl,?_⟩;obtain⟨e,m⟩:=Dq hp l1 l2 _ _ _ _ _ rfl rfl rfl rfl rfl;have q':=q _ m;rw[show(Shared.heap ⟨hp,g,d,tk,os⟩).objs.size+4=_ from e.symm]at q';exact q'
theorem K2 {l1 l2:Addr}{xs ys:Array Value}{Q:Value->Shared->Prop}(t1:s.heap.IsList l1 xs)(t2:s.heap.IsTuple l2 ys)
  (q:∀ h',xy s.heap.objs.size l1 l2 s.heap h'->Q (.ref (s.heap.objs.size+4)) { s with heap:=h' }):wpAny (model prog w) A (call (.type "zip") [.ref l1,.ref l2]) Q E s:=by
 refine callType_new F.called_zip (by decide) (F.typeCall_zip_2 _ _) (F.newCall_zip_2 _ _) (fun obj=>F.args_object_init_3 obj _ _) F.entry_zip_new (MU l1 l2 xs ys) ⟨t1,t2,fun h' m=>?_⟩;exact⟨⟨_,m.1,rfl⟩,q h' m⟩
end
noncomputable def Po (K:Frag)(a b:Addr):It :=
 ⟨fun i H=>∃ xs ys x y,aL K H a xs/\fc K H b ys/\xs[i]? = some x/\ys[i]? = some y,
  fun i H p H'=>∃ x y t,p=.ref t/\H t=none/\(∀ xs,aL K H a xs->xs[i]? = some x)/\(∀ ys,fc K H b ys->ys[i]? = some y)/\H'=upd H t (.tup [x,y]),
  fun i H=>∃ xs ys,aL K H a xs/\fc K H b ys/\min xs.length ys.length=i⟩
section
variable {X:Cx}
theorem Hb {pins:List (Addr×Obj)}{σ:St}{H:Hp}{s:Shared}{a c:Addr}{o:Obj}(I:Inv X pins σ H s)(f:gW X pins H c)(e:X.K.lookup a=some o):a≠c:=by
 rintro rfl;have hb:=I.mod.Mc a o e;rcases f.2.2.2.1 with z|z
 ·exact I.ok.zj a o hb z
 ·exact absurd (Nat.lt_of_lt_of_le (Heap.lt_size (I.ok.bs a o hb).1) z) (Nat.lt_irrefl _)
theorem Dr {pins:List (Addr×Obj)}{H:Hp}{a c:Addr}{u:HO}(f:gW X pins H c)(h:Rd H a u):a≠c:=by
 rintro rfl;rcases h with h|⟨o,h⟩ <;> (rw[f.1]at h;cases h)
theorem IP {pins:List (Addr×Obj)}{σ:St}{H:Hp}{s:Shared}{a c:Addr}{xs:List V}(I:Inv X pins σ H s)(f:gW X pins H c)(h:aL X.K H a xs):a≠c:=by
 rcases h with h|⟨o,_,_,e,_⟩
 ·exact Dr f h
 ·exact Hb I f e
theorem IQ {pins:List (Addr×Obj)}{σ:St}{H:Hp}{s:Shared}{a c:Addr}{xs:List V}(I:Inv X pins σ H s)(f:gW X pins H c)(h:fc X.K H a xs):a≠c:=by
 rcases h with h|⟨o,_,_,e,_⟩
 ·exact Dr f h
 ·exact Hb I f e
noncomputable def Pp (z TI TO i1 i2 a b:Addr)(i:Nat)(h:Heap):Prop:=IsZip h z TI TO .none/\IsPair h TI (.ref i1) (.ref i2)/\(∃ x y,IsPair h TO x y)/\h.IsListIter i1 a i/\h.IsTupleIter i2 b i
theorem xA {pins:List (Addr×Obj)}{σ:St}{H:Hp}{s:Shared}{z TI TO i1 i2 a b:Addr}{xs ys:List V}(I:Inv X pins σ H s)(O:tX z TI TO i1 i2)(hf:∀ c∈[z,TI,TO,i1,i2],gW X pins H c)(ha:aL X.K H a xs)(hb:fc X.K H b ys) :
  UT z TI TO i1 i2 [i1,a] [i2,b]/\a≠i1/\b≠i2:=by
 have n:∀ d∈[z,TI,TO,i1,i2],a≠d:=fun d hd=>IP I (hf d hd) ha;have m:∀ d∈[z,TI,TO,i1,i2],b≠d:=fun d hd=>IQ I (hf d hd) hb;refine⟨⟨⟨O.TIz,O.TOz,O.TITO⟩,by simp,by simp,fun c hc=>?_,fun c hc=>?_⟩,n _ (by simp),m _ (by simp)⟩
 ·rcases List.mem_cons.mp hc with rfl|hc
  ·exact⟨O.i1z,Ne.symm O.TIi1,Ne.symm O.TOi1,O.i12⟩
  ·rw[mem_singleton.mp hc];exact⟨n _ (by simp),n _ (by simp),n _ (by simp),n _ (by simp)⟩
 ·rcases List.mem_cons.mp hc with rfl|hc
  ·exact⟨O.i2z,Ne.symm O.TIi2,Ne.symm O.TOi2,Ne.symm O.i12⟩
  ·rw[mem_singleton.mp hc];exact⟨m _ (by simp),m _ (by simp),m _ (by simp),m _ (by simp)⟩
theorem IS {P:Program}{w:World}{K:Frag}{es:List Expr}{k:Nat}{tp:Pos}{z TI TO i1 i2:Addr}(a b:Addr)(O:tX z TI TO i1 i2) :
  Turn P w K (.Tuple es k tp) (Po K a b) [z,TI,TO,i1,i2] z (Pp z TI TO i1 i2 a b) where
 mem:=by simp
 obj:=fun i h st c hc=>by
  obtain⟨hz,hTI,⟨x,y,hTO⟩,⟨o1,e1,_,d1⟩,⟨o2,e2,_,d2⟩⟩:=st;have hc':c=z\/c=TI\/c=TO\/c=i1\/c=i2:=by simpa using hc
  rcases hc' with rfl|rfl|rfl|rfl|rfl
  ·exact⟨_,hz,fun v q=>by
    have q':Data.fields _=Data.cell v:=q;cases q'⟩
  ·exact⟨_,hTI,fun v q=>by
    have q':Data.seq _ _=Data.cell v:=q;cases q'⟩
  ·exact⟨_,hTO,fun v q=>by
    have q':Data.seq _ _=Data.cell v:=q;cases q'⟩
  ·exact⟨o1,e1,fun v q=>by rw[d1]at q;cases q⟩
  ·exact⟨o2,e2,fun v q=>by rw[d2]at q;cases q⟩
 keep:=fun i h h' st kp=>by
  obtain⟨hz,hTI,⟨x,y,hTO⟩,h1,h2⟩:=st;exact⟨kp z (by simp) _ hz,kp TI (by simp) _ hTI,⟨x,y,kp TO (by simp) _ hTO⟩,h1.at fun o q=>kp i1 (by simp) o q,h2.at fun o q=>kp i2 (by simp) o q⟩
 item:=by
  intro X hP hw hK hc i pins s σ H E I hf st hg;subst hP hw hK;obtain⟨xs,ys,x,y,hq,hq2,hx,hy⟩:=hg;obtain⟨Z,ne1,ne2⟩:=xA I O hf hq hq2;obtain⟨its,rv,p,_⟩:=I.list hq;obtain⟨its2,KH,p2,_⟩:=I.tuple hq2;obtain⟨u,hu,ru⟩:=rv.get hx;obtain⟨u2,hu2,UK⟩:=KH.get hy;have h1:i<its.toArray.size:=by rw[size_toArray];exact(List.getElem?_eq_some_iff.mp hu).1
  have h2:i<its2.toArray.size:=by rw[size_toArray];exact(List.getElem?_eq_some_iff.mp hu2).1
  obtain⟨hz,hTI,⟨a0,b0,hTO⟩,g1,g2⟩:=st;refine Ha Z (Draws.list (A:=X.A.in1) (I.ok.hd hc) i1 a ne1 its.toArray) (zV (A:=X.A.in1) (I.ok.hd hc) i2 b ne2 its2.toArray) hz hTI hTO ⟨g1,p.isList⟩ ⟨g2,p2⟩ (Nat.le_of_lt h1) (Nat.le_of_lt h2) ?_ ?_
  ·intro _ _ x' y' h' tk T px py hT zz oo s1 s2 pr kk;refine⟨_,rfl,?_⟩;have ex:x'=u:=by
    have:its[i]? = some x':=by simpa using px
    rw[hu]at this;exact(Option.some.inj this).symm
   have ey:y'=u2:=by
    have:its2[i]? = some y':=by simpa using py
    rw[hu2]at this;exact(Option.some.inj this).symm
   subst ex ey;have sub:∀ c∈[z,TO,i1,i2],c∈[z,TI,TO,i1,i2]:=fun c hc=>by
    have:c=z\/c=TO\/c=i1\/c=i2:=by simpa using hc
    simp;rcases this with r|r|r|r <;> simp[r]
   have lt:∀ c∈[z,TI,TO,i1,i2],c<s.heap.objs.size:=fun c hc=>by
    have:c=z\/c=TI\/c=TO\/c=i1\/c=i2:=by simpa using hc
    rcases this with rfl|rfl|rfl|rfl|rfl
    ·exact Heap.lt_size hz
    ·exact Heap.lt_size hTI
    ·exact Heap.lt_size hTO
    ·obtain⟨_,e,_⟩:=g1;exact Heap.lt_size e
    ·obtain⟨_,e,_⟩:=g2;exact Heap.lt_size e
   have neT:∀ c∈[z,TI,TO,i1,i2],c≠T:=fun c hc q=>by
    have:=lt c hc;rw[q]at this;exact absurd (Nat.lt_of_lt_of_le this hT) (Nat.lt_irrefl _)
   have I1:Inv X pins σ (upd H T (.tup [x,y])) { s with heap:=h',toks:=tk }:=by
    refine I.Dc (vals:=[x',y']) (fun c hc=>hf c (sub c hc)) hT ⟨_,pr,rfl,0,rfl⟩ (.cons ru (.cons UK .nil)) (by show 2<=sizeLine;decide) kk fun c hc=>?_;have:c=z\/c=TO\/c=i1\/c=i2:=by simpa using hc
    rcases this with rfl|rfl|rfl|rfl
    ·exact⟨_,zz⟩
    ·exact⟨_,oo⟩
    ·obtain⟨o,e,_⟩:=s1.1;exact⟨o,e⟩
    ·obtain⟨o,e,_⟩:=s2.1;exact⟨o,e⟩
   have Kv:H T=none:=I.hok.fresh hT;have hf2:∀ c∈[z,TI,TO,i1,i2],gW X pins (upd H T (.tup [x,y])) c:=fun c hc=>by
    obtain⟨f0,fr⟩:=hf c hc;exact⟨by rw[ai (neT c hc)];exact f0,fr⟩
   refine wpAny_letOwnedTupleGo_zip zz fun h'' XY sb=>?_;have UX:IsPair h' TI (.ref i1) (.ref i2):=kk _ _ (by simp;exact⟨O.TIz,O.TITO,O.TIi1,O.TIi2⟩) hTI;refine⟨.ref T,upd H T (.tup [x,y]),I1.fR (tk:=tk) (wr:=[z]) (fun c hc=>hf2 c (by rw[mem_singleton.mp hc];simp)) (fun c o hc e=>sb.extBut _ _ (fun q=>hc (by rw[q];simp)) e),rfl,⟨x,y,T,rfl,Kv,(pF I hq hx),(fun _ z=>I.Il hq2 z ▸ hy),rfl⟩,?_,fun c hc=>(hf2 c hc).1⟩;exact⟨XY,sb.extBut _ _ O.TIz UX,⟨_,_,sb.extBut _ _ O.TOz oo⟩,s1.1.extBut sb.extBut O.i1z,s2.1.extBut sb.extBut O.i2z⟩
  ·intro e
   exfalso
   rcases e with e|e <;> omega
 done:=by
  intro X hP hw hK hc i pins s σ H E I hf st hg;subst hP hw hK;obtain⟨xs,ys,hq,hq2,hx⟩:=hg;obtain⟨Z,ne1,ne2⟩:=xA I O hf hq hq2;obtain⟨its,rv,p,_⟩:=I.list hq;obtain⟨its2,KH,p2,_⟩:=I.tuple hq2;obtain⟨hz,hTI,⟨a0,b0,hTO⟩,g1,g2⟩:=st;have e1:its.toArray.size=xs.length:=by rw[size_toArray,rv.length]
  have e2:its2.toArray.size=ys.length:=by rw[size_toArray,KH.length]
  refine Ha Z (Draws.list (A:=X.A.in1) (I.ok.hd hc) i1 a ne1 its.toArray) (zV (A:=X.A.in1) (I.ok.hd hc) i2 b ne2 its2.toArray) hz hTI hTO ⟨g1,p.isList⟩ ⟨g2,p2⟩ (by omega) (by omega) ?_ ?_
  ·intro l1 l2
   exfalso
   omega
  ·intro _ h' tk kk;refine⟨rfl,I.fR (tk:=tk) (wr:=[z,TO,i1,i2]) (fun c hc=>hf c ?_) kk⟩;have:c=z\/c=TO\/c=i1\/c=i2:=by simpa using hc
   simp;rcases this with r|r|r|r <;> simp[r]
 self:=fun _ i s _ _ st h=>by
  obtain⟨hz,_⟩:=st;exact wpAny_pyIter_zip hz h
noncomputable def RP (K:Frag)(tl tm:TE):TI:=fun σ H R=>tl σ H fun x H1=>tm σ H1 fun y H2=>∃ a b,x=.ref a/\y=.ref b/\(∃ xs,aL K H2 a xs)/\(∃ ys,fc K H2 b ys)/\R (Po K a b) H2
theorem Hc {l m:Expr}{tl tm:TE}{p pos tp:Pos}{es:List Expr}{k:Nat}(hg:Gl X "zip")(hz:X.mg "zip"=none)(hl:PE X l tl)(hm:PE X m tm)(hs:starEach [l,m] X.env=[(false,eval l X.env),(false,eval m X.env)]:=by rfl)(hs2:starEach [m] X.env=[(false,eval m X.env)]:=by rfl) :
  PI X (.Tuple es k tp) (.Call (.Name "zip" p) [l,m] [] pos) (RP X.K tl tm):=by
 intro pins s σ H R I h;refine Call_ (kL I hg hz Kw (PyProof.Rows.callWith_type1 (bU (Kz hl hm hs hs2 pos pins s σ H I h) fun us s1 ⟨x,y,u,v,H1,I1,e1,r1,r2,q1⟩=>?_) (by rw[hs,hs2]) (by rw[hs2];rfl)));obtain⟨a,b,rfl,rfl,⟨xs,hq⟩,⟨ys,hq2⟩,q⟩:=q1;subst e1;cases r1;cases r2;obtain⟨its,rv,pl,_⟩:=I1.list hq;obtain⟨its2,KH,UN,_⟩:=I1.tuple hq2;refine K2 pl.isList UN fun h' eN=>?_;obtain⟨z1,z2,z3,z4,z5,kk⟩:=eN;refine wpAny_pyIter_zip z1 ?_;have O:tX (s1.heap.objs.size+4) (s1.heap.objs.size+2) (s1.heap.objs.size+3) s1.heap.objs.size (s1.heap.objs.size+1):=by
  constructor <;> exact(by intro q;have q':(_:Nat)=_:=q;omega)
 refine⟨_,[s1.heap.objs.size+4,s1.heap.objs.size+2,s1.heap.objs.size+3,s1.heap.objs.size,s1.heap.objs.size+1],_,_,H1,rfl,I1.kept (t':=s1.toks) kk,IS a b O,⟨z1,z2,⟨_,_,z3⟩,z4,z5⟩,fun c hc=>?_,q⟩;have hc':s1.heap.objs.size<=c:=by
  have:c=s1.heap.objs.size+4\/c=s1.heap.objs.size+2\/c=s1.heap.objs.size+3\/c=s1.heap.objs.size\/c=s1.heap.objs.size+1:=by simpa using hc
  rcases this with r|r|r|r|r <;> (rw[r];first|exact Nat.le_add_right _ _|exact Nat.le_refl _)
 exact I1.Bh hc' (I1.hok.fresh hc')
end
theorem zW {K:Frag}{a b:Addr}{xs zs:List V}{g:TG}{tc:TT}{te:TE}{D:Addr}{R:Hp->Prop}{σ:St}{H:Hp}(Pv:Nat->List V->St->Hp->Prop)(he:xs.length=zs.length)(h0:Pv 0 [] σ H)(hl:∀ i ys σ H,Pv i ys σ H->aL K H a xs/\fc K H b zs)
  (hs:∀ i ys x z t σ H,xs[i]? = some x->zs[i]? = some z->Pv i ys σ H->H t=none->∀ N:List V->St->Hp->Prop,(∀ ys σ H,Pv (i+1) ys σ H->N ys σ H)->uG g tc te D ys (.ref t) σ (upd H t (.tup [x,z])) N) (hd:∀ ys σ H,Pv xs.length ys σ H->R H):GN (Po K a b) g tc te D R σ H:=by
 refine⟨fun i m ys σ H=>m=xs.length-i/\i<=xs.length/\Pv i ys σ H,⟨xs.length,by simp,Nat.zero_le _,h0⟩,?_⟩;rintro i m ys σ H ⟨rfl,hi,p⟩;obtain⟨q,q2⟩:=hl i ys σ H p
 by_cases hlt:i<xs.length
 ·have hlt2:i<zs.length:=by omega
  refine .inr ⟨⟨xs,zs,xs[i],zs[i],q,q2,by simp[hlt],by simp[hlt2]⟩,fun x H' y=>?_⟩;obtain⟨x0,y0,t,rfl,hn,hx,hy,rfl⟩:=y;exact hs i ys x0 y0 t σ H (hx xs q) (hy zs q2) p hn (fun ys' σ' H'=>∃ m',m'<xs.length-i/\m'=xs.length-(i+1)/\i+1<=xs.length/\Pv (i+1) ys' σ' H') fun ys' σ' H' q=>⟨xs.length-(i+1),by omega,rfl,hlt,q⟩
 ·have e:i=xs.length:=by omega
  subst e;exact .inl ⟨⟨xs,zs,q,q2,by omega⟩,hd ys σ H p⟩
inductive Hd (P:Program)(w:World)(K:Frag)(mg:Str->Option Value)(base:Heap)(k:Nat)(XS:GQ)(t:TA)(σ:St)(Q:VK)(v:V)(H1:Hp):Prop
 |mk (f:Addr) (fd:FuncData) (ps:List Str) (sp:Sp) (cH:v=.ref f) (cI:aS P w K mg base (dU P w) k f fd ps sp) (dh:keepIn K (.ref f)=true) (fJ:Binds K fd ps []) (jh:t σ H1 fun vs H2=>sp (vs++[]) H2 Q fun cls _ H'=>XS σ cls H'):Hd P w K mg base k XS t σ Q v H1
noncomputable def Pq (P:Program)(w:World)(K:Frag)(mg:Str->Option Value)(base:Heap)(k:Nat)(XS:GQ)(tf:TE)(t:TA):TE:=fun σ H Q=>tf σ H fun v H1=>Hd P w K mg base k XS t σ Q v H1
section
variable {X:Cx} {W:Value->Shared->Prop} {XS:GQ} {k:Nat} {x:Str} {p pos:Pos} {e:Expr} {es:List Expr} {tf:TE} {t:TA}
theorem K3 (hr:ee k X.A)(hf:PE (X.wish W) (.Name x p) tf)(hx:∀ ev s',WX X XS ev s'->W ev s')
  (ha:PA (X.wish W) (e::es) t) (he:starEach (e::es) X.env=(false,eval e X.env)::starEach es X.env:=by rfl) (hpl:(backTo pos (starEach es X.env)).any (·.1)=false:=by rfl) :
  PE (X.wish W) (.Call (.Name x p) (e::es) [] pos) (Pq X.prog X.w X.K X.mg X.base k XS tf t):=by
 intro pins s σ H Q I h;refine wpAny_Call_Name_kw (bU (hf pins s σ H _ I h) fun u s1 eN=>?_);obtain⟨v,H1,I1,rx,q⟩:=eN;obtain⟨f,fd,ps,sp,ev,F,hk,hb,q⟩:=q;subst ev;cases rx;refine callWith_K (h₀:=X.base) I.ok.mod.Mc hk (bU (ha pos pins s1 σ H1 _ I1 q) fun us s2 ⟨vs,H2,I2,r,q2⟩=>⟨I2.mV,?_⟩) he hpl;exact wQ (X:=X) (jV:=[]) F hr hb .nil hx I2 r q2
end
noncomputable def UY (K:Frag)(n:Nat)(t:JX):TG:=fun v σ H Q=>∃ a xs,v=.ref a/\aL K H a xs/\xs.length=n/\t xs σ H Q
theorem K4 {X:Cx}{es:List Expr}{k:Nat}{pos:Pos}{t:JX}{n:Nat}(hc:X.calm=true)(h:QY X es t)
  (hn:(assignEach es X.env).length=n:=by rfl) (hst:(assignEach es X.env).findIdx? (·.1)=none:=by rfl):PG X (.Tuple es k pos) (UY X.K n t):=by
 intro pins s σ H v u Q I r hw;obtain⟨a,xs,e1,hq,hl,hw⟩:=hw;subst e1;cases r;obtain⟨its,rv,p,hz⟩:=I.list hq;rw[assign_Tuple];refine wpAny_bind (wpAny_standAt ?_);have hn2:(assignEach es X.env).length=its.toArray.size:=by simp[hn,<-hl,rv.length]
 unfold unpack;rw[hn2,hst];refine wpAny_bind (wpAny_holding (PySem.W.kun_itemsOf (I.ok.hd hc) p.isList fun h' hx=>?_));have I1:Inv X pins σ H { s with heap:=h' }:=I.kept (t':=s.toks) fun b o e=>hx b o (Nat.ne_of_lt (Heap.lt_size e)) e;exact h pins _ σ H xs _ Q I1 (by simpa using rv) hw
theorem MV {X:Cx}{K:Frag}{e:Expr}{f:Str}{pos:Pos}{ta:TE}(hK:X.K=K)(he:PE X e ta)(hb:attributeBase e f X.env (eval e X.env)=eval e X.env):PE X (.Attribute e f pos) (Rg K ta f):=by
 subst hK;exact a6 he hb
theorem Inv.forget {X:Cx}{pins:List (Addr×Obj)}{σ:St}{H:Hp}{s:Shared}(k:Nat)(I:Inv X pins σ H s):Inv X pins (σ.set k none) H s:=by
 obtain⟨m,hm,hq⟩:=I.loc;refine⟨I.ok,I.os,I.bare,I.base,⟨m,hm,fun i x v e1 e2 e3=>hq i x v e1 ?_ e3⟩,I.cell,I.free,I.iG,I.pin,I.hok,by rw[List.length_set];exact I.len⟩
 by_cases e:k=i
 ·subst e;rw[List.getElem?_set_self']at e2;cases h:σ[k]? with
  |none=>rw[h]at e2;cases e2
  |some u=>rw[h]at e2;cases e2
 ·rwa [List.getElem?_set_ne e]at e2
noncomputable def MW (k:Nat)(t:TS):TS:=fun D σ H=>t D (σ.set k none) H
theorem IT {X:Cx}{st:Stmt}{t:TS}(k:Nat)(h:PS X st t):PS X st (MW k t):=fun pins s σ H D I hw=>h pins s (σ.set k none) H D (I.forget k) hw
end L2
set_option maxHeartbeats 1000000
namespace bD
open PySem L2
inductive Kd where
 |G|D|R|s|d|r|dot|three|two
 deriving DecidableEq
noncomputable def Kd.str:Kd->Str
 |.G=>"G" | .D=>"D" | .R=>"R" | .s=>"s" | .d=>"d" | .r=>"r" | .dot=>"." | .three=>"3" | .two=>"2"
noncomputable def Kd.cp:Kd->Nat
 |.G=>71|.D=>68|.R=>82|.s=>115|.d=>100|.r=>114|.dot=>46|.three=>51|.two=>50
noncomputable def Kd.great:Kd->Bool
 |.G=>true|.D=>true|.R=>true|_=>false
noncomputable def Kd.small:Kd->Bool
 |.s=>true|.d=>true|.r=>true|_=>false
noncomputable def Kd.parting:Kd->Bool
 |.dot=>true|.three=>true|.two=>true|_=>false
noncomputable def Kd.meas:Kd->Bool
 |.three=>true|.two=>true|_=>false
noncomputable def Kd.cK:Kd->Bool
 |.G=>true|.D=>true|.s=>true|.d=>true|_=>false
noncomputable def j1:Option Kd->Str
 |some k=>k.str
 |none=>""
noncomputable abbrev Sg:=Kd×Int
noncomputable def Bz (x y:Str):Bool:=!(Builtin.Str.occurrences y x 0 y.length 1).isEmpty
theorem RQ (k:Kd):k.str=⟨#[k.cp]⟩:=by cases k <;> decide +kernel
theorem str_inj {a b:Kd}:a.str=b.str ↔ a=b:=by
 constructor
 ·revert a b
  have:∀ a b:Kd,a.str=b.str->a=b:=by
   intro a b;cases a <;> cases b <;> first|(intro _;rfl)|(intro h;exact absurd h (by lk))
  exact fun {a b}=>this a b
 ·exact fun h=>by rw[h]
theorem Ds {a b:Option Kd}:j1 a=j1 b ↔ a=b:=by
 constructor
 ·have:∀ a b:Option Kd,j1 a=j1 b->a=b:=by
   intro a b;cases a with
   |none=>cases b with
    |none=>intro _;rfl
    |some b=>cases b <;> (intro h;exact absurd h (by lk))
   |some a=>cases b with
    |none=>cases a <;> (intro h;exact absurd h (by lk))
    |some b=>intro h;exact congrArg some (str_inj.mp h)
  exact fun h=>this a b h
 ·exact fun h=>by rw[h]
theorem MX (a b:Str):decide (V.str a=V.str b)=decide (a=b):=by
 by_cases h:a=b
 ·rw[h];simp
 ·rw[decide_eq_false h];exact decide_eq_false fun e=>h (V.str.inj e)
theorem IU (a b:Kd):decide (V.str a.str=V.str b.str)=decide (a=b):=by
 rw[MX];exact decide_eq_decide.mpr str_inj
theorem RS (a b:Option Kd):decide (V.str (j1 a)=V.str (j1 b))=decide (a=b):=by
 rw[MX];exact decide_eq_decide.mpr Ds
theorem V7 (o:Option Kd):decide (V.str (j1 o)=V.str "G")=decide (o=some .G):=RS o (some .G)
theorem UZ (k:Kd):decide (V.str k.str=V.str "G")=decide (k=.G):=IU k .G
theorem XZ (k:Kd):decide (V.str k.str=V.str "D")=decide (k=.D):=IU k .D
theorem X0 (o:Option Kd):decide (V.str (j1 o)=V.str "s")=decide (o=some .s):=RS o (some .s)
theorem X1 (k:Kd):decide (V.str k.str=V.str "s")=decide (k=.s):=IU k .s
theorem RT (k:Kd):decide (V.str k.str=V.str ".")=decide (k=.dot):=IU k .dot
theorem BA (k:Kd):decide (V.str k.str=V.str "3")=decide (k=.three):=IU k .three
theorem K5 (k:Kd):decide (V.str k.str=V.str "2")=decide (k=.two):=IU k .two
noncomputable def BE (H:Hp)(v:V)(s:Sg):Prop:=∃ p,v=.ref p/\H p=some (.tup [.str s.1.str,.int s.2])
theorem BE.same {H H':Hp}{v:V}{s:Sg}(e:aq H H')(h:BE H v s):BE H' v s:=by
 obtain⟨p,rfl,q⟩:=h;exact⟨p,rfl,e _ _ q⟩
noncomputable abbrev gn (H:Hp):List V->List Sg->Prop:=Paired (BE H)
theorem gn.same {H H':Hp}(e:aq H H'):∀{xs:List V} {ss:List Sg},gn H xs ss->gn H' xs ss
 |_,_,.nil=>.nil
 |_,_,.cons a b=>.cons (a.same e) (gn.same e b)
theorem ou {α β:Type}{F:α->β->Prop}:∀{xs:List α} {ys:List β} {i:Nat} {x:α},Paired F xs ys->xs[i]? = some x->∃ y,ys[i]? = some y/\F x y
 |_,_,_,_,.nil,e=>by simp at e
 |_,_,0,_,.cons r _,e=>by simp at e;subst e;exact⟨_,rfl,r⟩
 |_,_,i+1,x,.cons _ t,e=>by
  obtain⟨u,h1,h2⟩:=ou (i:=i) (x:=x) t (by simpa using e);exact⟨u,by simpa using h1,h2⟩
theorem j2 {α β:Type}{F:α->β->Prop}:∀{xs:List α} {ys:List β} {i:Nat} {y:β},Paired F xs ys->ys[i]? = some y->∃ x,xs[i]? = some x/\F x y
 |_,_,_,_,.nil,e=>by simp at e
 |_,_,0,_,.cons r _,e=>by simp at e;subst e;exact⟨_,rfl,r⟩
 |_,_,i+1,x,.cons _ t,e=>by
  obtain⟨u,h1,h2⟩:=j2 (i:=i) t (by simpa using e);exact⟨u,by simpa using h1,h2⟩
theorem bF {α β:Type}{F:α->β->Prop}{xs:List α}{ys:List β}(h:Paired F xs ys):xs.length=ys.length:=Paired.length h
theorem gZ {α β:Type}{F:α->β->Prop}:∀{xs:List α} {ys:List β} {x:α} {y:β},Paired F xs ys->F x y->Paired F (xs++[x]) (ys++[y])
 |_,_,_,_,.nil,h=>.cons h .nil
 |_,_,_,_,.cons a b,h=>.cons a (gZ b h)
theorem rg {α β:Type}{F:α->β->Prop}:∀{xs:List α} {ys:List β} {xs':List α} {ys':List β},Paired F xs ys->Paired F xs' ys'->Paired F (xs++xs') (ys++ys')
 |_,_,_,_,.nil,h=>h
 |_,_,_,_,.cons a b,h=>.cons a (rg b h)
theorem rh {α β:Type}{F:α->β->Prop}:∀{xs:List α} {ys:List β} (n:Nat),Paired F xs ys->Paired F (xs.drop n) (ys.drop n)
 |_,_,0,h=>h
 |_,_,n+1,.nil=>.nil
 |_,_,n+1,.cons a b=>rh n b
theorem rj {α β:Type}{F:α->β->Prop}:∀{xs:List α} {ys:List β} (n:Nat),Paired F xs ys->Paired F (xs.take n) (ys.take n)
 |_,_,0,h=>.nil
 |_,_,n+1,.nil=>.nil
 |_,_,n+1,.cons a b=>.cons a (rj n b)
theorem bR {α β:Type}{F G:α->β->Prop}(h:∀ x y,F x y->G x y):∀{xs:List α} {ys:List β},Paired F xs ys->Paired G xs ys
 |_,_,.nil=>.nil
 |_,_,.cons a b=>.cons (h _ _ a) (bR h b)
theorem cZ {H0 H:Hp}{l:Addr}{o:HO}(s:aq H0 H)(hl:H0 l=none):aq H0 (upd H l o):=fun b u e=>by
 rw[ai (ao e hl)];exact s b u e
theorem K6 {H:Hp}{D:Addr}{o:HO}{zs:List V}{v:V}{s:Sg}(hD:H D=some (.lst zs))(h:BE H v s):BE (upd H D o) v s:=by
 obtain⟨p,e,q⟩:=h;exact⟨p,e,by rw[ai (fm q hD (by intro z;cases z))];exact q⟩
theorem K7 {H:Hp}{D:Addr}{o:HO}{zs:List V}{xs:List V}{ss:List Sg}(hD:H D=some (.lst zs))(h:gn H xs ss):gn (upd H D o) xs ss:=bR (fun _ _ q=>K6 hD q) h
theorem BG {ms:List Int}{i:Nat}{x:V}(h:(ms.map V.int)[i]? = some x):∃ z,ms[i]? = some z/\x=V.int z:=by
 rw[getElem?_map]at h;cases e:ms[i]? with
 |none=>rw[e]at h;cases h
 |some z=>rw[e]at h;exact⟨z,rfl,(Option.some.inj h).symm⟩
section
variable {K:Frag} {H:Hp} {p:Addr} {Q:VK}
theorem Qt {a b:V}(h:H p=some (.tup [a,b]))(q:Q a H):Bm K (.ref p) (.int 0) H Q\/Bn K (.ref p) (.int 0) H Q\/Bo (.ref p) (.int 0) H Q:=.inr (.inl ⟨p,_,0,a,rfl,rfl,fc.of h,rfl,q⟩)
theorem V8 {a b:V}(h:H p=some (.tup [a,b]))(q:Q b H):Bm K (.ref p) (.int 1) H Q\/Bn K (.ref p) (.int 1) H Q\/Bo (.ref p) (.int 1) H Q:=.inr (.inl ⟨p,_,1,b,rfl,rfl,fc.of h,rfl,q⟩)
theorem EO {xs:List V}{i:Int}{n:Nat}{v:V}(h:aL K H p xs)(hn:i=n)(e:xs[n]? = some v)(q:Q v H):Bm K (.ref p) (.int i) H Q\/Bn K (.ref p) (.int i) H Q\/Bo (.ref p) (.int i) H Q:=.inl ⟨p,xs,i,v,rfl,rfl,h,by rw[hn];exact pE e,q⟩
theorem wj {xs:List V}{ss:List Sg}{i:Int}{n:Nat}{s:Sg}(h:aL K H p xs)(g:gn H xs ss)(hn:i=n)(e:ss[n]? = some s)(q:∀ b,H b=some (.tup [.str s.1.str,.int s.2])->Q (.ref b) H) :
  Bm K (.ref p) (.int i) H Q\/Bn K (.ref p) (.int i) H Q\/Bo (.ref p) (.int i) H Q:=by
 obtain⟨x,hx,b,rfl,hb⟩:=j2 g e;exact EO h hn hx (q b hb)
theorem K8 {ns:List Int}{i:Int}{n:Nat}{z:Int}(h:aL K H p (ns.map V.int))(hn:i=n)(e:ns[n]? = some z)(q:Q (.int z) H):Bm K (.ref p) (.int i) H Q\/Bn K (.ref p) (.int i) H Q\/Bo (.ref p) (.int i) H Q :=
 EO h hn (by rw[getElem?_map,e];rfl) q
end
set_option maxHeartbeats 1000000
noncomputable def nm (m:Int):Kd->Int
 |.three=>3
 |.two=>2
 |_=>m
noncomputable def Ms (m:Int):Prop:=m=3\/m=2
theorem Ms.nm {m:Int}(h:Ms m)(k:Kd):Ms (nm m k):=by
 cases k <;> first|exact h|exact .inl rfl|exact .inr rfl
noncomputable def eI (m:Int):List Kd->List Int
 |[]=>[]
 |k::t=>nm m k::eI (nm m k) t
theorem tZ (m:Int)(ks:List Kd):(eI m ks).length=ks.length:=by
 induction ks generalizing m with
 |nil=>rfl
 |cons k t ih=>simp[eI,ih]
noncomputable def pw:Kd->Int->Int
 |.G,m=>if m=2 then 2 else 3
 |.R,m=>if m=2 then 2 else 3
 |.D,_=>2
 |.s,_=>1
 |.d,_=>1
 |.r,_=>1
 |_,_=>0
noncomputable def bw (m:Int)(k:Kd)(n:Option Kd):Int:=if m=2/\k=.G/\n=some .dot then 3 else pw k m
noncomputable def eJ (m:Int):List Kd->List Int
 |[]=>[]
 |k::t=>bw (nm m k) k t.head? :: eJ (nm m k) t
noncomputable def qA:List Kd->List Int->List Int
 |k::t,m::ms=>bw m k t.head? :: qA t ms
 |_,_=>[]
theorem Dt (m:Int)(ks:List Kd):qA ks (eI m ks)=eJ m ks:=by
 induction ks generalizing m with
 |nil=>rfl
 |cons k t ih=>simp[eI,qA,eJ,ih]
theorem lu (m:Int)(ks:List Kd):(eJ m ks).length=ks.length:=by
 induction ks generalizing m with
 |nil=>rfl
 |cons k t ih=>simp[eJ,ih]
noncomputable def inR (m:Int)(k:Kd):Bool:=decide (m≠2)&&k.small
noncomputable def fB (m:Int):List Kd->List Bool
 |[]=>[]
 |k::t=>inR (nm m k) k::fB (nm m k) t
theorem jr (m:Int)(ks:List Kd):(fB m ks).length=ks.length:=by
 induction ks generalizing m with
 |nil=>rfl
 |cons k t ih=>simp[fB,ih]
noncomputable def Du:List Kd->List Int->List Bool
 |k::t,m::ms=>inR m k::Du t ms
 |_,_=>[]
theorem Fi (m:Int)(ks:List Kd):Du ks (eI m ks)=fB m ks:=by
 induction ks generalizing m with
 |nil=>rfl
 |cons k t ih=>simp[eI,Du,fB,ih]
noncomputable def c8 (at' first:Nat):List Bool->List (Nat×Nat)
 |[]=>if first<at' then [(first,at')] else []
 |true::t=>c8 (at'+1) first t
 |false::t=>(if first<at' then [(first,at')] else [])++c8 (at'+1) (at'+1) t
noncomputable def mW (m:Int)(ks:List Kd):List (Nat×Nat):=c8 0 0 (fB m ks)
noncomputable def BH (ks:List Kd)(i:Int):Option Kd:=if 0<=i then ks[i.toNat]? else none
theorem j3 (ks:List Kd)(n:Nat):BH ks (n:Int)=ks[n]?:=by
 unfold BH;rw[if_pos (by omega)];rfl
noncomputable def kO:Option Kd->Bool
 |some k=>k.great
 |none=>false
noncomputable def fD (ks:List Kd)(f:List Int)(a:Nat):Bool:=decide (BH ks ((a:Int)-1)=some .G)&&decide (f.getD (a-1) 0=3)
noncomputable def d3 (ks:List Kd)(z:Nat):Bool:=decide (ks[z]? = some .G) && !kO ks[z+1]?
noncomputable def pG (ks:List Kd)(f:List Int)(a z:Nat):Bool×List Int:=if fD ks f a then(true,f.set (a-1) 2) else if d3 ks z then(true,f.set z 2) else(false,f)
noncomputable def pH (ks:List Kd)(f:List Int)(a z:Nat):Bool×List Int:=if kO ks[z]? && decide (ks[z-1]? = some .s) then(true,f.set (z-1) 2) else if fD ks f a&&d3 ks z then(true,(f.set (a-1) 2).set z 2) else(false,f)
noncomputable def settle (ks:List Kd)(f:List Int)(a z:Nat):Bool×List Int:=if(z-a) % 3=1 then pG ks f a z else if(z-a) % 3=2 then pH ks f a z else(true,f)
theorem qB (ks:List Kd)(f:List Int)(a z:Nat):(settle ks f a z).2.length=f.length:=by
 unfold settle pG pH
 repeat' split
 all_goals simp
noncomputable abbrev MY:=List Int×List (Nat×Nat)
noncomputable def js (ks:List Kd)(c:MY)(p:Nat×Nat):MY:=((settle ks c.1 p.1 p.2).2,if(settle ks c.1 p.1 p.2).1 then c.2 else c.2++[p])
noncomputable def fE (m:Int)(ks:List Kd):MY:=(mW m ks).foldl (js ks) (eJ m ks,[])
theorem K9 (ks:List Kd)(rs:List (Nat×Nat))(c:MY):(rs.foldl (js ks) c).1.length=c.1.length:=by
 induction rs generalizing c with
 |nil=>rfl
 |cons p t ih=>rw[List.foldl_cons,ih];exact qB ..
theorem pI (m:Int)(ks:List Kd):(fE m ks).1.length=ks.length:=by
 unfold fE;rw[K9,lu]
theorem xB:∀(bs:List Bool)(at' first:Nat),first<=at'->∀ p∈c8 at' first bs,first<=p.1/\p.1<p.2/\p.2<=at'+bs.length
 |[],at',first,h,p,hp=>by
  unfold c8 at hp;split at hp
  ·have:p=(first,at'):=by simpa using hp
   subst this;exact⟨Nat.le_refl _,by assumption,by simp⟩
  ·cases hp
 |true::t,at',first,h,p,hp=>by
  have:=xB t (at'+1) first (by omega) p hp
  simp only [length_cons];omega
 |false::t,at',first,h,p,hp=>by
  unfold c8 at hp;simp only [length_cons];rcases mem_append.mp hp with hp|hp
  ·split at hp
   ·have:p=(first,at'):=by simpa using hp
    subst this;exact⟨Nat.le_refl _,by assumption,by simp⟩
   ·cases hp
  ·have:=xB t (at'+1) (at'+1) (Nat.le_refl _) p hp;omega
theorem La (m:Int)(ks:List Kd):∀ p∈mW m ks,p.1<p.2/\p.2<=ks.length:=by
 intro p hp;have:=xB (fB m ks) 0 0 (Nat.le_refl _) p hp;rw[jr]at this;omega
theorem iH:∀(bs:List Bool)(at' first:Nat),(c8 at' first bs).length<=bs.length+1
 |[],at',first=>by unfold c8;split <;> simp
 |true::t,at',first=>by
  unfold c8;have:=iH t (at'+1) first
  simp only [length_cons];omega
 |false::t,at',first=>by
  unfold c8;have:=iH t (at'+1) (at'+1);simp only [length_cons,length_append];split <;> simp <;> omega
noncomputable def IV (H:Hp)(v:V)(q:Nat×Nat):Prop:=∃ p,v=.ref p/\H p=some (.tup [.int (q.1:Int),.int (q.2:Int)])
noncomputable abbrev Fj (H:Hp):List V->List (Nat×Nat)->Prop:=Paired (IV H)
theorem IV.same {H H':Hp}{v:V}{q:Nat×Nat}(e:aq H H')(h:IV H v q):IV H' v q:=by
 obtain⟨p,rfl,z⟩:=h;exact⟨p,rfl,e _ _ z⟩
theorem j4 {H H':Hp}(e:aq H H'){xs:List V}{qs:List (Nat×Nat)}(h:Fj H xs qs):Fj H' xs qs:=bR (fun _ _ z=>z.same e) h
theorem Dv {H:Hp}{D:Addr}{o:HO}{zs:List V}{v:V}{q:Nat×Nat}(hD:H D=some (.lst zs))(h:IV H v q):IV (upd H D o) v q:=by
 obtain⟨p,e,z⟩:=h;exact⟨p,e,by rw[ai (fm z hD (by intro z;cases z))];exact z⟩
theorem jt {H:Hp}{D:Addr}{o:HO}{zs:List V}{xs:List V}{qs:List (Nat×Nat)}(hD:H D=some (.lst zs))(h:Fj H xs qs):Fj (upd H D o) xs qs:=bR (fun _ _ q=>Dv hD q) h
theorem rk {H:Hp}{a:Addr}{o:HO}(h:H a=some o):upd H a o=H:=by
 funext b
 unfold upd;split
 ·rename_i e;rw[e,h]
 ·rfl
theorem ua {ks:List Kd}{f:List Int}{a:Nat}(h:fD ks f a=true):1<=a/\a-1<ks.length:=by
 unfold fD at h;have h1:=of_decide_eq_true (Bool.and_eq_true_iff.mp h).1;unfold BH at h1;split at h1
 ·have:=(List.getElem?_eq_some_iff.mp h1).1;omega
 ·cases h1
theorem qC {ks:List Kd}{z:Nat}(h:d3 ks z=true):z<ks.length:=by
 unfold d3 at h;have h1:=of_decide_eq_true (Bool.and_eq_true_iff.mp h).1;exact(List.getElem?_eq_some_iff.mp h1).1
theorem j5 {n:Nat}{i:Int}{j:Nat}(e:i=j)(h:j<n):Ke n i=some j:=by
 unfold Ke;subst e;rw[if_pos (by omega),if_pos (by omega)];rfl
theorem i9 {α:Type}{l:List α}{i:Nat}{x:α}(h:l[i]? = some x):l.drop i=x::l.drop (i+1):=by
 obtain⟨hi,e⟩:=List.getElem?_eq_some_iff.mp h;rw[List.drop_eq_getElem_cons hi,e]
theorem ow {α β:Type}{l:List α}{f:α->β}{i:Nat}{x:α}(h:l[i]? = some x):(l.map f)[i]? = some (f x):=by rw[getElem?_map,h];rfl
noncomputable abbrev aR (ss:List Sg):List Kd:=ss.map Prod.fst
theorem ix {fs:List Int}{j:Nat}{v:Int}:(fs.map V.int).set j (V.int v)=(fs.set j v).map V.int:=by rw[List.map_set]
theorem big {n:Nat}(h:n<=1000):n<=sizeLine:=Nat.le_of_lt (aF h)
theorem head_drop {α:Type}(l:List α)(i:Nat):(l.drop i).head? = l[i]?:=by
 rw[List.head?_drop]
noncomputable def fU (m:Int):List Kd->List Bool
 |[]=>[]
 |k::t=>decide (nm m k=3)::fU (nm m k) t
theorem Fl (m:Int)(ks:List Kd):(fU m ks).length=ks.length:=by
 induction ks generalizing m with
 |nil=>rfl
 |cons k t ih=>simp[fU,ih]
noncomputable def lead:List Bool->Nat
 |true::t=>lead t+1
 |_=>0
theorem He:∀ bs:List Bool,lead bs<=bs.length
 |[]=>Nat.le_refl _
 |true::t=>by simp only [lead,length_cons];have:=He t;omega
 |false::t=>Nat.zero_le _
theorem xC:∀(bs:List Bool)(at' first:Nat),first<at'+lead bs\/lead bs=0->first<=at'->c8 at' first bs=(if first<at'+lead bs then [(first,at'+lead bs)] else [])++c8 (at'+lead bs) (at'+lead bs) (bs.drop (lead bs))
 |[],at',first,_,h=>by
  show(if first<at' then [(first,at')] else [])=(if first<at' then [(first,at')] else [])++c8 at' at' [];rw[show c8 at' at' []=[] by unfold c8;rw[if_neg (Nat.lt_irrefl _)],append_nil]
 |true::t,at',first,h0,h=>by
  have ih:=xC t (at'+1) first (.inl (by omega)) (by omega)
  have e:at'+1+lead t=at'+(lead t+1):=by omega
  rw[e]at ih;simp only [c8,lead,List.drop_succ_cons];exact ih
 |false::t,at',first,_,h=>by
  show(if first<at' then [(first,at')] else [])++c8 (at'+1) (at'+1) t=(if first<at' then [(first,at')] else [])++((if at'<at' then [(at',at')] else [])++c8 (at'+1) (at'+1) t);rw[if_neg (Nat.lt_irrefl at'),nil_append]
theorem Hf {m:Int}(h:Ms m):∀(ks:List Kd)(i:Nat)(k:Kd),ks[i]? = some k->∃ b,(fU m ks)[i]? = some b/\(fB m ks)[i]? = some (k.small&&b)
 |[],i,k,e=>by simp at e
 |c::t,0,k,e=>by
  have:c=k:=by simpa using e
  subst this;refine⟨decide (nm m c=3),rfl,?_⟩;simp only [fB,List.getElem?_cons_zero,inR];have hm:=h.nm c;rcases hm with e|e <;> rw[e] <;> cases c <;> rfl
 |c::t,i+1,k,e=>by
  obtain⟨b,h1,h2⟩:=Hf (h.nm c) t i k (by simpa using e);exact⟨b,by simpa [fU] using h1,by simpa [fB] using h2⟩
theorem Hg:∀(bs:List Bool)(j:Nat),j<=lead bs->(j<lead bs ↔ bs[j]? = some true)
 |[],j,h=>by simp[lead]
 |true::t,0,h=>by simp[lead]
 |true::t,j+1,h=>by
  have:=Hg t j (by simp only [lead]at h;omega);simp only [lead,List.getElem?_cons_succ];rw[<-this];omega
 |false::t,j,h=>by
  have:j=0:=by simp only [lead]at h;omega
  subst this;simp[lead]
theorem Pr {m:Int}{ks:List Kd}{low j:Nat}:((fB m ks).drop low)[j]? = (fB m ks)[low+j]?:=by rw[getElem?_drop]
set_option maxHeartbeats 1000000
theorem zX (xs:List V)(n:Nat):n0 xs none (some (n:Int))=xs.take n:=by
 unfold n0;have e:HT.gY xs.length xs.length (some (n:Int))=min n xs.length:=HT.Bj xs.length xs.length n;rw[HT.xj,e,Nat.sub_zero,List.drop_zero];rcases Nat.le_total n xs.length with h|h
 ·rw[Nat.min_eq_left h]
 ·rw[Nat.min_eq_right h,take_length,List.take_of_length_le h]
theorem wR (xs:List V)(n:Nat)(h:n<=xs.length):n0 xs (some (n:Int)) none=xs.drop n:=by
 unfold n0;have e:HT.gY xs.length 0 (some (n:Int))=min n xs.length:=HT.Bj xs.length 0 n;rw[HT.xj,e,Nat.min_eq_left h];exact List.take_of_length_le (by rw[length_drop];omega)
theorem RU {K:Frag}{H:Hp}{p p2:Addr}{s:Sg}(n:Nat)(h1:H p=some (.tup [.str s.1.str,.int s.2]))(h2:H p2=some (.tup [.str s.1.str,.int s.2])):Kt K H (n+1) (.ref p) (.ref p2):=by
 refine .tup (fc.of h1) (fc.of h2) rfl fun i x y e1 e2=>?_;have e:x=y:=Option.some.inj (e1.symm.trans e2);subst e
 match i,e1 with
 |0,e1=>cases e1;exact .flat rfl
 |1,e1=>cases e1;exact .flat rfl
 |n+2,e1=>simp at e1
theorem MZ {K:Frag}{H:Hp}{a b:Addr}{xs ys:List V}{ss:List Sg}(ha:aL K H a xs)(hb:aL K H b ys)(g:gn H xs ss)(g2:gn H ys ss):Kt K H 60 (.ref a) (.ref b):=by
 refine .lst ha hb ((bF g).trans (bF g2).symm) fun i x y e1 e2=>?_;obtain⟨sg,h1,p,rfl,hp⟩:=ou g e1;obtain⟨Zy,h2,p',rfl,hp'⟩:=ou g2 e2;rw[h1]at h2;cases h2;exact RU 58 hp hp'
noncomputable def xE (K:Frag):Sp:=fun vs H Q _=>∃(a:Addr)(ns:List Int),vs=[.ref a]/\aL K H a (ns.map V.int)/\ns.length<=63/\∀ H',Q (.bl true) H'
theorem IW {K:Frag}{H:Hp}{a:Addr}{ns:List Int}(hl:ns.length<=63)(_:Only H)(hS:aL K H a (ns.map V.int)):xE K [.ref a] H (fun v _=>v=.bl true) fun _ _ _=>False :=
 ⟨a,ns,rfl,hS,hl,fun _=>rfl⟩
set_option maxHeartbeats 1000000
theorem cQ {k:Str}{v:V}{r:List (Str×V)}:((k,v)::r).lookup k=some v:=by simp[List.lookup]
theorem az {k g:Str}{v:V}{r:List (Str×V)}(h:¬ g=k):((k,v)::r).lookup g=r.lookup g:=by
 have:(g==k)=false:=beq_eq_false_iff_ne.mpr h;simp[List.lookup,this]
theorem fK {k g:Str}{x y:V}{r:List (Str×V)}(h:¬ g=k):gX k y ((g,x)::r)=(g,x)::gX k y r:=if_neg h
noncomputable def Og (n:Str)(tm:V)(L:Addr):List (Str×V):=[("name",V.str n),("terms",tm),("signs",V.ref L)]
theorem Dw (n:Str)(tm:V)(L:Addr):(Og n tm L).lookup ("name":Str)=some (V.str n):=cQ
theorem pJ (n:Str)(tm:V)(L:Addr):(Og n tm L).lookup ("terms":Str)=some (tm):=(az (by lk)).trans (cQ)
theorem pK (n:Str)(tm:V)(L:Addr):(Og n tm L).lookup ("signs":Str)=some (V.ref L):=(az (by lk)).trans ((az (by lk)).trans (cQ))
theorem BI (v0:V):gX "name" v0 ([]:List (Str×V))=([("name",v0)]:List (Str×V)):=rfl
theorem Hh (v0 v1:V):gX "terms" v1 ([("name",v0)]:List (Str×V))=([("name",v0),("terms",v1)]:List (Str×V)):=(fK (by lk)).trans (congrArg _ (rfl))
theorem M0 (v0 v1 v2:V):gX "signs" v2 ([("name",v0),("terms",v1)]:List (Str×V))=([("name",v0),("terms",v1),("signs",v2)]:List (Str×V)):=(fK (by lk)).trans (congrArg _ ((fK (by lk)).trans (congrArg _ (rfl))))
noncomputable def xF (T:Addr)(at_:Int)(B A:Addr):List (Str×V):=[("things",V.ref T),("at",V.int at_),("before",V.ref B),("after",V.ref A)]
theorem xG (T:Addr)(at_:Int)(B A:Addr):(xF T at_ B A).lookup ("things":Str)=some (V.ref T):=cQ
theorem BJ (T:Addr)(at_:Int)(B A:Addr):(xF T at_ B A).lookup ("at":Str)=some (V.int at_):=(az (by lk)).trans (cQ)
theorem xH (T:Addr)(at_:Int)(B A:Addr):(xF T at_ B A).lookup ("before":Str)=some (V.ref B):=(az (by lk)).trans ((az (by lk)).trans (cQ))
theorem zZ (T:Addr)(at_:Int)(B A:Addr):(xF T at_ B A).lookup ("after":Str)=some (V.ref A):=(az (by lk)).trans ((az (by lk)).trans ((az (by lk)).trans (cQ)))
theorem IX (T:Addr)(at_:Int)(B A:Addr):(xF T at_ B A).lookup ("do":Str)=none:=(az (by lk)).trans ((az (by lk)).trans ((az (by lk)).trans ((az (by lk)).trans (rfl))))
theorem Dx (T:Addr)(at_:Int)(B A:Addr):(xF T at_ B A).lookup ("undo":Str)=none:=(az (by lk)).trans ((az (by lk)).trans ((az (by lk)).trans ((az (by lk)).trans (rfl))))
theorem wU (v0:V):gX "things" v0 ([]:List (Str×V))=([("things",v0)]:List (Str×V)):=rfl
theorem BK (v0 v1:V):gX "at" v1 ([("things",v0)]:List (Str×V))=([("things",v0),("at",v1)]:List (Str×V)):=(fK (by lk)).trans (congrArg _ (rfl))
theorem Hi (v0 v1 v2:V):gX "before" v2 ([("things",v0),("at",v1)]:List (Str×V))=([("things",v0),("at",v1),("before",v2)]:List (Str×V)):=(fK (by lk)).trans (congrArg _ ((fK (by lk)).trans (congrArg _ (rfl))))
theorem M3 (v0 v1 v2 v3:V):gX "after" v3 ([("things",v0),("at",v1),("before",v2)]:List (Str×V))=([("things",v0),("at",v1),("before",v2),("after",v3)]:List (Str×V)):=(fK (by lk)).trans (congrArg _ ((fK (by lk)).trans (congrArg _ ((fK (by lk)).trans (congrArg _ (rfl))))))
noncomputable def tS (V_ D U:Addr):List (Str×V):=[("voices",V.ref V_),("done",V.ref D),("undone",V.ref U)]
theorem fV (V_ D U:Addr):(tS V_ D U).lookup ("voices":Str)=some (V.ref V_):=cQ
theorem xI (V_ D U:Addr):(tS V_ D U).lookup ("done":Str)=some (V.ref D):=(az (by lk)).trans (cQ)
theorem xJ (V_ D U:Addr):(tS V_ D U).lookup ("undone":Str)=some (V.ref U):=(az (by lk)).trans ((az (by lk)).trans (cQ))
theorem ub (V_ D U:Addr):(tS V_ D U).lookup ("add_voice":Str)=none:=(az (by lk)).trans ((az (by lk)).trans ((az (by lk)).trans (rfl)))
theorem lx (V_ D U:Addr):(tS V_ D U).lookup ("add_canon":Str)=none:=(az (by lk)).trans ((az (by lk)).trans ((az (by lk)).trans (rfl)))
theorem Dy (V_ D U:Addr):(tS V_ D U).lookup ("drop":Str)=none:=(az (by lk)).trans ((az (by lk)).trans ((az (by lk)).trans (rfl)))
theorem xK (V_ D U:Addr):(tS V_ D U).lookup ("put":Str)=none:=(az (by lk)).trans ((az (by lk)).trans ((az (by lk)).trans (rfl)))
theorem Dz (V_ D U:Addr):(tS V_ D U).lookup ("swap":Str)=none:=(az (by lk)).trans ((az (by lk)).trans ((az (by lk)).trans (rfl)))
theorem j6 (V_ D U:Addr):(tS V_ D U).lookup ("undo":Str)=none:=(az (by lk)).trans ((az (by lk)).trans ((az (by lk)).trans (rfl)))
theorem ja (V_ D U:Addr):(tS V_ D U).lookup ("names":Str)=none:=(az (by lk)).trans ((az (by lk)).trans ((az (by lk)).trans (rfl)))
theorem iI (V_ D U:Addr):(tS V_ D U).lookup ("line":Str)=none:=(az (by lk)).trans ((az (by lk)).trans ((az (by lk)).trans (rfl)))
theorem uI (V_ D U:Addr):(tS V_ D U).lookup ("kept":Str)=none:=(az (by lk)).trans ((az (by lk)).trans ((az (by lk)).trans (rfl)))
theorem mx (V_ D U:Addr):(tS V_ D U).lookup ("canon":Str)=none:=(az (by lk)).trans ((az (by lk)).trans ((az (by lk)).trans (rfl)))
theorem gC (V_ D U:Addr):(tS V_ D U).lookup ("perform":Str)=none:=(az (by lk)).trans ((az (by lk)).trans ((az (by lk)).trans (rfl)))
theorem pY (V_ D U:Addr):(tS V_ D U).lookup ("put_in":Str)=none:=(az (by lk)).trans ((az (by lk)).trans ((az (by lk)).trans (rfl)))
theorem j7 (V_ D U:Addr):(tS V_ D U).lookup ("refuse_new":Str)=none:=(az (by lk)).trans ((az (by lk)).trans ((az (by lk)).trans (rfl)))
theorem cJ (V_ D U:Addr):(tS V_ D U).lookup ("voice_called":Str)=none:=(az (by lk)).trans ((az (by lk)).trans ((az (by lk)).trans (rfl)))
theorem fW (V_ D U:Addr):(tS V_ D U).lookup ("plain_voice":Str)=none:=(az (by lk)).trans ((az (by lk)).trans ((az (by lk)).trans (rfl)))
theorem BL (v0:V):gX "voices" v0 ([]:List (Str×V))=([("voices",v0)]:List (Str×V)):=rfl
theorem Hj (v0 v1:V):gX "done" v1 ([("voices",v0)]:List (Str×V))=([("voices",v0),("done",v1)]:List (Str×V)):=(fK (by lk)).trans (congrArg _ (rfl))
theorem M4 (v0 v1 v2:V):gX "undone" v2 ([("voices",v0),("done",v1)]:List (Str×V))=([("voices",v0),("done",v1),("undone",v2)]:List (Str×V)):=(fK (by lk)).trans (congrArg _ ((fK (by lk)).trans (congrArg _ (rfl))))
set_option maxHeartbeats 1000000
theorem fX {a b:TS}{D:Ends}{σ:St}{H:Hp}(h:∀ N:St->Hp->Prop,(∀ σ H,b D σ H->N σ H)->a { D with nx:=N } σ H):Mq a b D σ H:=h (b D) fun _ _ z=>z
structure Vx where
 o:Addr
 d:Addr
 n:Str
 tm:V
 l:Addr
noncomputable def M5 (C:Addr)(H:Hp)(v:V)(a:Vx):Prop:=v=.ref a.o/\H a.o=some (.ins C a.d (Og a.n a.tm a.l))
structure Dd where
 o:Addr
 d:Addr
 T:Addr
 i:Nat
 B:Addr
 A:Addr
 bs:List V
 as:List V
noncomputable def jX (C:Addr)(H:Hp)(v:V)(e:Dd):Prop:=v=.ref e.o/\H e.o=some (.ins C e.d (xF e.T (e.i:Int) e.B e.A))/\H e.B=some (.lst e.bs)/\H e.A=some (.lst e.as)
noncomputable abbrev MM:=Addr->List V
noncomputable def putAt (S:MM)(T:Addr)(zs:List V):MM:=fun b=>if b=T then zs else S b
theorem eP {S:MM}{T:Addr}{zs:List V}:putAt S T zs T=zs:=if_pos rfl
theorem ju {S:MM}{T b:Addr}{zs:List V}(h:b≠T):putAt S T zs b=S b:=if_neg h
noncomputable def ox (e:Dd)(S:MM):MM:=putAt S e.T ((S e.T).take e.i++e.as++(S e.T).drop (e.i+e.bs.length))
noncomputable def U1 (e:Dd)(S:MM):MM:=putAt S e.T ((S e.T).take e.i++e.bs++(S e.T).drop (e.i+e.as.length))
noncomputable def Fits (e:Dd)(S:MM):Prop:=e.i+e.bs.length<=(S e.T).length/\((S e.T).drop e.i).take e.bs.length=e.bs
theorem RV {α:Type}{xs bs as:List α}{i:Nat}(h:i+bs.length<=xs.length):(xs.take i++as++xs.drop (i+bs.length)).take i=xs.take i/\(xs.take i++as++xs.drop (i+bs.length)).drop (i+as.length)=xs.drop (i+bs.length):=by
 have h1:(xs.take i).length=i:=by rw[length_take];omega
 constructor
 ·rw[List.append_assoc];exact List.take_left' h1
 ·exact List.drop_left' (by rw[length_append,h1])
theorem RW {e:Dd}{S:MM}(h:Fits e S):U1 e (ox e S)=S:=by
 funext b
 unfold U1
 by_cases hb:b=e.T
 ·subst hb;rw[eP];unfold ox;rw[eP,(RV h.1).1,(RV h.1).2];have h2:e.bs++(S e.T).drop (e.i+e.bs.length)=(S e.T).drop e.i:=by
   rw[<-List.drop_drop];have:=List.take_append_drop e.bs.length ((S e.T).drop e.i);rw[h.2]at this;exact this
  rw[List.append_assoc,h2,List.take_append_drop]
 ·rw[ju hb];unfold ox;rw[ju hb]
theorem M6 {e:Dd}{S:MM}(h:Fits e S):e.i+e.as.length<=(ox e S e.T).length:=by
 unfold ox;rw[eP,length_append,length_append,length_take];have:=h.1;omega
inductive Path:List MM->List Dd->MM->Prop
 |nil {M:MM}:Path [] [] M
 |snoc {Ps:List MM} {es:List Dd} {S:MM} {e:Dd}:Path Ps es S->Fits e S->Path (Ps++[S]) (es++[e]) (ox e S)
inductive Oh:MM->List Dd->List MM->Prop
 |nil {M:MM}:Oh M [] []
 |snoc {M:MM} {us:List Dd} {Fs:List MM} {e:Dd}:Fits e M->Oh (ox e M) us Fs->Oh M (us++[e]) (Fs++[ox e M])
theorem rl {α:Type}{a b:List α}{x y:α}(h:a++[x]=b++[y]):a=b/\x=y:=by
 have:=List.append_inj' h rfl;exact⟨this.1,by simpa using this.2⟩
theorem Path.last {Ps:List MM}{es:List Dd}{e:Dd}{M:MM}(h:Path Ps (es++[e]) M):∃ Qu S,Ps=Qu++[S]/\Path Qu es S/\Fits e S/\M=ox e S:=by
 generalize he:es++[e]=es' at h;cases h with
 |nil=>simp at he
 |snoc p f =>
  obtain⟨rfl,rfl⟩:=rl he;exact⟨_,_,rfl,p,f,rfl⟩
theorem Path.len {Ps:List MM}{es:List Dd}{M:MM}(h:Path Ps es M):Ps.length=es.length:=by
 induction h with
 |nil=>rfl
 |snoc _ _ ih=>rw[length_append,length_append,ih];rfl
theorem Oh.len {us:List Dd}{M:MM}{Fs:List MM}(h:Oh M us Fs):Fs.length=us.length:=by
 induction h with
 |nil=>rfl
 |snoc _ _ ih=>rw[length_append,length_append,ih];rfl
noncomputable def gb (s:Sg):Prop:=(s.1.cK=true->0<=s.2/\s.2<100)/\(s.1.cK=false->s.2=0)
noncomputable def GV (H:Hp)(v:V):Prop:=∃ s,BE H v s/\gb s
structure WF (H:Hp)(L:Addr)(all:List Vx)(S:MM):Prop where
 vs:∃ vx:List Vx,Paired (fun v a=>v=V.ref a.o/\a∈all) (S L) vx
 ln:∀ a∈all,(S a.l).length<=200/\∀ v∈S a.l,GV H v
 len:(S L).length<=12
 out:∀ b,b≠L->(∀ a∈all,b≠a.l)->S b=[]
inductive Th where
 |pl (ss:List Sg)
 |cn (ld:Str) (lt sl:Int) (tn:Bool)
noncomputable abbrev Vw:=List (Str×Th)
noncomputable def Lb (H:Hp)(S:MM)(a:Vx):Th->Prop
 |.pl ss=>a.tm=.non/\gn H (S a.l) ss
 |.cn ld lt sl tn=>∃ p,a.tm=.ref p/\H p=some (.tup [.str ld,.int lt,.int sl,.bl tn])
noncomputable def Fm (H:Hp)(all:List Vx)(S:MM)(v:V)(q:Str×Th):Prop:=∃ a∈all,v=.ref a.o/\a.n=q.1/\Lb H S a q.2
noncomputable abbrev Is (H:Hp)(L:Addr)(all:List Vx)(S:MM)(vw:Vw):Prop:=Paired (Fm H all S) (S L) vw
structure pL (vw:Vw):Prop where
 nd:(vw.map (·.1)).Nodup
 ld:∀ n ld lt sl tn,(n,Th.cn ld lt sl tn)∈vw->(∃ ss,(ld,Th.pl ss)∈vw)/\0<=lt/\lt<=999/\1<=sl/\sl<=9
 gd:∀ n ss,(n,Th.pl ss)∈vw->ss.length<=200/\∀ s∈ss,gb s
 len:vw.length<=12
structure z0 (CB CV CD:Addr)(H:Hp)(x L D U:Addr)(all:List Vx)(M:MM)(Ps Fs:List MM)(es us:List Dd):Prop where
 hx:∃ dx,H x=some (.ins CB dx (tS L D U))
 hL:H L=some (.lst (M L))
 hD:∃ xs,H D=some (.lst xs)/\Paired (jX CD H) xs es
 hU:∃ xs,H U=some (.lst xs)/\Paired (jX CD H) xs us
 ha:∀ a∈all,H a.o=some (.ins CV a.d (Og a.n a.tm a.l))/\H a.l=some (.lst (M a.l))
 LD:L≠D
 LU:L≠U
 DU:D≠U
 nl:∀ a∈all,a.l≠L/\a.l≠D/\a.l≠U
 ni:∀ a∈all,∀ b∈all,a.l=b.l->a=b
 no:∀ a∈all,∀ b∈all,a.o=b.o->a=b
 dd:∀ e,e∈es\/e∈us->(e.T=L\/∃ a∈all,e.T=a.l)/\(e.B≠L/\e.B≠D/\e.B≠U/\∀ a∈all,e.B≠a.l)/\(e.A≠L/\e.A≠D/\e.A≠U/\∀ a∈all,e.A≠a.l)/\e.bs.length<=1/\e.as.length<=1
 past:Path Ps es M
 fut:Oh M us Fs
 wf:∀ S,S∈Ps\/S=M\/S∈Fs->WF H L all S
structure Fn (F:Addr->Prop)(L D U:Addr)(all:List Vx)(es us:List Dd):Prop where
 L:F L
 D:F D
 U:F U
 l:∀ a∈all,F a.l
 d:∀ e,e∈es\/e∈us->F e.B/\F e.A
structure Bk (CB CV CD:Addr)(H:Hp)(x:Addr)(F:Addr->Prop)(vw:Vw)(ps fs:List Vw):Prop where
 ex:∃(L D U:Addr)(all:List Vx)(M:MM)(Ps Fs:List MM)(es us:List Dd),z0 CB CV CD H x L D U all M Ps Fs es us/\Is H L all M vw/\Paired (Is H L all) Ps ps/\Paired (Is H L all) Fs fs/\Fn F L D U all es us
 wv:∀ v,v∈ps\/v=vw\/v∈fs->pL v
noncomputable def Kept (F:Addr->Prop)(H H':Hp):Prop:=∀ y o,H y=some o->(F y\/∀ xs,o≠.lst xs)->H' y=some o
theorem Kept.same {F:Addr->Prop}{H H':Hp}(s:aq H H'):Kept F H H':=fun y o e _=>s y o e
theorem Kept.own {F:Addr->Prop}{H:Hp}{c:Addr}{zs:List V}{o:HO}(hc:H c=some (.lst zs))(h:¬ F c):Kept F H (upd H c o):=fun y ob e k=>by
 rw[ai ?_]
 ·exact e
 ·rintro rfl;rcases k with k|k
  ·exact h k
  ·rw[hc]at e;cases e;exact k _ rfl
section
variable {CB CV CD:Addr} {H H':Hp} {x L D U:Addr} {all:List Vx} {M S:MM} {Ps Fs:List MM} {es us:List Dd} {F:Addr->Prop} {vw:Vw} {ps fs:List Vw}
theorem Kept.X4 (k:Kept F H H'){xs:List V}{ss:List Sg}(h:gn H xs ss):gn H' xs ss:=bR (fun _ _ ⟨p,e1,e2⟩=>⟨p,e1,k _ _ e2 (.inr fun _ z=>nomatch z)⟩) h
theorem Kept.gv (k:Kept F H H'){v:V}(h:GV H v):GV H' v:=by
 obtain⟨s,⟨p,e1,e2⟩,g⟩:=h;exact⟨s,⟨p,e1,k _ _ e2 (.inr fun _ z=>nomatch z)⟩,g⟩
theorem WF.kept (k:Kept F H H')(h:WF H L all S):WF H' L all S:=⟨h.vs,fun a ha=>⟨(h.ln a ha).1,fun v hv=>k.gv ((h.ln a ha).2 v hv)⟩,h.len,h.out⟩
theorem Fm.kept (k:Kept F H H'){v:V}{q:Str×Th}(h:Fm H all S v q):Fm H' all S v q:=by
 obtain⟨a,ha,e1,e2,t⟩:=h;refine⟨a,ha,e1,e2,?_⟩;cases hq:q.2 with
 |pl ss=>rw[hq]at t;exact⟨t.1,k.X4 t.2⟩
 |cn ld lt sl tn =>
  rw[hq]at t;obtain⟨p,e3,e4⟩:=t;exact⟨p,e3,k _ _ e4 (.inr fun _ z=>nomatch z)⟩
theorem Is.kept (k:Kept F H H')(h:Is H L all S vw):Is H' L all S vw:=bR (fun _ _ q=>Fm.kept k q) h
theorem ia (k:Kept F H H'){v:V}{e:Dd}(f:F e.B/\F e.A)(h:jX CD H v e):jX CD H' v e:=⟨h.1,k _ _ h.2.1 (.inr fun _ z=>nomatch z),k _ _ h.2.2.1 (.inl f.1),k _ _ h.2.2.2 (.inl f.2)⟩
theorem my {α β:Type}{F G:α->β->Prop}:∀{xs:List α} {ys:List β},(∀ x y,y∈ys->F x y->G x y)->Paired F xs ys->Paired G xs ys
 |_,_,_,.nil=>.nil
 |_,_,h,.cons a b=>.cons (h _ _ (mem_cons_self ..) a) (my (fun x y hy=>h x y (mem_cons_of_mem _ hy)) b)
theorem z0.kept (h:z0 CB CV CD H x L D U all M Ps Fs es us)(f:Fn F L D U all es us)(k:Kept F H H'):z0 CB CV CD H' x L D U all M Ps Fs es us :=
 {
  h with
  hx:=let ⟨dx,e⟩:=h.hx;⟨dx,k _ _ e (.inr fun _ z=>nomatch z)⟩
  hL:=k _ _ h.hL (.inl f.L)
  hD:=let ⟨xs,e,p⟩:=h.hD;⟨xs,k _ _ e (.inl f.D),my (fun _ e he q=>ia k (f.d e (.inl he)) q) p⟩
  hU:=let ⟨xs,e,p⟩:=h.hU;⟨xs,k _ _ e (.inl f.U),my (fun _ e he q=>ia k (f.d e (.inr he)) q) p⟩
  ha:=fun a m=>⟨k _ _ (h.ha a m).1 (.inr fun _ z=>nomatch z),k _ _ (h.ha a m).2 (.inl (f.l a m))⟩
  wf:=fun S hS=>(h.wf S hS).kept k }
theorem Bk.kept (h:Bk CB CV CD H x F vw ps fs)(k:Kept F H H'):Bk CB CV CD H' x F vw ps fs:=by
 obtain⟨L,D,U,all,M,Ps,Fs,es,us,b,i,pp,pf,f⟩:=h.ex;exact⟨⟨L,D,U,all,M,Ps,Fs,es,us,b.kept f k,Is.kept k i,bR (fun _ _ q=>Is.kept k q) pp,bR (fun _ _ q=>Is.kept k q) pf,f⟩,h.wv⟩
theorem Bk.same (h:Bk CB CV CD H x F vw ps fs)(s:aq H H'):Bk CB CV CD H' x F vw ps fs:=h.kept (.same s)
theorem z0.oy (b:z0 CB CV CD H x L D U all M Ps Fs es us)(i:Is H L all M vw):∃ vx:List Vx,Paired (M5 CV H) (M L) vx/\Paired (fun a q=>a∈all/\a.n=q.1/\Lb H M a q.2) vx vw:=by
 have go:∀{xs:List V} {vw:Vw},Paired (Fm H all M) xs vw->∃ vx:List Vx,Paired (M5 CV H) xs vx/\Paired (fun a q=>a∈all/\a.n=q.1/\Lb H M a q.2) vx vw:=by
  intro xs vw h
  induction h with
  |nil=>exact⟨[],.nil,.nil⟩
  |cons q _ ih =>
   obtain⟨a,ha,e1,e2,e3⟩:=q;obtain⟨vx,p1,p2⟩:=ih;exact⟨a::vx,.cons ⟨e1,(b.ha a ha).1⟩ p1,.cons ⟨ha,e2,e3⟩ p2⟩
 exact go i
noncomputable def IY (L D U:Addr)(all:List Vx)(e:Dd):Prop:=(e.T=L\/∃ a∈all,e.T=a.l)/\(e.B≠L/\e.B≠D/\e.B≠U/\∀ a∈all,e.B≠a.l)/\(e.A≠L/\e.A≠D/\e.A≠U/\∀ a∈all,e.A≠a.l)/\e.bs.length<=1/\e.as.length<=1
theorem z0.lists (b:z0 CB CV CD H x L D U all M Ps Fs es us){T:Addr}(tg:T=L\/∃ a∈all,T=a.l):H T=some (.lst (M T))/\T≠D/\T≠U:=by
 rcases tg with rfl|⟨a,ha,rfl⟩
 ·exact⟨b.hL,b.LD,b.LU⟩
 ·exact⟨(b.ha a ha).2,(b.nl a ha).2.1,(b.nl a ha).2.2⟩
theorem z0.chg (b:z0 CB CV CD H x L D U all M Ps Fs es us){T:Addr}(tg:T=L\/∃ a∈all,T=a.l){H2:Hp}(fr:∀ y o,H y=some o->y≠T->y≠D->y≠U->H2 y=some o){M':MM}(m1:∀ c,c≠T->M' c=M c)(hT:H2 T=some (.lst (M' T)))
  {dx:List V} {es':List Dd} (hD:H2 D=some (.lst dx)) (pD:Paired (jX CD H) dx es') {ux:List V} {us':List Dd} (hU:H2 U=some (.lst ux)) (pU:Paired (jX CD H) ux us') (Mg:∀ e,e∈es'\/e∈us'->IY L D U all e)
  {Qu Fs':List MM} (RY:Path Qu es' M') (U2:Oh M' us' Fs') (X5:∀ S,S∈Qu\/S=M'\/S∈Fs'->WF H L all S):z0 CB CV CD H2 x L D U all M' Qu Fs' es' us'/\Kept (fun _=>False) H H2:=by
 obtain⟨hT0,TD,TU⟩:=b.lists tg;obtain⟨X6,Mi,_⟩:=b.hD;obtain⟨X7,Hk,_⟩:=b.hU;have kN:∀ y o,H y=some o->(∀ zs,o≠.lst zs)->H2 y=some o:=fun y o hy hn=>fr y o hy
  (fun e=>by rw[e,hT0]at hy;cases hy;exact hn _ rfl) (fun e=>by rw[e,Mi]at hy;cases hy;exact hn _ rfl) (fun e=>by rw[e,Hk]at hy;cases hy;exact hn _ rfl)
 have k:Kept (fun _=>False) H H2:=fun y o hy h=>kN y o hy (h.elim False.elim id);have dk:∀{v e},IY L D U all e->jX CD H v e->jX CD H2 v e:=fun {v e} ok h=>by
  have nT:∀{c:Addr},c≠L/\c≠D/\c≠U/\(∀ a∈all,c≠a.l)->c≠T:=fun {c} q z=>by
   rcases tg with rfl|⟨a,ha,rfl⟩
   ·exact q.1 z
   ·exact q.2.2.2 a ha z
  exact⟨h.1,kN _ _ h.2.1 (fun _ z=>nomatch z),fr _ _ h.2.2.1 (nT ok.2.1) ok.2.1.2.1 ok.2.1.2.2.1,fr _ _ h.2.2.2 (nT ok.2.2.1) ok.2.2.1.2.1 ok.2.2.1.2.2.1⟩
 have at_:∀{c:Addr},(c=L\/∃ a∈all,c=a.l)->H2 c=some (.lst (M' c)):=fun {c} hc=>by
  by_cases e:c=T
  ·rw[e];exact hT
  ·obtain⟨h1,h2,h3⟩:=b.lists hc;rw[m1 c e];exact fr _ _ h1 e h2 h3
 refine⟨{
      hx:=let ⟨dx,e⟩:=b.hx;⟨dx,kN _ _ e (fun _ z=>nomatch z)⟩
      hL:=at_ (.inl rfl)
      hD:=⟨_,hD,my (fun _ e he q=>dk (Mg e (.inl he)) q) pD⟩
      hU:=⟨_,hU,my (fun _ e he q=>dk (Mg e (.inr he)) q) pU⟩
      ha:=fun a ha=>⟨kN _ _ (b.ha a ha).1 (fun _ z=>nomatch z),at_ (.inr ⟨a,ha,rfl⟩)⟩
      LD:=b.LD,LU:=b.LU,DU:=b.DU,nl:=b.nl,ni:=b.ni,no:=b.no,dd:=Mg
      past:=RY
      fut:=U2
      wf:=fun S hS=>(X5 S hS).kept k },k⟩
theorem z0.grow (b:z0 CB CV CD H x L D U all M Ps Fs es us){a:Vx}{H1:Hp}(s:aq H H1)(n1:H a.o=none)(n2:H a.l=none)(h1:H1 a.o=some (.ins CV a.d (Og a.n a.tm a.l)))(h2:H1 a.l=some (.lst [])):z0 CB CV CD H1 x L D U (all++[a]) M Ps Fs es us:=by
 have b1:=b.kept (F:=fun _=>True) ⟨trivial,trivial,trivial,fun _ _=>trivial,fun _ _=>⟨trivial,trivial⟩⟩ (.same s);obtain⟨X6,Mi,U3⟩:=b.hD;obtain⟨X7,Hk,X8⟩:=b.hU;have nL:a.l≠L:=Ne.symm (ao b.hL n2);have nD:a.l≠D:=Ne.symm (ao Mi n2);have nU:a.l≠U:=Ne.symm (ao Hk n2);have nA:∀ c∈all,a.l≠c.l:=fun c hc=>Ne.symm (ao (b.ha c hc).2 n2);have nO:∀ c∈all,a.o≠c.o:=fun c hc=>Ne.symm (ao (b.ha c hc).1 n1);have mem:∀{c:Vx},c∈all++[a]->c∈all\/c=a:=fun h=>by simpa using h
 have Pt:∀ S,WF H1 L all S->WF H1 L (all++[a]) S:=fun S w =>
  {
   vs:=let ⟨vx,p⟩:=w.vs;⟨vx,bR (fun _ _ q=>⟨q.1,mem_append_left _ q.2⟩) p⟩
   ln:=fun c hc=>by
    rcases mem hc with hc|rfl
    ·exact w.ln c hc
    ·have e:S c.l=[]:=w.out c.l nL fun d hd=>nA d hd;rw[e];exact⟨Nat.zero_le _,fun _ z=>nomatch z⟩
   len:=w.len
   out:=fun c h h'=>w.out c h fun d hd=>h' d (mem_append_left _ hd) }
 have V9:∀{v e},jX CD H v e->e.B≠a.l/\e.A≠a.l:=fun h=>⟨ao h.2.2.1 n2,ao h.2.2.2 n2⟩;have Wa:∀ e,e∈es\/e∈us->e.B≠a.l/\e.A≠a.l:=fun e he=>by
  rcases he with he|he
  ·obtain⟨i,hi⟩:=getElem?_of_mem he;obtain⟨v,_,q⟩:=j2 U3 hi;exact V9 q
  ·obtain⟨i,hi⟩:=getElem?_of_mem he;obtain⟨v,_,q⟩:=j2 X8 hi;exact V9 q
 exact { b1 with
  ha:=fun c hc=>by
   rcases mem hc with hc|rfl
   ·exact b1.ha c hc
   ·refine⟨h1,?_⟩;rw[(b.wf M (.inr (.inl rfl))).out c.l nL fun d hd=>nA d hd];exact h2
  nl:=fun c hc=>by
   rcases mem hc with hc|rfl
   ·exact b1.nl c hc
   ·exact⟨nL,nD,nU⟩
  ni:=fun c hc d hd e=>by
   rcases mem hc with z1|z1 <;> rcases mem hd with z2|z2
   ·exact b1.ni c z1 d z2 e
   ·rw[z2]at e;exact absurd e.symm (nA c z1)
   ·rw[z1]at e;exact absurd e (nA d z2)
   ·rw[z1,z2]
  no:=fun c hc d hd e=>by
   rcases mem hc with z1|z1 <;> rcases mem hd with z2|z2
   ·exact b1.no c z1 d z2 e
   ·rw[z2]at e;exact absurd e.symm (nO c z1)
   ·rw[z1]at e;exact absurd e (nO d z2)
   ·rw[z1,z2]
  dd:=fun e he=>by
   obtain⟨q1,q2,q3,q4⟩:=b1.dd e he;refine⟨q1.imp id fun⟨c,hc,z⟩=>⟨c,mem_append_left _ hc,z⟩,⟨q2.1,q2.2.1,q2.2.2.1,fun c hc=>?_⟩,⟨q3.1,q3.2.1,q3.2.2.1,fun c hc=>?_⟩,q4⟩
   ·rcases mem hc with hc|rfl
    ·exact q2.2.2.2 c hc
    ·exact(Wa e he).1
   ·rcases mem hc with hc|rfl
    ·exact q3.2.2.2 c hc
    ·exact(Wa e he).2
  wf:=fun S hS=>Pt S (b1.wf S hS) }
theorem Is.grow {a:Vx}(h:Is H L all S vw):Is H L (all++[a]) S vw:=bR (fun _ _ ⟨c,hc,q⟩=>⟨c,mem_append_left _ hc,q⟩) h
end
set_option maxHeartbeats 1000000
section
variable {CB CV CD:Addr} {H H1 H2 H':Hp} {x L D U:Addr} {all:List Vx} {M S:MM} {Ps Fs:List MM} {es us:List Dd} {F:Addr->Prop} {vw Pu:Vw} {ps fs:List Vw}
theorem Bk.deed (b:z0 CB CV CD H1 x L D U all M Ps Fs es us)(i:Is H1 L all M vw)(pp:Paired (Is H1 L all) Ps ps)(f:Fn F L D U all es us)(wv:∀ v,v∈ps\/v=vw->pL v){e:Dd}(hd:jX CD H1 (.ref e.o) e)(ok:IY L D U all e)(ft:Fits e M)(w:WF H1 L all (ox e M))
  (i':Is H1 L all (ox e M) Pu) (X9:pL Pu) {dx:List V} (pD:Paired (jX CD H1) dx es) (fr:∀ y o,H1 y=some o->y≠e.T->y≠D->y≠U->H2 y=some o) (hT:H2 e.T=some (.lst (ox e M e.T))) (hD2:H2 D=some (.lst (dx++[.ref e.o]))) (Qv:H2 U=some (.lst [])) :
  Bk CB CV CD H2 x (fun y=>F y\/y=e.B\/y=e.A) Pu (ps++[vw]) []:=by
 obtain⟨b2,k⟩:=b.chg ok.1 fr (M':=ox e M) (fun c hc=>ju hc) hT hD2 (gZ pD hd) Qv .nil (fun e' he=>by
  rcases he with he|he
  ·rcases mem_append.mp he with he|he
   ·exact b.dd e' (.inl he)
   ·rw[mem_singleton.mp he];exact ok
  ·cases he) (b.past.snoc ft) .nil (fun S hS=>by
  rcases hS with hS|hS|hS
  ·rcases mem_append.mp hS with hS|hS
   ·exact b.wf S (.inl hS)
   ·exact b.wf S (.inr (.inl (mem_singleton.mp hS)))
  ·rw[hS];exact w
  ·cases hS)
 refine⟨⟨L,D,U,all,_,_,_,_,_,b2,Is.kept k i',gZ (bR (fun _ _ q=>Is.kept k q) pp) (Is.kept k i),.nil,⟨.inl f.L,.inl f.D,.inl f.U,fun a ha=>.inl (f.l a ha),fun e' he=>?_⟩⟩,fun v hv=>?_⟩
 ·rcases he with he|he
  ·rcases mem_append.mp he with he|he
   ·exact⟨.inl (f.d e' (.inl he)).1,.inl (f.d e' (.inl he)).2⟩
   ·rw[mem_singleton.mp he];exact⟨.inr (.inl rfl),.inr (.inr rfl)⟩
  ·cases he
 ·rcases hv with hv|hv|hv
  ·rcases mem_append.mp hv with hv|hv
   ·exact wv v (.inl hv)
   ·exact wv v (.inr (mem_singleton.mp hv))
  ·rw[hv];exact X9
  ·cases hv
theorem Fo {α β:Type}{F:α->β->Prop}:∀{xs:List α} {x:α} {zs:List β},Paired F (xs++[x]) zs->∃ ys y,zs=ys++[y]/\Paired F xs ys/\F x y
 |[],_,_,.cons r .nil=>⟨[],_,rfl,.nil,r⟩
 |_::_,_,_,.cons r t=>by
  obtain⟨ys,y,rfl,p,q⟩:=Fo t;exact⟨_::ys,y,rfl,.cons r p,q⟩
theorem Bk.Pw (b:z0 CB CV CD H x L D U all M Ps Fs es us)(i:Is H L all M vw)(pp:Paired (Is H L all) Ps ps)(pf:Paired (Is H L all) Fs fs)(f:Fn F L D U all es us)(wv:∀ v,v∈ps\/v=vw\/v∈fs->pL v){e:Dd}{U4:List Dd}(he:es=U4++[e]){dx ux:List V}(pD:Paired (jX CD H) dx U4)(hd:jX CD H (.ref e.o) e)(pU:Paired (jX CD H) ux us)
  (fr:∀ y o,H y=some o->y≠e.T->y≠D->y≠U->H2 y=some o) (hT:H2 e.T=some (.lst (U1 e M e.T))) (hD2:H2 D=some (.lst dx)) (Qv:H2 U=some (.lst (ux++[.ref e.o]))) :
  ∃ IZ v,ps=IZ++[v]/\Bk CB CV CD H2 x F v IZ (fs++[vw]):=by
 subst he;obtain⟨Ya,S,rfl,p0,ft,rfl⟩:=b.past.last;have ok:=b.dd e (.inl (mem_append_right _ (List.mem_singleton_self _)));rw[RW ft]at hT;obtain⟨b2,k⟩:=b.chg ok.1 fr (M':=S) (fun c hc=>(ju hc).symm) hT hD2 pD Qv (gZ pU hd) (fun e' he=>by
  rcases he with he|he
  ·exact b.dd e' (.inl (mem_append_left _ he))
  ·rcases mem_append.mp he with he|he
   ·exact b.dd e' (.inr he)
   ·rw[mem_singleton.mp he];exact ok) p0 (Oh.snoc ft b.fut) (fun T hT=>by
  rcases hT with hT|hT|hT
  ·exact b.wf T (.inl (mem_append_left _ hT))
  ·exact b.wf T (.inl (mem_append_right _ (mem_singleton.mpr hT)))
  ·rcases mem_append.mp hT with hT|hT
   ·exact b.wf T (.inr (.inr hT))
   ·exact b.wf T (.inr (.inl (mem_singleton.mp hT))))
 obtain⟨IZ,v,rfl,Yb,iv⟩:=Fo pp;refine⟨IZ,v,rfl,⟨⟨L,D,U,all,_,_,_,_,_,b2,Is.kept k iv,bR (fun _ _ q=>Is.kept k q) Yb,gZ (bR (fun _ _ q=>Is.kept k q) pf) (Is.kept k i),⟨f.L,f.D,f.U,f.l,fun e' he=>?_⟩⟩,fun u hu=>?_⟩⟩
 ·rcases he with he|he
  ·exact f.d e' (.inl (mem_append_left _ he))
  ·rcases mem_append.mp he with he|he
   ·exact f.d e' (.inr he)
   ·rw[mem_singleton.mp he];exact f.d e (.inl (mem_append_right _ (List.mem_singleton_self _)))
 ·rcases hu with hu|hu|hu
  ·exact wv u (.inl (mem_append_left _ hu))
  ·exact wv u (.inl (mem_append_right _ (mem_singleton.mpr hu)))
  ·rcases mem_append.mp hu with hu|hu
   ·exact wv u (.inr (.inr hu))
   ·exact wv u (.inr (.inl (mem_singleton.mp hu)))
noncomputable def aZ (vw:Vw)(n:Str):Option Th:=(vw.find? fun q=>decide (q.1=n)).map (·.2)
noncomputable def fF (vw:Vw)(n:Str)(th:Th):Vw:=vw.map fun q=>if q.1=n then(n,th) else q
theorem cb {n:Str}{th:Th}(h:aZ vw n=some th):(n,th)∈vw:=by
 unfold aZ at h;cases e:vw.find? (fun q=>decide (q.1=n)) with
 |none=>rw[e]at h;cases h
 |some q =>
  rw[e]at h;have h1:=List.mem_of_find?_eq_some e;have h2:=List.find?_some e;have h3:q.1=n:=of_decide_eq_true h2;have h4:q.2=th:=Option.some.inj h;rw[<-h3,<-h4];exact h1
theorem mz {n:Str}(h:aZ vw n=none):∀ q∈vw,q.1≠n:=by
 unfold aZ at h;rw[Option.map_eq_none_iff]at h;intro q hq e;exact List.find?_eq_none.mp h q hq (decide_eq_true e)
theorem rm:∀{l:List Str} {i j:Nat} {n:Str},l.Nodup->l[i]? = some n->l[j]? = some n->i=j
 |[],_,_,_,_,h,_=>by simp at h
 |a::l,i,j,n,nd,h1,h2=>by
  obtain⟨na,Yc⟩:=List.nodup_cons.mp nd
  match i,j,h1,h2 with
  |0,0,_,_=>rfl
  |0,j+1,h1,h2 =>
   rw[List.getElem?_cons_zero]at h1;rw[List.getElem?_cons_succ]at h2;cases h1;exact absurd (mem_of_getElem? h2) na
  |i+1,0,h1,h2 =>
   rw[List.getElem?_cons_zero]at h2;rw[List.getElem?_cons_succ]at h1;cases h2;exact absurd (mem_of_getElem? h1) na
  |i+1,j+1,h1,h2 =>
   rw[List.getElem?_cons_succ]at h1 h2;rw[rm Yc h1 h2]
theorem pL.uniq (w:pL vw){q q':Str×Th}(h:q∈vw)(h':q'∈vw)(e:q.1=q'.1):q=q':=by
 obtain⟨i,hi⟩:=getElem?_of_mem h;obtain⟨j,hj⟩:=getElem?_of_mem h';have h1:(vw.map (·.1))[i]? = some q.1:=by rw[getElem?_map,hi];rfl
 have h2:(vw.map (·.1))[j]? = some q.1:=by rw[getElem?_map,hj,e];rfl
 have:=rm w.nd h1 h2;subst this;rw[hi]at hj;exact Option.some.inj hj
theorem pL.find (w:pL vw){n:Str}{th:Th}(h:(n,th)∈vw):aZ vw n=some th:=by
 cases e:aZ vw n with
 |none=>exact absurd rfl (mz e _ h)
 |some t =>
  have:=w.uniq (cb e) h rfl;rw[Prod.mk.injEq]at this;rw[this.2]
theorem mC (n:Str)(th:Th):(fF vw n th).map (·.1)=vw.map (·.1):=by
 unfold fF;rw[List.map_map];refine List.map_congr_left fun q _=>?_;show(if q.1=n then(n,th) else q).1=q.1;split
 ·next h=>exact h.symm
 ·rfl
theorem rp {n:Str}{th:Th}{q:Str×Th}(h:q∈fF vw n th):(q=(n,th)/\∃ q'∈vw,q'.1=n)\/(q∈vw/\q.1≠n):=by
 obtain⟨q',h1,h2⟩:=mem_map.mp h;split at h2
 ·next e=>exact .inl ⟨h2.symm,q',h1,e⟩
 ·next e=>rw[<-h2];exact .inr ⟨h1,e⟩
theorem Fp {n:Str}{th:Th}{q:Str×Th}(h:q∈vw)(hn:q.1≠n):q∈fF vw n th:=mem_map.mpr ⟨q,h,if_neg hn⟩
theorem DA {n:Str}{th t:Th}(h:(n,t)∈vw):(n,th)∈fF vw n th:=mem_map.mpr ⟨(n,t),h,if_pos rfl⟩
theorem pL.set (w:pL vw){n:Str}{ss ss':List Sg}(h:(n,Th.pl ss)∈vw)(h1:ss'.length<=200)(h2:∀ s∈ss',gb s):pL (fF vw n (.pl ss')) where
 nd:=by rw[mC];exact w.nd
 ld:=fun m ld lt sl tn hm=>by
  rcases rp hm with ⟨e,_⟩|⟨hm',_⟩
  ·cases e
  ·obtain⟨⟨s0,h0⟩,r⟩:=w.ld m ld lt sl tn hm';refine⟨?_,r⟩
   by_cases e:ld=n
   ·rw[e];exact⟨ss',DA h⟩
   ·exact⟨s0,Fp h0 e⟩
 gd:=fun m s0 hm=>by
  rcases rp hm with ⟨e,_⟩|⟨hm',_⟩
  ·cases e;exact⟨h1,h2⟩
  ·exact w.gd m s0 hm'
 len:=by
  have:=congrArg List.length (mC (vw:=vw) n (.pl ss'));rw[length_map,length_map]at this;rw[this];exact w.len
theorem pL.RZ (w:pL vw){n:Str}(hn:∀ q∈vw,q.1≠n)(hl:vw.length<12):pL (vw++[(n,.pl [])]) where
 nd:=by
  rw[map_append,List.nodup_append];refine⟨w.nd,by simp,?_⟩;intro a ha c hc e;obtain⟨q,hq,e1⟩:=mem_map.mp ha;have:c=n:=by simpa using hc
  exact hn q hq (by rw[e1,e,this])
 ld:=fun m ld lt sl tn hm=>by
  rcases mem_append.mp hm with hm|hm
  ·obtain⟨⟨s0,h0⟩,r⟩:=w.ld m ld lt sl tn hm;exact⟨⟨s0,mem_append_left _ h0⟩,r⟩
  ·have:=mem_singleton.mp hm;cases this
 gd:=fun m s0 hm=>by
  rcases mem_append.mp hm with hm|hm
  ·exact w.gd m s0 hm
  ·have:=mem_singleton.mp hm;cases this;exact⟨Nat.zero_le _,fun _ z=>nomatch z⟩
 len:=by rw[length_append];exact hl
theorem pL.R0 (w:pL vw){n ld:Str}{lt sl:Int}{tn:Bool}{ss:List Sg}(hn:∀ q∈vw,q.1≠n)(hl:vw.length<12)(h:(ld,Th.pl ss)∈vw)(h1:0<=lt)(h2:lt<=999)(h3:1<=sl)(h4:sl<=9):pL (vw++[(n,.cn ld lt sl tn)]) where
 nd:=by
  rw[map_append,List.nodup_append];refine⟨w.nd,by simp,?_⟩;intro a ha c hc e;obtain⟨q,hq,e1⟩:=mem_map.mp ha;have:c=n:=by simpa using hc
  exact hn q hq (by rw[e1,e,this])
 ld:=fun m l2 t2 s2 n2 hm=>by
  rcases mem_append.mp hm with hm|hm
  ·obtain⟨⟨s0,h0⟩,r⟩:=w.ld m l2 t2 s2 n2 hm;exact⟨⟨s0,mem_append_left _ h0⟩,r⟩
  ·have:=mem_singleton.mp hm;cases this;exact⟨⟨ss,mem_append_left _ h⟩,h1,h2,h3,h4⟩
 gd:=fun m s0 hm=>by
  rcases mem_append.mp hm with hm|hm
  ·exact w.gd m s0 hm
  ·have:=mem_singleton.mp hm;cases this
 len:=by rw[length_append];exact hl
theorem Oi {α β γ:Type}{F:α->β->Prop}{G:α->γ->Prop}{f:β->γ}:∀{xs:List α} {ys:List β},Paired F xs ys->(∀(k:Nat) x y,xs[k]? = some x->ys[k]? = some y->F x y->G x (f y))->Paired G xs (ys.map f)
 |_,_,.nil,_=>.nil
 |_,_,.cons a b,h=>.cons (h 0 _ _ rfl rfl a) (Oi b fun k x y e1 e2=>h (k+1) x y (by simpa using e1) (by simpa using e2))
theorem Is.line (b:z0 CB CV CD H x L D U all M Ps Fs es us)(i:Is H L all M vw)(w:pL vw){a:Vx}(ha:a∈all){j:Nat}{th:Th}{ss':List Sg}(hj:(M L)[j]? = some (.ref a.o))(hm:vw[j]? = some (a.n,th))(Hl:a.tm=.non){M':MM}(m1:∀ c,c≠a.l->M' c=M c)(g:gn H (M' a.l) ss'):Is H L all M' (fF vw a.n (.pl ss')):=by
 show Paired _ (M' L) _;rw[m1 L (Ne.symm (b.nl a ha).1)];refine Oi i fun k v q hk hq Yd=>?_;obtain⟨c,hc,rfl,e1,t⟩:=Yd;split
 ·next e =>
  have h1:(vw.map (·.1))[k]? = some a.n:=by rw[getElem?_map,hq,<-e];rfl
  have h2:(vw.map (·.1))[j]? = some a.n:=by rw[getElem?_map,hm];rfl
  have hkj:=rm w.nd h1 h2;subst hkj;rw[hj]at hk;have:a.o=c.o:=V.ref.inj (Option.some.inj hk);have:=b.no a ha c hc this;subst this;exact⟨a,hc,rfl,rfl,Hl,g⟩
 ·next e =>
  refine⟨c,hc,rfl,e1,?_⟩;have ne:c.l≠a.l:=fun z=>e (by rw[<-e1,b.ni c hc a ha z]);cases hq2:q.2 with
  |pl s0=>rw[hq2]at t;exact⟨t.1,by rw[m1 _ ne];exact t.2⟩
  |cn ld lt sl tn=>rw[hq2]at t;exact t
end
set_option maxHeartbeats 1000000
noncomputable abbrev Sn:=Str×Int
noncomputable def oB:List V:=[.str "G",.str "D",.str "s",.str "d"]
noncomputable def iy:List V:=[.str "R",.str "r",.str ".",.str "3",.str "2"]
noncomputable def iX (s:Sn):Bool:=if inV (.str s.1) oB=true then(if decide (0<=s.2)=true then decide (s.2<=99) else false) else(if inV (.str s.1) iy=true then decide (s.2=0) else false)
noncomputable def iY (n:Int):Str:=Str.ofString (toString n)
theorem z9 {n:Int}(h0:0<=n)(h1:n<100):n.natAbs.log2<1920:=by
 have hb:n.natAbs<2 ^ 1920:=Nat.lt_of_lt_of_le (show n.natAbs<2 ^ 7 by omega) (Nat.pow_le_pow_right (by decide) (by decide))
 by_cases z:n.natAbs=0
 ·rw[z];decide
 ·exact(Nat.log2_lt z).mpr hb
theorem Px:(List.range 100).all (fun n=>decide ((iY (n:Int)).length<=2))=true:=by lk
theorem M7 {n:Int}(h0:0<=n)(h1:n<100):(iY n).length<=2:=by
 have:=all_eq_true.mp Px n.toNat (mem_range.mpr (by omega));have e:((n.toNat:Nat):Int)=n:=by omega
 rw[e]at this;exact of_decide_eq_true this
set_option maxHeartbeats 1000000
inductive Rf where
 |rq|BM|uc|Full|gD|ly|rA|BN|Fq|qD
structure Cs where
 B:Addr
 V:Addr
 D:Addr
 on:Bool
 x:Rf->Addr
noncomputable def RX (E:XK)(c:Cs)(r:Rf)(H:Hp):Prop:=c.on=true/\E (.ref (c.x r)) none H
noncomputable abbrev pZ (c:Cs):=Bk c.B c.V c.D
noncomputable def Fr (F:Addr->Prop)(H H':Hp):Prop:=∀ y o,H y=some o->¬ F y->H' y=some o
noncomputable def Gr (F F':Addr->Prop)(H:Hp):Prop:=∀ y,F' y->F y\/H y=none
theorem Fr.same {F:Addr->Prop}{H H':Hp}(s:aq H H'):Fr F H H':=fun y o e _=>s y o e
theorem Gr.refl (F:Addr->Prop)(H:Hp):Gr F F H:=fun _ h=>.inl h
theorem Gr.old {F F':Addr->Prop}{H H':Hp}(s:aq H H')(g:Gr F F' H'):Gr F F' H:=fun y z=>(g y z).imp id fun q=>s.free q
noncomputable def nameB (x:Str):Bool:=decide (1<=x.length)&&(decide (x.length<=8)&&x.cps.toList.all fun c=>Bz ⟨#[c]⟩ "abcdefghijklmnopqrstuvwxyz")
theorem kinds_of {k:Str}(h:inV (.str k) oB=true\/inV (.str k) iy=true):∃ d:Kd,d.str=k:=by
 have go:∀ l:List V,(∀ v∈l,∃ d:Kd,v=.str d.str)->inV (.str k) l=true->∃ d:Kd,d.str=k:=fun l hl h=>by
  unfold inV at h;obtain⟨y,hy,e⟩:=any_eq_true.mp h;obtain⟨d,rfl⟩:=hl y hy;have:d.str=k:=by simpa [GD] using e
  exact⟨d,this⟩
 have c:∀(l:List Kd),∀ v∈l.map (fun d=>V.str d.str),∃ d:Kd,v=.str d.str:=fun l v hv=>by
  obtain⟨d,_,e⟩:=mem_map.mp hv;exact⟨d,e.symm⟩
 rcases h with h|h
 ·exact go oB (c [.G,.D,.s,.d]) h
 ·exact go iy (c [.R,.r,.dot,.three,.two]) h
theorem Oj (d:Kd):inV (.str d.str) oB=d.cK:=by cases d <;> decide +kernel
theorem Lc (d:Kd):inV (.str d.str) iy = !d.cK:=by cases d <;> decide +kernel
theorem BO {sn:Sn}(h:iX sn=true):∃ s:Sg,s.1.str=sn.1/\s.2=sn.2/\gb s:=by
 unfold iX at h;split at h
 ·next h1 =>
  obtain⟨d,hd⟩:=kinds_of (.inl h1);rw[<-hd,Oj]at h1;split at h
  ·next h2=>exact⟨(d,sn.2),hd,rfl,⟨(fun _=>⟨of_decide_eq_true h2,by have:=of_decide_eq_true h;show sn.2<100;omega⟩),fun z=>by rw[show d.cK=false from z]at h1;cases h1⟩⟩
  ·cases h
 ·next h1 =>
  split at h
  ·next h2 =>
   obtain⟨d,hd⟩:=kinds_of (.inr h2);rw[<-hd,Lc]at h2;exact⟨(d,sn.2),hd,rfl,⟨(fun z=>by rw[show d.cK=true from z]at h2;cases h2),fun _=>of_decide_eq_true h⟩⟩
  ·cases h
theorem rB {s:Sg}(h:gb s):iX (s.1.str,s.2)=true:=by
 unfold iX;rw[Oj,Lc];cases hs:s.1.cK with
 |true =>
  obtain⟨a,b⟩:=h.1 hs;simp only [if_true];rw[if_pos (decide_eq_true a)];exact decide_eq_true (by omega)
 |false =>
  have:=h.2 hs;simp[this]
noncomputable def xM:Kd->Kd
 |.three=>.two
 |.two=>.three
 |k=>k
noncomputable def jv (s:Sg):Sg:=(xM s.1,s.2)
noncomputable def cR (vw:Vw)(n:Str):List Sg:=match aZ vw n with
 |some (.pl ss)=>ss
 |some (.cn ld _ _ tn)=>match aZ vw ld with
  |some (.pl ss)=>if tn then ss.map jv else ss
  |_=>[]
 |none=>[]
noncomputable def dy (vw:Vw)(n:Str):List Int:=match aZ vw n with
 |some (.pl ss)=>(fE 3 (aR ss)).1
 |some (.cn ld _ sl tn)=>match aZ vw ld with
  |some (.pl ss)=>(fE (if tn then 2 else 3) (aR (if tn then ss.map jv else ss))).1.map fun w=>sl * w
  |_=>[]
 |none=>[]
theorem gF {vw:Vw}{n:Str}{ss:List Sg}(h:aZ vw n=some (.pl ss)):cR vw n=ss:=by
 unfold cR;rw[h]
theorem lD {vw:Vw}{n ld:Str}{lt sl:Int}{tn:Bool}{ss:List Sg}(h:aZ vw n=some (.cn ld lt sl tn))(h':aZ vw ld=some (.pl ss)):cR vw n=if tn=true then ss.map jv else ss:=by
 unfold cR;rw[h];show(match aZ vw ld with|some (.pl ss)=>if tn=true then ss.map jv else ss|_=>[])=_;rw[h']
theorem xN {vw:Vw}{n:Str}{ss:List Sg}(h:aZ vw n=some (.pl ss)):dy vw n=(fE 3 (aR ss)).1:=by
 unfold dy;rw[h]
theorem xO {vw:Vw}{n ld:Str}{lt sl:Int}{tn:Bool}{ss:List Sg}(h:aZ vw n=some (.cn ld lt sl tn))(h':aZ vw ld=some (.pl ss)):dy vw n=(fE (if tn then 2 else 3) (aR (if tn then ss.map jv else ss))).1.map fun w=>sl * w:=by
 unfold dy;rw[h];show(match aZ vw ld with|some (.pl ss)=>(fE (if tn then 2 else 3) (aR (if tn then ss.map jv else ss))).1.map fun w=>sl * w|_=>[])=_;rw[h']
theorem Py {H H':Hp}{x dx C:Addr}(hx:H x=none)(hdx:H dx=none)(kp:∀ y o,(upd (upd H dx (.own x)) x (.ins C dx [])) y=some o->y≠x->H' y=some o):aq H H':=fun y o hy =>
 kp y o (by rw[ai (ao hy hx),ai (ao hy hdx)];exact hy) (ao hy hx)
theorem oC {H:Hp}{x dx D:Addr}{o1 o2:HO}(h:upd (upd H dx o1) x o2 D=none):H D=none:=by
 unfold upd at h;split at h
 ·cases h
 ·split at h
  ·cases h
  ·exact h
theorem wV {H:Hp}{B A:Addr}{o:HO}(h:upd H B o A=none):H A=none:=by
 unfold upd at h;split at h
 ·cases h
 ·exact h
theorem M8 (z:Int){k:Int}(hk:0<k):∃ m:Nat,z % k=(m:Int)/\(m:Int)<k:=by
 have z1:=Int.emod_nonneg z (show k≠0 by omega);have z2:=Int.emod_lt_of_pos z hk;exact⟨(z % k).toNat,by omega,by omega⟩
theorem Bk.new {c:Cs}{H:Hp}{x dx L D U:Addr}(hx:H x=some (.ins c.B dx (tS L D U)))(hL:H L=some (.lst []))(hD:H D=some (.lst []))(hU:H U=some (.lst []))(LD:L≠D)(LU:L≠U)(DU:D≠U):pZ c H x (fun y=>y=L\/y=D\/y=U) [] [] [] where
 ex:=⟨L,D,U,[],fun _=>[],[],[],[],[],
  {
   hx:=⟨dx,hx⟩,hL:=hL,hD:=⟨[],hD,.nil⟩,hU:=⟨[],hU,.nil⟩,ha:=fun _ h=>(nomatch h),LD:=LD,LU:=LU,DU:=DU,nl:=fun _ h=>(nomatch h),ni:=fun _ h=>(nomatch h),no:=fun _ h=>(nomatch h)
   dd:=fun _ h=>h.elim (fun z=>(nomatch z)) fun z=>(nomatch z)
   past:=.nil
   fut:=.nil
   wf:=fun S hS=>by
    rcases hS with hS|hS|hS
    ·cases hS
    ·subst hS;exact⟨⟨[],.nil⟩,fun _ h=>(nomatch h),Nat.zero_le _,fun _ _ _=>rfl⟩
    ·cases hS },
  .nil,.nil,.nil,⟨.inl rfl,.inr (.inl rfl),.inr (.inr rfl),fun _ h=>(nomatch h),fun _ h=>h.elim (fun z=>(nomatch z)) fun z=>(nomatch z)⟩⟩
 wv:=fun v hv=>by
  rcases hv with hv|hv|hv
  ·cases hv
  ·subst hv;exact⟨.nil,fun _ _ _ _ _ h=>(nomatch h),fun _ _ h=>(nomatch h),Nat.zero_le _⟩
  ·cases hv
theorem Pz {R:Vx->Str×Th->Prop}{vx:List Vx}{vw:Vw}(h:Paired R vx vw)(hn:∀ a q,R a q->a.n=q.1):vx.map (fun a=>V.str a.n)=vw.map (fun a=>V.str a.1):=by
 induction h with
 |nil=>rfl
 |cons r _ ih=>rw[map_cons,map_cons,ih,hn _ _ r]
theorem xP {vx:List Vx}{vw:Vw}{R:Vx->Str×Th->Prop}(h:Paired R vx vw)(hn:∀ a q,R a q->a.n=q.1)(n:Str) :
  (vx.find? (fun a=>decide (a.n=n))=none/\aZ vw n=none)\/∃ a th,∃ j:Nat,vx.find? (fun a=>decide (a.n=n))=some a/\aZ vw n=some th/\R a (n,th)/\a.n=n/\vx[j]? = some a/\vw[j]? = some (n,th):=by
 induction h with
 |nil=>exact .inl ⟨rfl,rfl⟩
 | @cons a q as qs r t ih =>
  have e:=hn a q r
  by_cases hq:q.1=n
  ·refine .inr ⟨a,q.2,0,?_,?_,?_,e.trans hq,rfl,by rw[<-hq];rfl⟩
   ·rw[List.find?_cons_of_pos];exact decide_eq_true (e.trans hq)
   ·unfold aZ;rw[List.find?_cons_of_pos (p:=fun q:Str×Th=>decide (q.1=n)) (decide_eq_true hq)];rfl
   ·rw[<-hq];exact r
  ·have h1:¬ decide (a.n=n)=true:=fun z=>hq (e ▸ of_decide_eq_true z);have h2:¬ decide (q.1=n)=true:=fun z=>hq (of_decide_eq_true z);have f1:(a::as).find? (fun a=>decide (a.n=n))=as.find? (fun a=>decide (a.n=n)):=List.find?_cons_of_neg h1;have f2:aZ (q::qs) n=aZ qs n:=by
    unfold aZ;rw[List.find?_cons_of_neg (p:=fun q:Str×Th=>decide (q.1=n)) h2]
   rw[f1,f2];exact ih.imp id fun⟨a,th,j,h1,h2,h3,h4,h5,h6⟩=>⟨a,th,j+1,h1,h2,h3,h4,by simpa using h5,by simpa using h6⟩
theorem Bk.added {c:Cs}{H H1 H2 H':Hp}{x L D U:Addr}{all:List Vx}{M:MM}{Ps Fs:List MM}{es us:List Dd}{F:Addr->Prop}{vw:Vw}{ps fs:List Vw}(b:z0 c.B c.V c.D H x L D U all M Ps Fs es us)(i:Is H L all M vw)(pp:Paired (Is H L all) Ps ps)(f:Fn F L D U all es us)(wv:∀ v,v∈ps\/v=vw\/v∈fs->pL v)
  {a:Vx} {th:Th} (s1:aq H H1) (n1:H a.o=none) (n2:H a.l=none) (h1:H1 a.o=some (.ins c.V a.d (Og a.n a.tm a.l))) (h2:H1 a.l=some (.lst [])) (ht:∀ M',M' a.l=[]->Lb H1 M' a th) (w':pL (vw++[(a.n,th)]))
  {e:Dd} (eT:e.T=L) (ei:e.i=(M L).length) (eb:e.bs=[]) (ea:e.as=[.ref a.o]) (s2:aq H1 H2) (nB:H1 e.B=none) (nA:H1 e.A=none) (hd:jX c.D H2 (.ref e.o) e) {ds:List V} (hD:H D=some (.lst ds)) (pD:Paired (jX c.D H) ds es)
  (fr:∀ y o,H2 y=some o->y≠L->y≠D->y≠U->H' y=some o) (hL':H' L=some (.lst (M L++[.ref a.o]))) (hD':H' D=some (.lst (ds++[.ref e.o]))) (hU':H' U=some (.lst [])) :
  ∃ F',Gr F F' H/\Fr F H H'/\pZ c H' x F' (vw++[(a.n,th)]) (ps++[vw]) []:=by
 have s12:=s1.trans s2;have kT:Kept (fun _=>True) H H2:=.same s12;have b2:=(b.grow s1 n1 n2 h1 h2).kept (F:=fun _=>True) ⟨trivial,trivial,trivial,fun _ _=>trivial,fun _ _=>⟨trivial,trivial⟩⟩ (.same s2);have w2:=w'.len;rw[length_append]at w2;have ll:=bF i;have Ye:vw.length+1<=12:=w2;have hM:ox e M L=M L++[.ref a.o]:=by
  unfold ox;rw[eT,eP,ei,eb,ea];simp
 have mo:∀ y,y≠L->ox e M y=M y:=fun y hy=>by
  unfold ox;exact ju (by rw[eT];exact hy)
 have wM:=b2.wf M (.inr (.inl rfl));have Qw:∀ z∈all++[a],z.l≠L:=fun z hz=>(b2.nl z hz).1;obtain⟨ux,hU,_⟩:=b2.hU;have old:∀{y:Addr},H1 y=none->∀{z o},H z=some o->y≠z:=fun {y} hy {z o} hz q=>by rw[q,s1 _ _ hz]at hy;cases hy
 have oA:∀{y:Addr},H1 y=none->y≠L/\y≠D/\y≠U/\∀ z∈all++[a],y≠z.l:=fun {y} hy=>by
  obtain⟨u0,Hk,_⟩:=b.hU;refine⟨old hy b.hL,old hy hD,old hy Hk,fun z hz=>?_⟩;rcases mem_append.mp hz with hz|hz
  ·exact old hy (b.ha z hz).2
  ·rw[mem_singleton.mp hz];exact fun q=>by rw[q,h2]at hy;cases hy
 have ok:IY L D U (all++[a]) e:=⟨.inl eT,oA nB,oA nA,by rw[eb];simp,by rw[ea];simp⟩;have ft:Fits e M:=⟨by rw[ei,eb,eT];simp,by rw[eb];simp⟩;have Pt:WF H2 L (all++[a]) (ox e M) :=
  {
   vs:=(let ⟨vx,p⟩:=wM.vs;⟨vx++[a],by rw[hM];exact gZ p ⟨rfl,mem_append_right _ (List.mem_singleton_self _)⟩⟩)
   ln:=fun z hz=>by rw[mo _ (Qw z hz)];exact wM.ln z hz
   len:=by rw[hM,length_append,ll];exact Ye
   out:=fun y h1 h2=>by rw[mo y h1];exact wM.out y h1 h2 }
 have i2:Is H2 L (all++[a]) M vw:=Is.kept kT (Is.grow i);have i':Is H2 L (all++[a]) (ox e M) (vw++[(a.n,th)]):=by
  show Paired _ (ox e M L) _;rw[hM];refine gZ ?_ ?_
  ·refine bR (fun v q hq=>?_) i2;obtain⟨z,hz,e1,e2,e3⟩:=hq;refine⟨z,hz,e1,e2,?_⟩;cases hq2:q.2 with
   |pl ss=>rw[hq2]at e3;exact⟨e3.1,by rw[mo _ (Qw z hz)];exact e3.2⟩
   |cn ld lt sl tn=>rw[hq2]at e3;exact e3
  ·refine⟨a,mem_append_right _ (List.mem_singleton_self _),rfl,rfl,?_⟩;have R1:a.l≠L:=Qw a (mem_append_right _ (List.mem_singleton_self _));have:=ht (ox e M) (by rw[mo _ R1];exact(b.wf M (.inr (.inl rfl))).out _ R1 fun z hz q=>by rw[q,(b.ha z hz).2]at n2;cases n2);show Lb H2 (ox e M) a th;cases th with
   |pl ss=>exact⟨this.1,this.2.same s2⟩
   |cn ld lt sl tn=>obtain⟨p,e1,e2⟩:=this;exact⟨p,e1,s2 _ _ e2⟩
 have B:=Bk.deed b2 i2 (bR (fun _ _ q=>Is.kept kT (Is.grow q)) pp) (F:=fun y=>F y\/y=a.l) ⟨.inl f.L,.inl f.D,.inl f.U,fun z hz=>by
   rcases mem_append.mp hz with hz|hz
   ·exact .inl (f.l z hz)
   ·rw[mem_singleton.mp hz];exact .inr rfl,fun e' he=>⟨.inl (f.d e' he).1,.inl (f.d e' he).2⟩⟩ (fun v hv=>wv v (hv.imp id .inl)) hd ok ft Pt i' w' (my (fun _ e' he q=>ia (F:=fun _=>True) kT ⟨trivial,trivial⟩ q) pD) (H2:=H')
  (fun y o hy y1 y2 y3=>fr y o hy (by rw[<-eT];exact y1) y2 y3) (by rw[eT,hM];exact hL') hD' hU'
 refine⟨_,fun y hy=>?_,fun y o hy hn=>fr y o (s12 y o hy) (fun q=>hn (q ▸ f.L)) (fun q=>hn (q ▸ f.D)) (fun q=>hn (q ▸ f.U)),B⟩;rcases hy with (hy|hy)|hy|hy
 ·exact .inl hy
 ·rw[hy];exact .inr n2
 ·rw[hy];exact .inr (s1.free nB)
 ·rw[hy];exact .inr (s1.free nA)
theorem Bk.Ol {c:Cs}{H H1 H':Hp}{x L D U:Addr}{all:List Vx}{M:MM}{Ps Fs:List MM}{es us:List Dd}{F:Addr->Prop}{vw:Vw}{ps fs:List Vw}(b:z0 c.B c.V c.D H x L D U all M Ps Fs es us)(i:Is H L all M vw)(pp:Paired (Is H L all) Ps ps)(f:Fn F L D U all es us)(wv:∀ v,v∈ps\/v=vw\/v∈fs->pL v)
  {a:Vx} (ha:a∈all) {j:Nat} {ss ss':List Sg} (hj:(M L)[j]? = some (.ref a.o)) (hm:vw[j]? = some (a.n,.pl ss)) (Hl:a.tm=.non) {e:Dd} (eT:e.T=a.l) (ft:Fits e M) (lb:e.bs.length<=1) (la:e.as.length<=1) (s1:aq H H1) (nB:H e.B=none) (nA:H e.A=none) (hd:jX c.D H1 (.ref e.o) e)
  (g':gn H1 (ox e M a.l) ss') (gl:ss'.length<=200) (gg:∀ s∈ss',gb s) {ds:List V} (hD:H D=some (.lst ds)) (pD:Paired (jX c.D H) ds es)
  (fr:∀ y o,H1 y=some o->y≠a.l->y≠D->y≠U->H' y=some o) (hl':H' a.l=some (.lst (ox e M a.l))) (hD':H' D=some (.lst (ds++[.ref e.o]))) (hU':H' U=some (.lst [])) :
  ∃ F',Gr F F' H/\Fr F H H'/\pZ c H' x F' (fF vw a.n (.pl ss')) (ps++[vw]) []:=by
 have kT:Kept (fun _=>True) H H1:=.same s1;have b2:=b.kept (F:=fun _=>True) ⟨trivial,trivial,trivial,fun _ _=>trivial,fun _ _=>⟨trivial,trivial⟩⟩ kT;have mo:∀ y,y≠a.l->ox e M y=M y:=fun y hy=>ju (by rw[eT];exact hy);have wM:=b2.wf M (.inr (.inl rfl));have Wb:=wv vw (.inr (.inl rfl));have oA:∀{y:Addr},H y=none->y≠L/\y≠D/\y≠U/\∀ z∈all,y≠z.l:=fun {y} hy=>by
  obtain⟨u0,Hk,_⟩:=b.hU;exact⟨Ne.symm (ao b.hL hy),Ne.symm (ao hD hy),Ne.symm (ao Hk hy),fun z hz=>Ne.symm (ao (b.ha z hz).2 hy)⟩
 have ok:IY L D U all e:=⟨.inr ⟨a,ha,eT⟩,oA nB,oA nA,lb,la⟩;have R1:L≠a.l:=Ne.symm (b.nl a ha).1;have Pt:WF H1 L all (ox e M) :=
  {
   vs:=by rw[mo L R1];exact wM.vs
   ln:=fun z hz=>by
    by_cases Wc:z.l=a.l
    ·rw[Wc];refine⟨by rw[bF g'];exact gl,fun v hv=>?_⟩;obtain⟨k,hk⟩:=getElem?_of_mem hv;obtain⟨sg,e1,e2⟩:=ou g' hk;exact⟨sg,e2,gg sg (mem_of_getElem? e1)⟩
    ·rw[mo _ Wc];exact wM.ln z hz
   len:=by rw[mo L R1];exact wM.len
   out:=fun y h1 h2=>by rw[mo y (h2 a ha)];exact wM.out y h1 h2 }
 have i2:Is H1 L all M vw:=Is.kept kT i;have B:=Bk.deed b2 i2 (bR (fun _ _ q=>Is.kept kT q) pp) f (fun v hv=>wv v (hv.imp id .inl)) hd ok ft Pt (Is.line b2 i2 Wb ha hj hm Hl mo g') (Wb.set (mem_of_getElem? hm) gl gg) (my (fun _ e' he q=>ia (F:=fun _=>True) kT ⟨trivial,trivial⟩ q) pD) (H2:=H')
  (fun y o hy y1 y2 y3=>fr y o hy (by rw[<-eT];exact y1) y2 y3) (by rw[eT];exact hl') hD' hU'
 refine⟨_,fun y hy=>?_,fun y o hy hn=>fr y o (s1 y o hy) (fun q=>hn (q ▸ f.l a ha)) (fun q=>hn (q ▸ f.D)) (fun q=>hn (q ▸ f.U)),B⟩;rcases hy with hy|hy|hy
 ·exact .inl hy
 ·rw[hy];exact .inr nB
 ·rw[hy];exact .inr nA
noncomputable def Om (H:Hp)(v:V):Th->Prop
 |.pl ss=>∃ l ys,v=.ref l/\H l=some (.lst ys)/\gn H ys ss
 |.cn ld lt sl tn=>∃ p,v=.ref p/\H p=some (.tup [.str ld,.int lt,.int sl,.bl tn])
noncomputable def zp (H:Hp)(kv:Key×V)(q:Str×Th):Prop:=kv.1=Sum.inr q.1/\Om H kv.2 q.2
noncomputable def lG (H:Hp)(d:Addr)(vw:Vw):Prop:=∃ kvs,H d=some (.dK kvs)/\Paired (zp H) kvs vw
theorem Om.same {H H':Hp}(s:aq H H'){v:V}{th:Th}(h:Om H v th):Om H' v th:=by
 cases th with
 |pl ss=>obtain⟨l,ys,e1,e2,e3⟩:=h;exact⟨l,ys,e1,s _ _ e2,e3.same s⟩
 |cn ld lt sl tn=>obtain⟨p,e1,e2⟩:=h;exact⟨p,e1,s _ _ e2⟩
theorem zp.same {H H':Hp}(s:aq H H'){kv:Key×V}{q:Str×Th}(h:zp H kv q):zp H' kv q:=⟨h.1,h.2.same s⟩
theorem lG.same {H H':Hp}(s:aq H H'){d:Addr}{vw:Vw}(h:lG H d vw):lG H' d vw:=by
 obtain⟨kvs,e,p⟩:=h;exact⟨kvs,s _ _ e,bR (fun _ _ q=>q.same s) p⟩
theorem BP {H:Hp}{kvs:List (Key×V)}{vw:Vw}(h:Paired (zp H) kvs vw){n:Str}{th:Th}(hf:aZ vw n=some th):∃ v,mw kvs (Sum.inr n)=some v/\Om H v th:=by
 induction h with
 |nil=>cases hf
 | @cons kv q as qs r t ih =>
  by_cases hq:q.1=n
  ·have e:aZ (q::qs) n=some q.2:=by
    unfold aZ;rw[List.find?_cons_of_pos (p:=fun q:Str×Th=>decide (q.1=n)) (decide_eq_true hq)];rfl
   rw[e]at hf;cases hf;refine⟨kv.2,?_,r.2⟩;unfold mw;rw[List.find?_cons_of_pos (p:=fun kv:Key×V=>decide (kv.1=Sum.inr n)) (decide_eq_true (by rw[r.1,hq]))];rfl
  ·have e:aZ (q::qs) n=aZ qs n:=by
    unfold aZ;rw[List.find?_cons_of_neg (p:=fun q:Str×Th=>decide (q.1=n)) (fun z=>hq (of_decide_eq_true z))]
   rw[e]at hf;obtain⟨v,h1,h2⟩:=ih hf;refine⟨v,?_,h2⟩;unfold mw at h1 ⊢;rw[List.find?_cons_of_neg (p:=fun kv:Key×V=>decide (kv.1=Sum.inr n)) (fun z=>hq (Sum.inr.inj (r.1.symm.trans (of_decide_eq_true z))))];exact h1
theorem lG.get {H:Hp}{d:Addr}{vw:Vw}(h:lG H d vw){n:Str}{th:Th}(hf:aZ vw n=some th):∃ v,xu H d (.str n) (some v)/\Om H v th:=by
 obtain⟨kvs,e,p⟩:=h;obtain⟨v,h1,h2⟩:=BP p hf;refine⟨v,?_,h2⟩;have:=xu.k (k:=Sum.inr n) e;rw[h1]at this;exact this
theorem lG.keys {H:Hp}{d:Addr}{vw:Vw}(h:lG H d vw):∃ kvs,H d=some (.dK kvs)/\(kvs.map fun kv=>kV kv.1)=vw.map fun q=>V.str q.1:=by
 obtain⟨kvs,e,p⟩:=h;refine⟨kvs,e,?_⟩;clear e
 induction p with
 |nil=>rfl
 |cons r _ ih=>rw[map_cons,map_cons,ih,r.1];rfl
set_option maxHeartbeats 1000000
theorem Bk.R5 {CB CV CD:Addr}{H:Hp}{x:Addr}{F:Addr->Prop}{vw:Vw}{ps fs:List Vw}(h:Bk CB CV CD H x F vw ps fs):∃ F0:Addr->Prop,(∀ y,F0 y->F y)/\(∀ y,F0 y->∃ xs,H y=some (.lst xs))/\Bk CB CV CD H x F0 vw ps fs:=by
 obtain⟨L,D,U,all,M,Ps,Fs,es,us,b,i,pp,pf,f⟩:=h.ex;obtain⟨ds,hD,pD⟩:=b.hD;obtain⟨ux,hU,pU⟩:=b.hU;have dd:∀ e,e∈es\/e∈us->H e.B=some (.lst e.bs)/\H e.A=some (.lst e.as):=fun e he=>by
  rcases he with he|he
  ·obtain⟨k,hk⟩:=getElem?_of_mem he;obtain⟨v,_,q⟩:=j2 pD hk;exact⟨q.2.2.1,q.2.2.2⟩
  ·obtain⟨k,hk⟩:=getElem?_of_mem he;obtain⟨v,_,q⟩:=j2 pU hk;exact⟨q.2.2.1,q.2.2.2⟩
 refine⟨fun y=>y=L\/y=D\/y=U\/(∃ a∈all,y=a.l)\/∃ e,(e∈es\/e∈us)/\(y=e.B\/y=e.A),fun y hy=>?_,fun y hy=>?_,⟨⟨L,D,U,all,M,Ps,Fs,es,us,b,i,pp,pf,⟨.inl rfl,.inr (.inl rfl),.inr (.inr (.inl rfl)),fun a ha=>.inr (.inr (.inr (.inl ⟨a,ha,rfl⟩))),fun e he=>⟨.inr (.inr (.inr (.inr ⟨e,he,.inl rfl⟩))),.inr (.inr (.inr (.inr ⟨e,he,.inr rfl⟩)))⟩⟩⟩,h.wv⟩⟩
 ·rcases hy with rfl|rfl|rfl|⟨a,ha,rfl⟩|⟨e,he,rfl|rfl⟩
  ·exact f.L
  ·exact f.D
  ·exact f.U
  ·exact f.l a ha
  ·exact(f.d e he).1
  ·exact(f.d e he).2
 ·rcases hy with rfl|rfl|rfl|⟨a,ha,rfl⟩|⟨e,he,rfl|rfl⟩
  ·exact⟨_,b.hL⟩
  ·exact⟨_,hD⟩
  ·exact⟨_,hU⟩
  ·exact⟨_,(b.ha a ha).2⟩
  ·exact⟨_,(dd e he).1⟩
  ·exact⟨_,(dd e he).2⟩
noncomputable def oE (own:List Addr)(H H':Hp):Prop:=∀ y o,H y=some o->((∀ xs,o≠.lst xs)\/y∈own)->H' y=some o
section
variable {c:Cs} {H H' H1:Hp} {x:Addr} {own:List Addr} {vw Pu:Vw} {ps ps' fs fs':List Vw} {F F':Addr->Prop}
theorem oE.same (s:aq H H'):oE own H H':=fun y o e _=>s y o e
theorem oE.trans (a:oE own H H1)(b:oE own H1 H'):oE own H H':=fun y o e k=>b y o (a y o e k) k
theorem oE.lst (k:oE own H H'){l:Addr}{xs:List V}(h:H l=some (.lst xs))(m:l∈own):H' l=some (.lst xs):=k _ _ h (.inr m)
theorem oE.tup (k:oE own H H'){p:Addr}{xs:List V}(h:H p=some (.tup xs)):H' p=some (.tup xs):=k _ _ h (.inl fun _ z=>nomatch z)
end
set_option maxHeartbeats 1000000
noncomputable def PB (H:Hp)(y:V)(q:Str×Th):Prop:=∃ p v,y=.ref p/\H p=some (.tup [.str q.1,v])/\Om H v q.2
noncomputable def Ft (H:Hp)(l:Addr)(vw:Vw):Prop:=∃ ys,H l=some (.lst ys)/\Paired (PB H) ys vw
theorem xQ:∀(more acc:List (Key×V)),((acc++more).map (·.1)).Nodup->fS acc more=acc++more
 |[],acc,_=>by unfold fS;simp
 |kv::more,acc,h=>by
  have e:mw acc kv.1=none:=by
   cases hv:mw acc kv.1 with
   |none=>rfl
   |some v =>
    have:=MO hv;rw[map_append,map_cons]at h;obtain⟨_,_,h3⟩:=List.nodup_append.mp h;exact absurd rfl (h3 _ this _ (mem_cons_self ..))
  show fS (putK acc kv.1 kv.2) more=_;rw[KW kv.2 e,xQ more _ (by rw[List.append_assoc];exact h),List.append_assoc];rfl
theorem xR {H:Hp}:∀{ys:List V} {vw:Vw},Paired (PB H) ys vw->∃ kvs:List (Key×V),Paired (fun y kv=>∃ q,y=.ref q/\H q=some (.tup [kV kv.1,kv.2])) ys kvs/\Paired (zp H) kvs vw
 |_,_,.nil=>⟨[],.nil,.nil⟩
 |_,_,.cons ⟨p,v,e1,e2,e3⟩ t=>by
  obtain⟨kvs,h1,h2⟩:=xR t;exact⟨(Sum.inr _,v)::kvs,.cons ⟨p,e1,e2⟩ h1,.cons ⟨rfl,e3⟩ h2⟩
theorem Ld {H:Hp}{kvs:List (Key×V)}{vw:Vw}(h:Paired (zp H) kvs vw)(n:(vw.map (·.1)).Nodup):(kvs.map (·.1)).Nodup:=by
 have e:kvs.map (·.1)=(vw.map (·.1)).map fun x=>(Sum.inr x:Key):=by
  clear n
  induction h with
  |nil=>rfl
  |cons r _ ih=>rw[map_cons,map_cons,map_cons,ih,r.1]
 rw[e];exact tY n
theorem Ft.dict {H:Hp}{l:Addr}{vw:Vw}(h:Ft H l vw)(n:(vw.map (·.1)).Nodup):∃(ys:List V)(kvs:List (Key×V)),H l=some (.lst ys)/\Paired (fun y kv=>∃ q,y=.ref q/\H q=some (.tup [kV kv.1,kv.2])) ys kvs/\kvs.length=vw.length/\∀ d,H d=none->aq H (upd H d (.dK (fS [] kvs)))/\lG (upd H d (.dK (fS [] kvs))) d vw:=by
 obtain⟨ys,e,p⟩:=h;obtain⟨kvs,h1,h2⟩:=xR p;refine⟨ys,kvs,e,h1,bF h2,fun d hd=>?_⟩;rw[xQ kvs [] (by simpa using Ld h2 n)];exact⟨aq.upd hd,kvs,ae,bR (fun _ _ q=>q.same (aq.upd hd)) h2⟩
end bD
set_option maxHeartbeats 1000000
namespace L2
open PySem PySem.Spec PyProof.Rows
variable {X:Cx}
noncomputable def PC:V->List V->Hp->VK->Prop:=fun x vs H Q=>∃(l:Addr)(ys:List Str)(z:Str)(j:Nat),x=.ref l/\vs=[.str z]/\H l=some (.lst (ys.map V.str))/\ys[j]? = some z/\(∀ i,i<j->ys[i]? ≠ some z)/\Q (.int j) H
theorem Le:Qm X "list.index" PC:=by
 intro pins s σ H x vs v us Q I rx rv h;obtain⟨l,ys,k,j,rfl,rfl,hH,hj,hno,q⟩:=h;cases rx;obtain⟨u,rfl,t,rfl⟩:=rv.one;obtain⟨z,its,n,r,hl,e⟩:=I.Br hH;have ha:=xo r;have at_:∀{i:Nat} {y:Str},ys[i]? = some y->∃ t',its[i]? = some (.str y t'):=fun {i y} hy=>by
  obtain⟨u,hu,t',rfl⟩:=r.get (i:=i) (x:=.str y) (by rw[getElem?_map,hy];rfl);exact⟨t',hu⟩
 have ln:its.length=ys.length:=by rw[<-length_map (f:=V.str) (as:=ys)];exact hl.symm
 have hjl:j<ys.length:=(List.getElem?_eq_some_iff.mp hj).1;obtain⟨tj,ej⟩:=at_ hj;have b:sizeLine<2 ^ 60:=by decide
 have z':ys.length<=sizeLine:=by rw[<-length_map (f:=V.str) (as:=ys)];exact z
 refine call_meets F.slot_list_index ⟨_,e,rfl⟩ F.entry_list_index (F.args_list_index_2 _ _)
  (MeetsSeq.list_index l its.toArray n (.str k t) (isStrOf k) (fun y hy=>eq_isStrOf k t ha y (by simpa using hy)) j (by rw[size_toArray];omega) (by omega) ?_ ?_) ⟨e,?_⟩
 ·have:its.toArray[j]'(by rw[size_toArray];omega)=.str k tj:=by
   have:=(List.getElem?_eq_some_iff.mp ej).2
   simpa using this
  rw[this];exact beq_self_eq_true k
 ·intro i hi hlt;have hil:i<ys.length:=by omega
  have hy:ys[i]? = some ys[i]:=getElem?_eq_getElem hil;obtain⟨ti,ei⟩:=at_ hy;have:its.toArray[i]'hi=.str ys[i] ti:=by
   have:=(List.getElem?_eq_some_iff.mp ei).2
   simpa using this
  rw[this];exact beq_eq_false_iff_ne.mpr fun z=>hno i hlt (by rw[hy,z])
 ·exact⟨.int j,H,I.tok _,⟨_,rfl⟩,q⟩
end L2
namespace bD
open PySem L2
theorem Bk.dropped {c:Cs}{H H1 H':Hp}{x L D U:Addr}{all:List Vx}{M:MM}{Ps Fs:List MM}{es us:List Dd}{F:Addr->Prop}{vw:Vw}{ps fs:List Vw}(b:z0 c.B c.V c.D H x L D U all M Ps Fs es us)(i:Is H L all M vw)(pp:Paired (Is H L all) Ps ps)(f:Fn F L D U all es us)(wv:∀ v,v∈ps\/v=vw\/v∈fs->pL v)
  {j:Nat} {v:V} (hj:(M L)[j]? = some v) (w':pL (vw.take j++vw.drop (j+1))) {e:Dd} (eT:e.T=L) (ei:e.i=j) (eb:e.bs=[v]) (ea:e.as=[]) (s1:aq H H1) (nB:H e.B=none) (nA:H e.A=none) (hd:jX c.D H1 (.ref e.o) e)
  {ds:List V} (hD:H D=some (.lst ds)) (pD:Paired (jX c.D H) ds es)
  (fr:∀ y o,H1 y=some o->y≠L->y≠D->y≠U->H' y=some o) (hL':H' L=some (.lst ((M L).take j++(M L).drop (j+1)))) (hD':H' D=some (.lst (ds++[.ref e.o]))) (hU':H' U=some (.lst [])) :
  ∃ F',Gr F F' H/\Fr F H H'/\pZ c H' x F' (vw.take j++vw.drop (j+1)) (ps++[vw]) []:=by
 have kT:Kept (fun _=>True) H H1:=.same s1;have b2:=b.kept (F:=fun _=>True) ⟨trivial,trivial,trivial,fun _ _=>trivial,fun _ _=>⟨trivial,trivial⟩⟩ kT;have hjl:j<(M L).length:=(List.getElem?_eq_some_iff.mp hj).1;have hM:ox e M L=(M L).take j++(M L).drop (j+1):=by
  unfold ox;rw[eT,eP,ei,eb,ea];simp
 have mo:∀ y,y≠L->ox e M y=M y:=fun y hy=>ju (by rw[eT];exact hy);have wM:=b2.wf M (.inr (.inl rfl));have Qw:∀ z∈all,z.l≠L:=fun z hz=>(b2.nl z hz).1;have oA:∀{y:Addr},H y=none->y≠L/\y≠D/\y≠U/\∀ z∈all,y≠z.l:=fun {y} hy=>by
  obtain⟨u0,Hk,_⟩:=b.hU;exact⟨Ne.symm (ao b.hL hy),Ne.symm (ao hD hy),Ne.symm (ao Hk hy),fun z hz=>Ne.symm (ao (b.ha z hz).2 hy)⟩
 have ok:IY L D U all e:=⟨.inl eT,oA nB,oA nA,by rw[eb];simp,by rw[ea];simp⟩;have ft:Fits e M:=by
  refine⟨by rw[ei,eb,eT];exact hjl,?_⟩;rw[eb,eT,ei];show((M L).drop j).take 1=[v];rw[List.drop_eq_getElem_cons hjl,List.take_succ_cons,List.take_zero];rw[(List.getElem?_eq_some_iff.mp hj).2]
 have Pt:WF H1 L all (ox e M) :=
  {
   vs:=(let ⟨vx,p⟩:=wM.vs;⟨vx.take j++vx.drop (j+1),by rw[hM];exact rg (rj j p) (rh (j+1) p)⟩)
   ln:=fun z hz=>by rw[mo _ (Qw z hz)];exact wM.ln z hz
   len:=by rw[hM,length_append,length_take,length_drop];have:=wM.len;omega
   out:=fun y h1 h2=>by rw[mo y h1];exact wM.out y h1 h2 }
 have i2:Is H1 L all M vw:=Is.kept kT i;have i3:Paired (Fm H1 all (ox e M)) (M L) vw:=by
  refine bR (fun v q hq=>?_) i2;obtain⟨z,hz,e1,e2,e3⟩:=hq;refine⟨z,hz,e1,e2,?_⟩;cases hq2:q.2 with
  |pl ss=>rw[hq2]at e3;exact⟨e3.1,by rw[mo _ (Qw z hz)];exact e3.2⟩
  |cn ld lt sl tn=>rw[hq2]at e3;exact e3
 have i':Is H1 L all (ox e M) (vw.take j++vw.drop (j+1)):=by
  show Paired _ (ox e M L) _;rw[hM];exact rg (rj j i3) (rh (j+1) i3)
 have B:=Bk.deed b2 i2 (bR (fun _ _ q=>Is.kept kT q) pp) f (fun v hv=>wv v (hv.imp id .inl)) hd ok ft Pt i' w' (my (fun _ e' he q=>ia (F:=fun _=>True) kT ⟨trivial,trivial⟩ q) pD) (H2:=H')
  (fun y o hy y1 y2 y3=>fr y o hy (by rw[<-eT];exact y1) y2 y3) (by rw[eT,hM];exact hL') hD' hU'
 refine⟨_,fun y hy=>?_,fun y o hy hn=>fr y o (s1 y o hy) (fun q=>hn (q ▸ f.L)) (fun q=>hn (q ▸ f.D)) (fun q=>hn (q ▸ f.U)),B⟩;rcases hy with hy|hy|hy
 ·exact .inl hy
 ·rw[hy];exact .inr nB
 ·rw[hy];exact .inr nA
noncomputable def uJ (n:Str)(q:Str×Th):Bool:=match q.2 with
 |.cn ld _ _ _=>decide (ld=n)
 |.pl _=>false
noncomputable def leans (vw:Vw)(n:Str):Bool:=vw.any (uJ n)
noncomputable def oF (vw:Vw)(n:Str):Vw:=vw.filter fun q=>!decide (q.1=n)
theorem Fu {n:Str}:∀{vw:Vw},(∀ q∈vw,q.1≠n)->oF vw n=vw:=fun {vw} h =>
 List.filter_eq_self.mpr fun q hq=>by rw[decide_eq_false (h q hq)];rfl
theorem xS {n:Str}{th:Th}:∀{vw:Vw} {j:Nat},(vw.map (·.1)).Nodup->vw[j]? = some (n,th)->oF vw n=vw.take j++vw.drop (j+1)
 |[],_,_,h=>by simp at h
 |q::vw,0,nd,h=>by
  simp only [List.getElem?_cons_zero,Option.some.injEq]at h;rw[map_cons]at nd;obtain⟨n1,_⟩:=List.nodup_cons.mp nd;unfold oF;rw[List.filter_cons_of_neg (by rw[h];simp)];refine Fu fun q' hq' e=>n1 ?_;rw[h];exact e ▸ mem_map.mpr ⟨q',hq',rfl⟩
 |q::vw,j+1,nd,h=>by
  rw[List.getElem?_cons_succ]at h;rw[map_cons]at nd;obtain⟨n1,n2⟩:=List.nodup_cons.mp nd;have ne:q.1≠n:=fun e=>n1 (e ▸ mem_map.mpr ⟨(n,th),mem_of_getElem? h,rfl⟩);unfold oF;rw[List.filter_cons_of_pos (by rw[decide_eq_false ne];rfl)];have:=xS n2 h;unfold oF at this;rw[this];rfl
theorem ud {vw:Vw}{n:Str}{q:Str×Th}:q∈oF vw n ↔ q∈vw/\q.1≠n:=by
 unfold oF;rw[List.mem_filter];simp
theorem pL.dropped {vw:Vw}(w:pL vw){n:Str}(h:leans vw n=false):pL (oF vw n) where
 nd:=List.Sublist.nodup (List.Sublist.map _ List.filter_sublist) w.nd
 ld:=fun m ld lt sl tn hm=>by
  obtain⟨hm,_⟩:=ud.mp hm;obtain⟨⟨ss,hs⟩,r⟩:=w.ld m ld lt sl tn hm;refine⟨⟨ss,ud.mpr ⟨hs,fun e=>?_⟩⟩,r⟩;have:=List.any_eq_false.mp h _ hm;exact this (decide_eq_true e)
 gd:=fun m ss hm=>w.gd m ss (ud.mp hm).1
 len:=Nat.le_trans (List.length_filter_le _ _) w.len
end bD
set_option maxHeartbeats 1000000
namespace L2
open PySem PySem.Spec PyProof.Rows
end L2
namespace bD
open PySem L2
noncomputable def cD (ks:List Kd):Nat->Nat->Nat
 |0,_=>0
 |p+1,met=>if(if(ks.getD p .dot).small=true then met else met+1)=2 then p else cD ks p (if(ks.getD p .dot).small=true then met else met+1)
noncomputable def oG (wide:Bool)(k:Kd):Bool:=if wide=true then k.meas else k.parting
noncomputable def fG (ks:List Kd)(i:Nat)(wide:Bool):Nat:=i+((ks.drop i).takeWhile fun k=>!oG wide k).length
noncomputable def Fv (wide:Bool):List V:=if wide=true then [.str "3",.str "2"] else [.str ".",.str "3",.str "2"]
theorem Lf (wide:Bool)(k:Kd):inV (.str k.str) (Fv wide)=oG wide k:=by cases wide <;> cases k <;> decide +kernel
noncomputable def Lg (ss:List Sg)(i b:Nat)(ch:List Sg):List V:=[.int (cD (aR ss) i 0:Nat),.int (fG (aR ss) b (ch.any fun s=>s.1.meas):Nat)]
theorem DB {p:Kd->Bool}:∀{l:List Kd} {j:Nat} {k:Kd},(∀ m x,m<j->l[m]? = some x->p x=true)->l[j]? = some k->p k=false->(l.takeWhile p).length=j
 |[],_,_,_,h,_=>by simp at h
 |x::l,0,k,_,h,hk=>by
  simp only [List.getElem?_cons_zero,Option.some.injEq]at h;rw[h,List.takeWhile_cons_of_neg (by rw[hk];decide)];rfl
 |x::l,j+1,k,hi,h,hk=>by
  rw[List.takeWhile_cons_of_pos (hi 0 x (Nat.succ_pos _) rfl),length_cons,DB (l:=l) (j:=j) (fun m y hm hy=>hi (m+1) y (Nat.succ_lt_succ hm) (by simpa using hy)) (by simpa using h) hk]
theorem Aa {p:Kd->Bool}:∀{l:List Kd},(∀(m:Nat)(x:Kd),l[m]? = some x->p x=true)->(l.takeWhile p).length=l.length
 |[],_=>rfl
 |x::l,h=>by
  rw[List.takeWhile_cons_of_pos (h 0 x rfl),length_cons,length_cons,Aa (l:=l) fun m y hy=>h (m+1) y (by simpa using hy)]
theorem Hm {ks:List Kd}{i j:Nat}{wide:Bool}{k:Kd}(hi:∀ m x,m<j->ks[i+m]? = some x->oG wide x=false)(h:ks[i+j]? = some k)(hk:oG wide k=true):fG ks i wide=i+j:=by
 unfold fG;rw[DB (j:=j) (k:=k) (fun m x hm hx=>by rw[getElem?_drop]at hx;rw[hi m x hm hx];rfl) (by rw[getElem?_drop];exact h) (by rw[hk];rfl)]
theorem DC {ks:List Kd}{i:Nat}{wide:Bool}(hl:i<=ks.length)(hi:∀(m:Nat)(x:Kd),ks[i+m]? = some x->oG wide x=false):fG ks i wide=ks.length:=by
 unfold fG;rw[Aa (fun m x hx=>by rw[getElem?_drop]at hx;rw[hi m x hx];rfl),length_drop];omega
noncomputable def kdOf (k:Str):Kd:=if k = "G" then .G else if k = "D" then .D else if k = "R" then .R else if k = "s" then .s else if k = "d" then .d else if k = "r" then .r else if k = "." then .dot else if k = "3" then .three else .two
theorem Lh (k:Kd):kdOf k.str=k:=by cases k <;> decide +kernel
noncomputable def jw (s:Sn):Sg:=(kdOf s.1,s.2)
theorem Ho {s:Sg}{n:Sn}(h1:s.1.str=n.1)(h2:s.2=n.2):jw n=s:=by
 unfold jw;rw[<-h1,<-h2,Lh]
theorem Li {n:Sn}(h:iX n=true):(jw n).1.str=n.1/\(jw n).2=n.2/\gb (jw n):=by
 obtain⟨s,h1,h2,g⟩:=BO h;rw[Ho h1 h2];exact⟨h1,h2,g⟩
inductive Wy where
 |put|cut|swap|add|canon|drop|undo|U7
 deriving DecidableEq
noncomputable def Wy.str:Wy->Str
 |.put=>"put" | .cut=>"cut" | .swap=>"swap" | .add=>"add" | .canon=>"canon" | .drop=>"drop" | .undo=>"undo" | .U7=>"redo"
structure De where
 wy:Wy
 n:Str
 ld:Str
 pl:Int
 sg:Sn
 lt:Int
 sl:Int
 tn:Bool
noncomputable def Qx (H:Hp)(v:V)(vw:Vw):Prop:=∃ d,v=.ref d/\lG H d vw
theorem Qx.same {H H':Hp}(s:aq H H'){v:V}{vw:Vw}(h:Qx H v vw):Qx H' v vw:=by
 obtain⟨d,e,h⟩:=h;exact⟨d,e,h.same s⟩
noncomputable def kP (lt sl:Int):Prop:=0<=lt/\lt<=999/\1<=sl/\sl<=9
instance (lt sl:Int):Decidable (kP lt sl):=by unfold kP;exact inferInstance
noncomputable def fY (vw:Vw)(n:Str):Option Rf:=if nameB n=false then some .BM else if(aZ vw n).isSome then some .uc else if 12<=vw.length then some .Full else none
noncomputable def d4 (ss:List Sg)(wy:Wy)(sg:Sn)(i:Nat):List Sg:=match wy with
 |.cut=>ss.take i++[]++ss.drop (i+1)
 |.swap=>ss.take i++[jw sg]++ss.drop (i+1)
 |_=>ss.take i++[jw sg]++ss.drop i
noncomputable def Rf.str:Rf->Str
 |.rq=>"BadSign" | .BM=>"BadName" | .uc=>"NameTaken" | .Full=>"Full" | .gD=>"NoVoice" | .ly=>"NotPlain" | .rA=>"NoPlace" | .BN=>"BadTerm" | .Fq=>"Leaned" | .qD=>"NoMore"
theorem xV {K:Frag}{H:Hp}{p:Addr}{xs:List V}{i:Nat}{v:V}{Q:VK}(h:H p=some (.tup xs))(e:xs[i]? = some v)(q:Q v H):Bm K (.ref p) (.int (i:Int)) H Q\/Bn K (.ref p) (.int (i:Int)) H Q\/Bo (.ref p) (.int (i:Int)) H Q:=.inr (.inl ⟨p,_,i,v,rfl,rfl,fc.of h,pE e,q⟩)
theorem Lj (a b:Wy):decide (V.str a.str=V.str b.str)=decide (a=b):=by cases a <;> cases b <;> decide +kernel
set_option maxHeartbeats 1000000
noncomputable def bO (s:Sg):Str:=if s.1.cK=true then s.1.str++iY s.2 else s.1.str
theorem BQ (k:Kd):k.str.length=1:=by cases k <;> decide +kernel
theorem lH {s:Sg}(h:gb s):(bO s).length<=3:=by
 unfold bO;have h1:=BQ s.1
 by_cases e:s.1.cK=true
 ·rw[if_pos e,PySem.Str.length_append];have:=M7 (h.1 e).1 (h.1 e).2;omega
 ·rw[if_neg e];omega
theorem Na:(List.range 1000).all (fun n=>decide ((iY (n:Int)).length<=3))=true:=by lk
theorem DD {n:Int}(h0:0<=n)(h1:n<1000):(iY n).length<=3:=by
 have:=all_eq_true.mp Na n.toNat (mem_range.mpr (by omega));have e:((n.toNat:Nat):Int)=n:=by omega
 rw[e]at this;exact of_decide_eq_true this
theorem BR {n:Int}(h0:0<=n)(h1:n<1000):n.natAbs.log2<1920:=by
 have hb:n.natAbs<2 ^ 1920:=Nat.lt_of_lt_of_le (show n.natAbs<2 ^ 10 by omega) (Nat.pow_le_pow_right (by decide) (by decide))
 by_cases z:n.natAbs=0
 ·rw[z];decide
 ·exact(Nat.log2_lt z).mpr hb
theorem qF:∀{ss:List Sg},(∀ s∈ss,gb s)->((ss.map bO).map (·.length)).sum<=3 * ss.length
 |[],_=>Nat.le_refl _
 |s::ss,h=>by
  have h1:=lH (h s mem_cons_self);have h2:=qF fun x hx=>h x (mem_cons_of_mem _ hx);simp only [map_cons,List.sum_cons,length_cons];omega
noncomputable def Fx (tn:Bool):Str:=if tn=true then "turned" else "straight"
theorem join_cons (d a b:Str)(t:List Str):Str.join d (a::b::t)=a++d++Str.join d (b::t):=rfl
set_option maxHeartbeats 1000000
noncomputable def jl (c:Nat):List (List Nat)->List Nat
 |[]=>[]
 |[x]=>x
 |x::y::r=>x++c::jl c (y::r)
theorem Hq {c:Nat}:∀{a b x y:List Nat},c ∉ a->c ∉ b->a++c::x=b++c::y->a=b/\x=y
 |[],[],x,y,_,_,h=>by
  simp at h;exact⟨rfl,h⟩
 |[],d::b,x,y,_,hb,h=>by
  simp at h;exact absurd (by rw[h.1];exact mem_cons_self) hb
 |d::a,[],x,y,ha,_,h=>by
  simp at h;exact absurd (by rw[<-h.1];exact mem_cons_self) ha
 |d::a,e::b,x,y,ha,hb,h=>by
  simp at h;obtain⟨r1,r2⟩:=Hq (fun z=>ha (mem_cons_of_mem _ z)) (fun z=>hb (mem_cons_of_mem _ z)) h.2;exact⟨by rw[h.1,r1],r2⟩
theorem Lk {c:Nat}:∀{A B:List (List Nat)},A≠[]->B≠[]->(∀ p∈A,c ∉ p)->(∀ p∈B,c ∉ p)->jl c A=jl c B->A=B
 |[],_,h,_,_,_,_=>absurd rfl h
 |_,[],_,h,_,_,_=>absurd rfl h
 |[a],[b],_,_,_,_,h=>by
  simp only [jl]at h;rw[h]
 |[a],b::b2::r,_,_,ha,_,h=>by
  simp only [jl]at h;exact absurd (by rw[h];simp) (ha a mem_cons_self)
 |a::a2::r,[b],_,_,_,hb,h=>by
  simp only [jl]at h;exact absurd (by rw[<-h];simp) (hb b mem_cons_self)
 |a::a2::r,b::b2::q,_,_,ha,hb,h=>by
  simp only [jl]at h;obtain⟨r1,r2⟩:=Hq (ha a mem_cons_self) (hb b mem_cons_self) h;have:=Lk (A:=a2::r) (B:=b2::q) (by simp) (by simp) (fun p hp=>ha p (mem_cons_of_mem _ hp)) (fun p hp=>hb p (mem_cons_of_mem _ hp)) r2;rw[r1,this]
theorem BS (c:Nat):∀ ws:List Str,(Str.join ⟨#[c]⟩ ws).cps.toList=jl c (ws.map (·.cps.toList))
 |[]=>rfl
 |[x]=>rfl
 |x::y::r=>by
  show(x++⟨#[c]⟩++Str.join ⟨#[c]⟩ (y::r)).cps.toList=_;rw[Str.cps_append,Str.cps_append,Array.toList_append,Array.toList_append,BS c (y::r)];simp[jl]
theorem toList_inj:∀{A B:List Str},A.map (·.cps.toList)=B.map (·.cps.toList)->A=B
 |[],[],_=>rfl
 |[],_::_,h=>by simp at h
 |_::_,[],h=>by simp at h
 |a::A,b::B,h=>by
  simp only [map_cons,List.cons.injEq]at h;have e:a=b:=Str.ext' (Array.toList_inj.mp h.1);rw[e,toList_inj h.2]
theorem Fy {c:Nat}{ws:List Str}(hn:ws≠[])(hf:∀ p∈ws,c ∉ p.cps.toList)(hx:Str.join ⟨#[c]⟩ ws≠Str.empty):Txt.split (Str.join ⟨#[c]⟩ ws) ⟨#[c]⟩=ws:=by
 have h1:=StrLaws.join_split (Str.join ⟨#[c]⟩ ws) ⟨#[c]⟩;have h2:=StrLaws.split_free (Str.join ⟨#[c]⟩ ws) c;generalize Txt.split (Str.join ⟨#[c]⟩ ws) ⟨#[c]⟩=A at h1 h2;have hA:A≠[]:=by
  rintro rfl;exact hx h1.symm
 refine toList_inj (Lk (c:=c) (by simpa using hA) (by simpa using hn) ?_ ?_ ?_)
 ·intro p hp;obtain⟨q,hq,rfl⟩:=mem_map.mp hp;exact h2 q hq
 ·intro p hp;obtain⟨q,hq,rfl⟩:=mem_map.mp hp;exact hf q hq
 ·rw[<-BS,<-BS,h1]
set_option maxHeartbeats 1000000
noncomputable def Fw (w:Str):Prop:=32 ∉ w.cps.toList/\10 ∉ w.cps.toList
instance (w:Str):Decidable (Fw w):=inferInstanceAs (Decidable (_/\_))
theorem Nb {n:Str}(h:nameB n=true):Fw n:=by
 unfold nameB at h;rw[Bool.and_eq_true,Bool.and_eq_true]at h;have ha:=all_eq_true.mp h.2.2;refine⟨fun hc=>?_,fun hc=>?_⟩
 ·have:=ha _ hc;exact absurd this (by lk)
 ·have:=ha _ hc;exact absurd this (by lk)
theorem Nc:(List.range 1000).all (fun n=>decide (Fw (iY (n:Int))))=true:=by lk
theorem PD {n:Int}(h0:0<=n)(h1:n<1000):Fw (iY n):=by
 have:=of_decide_eq_true (all_eq_true.mp Nc n.toNat (mem_range.mpr (by omega)));rw[Int.toNat_of_nonneg h0]at this;exact this
noncomputable def R6:List Kd:=[.G,.D,.R,.s,.d,.r,.dot,.three,.two]
theorem Ll (k:Kd):k∈R6:=by cases k <;> decide
theorem Lm:(R6.all fun k=>decide (Fw k.str)&&(List.range 100).all fun n=>decide (Fw (k.str++iY (n:Int))))=true:=by lk
theorem Nd {s:Sg}(h:gb s):Fw (bO s):=by
 have hk:=all_eq_true.mp Lm s.1 (Ll s.1);rw[Bool.and_eq_true]at hk;unfold bO;split
 ·rename_i e
  obtain⟨h0,h1⟩:=h.1 e;have:=of_decide_eq_true (all_eq_true.mp hk.2 s.2.toNat (mem_range.mpr (by omega)));rw[Int.toNat_of_nonneg h0]at this;exact this
 ·exact of_decide_eq_true hk.1
theorem PJ (tn:Bool):Fw (Fx tn):=by cases tn <;> decide +kernel
theorem Ln:Str.ofString " "=(⟨#[32]⟩:Str):=by lk
theorem Nf {d a:Str}{r:List Str}(h:a≠Str.empty):Str.join d (a::r)≠Str.empty:=fun e=>by
 cases r with
 |nil=>exact h e
 |cons b r =>
  have l:(Str.join d (a::b::r)).length=0:=by rw[e];rfl
  rw[join_cons,PySem.Str.length_append,PySem.Str.length_append]at l;apply h;have:a.cps.size=0:=by
   show a.length=0;omega
  exact Str.ext' (by rw[Array.size_eq_zero_iff.mp this];rfl)
noncomputable def Ng:List Nat:=[48,49,50,51,52,53,54,55,56,57]
noncomputable def Nh (z:Str)(n:Int):Prop:=1<=z.length/\z.length<=3/\(∀ c∈z.cps.toList,c∈Ng)/\¬(1<z.length/\z.cps.toList[0]? = some 48)/\intText? z=some n
instance (z:Str) (n:Int):Decidable (Nh z n):=inferInstanceAs (Decidable (_/\_/\_/\_/\_))
theorem PK:(List.range 1000).all (fun n=>decide (Nh (iY (n:Int)) (n:Int))&&decide ((n:Nat)<100->(iY (n:Int)).length<=2))=true:=by lk
theorem DE {n:Int}(h0:0<=n)(h1:n<1000):Nh (iY n) n/\(n<100->(iY n).length<=2):=by
 have:=all_eq_true.mp PK n.toNat (mem_range.mpr (by omega));rw[Bool.and_eq_true]at this;have e:((n.toNat:Nat):Int)=n:=Int.toNat_of_nonneg h0;rw[e]at this;exact⟨of_decide_eq_true this.1,fun h=>of_decide_eq_true this.2 (by omega)⟩
noncomputable def Hr:List V:=[.str "0",.str "1",.str "2",.str "3",.str "4",.str "5",.str "6",.str "7",.str "8",.str "9"]
noncomputable def chr (c:Nat):Str:=⟨#[c]⟩
theorem Hs (d c:Nat):(chr d==chr c)=decide (c=d):=by
 by_cases h:c=d
 ·subst h;rw[beq_self_eq_true,decide_eq_true rfl]
 ·rw[decide_eq_false h];refine Bool.eq_false_iff.mpr fun q=>h ?_;have e:=beq_iff_eq.mp q;unfold chr at e
  injection e with e
  have:[d]=[c]:=congrArg Array.toList e;exact(List.cons.inj this).1.symm
theorem Ht (c:Nat):∀ l:List Nat,inV (.str (chr c)) (l.map fun d=>V.str (chr d))=decide (c∈l)
 |[]=>by simp[inV]
 |d::l=>by
  show((chr d==chr c)||inV (.str (chr c)) (l.map fun d=>V.str (chr d)))=_;rw[Ht c l,Hs]
  by_cases h:c=d <;> simp[h]
theorem Ni (c:Nat):inV (.str (chr c)) Hr=decide (c∈Ng):=by
 have e:Hr=Ng.map fun d=>V.str (chr d):=by lk
 rw[e];exact Ht c Ng
theorem Lo:Str.ofString "0"=chr 48:=by lk
noncomputable def PL (k:Kd)(n:Int):Prop:=inV (.str (k.str++iY n)) iy=false/\(k.str++iY n).length<=64/\Txt.slice (k.str++iY n) none (some 1)=k.str/\Txt.slice (k.str++iY n) (some 1) none=iY n/\inV (.str k.str) oB=true
instance (k:Kd) (n:Int):Decidable (PL k n):=inferInstanceAs (Decidable (_/\_/\_/\_/\_))
theorem PM:([Kd.G,Kd.D,Kd.s,Kd.d].all fun k=>(List.range 100).all fun n=>decide (PL k (n:Int)))=true:=by lk
theorem R8 {k:Kd}(hk:k.cK=true){n:Int}(h0:0<=n)(h1:n<100):PL k n:=by
 have hm:k∈[Kd.G,Kd.D,Kd.s,Kd.d]:=by cases k <;> first|(cases hk;done)|simp
 have:=of_decide_eq_true (all_eq_true.mp (all_eq_true.mp PM k hm) n.toNat (mem_range.mpr (by omega)));rw[Int.toNat_of_nonneg h0]at this;exact this
set_option maxHeartbeats 1000000
noncomputable def Mj (x:Addr):List (Str×V):=[("book",V.ref x)]
theorem eo (x:Addr):(Mj x).lookup ("book":Str)=some (V.ref x):=cQ
theorem dX (x:Addr):(Mj x).lookup ("told":Str)=none:=(az (by lk)).trans (rfl)
inductive Ar where
 |nm (w:Str)
 |nb (n:Int)
 |wy (tn:Bool)
 |sg (s:Sg)
noncomputable def Ar.w:Ar->Str
 |.nm w=>w
 |.nb n=>iY n
 |.wy tn=>Fx tn
 |.sg s=>bO s
noncomputable def Ar.f:Ar->Str
 |.nm _=>"name"
 |.nb _=>"number"
 |.wy _=>"way"
 |.sg _=>"sign"
noncomputable def Ar.ok:Ar->Prop
 |.nm w=>nameB w=true
 |.nb n=>0<=n/\n<1000
 |.wy _=>True
 |.sg s=>gb s
noncomputable def zq (H:Hp)(v:V):Ar->Prop
 |.nm w=>v=.str w
 |.nb n=>v=.int n
 |.wy tn=>v=.bl tn
 |.sg s=>BE H v s
inductive Cm where
 |add (n:Str)
 |follow (n ld:Str) (lt sl:Int) (tn:Bool)
 |put (n:Str) (i:Nat) (s:Sg)
 |undo
 |line (n:Str)
 |jx (n:Str)
noncomputable def Cm.head:Cm->Str
 |.add _=>"add"
 |.follow ..=>"follow"
 |.put ..=>"put"
 |.undo=>"undo"
 |.line _=>"line"
 |.jx _=>"worths"
noncomputable def Cm.args:Cm->List Ar
 |.add n=>[.nm n]
 |.follow n ld lt sl tn=>[.nm n,.nm ld,.nb lt,.nb sl,.wy tn]
 |.put n i s=>[.nm n,.nb i,.sg s]
 |.undo=>[]
 |.line n=>[.nm n]
 |.jx n=>[.nm n]
noncomputable def Cm.words (c:Cm):List Str:=c.head::c.args.map Ar.w
noncomputable def Cm.text (c:Cm):Str:=Str.join " " c.words
noncomputable def Cm.ok (c:Cm):Prop:=∀ a∈c.args,a.ok
theorem jy {n:Str}(h:nameB n=true):1<=n.length/\n.length<=8:=by
 unfold nameB at h;rw[Bool.and_eq_true,Bool.and_eq_true]at h;have h1:decide (1<=n.length)=true:=h.1;have h2:decide (n.length<=8)=true:=h.2.1;exact⟨of_decide_eq_true h1,of_decide_eq_true h2⟩
theorem Ar.fw {a:Ar}(h:a.ok):Fw a.w:=by
 cases a with
 |nm w=>exact Nb h
 |nb n=>exact PD h.1 h.2
 |wy tn=>exact PJ tn
 |sg s=>exact Nd h
theorem Cm.Hu (c:Cm):Fw c.head/\c.head≠Str.empty:=by cases c <;> (show Fw (Str.ofString _)/\(Str.ofString _)≠Str.empty;decide +kernel)
theorem Cm.split {c:Cm}(h:c.ok):Txt.split c.text " "=c.words:=by
 have e:c.text=Str.join ⟨#[32]⟩ c.words:=by unfold Cm.text;rw[<-Ln]
 rw[e,show((" ":Str))=⟨#[32]⟩ from Ln];refine Fy (List.cons_ne_nil _ _) (fun p hp=>?_) (Nf c.Hu.2);rcases List.mem_cons.mp hp with rfl|hp
 ·exact c.Hu.1.1
 ·obtain⟨a,ha,rfl⟩:=mem_map.mp hp;exact(Ar.fw (h a ha)).1
theorem Ar.ne {a:Ar}(h:a.ok):a.w ≠ "":=by
 have z:∀{s:Str},1<=s.length->s ≠ "":=fun hs e=>by
  rw[e]at hs;exact absurd hs (by lk)
 cases a with
 |nm w=>exact z (jy h).1
 |nb n=>exact z (DE h.1 h.2).1.1
 |wy tn=>cases tn <;> decide +kernel
 |sg s =>
  refine z ?_;show 1<=(bO s).length;unfold bO;split
  ·rw[PySem.Str.length_append,BQ];omega
  ·rw[BQ];exact Nat.le_refl _
theorem Ar.len {a:Ar}(h:a.ok):a.w.length<=8:=by
 cases a with
 |nm w=>exact(jy h).2
 |nb n=>exact Nat.le_trans (DE h.1 h.2).1.2.1 (by decide)
 |wy tn=>cases tn <;> decide +kernel
 |sg s=>exact Nat.le_trans (lH h) (by decide)
theorem zq.same {H H':Hp}(s:aq H H'){v:V}{a:Ar}(h:zq H v a):zq H' v a:=by
 cases a with
 |sg g=>obtain⟨p,e1,e2⟩:=h;exact⟨p,e1,s _ _ e2⟩
 |_=>exact h
theorem zq.write {H:Hp}{l:Addr}{xs:List V}{o:HO}(hl:H l=some (.lst xs)){v:V}{a:Ar}(h:zq H v a):zq (upd H l o) v a:=by
 cases a with
 |sg g =>
  obtain⟨p,e1,e2⟩:=h;exact⟨p,e1,by rw[ai (fm e2 hl (by intro z;cases z))];exact e2⟩
 |_=>exact h
noncomputable def putL (ss:List Sg)(i:Nat)(s:Sg):List Sg:=ss.take i++[s]++ss.drop i
noncomputable def Ja (ss:List Sg)(i b:Nat)(ch:List Sg):Str:="ok " ++ iY (cD (aR ss) i 0:Nat) ++ " " ++ iY (fG (aR ss) b (ch.any fun s=>s.1.meas):Nat)
noncomputable def Cm.PN (vw:Vw)(ps fs:List Vw):Cm->Option (Str×Vw×List Vw×List Vw)
 |.add n=>some ("ok",vw++[(n,.pl [])],ps++[vw],[])
 |.follow n ld lt sl tn=>some ("ok",vw++[(n,.cn ld lt sl tn)],ps++[vw],[])
 |.put n i s=>some (Ja (putL (cR vw n) i s) i (i+1) [s],fF vw n (.pl (putL (cR vw n) i s)),ps++[vw],[])
 |.undo=>ps.getLast?.map fun v=>("ok",v,ps.dropLast,fs++[vw])
 |.line n=>some (Str.join " " ("ok" :: (cR vw n).map bO),vw,ps,fs)
 |.jx n=>some (Str.join " " ("ok" :: (dy vw n).map iY),vw,ps,fs)
noncomputable def Cm.fit (vw:Vw):Cm->Prop
 |.add n=>fY vw n=none
 |.follow n ld lt sl _=>fY vw n=none/\(∃ ss,aZ vw ld=some (.pl ss))/\kP lt sl
 |.put n i _=>∃ ss,aZ vw n=some (.pl ss)/\i<=ss.length/\ss.length<200
 |.undo=>True
 |.line n=>∃ th,aZ vw n=some th
 |.jx n=>∃ th,aZ vw n=some th
noncomputable def Cm.look:Cm->Bool
 |.line _=>true
 |.jx _=>true
 |_=>false
noncomputable def BU (c:Cs)(x:Addr)(F:Addr->Prop)(H:Hp)(Q:VK)(N:Hp->Prop)(lk:Bool):Option (Str×Vw×List Vw×List Vw)->Prop
 |none=>∀ H',aq H H'->N H'
 |some r=>∀ F' H',Gr F F' H->Fr F H H'->(lk=true->aq H H')->pZ c H' x F' r.2.1 r.2.2.1 r.2.2.2->Q (.str r.1) H'
theorem BU.same {c:Cs}{x:Addr}{F:Addr->Prop}{H H1:Hp}{Q:VK}{N:Hp->Prop}{lk:Bool}(s:aq H H1):∀{r},BU c x F H Q N lk r->BU c x F H1 Q N lk r
 |none,h=>fun H' s'=>h H' (s.trans s')
 |some _,h=>fun F' H' g f k b=>h F' H' (g.old s) (fun y o e n=>f y o (s y o e) n) (fun z=>s.trans (k z)) b
end bD
set_option maxHeartbeats 1000000
local macro_rules | `(tactic| tm_up) => `(tactic| repeat w_up)
local macro_rules | `(tactic| w_up) => `(tactic| first
 |refine⟨_,rfl,?_⟩
 |refine⟨_,_,rfl,rfl,⟨by decide,by decide⟩,?_⟩
 |refine⟨_,_,rfl,rfl,(by first|decide|(show(0:Int)<_;decide)),?_⟩
 |refine .inl ⟨_,_,rfl,rfl,.inr ⟨by decide,by decide⟩,?_⟩
 |refine⟨_,_,rfl,rfl,?_⟩
 |refine .inl ⟨_,_,rfl,rfl,?_⟩
 |refine .inl ⟨rfl,?_⟩
 |refine .inr ⟨_,_,rfl,rfl,?_⟩
 |refine bD.Qt (by assumption) ?_
 |refine bD.V8 (by assumption) ?_
 |refine bD.Yi (by assumption) ?_
 |refine bD.Yj (by assumption) ?_)
namespace bD
open PySem L2
set_option hygiene false
local macro_rules | `(tactic| x_go) => `(tactic| (intro vs H Q E h; first | (cases h; subst_vars; rfl) | (obtain ⟨rfl, _⟩ := h; rfl) | (obtain ⟨_, rfl, _⟩ := h; rfl) | (obtain ⟨_, _, rfl, _⟩ := h; rfl) | (obtain ⟨_, _, _, rfl, _⟩ := h; rfl) | (obtain ⟨_, _, _, _, rfl, _⟩ := h; rfl) | (obtain ⟨_, _, _, _, _, rfl, _⟩ := h; rfl) | (obtain ⟨_, _, _, _, _, _, rfl, _⟩ := h; rfl) | (obtain ⟨_, _, _, _, _, _, _, rfl, _⟩ := h; rfl) | (obtain ⟨_, _, _, _, _, _, _, _, rfl, _⟩ := h; rfl) | (obtain ⟨_, _, _, _, _, _, _, _, _, rfl, _⟩ := h; rfl) | (obtain ⟨_, _, _, _, _, _, _, _, _, _, rfl, _⟩ := h; rfl) | (obtain ⟨_, _, _, _, _, _, _, _, _, _, _, rfl, _⟩ := h; rfl) | (obtain ⟨_, _, _, _, _, _, _, _, _, _, _, _, rfl, _⟩ := h; rfl) | (obtain ⟨_, _, _, _, _, _, _, _, _, _, _, _, _, rfl, _⟩ := h; rfl)); intro cdv A outer s H vs Q E hr h)
local macro_rules | `(tactic| k_go) => `(tactic| exact ⟨rfl, rfl, rfl, by lk, rfl, by lk, by lk⟩)
set_option hygiene true
noncomputable def top (i:Nat):Stmt:=PySem.Challenge.pw_noteworth_k52_whole_desk_and_its_book.main.body.getD i (.Pass ⟨0,0,0,0⟩)
noncomputable abbrev mX:Stmt:=inClass (top 63) 0
noncomputable abbrev mY:Stmt:=inClass (top 91) 0
noncomputable abbrev uK:Stmt:=top 67
noncomputable abbrev Lp:Stmt:=top 76
noncomputable abbrev rC:Stmt:=top 77
noncomputable abbrev Ab:Stmt:=top 71
noncomputable abbrev uL:Stmt:=top 72
noncomputable abbrev xW:Stmt:=top 78
noncomputable abbrev Ac:Stmt:=top 57
noncomputable abbrev rD:Stmt:=inClass (top 63) 9
noncomputable abbrev j8:Stmt:=inClass (top 63) 16
noncomputable abbrev Ad:Stmt:=inClass (top 56) 1
noncomputable abbrev oH:Stmt:=inClass (top 63) 14
noncomputable abbrev mZ:Stmt:=inClass (top 56) 0
noncomputable abbrev p5:Stmt:=inClass (top 63) 15
noncomputable abbrev lI:Stmt:=inClass (top 55) 0
noncomputable abbrev lJ:Stmt:=inClass (top 63) 1
noncomputable abbrev rE:Stmt:=top 79
noncomputable abbrev iZ:Stmt:=inClass (top 63) 17
noncomputable abbrev jz:Stmt:=inClass (top 63) 18
noncomputable abbrev dH:Stmt:=inClass (top 63) 2
noncomputable abbrev m6:Stmt:=top 80
noncomputable abbrev g6:Stmt:=top 58
noncomputable abbrev Lq:Stmt:=top 22
noncomputable abbrev j9:Stmt:=top 59
noncomputable abbrev Hv:Stmt:=top 23
noncomputable abbrev Ae:Stmt:=top 60
noncomputable abbrev xX:Stmt:=top 61
noncomputable abbrev oI:Stmt:=top 24
noncomputable abbrev DF:Stmt:=top 62
noncomputable abbrev xY:Stmt:=inClass (top 63) 4
noncomputable abbrev rF:Stmt:=top 82
noncomputable abbrev uM:Stmt:=inClass (top 56) 2
noncomputable abbrev uN:Stmt:=inClass (top 63) 7
noncomputable abbrev p6:Stmt:=top 85
noncomputable abbrev DG:Stmt:=top 25
noncomputable abbrev rG:Stmt:=top 70
noncomputable abbrev rH:Stmt:=inClass (top 63) 12
noncomputable abbrev DH:Stmt:=top 30
noncomputable abbrev uO:Stmt:=inClass (top 63) 10
noncomputable abbrev p7:Stmt:=top 87
noncomputable abbrev xZ:Stmt:=top 28
noncomputable abbrev Af:Stmt:=top 39
noncomputable abbrev p8:Stmt:=top 38
noncomputable abbrev hG:Stmt:=top 40
noncomputable abbrev Lr:Stmt:=top 29
noncomputable abbrev m7:Stmt:=top 41
noncomputable abbrev lK:Stmt:=top 42
noncomputable abbrev kc:Stmt:=top 43
noncomputable abbrev ke:Stmt:=top 44
noncomputable abbrev rJ:Stmt:=top 45
noncomputable abbrev Ag:Stmt:=top 46
noncomputable abbrev DI:Stmt:=top 47
noncomputable abbrev uP:Stmt:=inClass (top 63) 11
noncomputable abbrev m8:Stmt:=top 88
noncomputable abbrev uQ:Stmt:=top 90
noncomputable abbrev oJ:Stmt:=inClass (top 91) 1
noncomputable abbrev uR:Stmt:=top 96
noncomputable abbrev x3:Stmt:=top 106
noncomputable abbrev uS:Stmt:=inClass (top 63) 3
noncomputable abbrev uT:Stmt:=top 97
noncomputable abbrev DJ:Stmt:=top 99
noncomputable abbrev Ah:Stmt:=top 100
noncomputable abbrev Hw:Stmt:=top 101
noncomputable abbrev DK:Stmt:=top 102
noncomputable abbrev uU:Stmt:=top 98
noncomputable abbrev Ai:Stmt:=top 103
noncomputable abbrev DM:Stmt:=top 104
noncomputable abbrev DN:Stmt:=top 105
noncomputable abbrev oK:Stmt:=top 107
noncomputable abbrev uV:Stmt:=top 110
noncomputable abbrev uW:Stmt:=top 93
noncomputable abbrev Aj:Stmt:=top 94
noncomputable abbrev uX:Stmt:=top 95
noncomputable abbrev x4:Stmt:=top 108
noncomputable abbrev uY:Stmt:=inClass (top 63) 6
noncomputable abbrev uZ:Stmt:=top 109
noncomputable abbrev Oo:Stmt:=top 111
theorem ue:aw ["self"] ["self"] (aj mX):=by k_go
theorem uf:aw ["self"] ["self"] (aj mY):=by k_go
theorem BZ:aw ["word","most"] ["word","most"] (aj uK):=by k_go
theorem Nj:aw ["word","form"] ["word","form"] (aj Lp):=by k_go
theorem p9:aw ["words","forms"] ["words"] (aj rC):=by k_go
theorem qG:aw ["word","kind","tone"] ["word"] (aj Ab):=by k_go
theorem rK:aw ["word","sign"] ["word"] (aj uL):=by k_go
theorem DO:aw ["word","form"] ["word","form"] (aj xW):=by k_go
theorem Fz:aw ["name"] ["name"] (aj Ac):=by k_go
theorem zr:aw ["self"] ["self"] (aj rD):=by k_go
theorem d5:aw ["self","name"] ["self","name"] (aj j8):=by k_go
theorem FA:aw ["self"] ["self"] (aj Ad):=by k_go
theorem wk:aw ["self","deed"] ["self","deed"] (aj oH):=by k_go
theorem ug:aw ["self","things","at","before","after"] ["self","things","at","before","after"] (aj mZ):=by k_go
theorem x5:aw ["self","voice"] ["self","voice"] (aj p5):=by k_go
theorem rL:aw ["self","name","terms"] ["self","name","terms"] (aj lI):=by k_go
theorem kf:aw ["self","name"] ["self","name"] (aj lJ):=by k_go
theorem qa:aw ["book","values"] ["book","values"] (aj rE):=by k_go
theorem eQ:aw ["self","name","voice"] ["self","name"] (aj iZ):=by k_go
theorem dA:aw ["self","name","voice"] ["self","name"] (aj jz):=by k_go
theorem rM:aw ["self","name","leader","later","slow","is_turned"] ["self","name","leader","later","slow","is_turned"] (aj dH):=by k_go
theorem cf:aw ["book","values","name","leader","later","slow","is_turned"] ["book","values"] (aj m6):=by k_go
theorem gG:aw ["at","last"] ["at","last"] (aj g6):=by k_go
theorem Ca:aw ["sign","kind","tone"] ["sign"] (aj Lq):=by k_go
theorem jA:aw ["sign"] ["sign"] (aj j9):=by k_go
theorem Ls:aw ["sign"] ["sign"] (aj Hv):=by k_go
theorem mD:aw ["line","at","met","place"] ["line","at"] (aj Ae):=by k_go
theorem vb:aw ["line","first","kinds","place"] ["line","first","kinds"] (aj xX):=by k_go
theorem wm:aw ["sign"] ["sign"] (aj oI):=by k_go
theorem Ak:aw ["line","at","behind","changed","kinds"] ["line","at","behind","changed"] (aj DF):=by k_go
theorem gf:aw ["self","name","at","sign","signs"] ["self","name","at","sign"] (aj xY):=by k_go
theorem dw:aw ["book","values","name","at","sign","low","high"] ["book","values"] (aj rF):=by k_go
theorem Cb:aw ["self"] ["self"] (aj uM):=by k_go
theorem mF:aw ["self","deed"] ["self"] (aj uN):=by k_go
theorem oM:aw ["book","values"] ["book","values"] (aj p6):=by k_go
theorem Jb:aw ["sign"] ["sign"] (aj DG):=by k_go
theorem iA:aw ["sign","kind","tone"] ["sign"] (aj rG):=by k_go
theorem qb:aw ["self","name"] ["self","name"] (aj rH):=by k_go
theorem Jc:aw ["line"] ["line"] (aj DH):=by k_go
theorem aY:aw ["self","name","terms","leader","later","slow","is_turned","heard"] ["self","name"] (aj uO):=by k_go
theorem oN:aw ["book","values"] ["book","values"] (aj p7):=by k_go
theorem iJ:aw ["line","begin","found","measure","sign"] ["line","begin"] (aj xZ):=by k_go
theorem FC:aw ["line","at"] ["line","at"] (aj Af):=by k_go
theorem x6:aw ["kind","measure"] ["kind","measure"] (aj p8):=by k_go
theorem cL:aw ["line","begin","found","at","measure"] ["line","begin"] (aj hG):=by k_go
theorem mG:aw ["line","begin","found","first","at","sign","measure"] ["line","begin"] (aj Lr):=by k_go
theorem uh:aw ["line","found","first"] ["line","found","first"] (aj m7):=by k_go
theorem rN:aw ["line","behind"] ["line","behind"] (aj lK):=by k_go
theorem qH:aw ["line","found","first","behind"] ["line","found","first","behind"] (aj kc):=by k_go
theorem qI:aw ["line","found","first","behind"] ["line","found","first","behind"] (aj ke):=by k_go
theorem qc:aw ["line","found","first","behind","rest"] ["line","found","first","behind"] (aj rJ):=by k_go
theorem jB:aw ["line","begin","found","loose_runs","first","behind"] ["line","begin"] (aj Ag):=by k_go
theorem Jd:aw ["line","begin"] ["line","begin"] (aj DI):=by k_go
theorem cq:aw ["self","name","terms","leader","later","slow","is_turned","begin"] ["self","name"] (aj uP):=by k_go
theorem lM:aw ["book","values"] ["book","values"] (aj m8):=by k_go
theorem mH:aw ["book","words","answer"] ["book","words"] (aj uQ):=by k_go
theorem rO:aw ["self","command","words"] ["self","command"] (aj oJ):=by k_go
theorem rP:aw ["_law_number","_law_kind"] ["_law_number"] (aj uR):=by k_go
theorem dj:aw ["_law_line","_law_deed","_law_at","_law_behind","_law_from_on","_law_wide","_law_bars","_law_stops"] ["_law_line","_law_deed","_law_at"] (aj x3):=by k_go
theorem jb:aw ["self","name","dropped"] ["self","name"] (aj uS):=by k_go
theorem gH:aw ["_law_voices","_law_name","_law_thing","_law_told","_law_sign","_law_kind"] ["_law_voices","_law_name"] (aj uT):=by k_go
theorem ji:aw ["_law_line","_law_begin","_law_told","_law_now","_law_at","_law_kind"] ["_law_line","_law_begin"] (aj DJ):=by k_go
theorem jC:aw ["_law_line","_law_begin","_law_told","_law_now","_law_sign"] ["_law_line","_law_begin"] (aj Ah):=by k_go
theorem lN:aw ["_law_line","_law_told","_law_low","_law_high","_law_rest","_law_behind","_law_after","_law_left","_law_right"] ["_law_line","_law_told","_law_low","_law_high"] (aj Hw):=by k_go
theorem gh:aw ["_law_line","_law_begin","_law_told","_law_three_here","_law_left","_law_low","_law_high"] ["_law_line","_law_begin"] (aj DK):=by k_go
theorem mI:aw ["_law_voices","_law_name","_law_thing","_law_line"] ["_law_voices","_law_name"] (aj uU):=by k_go
theorem FD:aw ["_law_found"] ["_law_found"] (aj Ai):=by k_go
theorem Al:aw ["_law_found","_law_due","_law_k"] ["_law_found","_law_due"] (aj DM):=by k_go
theorem Je:aw ["_law_sign"] ["_law_sign"] (aj DN):=by k_go
theorem fL:aw ["_law_desk","_law_voices","_law_name","_law_line","_law_kept"] ["_law_desk","_law_voices"] (aj oK):=by k_go
theorem rQ:aw ["_law_desk","_law_voices","_law_flipped","_law_other"] ["_law_desk","_law_voices","_law_flipped"] (aj uV):=by k_go
theorem Cc:aw ["_law_script","_law_k"] ["_law_script","_law_k"] (aj uW):=by k_go
theorem qJ:aw ["_law_seed","_law_k","_law_one","_law_two"] ["_law_seed","_law_k"] (aj Aj):=by k_go
theorem gI:aw ["_law_script","_law_at","_law_many","_law_seed","_law_left","_law_row"] ["_law_script","_law_at","_law_many"] (aj uX):=by k_go
theorem vc:aw ["_law_desk","_law_name","_law_at","_law_sign","_law_by_hand","_law_found"] ["_law_desk","_law_name","_law_at","_law_sign","_law_by_hand"] (aj x4):=by k_go
theorem eY:aw ["self","name","at","sign","signs","before"] ["self","name","at","sign"] (aj uY):=by k_go
theorem gJ:aw ["_law_desk","_law_voices","_law_name","_law_at","_law_kind","_law_tone","_law_other"] ["_law_desk","_law_voices","_law_name","_law_at"] (aj uZ):=by k_go
theorem d6:aw ["_law_script","_law_names","_law_desk","_law_name","_law_flipped","_law_voices","_law_stands","_law_k","_law_number","_law_line","_law_at","_law_sign","_law_low","_law_high"] ["_law_script"] (aj Oo):=by k_go
theorem x8:(["figure","word","most"]:List Str).Nodup:=by lk
theorem m9:(["word","form","words","forms"]:List Str).Nodup:=by lk
theorem Cd:(["letter","name"]:List Str).Nodup:=by lk
theorem wo:(["voice","self"]:List Str).Nodup:=by lk
theorem DP:(["sign","line","at","behind","changed","kinds"]:List Str).Nodup:=by lk
theorem vd:(["kind","tone","line"]:List Str).Nodup:=by lk
theorem ui:(["sign","book","values"]:List Str).Nodup:=by lk
theorem x9:(["worth","self","name","terms","leader","later","slow","is_turned","begin"]:List Str).Nodup:=by lk
theorem qK:(["worth","book","values"]:List Str).Nodup:=by lk
theorem oO:(["word","form","book","words","answer"]:List Str).Nodup:=by lk
theorem oP:(["_law_k","_law_line","_law_deed","_law_at","_law_behind","_law_from_on","_law_wide","_law_bars","_law_stops"]:List Str).Nodup:=by lk
theorem wq:(["voice","self","name","dropped"]:List Str).Nodup:=by lk
theorem wt:(["_law_worth","_law_voices","_law_name","_law_thing","_law_line"]:List Str).Nodup:=by lk
theorem qL:(["_law_sign","_law_desk","_law_voices","_law_name","_law_line","_law_kept"]:List Str).Nodup:=by lk
theorem qM:(["_law_worth","_law_desk","_law_voices","_law_name","_law_line","_law_kept"]:List Str).Nodup:=by lk
theorem wu:(["_law_k","_law_script","_law_at","_law_many","_law_seed","_law_left","_law_row"]:List Str).Nodup:=by lk
theorem Jf:(["_law_name","_law_script","_law_names","_law_desk","","_law_flipped","_law_voices","_law_stands","_law_k","_law_number","_law_line","_law_at","_law_sign","_law_low","_law_high"]:List Str).Nodup:=by lk
set_option genInjectivity false in
set_option genSizeOf false in
structure Ml where
 nc:Addr
 ng:FuncData
 nh:Addr
 nj:FuncData
 ve:Addr
 vf:FuncData
 Lu:Addr
 Lv:FuncData
 rR:Addr
 rS:FuncData
 Am:Addr
 An:FuncData
 vg:Addr
 vh:FuncData
 ya:Addr
 yb:FuncData
 Ao:Addr
 Ap:FuncData
 rT:Addr
 rV:FuncData
 kg:Addr
 kh:FuncData
 Aq:Addr
 As:FuncData
 oQ:Addr
 oR:FuncData
 nk:Addr
 nq:FuncData
 qd:Addr
 qe:FuncData
 lO:Addr
 lP:FuncData
 lQ:Addr
 lR:FuncData
 mJ:Addr
 rW:FuncData
 i0:Addr
 i4:FuncData
 jD:Addr
 jE:FuncData
 dJ:Addr
 ib:FuncData
 rX:Addr
 qN:Tok
 qO:Tok
 iQ:Addr
 nr:FuncData
 hI:Addr
 hV:FuncData
 Lw:Addr
 Lx:FuncData
 ki:Addr
 kj:FuncData
 Hy:Addr
 Hz:FuncData
 Au:Addr
 Av:FuncData
 yc:Addr
 yd:FuncData
 oS:Addr
 oT:FuncData
 DQ:Addr
 DR:FuncData
 ye:Addr
 yf:FuncData
 mK:Addr
 rY:FuncData
 vi:Addr
 vj:FuncData
 vk:Addr
 vm:FuncData
 kQ:Addr
 qf:FuncData
 DS:Addr
 DT:FuncData
 rZ:Addr
 r6:FuncData
 r9:Addr
 sd:FuncData
 DV:Addr
 DW:FuncData
 oU:Addr
 oV:FuncData
 kR:Addr
 qg:FuncData
 yg:Addr
 qP:FuncData
 DX:Addr
 Ce:Tok
 Aw:Addr
 Ax:FuncData
 qh:Addr
 qi:FuncData
 hX:Addr
 hZ:FuncData
 Ly:Addr
 FE:FuncData
 Nk:Addr
 Lz:Tok
 nt:Addr
 nu:FuncData
 lS:Addr
 lT:FuncData
 km:Addr
 kn:FuncData
 ko:Addr
 kq:FuncData
 se:Addr
 sf:FuncData
 Ay:Addr
 Az:FuncData
 DY:Addr
 yh:FuncData
 Jg:Addr
 FF:Tok
 vo:Addr
 vq:FuncData
 iR:Addr
 nC:FuncData
 vt:Addr
 vv:FuncData
 oW:Addr
 vy:FuncData
 vz:Addr
 vA:FuncData
 yi:Addr
 yj:FuncData
 vB:Addr
 vC:FuncData
 vD:Addr
 vE:FuncData
 DZ:Addr
 D3:FuncData
 AA:Addr
 AB:FuncData
 HG:Addr
 HH:FuncData
 D4:Addr
 D5:FuncData
 vF:Addr
 vG:FuncData
 AD:Addr
 AE:FuncData
 D6:Addr
 D7:FuncData
 D8:Addr
 D9:FuncData
 oX:Addr
 oY:FuncData
 vH:Addr
 vI:FuncData
 vJ:Addr
 vK:FuncData
 AF:Addr
 AG:FuncData
 vL:Addr
 vM:FuncData
 yk:Addr
 ym:FuncData
 vN:Addr
 vO:FuncData
 vP:Addr
 vQ:FuncData
 LB:Addr
 LC:FuncData
 iB:Addr
 kS:Addr
 iS:Addr
 fM:Addr
 dM:Addr
 gK:Addr
 yn:Tok
 jF:Addr
 jG:Addr
 eZ:Addr
 Cf:Tok
 si:Tok
 wx:Tok
 yo:Tok
 Jh:Tok
 yp:Tok
 zu:Tok
 Cg:Tok
 LF:Tok
 Ji:Tok
 uj:Addr
 Ci:Addr
 oZ:Tok
 pP:Tok
 pM:Addr
 AH:Addr
 AI:Addr
 AJ:Addr
 AK:Addr
 AL:Addr
 AM:Addr
 AN:Addr
 AO:Addr
 AQ:Addr
 AR:Addr
 pN:Addr
 Ea:Addr
 Eb:Addr
 Ec:Addr
 Ed:Addr
 kr:Addr
 cg:Addr
 cF:Addr
 ic:Addr
 uk:Addr
 lU:Addr
 iK:Addr
 yq:Addr
 lV:Addr
 jH:Addr
 lW:Addr
 lX:Addr
 um:Addr
 cS:Addr
 o6:Addr
structure cj (K:Frag)(mg:Str->Option Value)(x:Str)(st:Stmt)(ps:List Str)(f:Addr)(fd:FuncData):Prop extends MD K x x st f fd where
 g:mg x=some (.ref f)
 b:Binds K fd ps []
noncomputable abbrev nQ {K:Frag}{x q:Str}{st:Stmt}{f:Addr}{fd:FuncData}{N ps:List Str}(_:MD K x q st f fd)(_:aw N ps (aj st))(CX:Gw)(P:Program)(w:World)(mg:Str->Option Value)(base:Heap)(cdv:Value)(A:Around)(outer:List Env)(s:Shared)(H:Hp)(E:XK):Cx:=kM CX P w K mg base N q (aj st) f cdv A outer s H E
theorem eR {j k:Nat}{A:Around}(r:ee k A)(h:j<=k:=by decide):ee j A:=r.mono h
theorem eC {X:Cx}{k m:Nat}{f:Addr}{fd:FuncData}{ps:List Str}{sp:Sp}{x:Str}{st:Stmt}{p pos:Pos}{e:Expr}{es:List Expr}{t:TA}(F:cj X.K X.mg x st ps f fd)(G:aS X.prog X.w X.K X.mg X.base fk k f fd ps sp)(hr:ee m X.A)(ha:PA X (e::es) t)(hk:k<=m:=by decide)(hg:Gl X x:=by rfl)(hdb:(x==("__debug__":Str))=false:=by decide)(he:starEach (e::es) X.env=(false,eval e X.env)::starEach es X.env:=by rfl)(hpl:(backTo pos (starEach es X.env)).any (·.1)=false:=by rfl):PE X (.Call (.Name x p) (e::es) [] pos) (NW sp [] E0 t):=mn G (hr.mono hk) hg F.g F.kp F.b .nil cC ha hdb he hpl
theorem i5 {X:Cx}{x:Str}{pos:Pos}(i:Nat)(hN:X.N.Nodup)(hi:X.N[i]? = some x:=by rfl)(hx:Loc X.env.scope x:=by exact Or.inl rfl)(hf:X.fn x=true\/X.env.scope.names.lookup x=some .local:=by first|exact .inl rfl|exact .inr rfl):PG X (.Name x pos) (xf i):=bQ hN hi hx hf
theorem ed {X:Cx}{x:Str}{e:Expr}{te:TE}{pos pos':Pos}(i:Nat)(hN:X.N.Nodup)(he:PE X e te)(hs:swapsWith e (some (.Name x pos')) pos.line X.env=pure false:=by rfl)(hi:X.N[i]? = some x:=by rfl)(hx:Loc X.env.scope x:=by exact Or.inl rfl)(hf:X.fn x=true\/X.env.scope.names.lookup x=some .local:=by first|exact .inl rfl|exact .inr rfl):PS X (.Assign [.Name x pos'] e pos) (Mr te (xf i)):=qv hN hi hx he hs hf
theorem eD {X:Cx}{a:Expr}{ta:TE}{j:Int}{k:Nat}{p pos:Pos}(ha:PE X a ta):PE X (.Subscript a (.Constant (.int j) k p) pos) (Q9 (VU X.K) ta (tC (.int j))):=bp a7 ha ak (fun _ _=>rfl)
structure nN (K:Frag)(C:Addr)(m q:Str)(st:Stmt)(ps:List Str)(f:Addr)(fd:FuncData):Prop extends MD K m q st f fd where
 me:Meth K C m f
 b:Binds K fd ps []
structure LG (K:Frag)(C:Addr)(m q:Str)(st:Stmt)(ps:List Str)(f:Addr)(fd:FuncData):Prop extends MD K m q st f fd where
 Oq:Mk K C f
 b:Binds K fd ps []
structure HI (K:Frag)(mg:Str->Option Value)(x:Str)(st:Stmt)(df:Addr)(its:Array Value)(f:Addr)(fd:FuncData):Prop extends Bt K x x st f fd (.ref df) where
 g:mg x=some (.ref f)
 dl:∃ c o n s,K.lookup df=some ⟨c,o,.seq its n,s⟩
structure Ot (K:Frag)(C:Addr)(m q:Str)(st:Stmt)(df:Addr)(its:Array Value)(f:Addr)(fd:FuncData):Prop extends Bt K m q st f fd (.ref df) where
 me:Meth K C m f
 dl:∃ c o n s,K.lookup df=some ⟨c,o,.seq its n,s⟩
theorem Jj {us:List Value}{n:Nat}(h:us.length=n+1):∃ a t,us=a::t/\t.length=n:=by
 cases us with
 |nil=>exact absurd h (Nat.succ_ne_zero n).symm
 |cons a t=>exact⟨a,t,rfl,Nat.succ.inj h⟩
theorem HJ {us:List Value}(h:us.length=0):us=[]:=List.eq_nil_of_length_eq_zero h
theorem HK {us:List Value}(h:us.length=1):∃ a0,us=[a0]:=by
 obtain⟨a0,t,rfl,h2⟩:=Jj h;obtain rfl:=HJ h2;exact⟨a0,rfl⟩
theorem Ee {us:List Value}(h:us.length=2):∃ a0 a1,us=[a0,a1]:=by
 obtain⟨a0,t,rfl,h2⟩:=Jj h;obtain⟨a1,rfl⟩:=HK h2;exact⟨a0,a1,rfl⟩
theorem HL {us:List Value}(h:us.length=3):∃ a0 a1 a2,us=[a0,a1,a2]:=by
 obtain⟨a0,t,rfl,h2⟩:=Jj h;obtain⟨a1,a2,rfl⟩:=Ee h2;exact⟨a0,a1,a2,rfl⟩
theorem HM {us:List Value}(h:us.length=4):∃ a0 a1 a2 a3,us=[a0,a1,a2,a3]:=by
 obtain⟨a0,t,rfl,h2⟩:=Jj h;obtain⟨a1,a2,a3,rfl⟩:=HL h2;exact⟨a0,a1,a2,a3,rfl⟩
theorem HN {us:List Value}(h:us.length=5):∃ a0 a1 a2 a3 a4,us=[a0,a1,a2,a3,a4]:=by
 obtain⟨a0,t,rfl,h2⟩:=Jj h;obtain⟨a1,a2,a3,a4,rfl⟩:=HM h2;exact⟨a0,a1,a2,a3,a4,rfl⟩
theorem HP {us:List Value}(h:us.length=6):∃ a0 a1 a2 a3 a4 a5,us=[a0,a1,a2,a3,a4,a5]:=by
 obtain⟨a0,t,rfl,h2⟩:=Jj h;obtain⟨a1,a2,a3,a4,a5,rfl⟩:=HN h2;exact⟨a0,a1,a2,a3,a4,a5,rfl⟩
theorem LH {us:List Value}(h:(us++[]).length=2):∃ a0 a1,us=[a0,a1]:=Ee (by rw[append_nil]at h;exact h)
theorem Sa {us:List Value}(h:(us++[]).length=6):∃ a0 a1 a2 a3 a4 a5,us=[a0,a1,a2,a3,a4,a5]:=HP (by rw[append_nil]at h;exact h)
section
variable {K:Frag} {h:Heap} {mg:Str->Option Value} {x m q:Str} {st:Stmt} {ps:List Str} {f C T:Addr} {oc:Value} {od an:Option Addr} {osl:Array (Option Value)} {kV doc pm cdv ct:Value}
theorem gE (X:K.In h)(G:h.Ns mainGlobals mg)(a:nsIn K mainGlobals x=some (some (.ref f)))(l:K.lookup f=some ⟨oc,od,.func (fnOf x x (cA st) (bP st) (aj st) .none kV doc pm an cdv ct),osl⟩)(c:codeIn K cdv x=true)(k:keepIn K (.ref f)=true)(hb:∀ us:List Value,us.length=ps.length->bindArgs (fnOf x x (cA st) (bP st) (aj st) .none kV doc pm an cdv ct) ⟨us,[]⟩=pure (ps.zip us)):cj K mg x st ps f (fnOf x x (cA st) (bP st) (aj st) .none kV doc pm an cdv ct):=⟨E9 l c k,mg_of X G a,.all hb⟩
theorem Yk {dc:Value}{U8:Option Addr}{dn:Nat}{ds:Array (Option Value)}{its:Array Value}(X:K.In h)(G:h.Ns mainGlobals mg)(a:nsIn K mainGlobals x=some (some (.ref f)))(l:K.lookup f=some ⟨oc,od,.func (fnOf x x (cA st) (bP st) (aj st) (.ref T) kV doc pm an cdv ct),osl⟩)(c:codeIn K cdv x=true)(k:keepIn K (.ref f)=true)(dl:K.lookup T=some ⟨dc,U8,.seq its dn,ds⟩):HI K mg x st T its f (fnOf x x (cA st) (bP st) (aj st) (.ref T) kV doc pm an cdv ct):=⟨GO l c k,mg_of X G a,_,_,_,_,dl⟩
theorem mE (a:findIn K (.ref C) m=some (some (.ref f)))(fn:isFn K (.ref f)=true)(l:K.lookup f=some ⟨oc,od,.func (fnOf m q (cA st) (bP st) (aj st) .none kV doc pm an cdv ct),osl⟩)(c:codeIn K cdv q=true)(k:keepIn K (.ref f)=true)(hb:∀ us:List Value,us.length=ps.length->bindArgs (fnOf m q (cA st) (bP st) (aj st) .none kV doc pm an cdv ct) ⟨us,[]⟩=pure (ps.zip us)):nN K C m q st ps f (fnOf m q (cA st) (bP st) (aj st) .none kV doc pm an cdv ct):=⟨E9 l c k,⟨a,fn,k⟩,.all hb⟩
theorem Yl {dc:Value}{U8:Option Addr}{dn:Nat}{ds:Array (Option Value)}{its:Array Value}(a:findIn K (.ref C) m=some (some (.ref f)))(fn:isFn K (.ref f)=true)(l:K.lookup f=some ⟨oc,od,.func (fnOf m q (cA st) (bP st) (aj st) (.ref T) kV doc pm an cdv ct),osl⟩)(c:codeIn K cdv q=true)(k:keepIn K (.ref f)=true)(dl:K.lookup T=some ⟨dc,U8,.seq its dn,ds⟩):Ot K C m q st T its f (fnOf m q (cA st) (bP st) (aj st) (.ref T) kV doc pm an cdv ct):=⟨GO l c k,⟨a,fn,k⟩,_,_,_,_,dl⟩
theorem iE (mm:makesIn K C=true)(mk:keepIn K (.ref C)=true)(a:findIn K (.ref C) "__init__"=some (some (.ref f)))(fn:isFn K (.ref f)=true)(l:K.lookup f=some ⟨oc,od,.func (fnOf "__init__" q (cA st) (bP st) (aj st) .none kV doc pm an cdv ct),osl⟩)(c:codeIn K cdv q=true)(k:keepIn K (.ref f)=true)(hb:∀ us:List Value,us.length=ps.length->bindArgs (fnOf "__init__" q (cA st) (bP st) (aj st) .none kV doc pm an cdv ct) ⟨us,[]⟩=pure (ps.zip us)):LG K C "__init__" q st ps f (fnOf "__init__" q (cA st) (bP st) (aj st) .none kV doc pm an cdv ct):=⟨E9 l c k,⟨mm,a,fn,mk⟩,.all hb⟩
end
structure Txt (K:Frag)(w:World)(mg:Str->Option Value)(t:Ml):Prop where
 Ef:mg "Voice"=some (.ref t.kr)
 wW:mg "Deed"=some (.ref t.cg)
 Nl:mg "Book"=some (.ref t.cF)
 Nm:mg "Desk"=some (.ref t.ic)
 FG:mg "BadWord"=some (.ref t.uk)
 yr:mg "BadName"=some (.ref t.lU)
 sj:mg "NameTaken"=some (.ref t.iK)
 Cj:mg "Full"=some (.ref t.yq)
 yt:mg "NoVoice"=some (.ref t.lV)
 vR:mg "NotPlain"=some (.ref t.jH)
 yu:mg "BadTerm"=some (.ref t.lW)
 yv:mg "NoPlace"=some (.ref t.lX)
 yw:mg "BadSign"=some (.ref t.um)
 AS:mg "NoMore"=some (.ref t.cS)
 AU:mg "Leaned"=some (.ref t.o6)
 qj:mg "GREAT_KINDS"=some (.ref t.iB)
 zw:mg "SMALL_KINDS"=some (.ref t.kS)
 wz:mg "PARTING_KINDS"=some (.ref t.iS)
 nE:mg "MEASURE_KINDS"=some (.ref t.fM)
 ie:mg "SOUNDING_KINDS"=some (.ref t.dM)
 o7:mg "SILENT_KINDS"=some (.ref t.gK)
 yx:mg "HIGHEST_TONE"=some (.int 99 t.yn)
 yy:mg "TURNED_KINDS"=some (.ref t.jF)
 yz:mg "PLAIN_WORTHS"=some (.ref t.jG)
 l4:mg "TWOFOLD_WORTHS"=some (.ref t.eZ)
 Ck:mg "FULL_WORTH"=some (.int 3 t.Cf)
 eK:mg "SHORTENED_WORTH"=some (.int 2 t.si)
 wA:mg "DOUBLED_WORTH"=some (.int 2 t.wx)
 yA:mg "DOTTED_WORTH"=some (.int 3 t.yo)
 Jk:mg "LETTERS"=some (.str "abcdefghijklmnopqrstuvwxyz" t.Jh)
 yB:mg "LONGEST_NAME"=some (.int 8 t.yp)
 zx:mg "MOST_VOICES"=some (.int 12 t.zu)
 Cn:mg "MOST_SIGNS"=some (.int 200 t.Cg)
 LI:mg "LATEST"=some (.int 999 t.LF)
 Jl:mg "SLOWEST"=some (.int 9 t.Ji)
 Jm:mg "FIGURES"=some (.ref t.uj)
 LJ:mg "WAYS"=some (.ref t.Ci)
 o8:mg "MOST_FIGURES_texts"=some (.int 2 t.oZ)
 i6:mg "MOST_FIGURES_desk"=some (.int 4 t.pP)
 Co:mg "FORMS"=some (.ref t.pM)
 Jn:mg "ANSWERS"=some (.ref t.pN)
 LK:mg "all"=none
 FH:mg "any"=none
 Nn:mg "bool"=none
 wX:mg "dict"=none
 mL:mg "enumerate"=none
 uo:mg "int"=none
 fH:mg "isinstance"=none
 bu:mg "len"=none
 mM:mg "list"=none
 PQ:mg "max"=none
 PR:mg "min"=none
 gM:mg "range"=none
 FI:mg "str"=none
 FJ:mg "zip"=none
 ku:cj K mg "number_of" uK ["word","most"] t.ve t.vf
 LL:cj K mg "fits" Lp ["word","form"] t.Lu t.Lv
 sq:cj K mg "is_command" rC ["words"] t.rR t.rS
 AV:cj K mg "sign_of" Ab ["word"] t.Am t.An
 vS:cj K mg "read_sign" uL ["word"] t.vg t.vh
 yC:cj K mg "value_of" xW ["word","form"] t.ya t.yb
 AW:cj K mg "is_name" Ac ["name"] t.Ao t.Ap
 jc:cj K mg "answer_add" rE ["book","values"] t.mJ t.rW
 fN:cj K mg "answer_follow" m6 ["book","values"] t.iQ t.nr
 ba:cj K mg "refuse_other_places" g6 ["at","last"] t.hI t.hV
 FK:cj K mg "good" Lq ["sign"] t.Lw t.Lx
 bI:cj K mg "refuse_bad_sign" j9 ["sign"] t.ki t.kj
 Cp:cj K mg "small" Hv ["sign"] t.Hy t.Hz
 AX:cj K mg "low_end" Ae ["line","at"] t.Au t.Av
 yD:cj K mg "high_end" xX ["line","first","kinds"] t.yc t.yd
 jI:cj K mg "sets_measure" oI ["sign"] t.oS t.oT
 yE:cj K mg "window" DF ["line","at","behind","changed"] t.DQ t.DR
 jd:cj K mg "answer_put" rF ["book","values"] t.mK t.rY
 iC:cj K mg "answer_undo" p6 ["book","values"] t.kQ t.qf
 Eg:cj K mg "sounds" DG ["sign"] t.DS t.DT
 gO:cj K mg "shown_sign" rG ["sign"] t.rZ t.r6
 yF:cj K mg "turned" DH ["line"] t.DV t.DW
 iD:cj K mg "answer_line" p7 ["book","values"] t.kR t.qg
 e8:cj K mg "kind_at" Af ["line","at"] t.Aw t.Ax
 qk:cj K mg "plain_worth" p8 ["kind","measure"] t.qh t.qi
 h7:cj K mg "worths_without_runs" hG ["line","begin"] t.hX t.hZ
 iT:cj K mg "has_left_note" m7 ["line","found","first"] t.nt t.nu
 ig:cj K mg "has_right_note" lK ["line","behind"] t.lS t.lT
 kx:cj K mg "settle_one_over" kc ["line","found","first","behind"] t.km t.kn
 ky:cj K mg "settle_two_over" ke ["line","found","first","behind"] t.ko t.kq
 sr:cj K mg "settle_run" rJ ["line","found","first","behind"] t.se t.sf
 AY:cj K mg "reading" Ag ["line","begin"] t.Ay t.Az
 fO:cj K mg "answer_worths" m8 ["book","values"] t.iR t.nC
 iL:cj K mg "answer_to" uQ ["book","words"] t.vt t.vv
 vT:cj K mg "_law_sign_by" uR ["_law_number"] t.vz t.vA
 yG:cj K mg "_law_window" x3 ["_law_line","_law_deed","_law_at"] t.yi t.yj
 o9:cj K mg "_law_line_of" uT ["_law_voices","_law_name"] t.vD t.vE
 Eh:cj K mg "_law_base" DJ ["_law_line","_law_begin"] t.DZ t.D3
 AZ:cj K mg "_law_three" Ah ["_law_line","_law_begin"] t.AA t.AB
 HQ:cj K mg "_law_run" Hw ["_law_line","_law_told","_law_low","_law_high"] t.HG t.HH
 yH:cj K mg "_law_read" DK ["_law_line","_law_begin"] t.D4 t.D5
 vU:cj K mg "_law_kept_of" uU ["_law_voices","_law_name"] t.vF t.vG
 A0:cj K mg "_law_whole" Ai ["_law_found"] t.AD t.AE
 Ei:cj K mg "_law_nums" DM ["_law_found","_law_due"] t.D6 t.D7
 yI:cj K mg "_law_word" DN ["_law_sign"] t.D8 t.D9
 dN:cj K mg "_law_desk_right" oK ["_law_desk","_law_voices"] t.oX t.oY
 vV:cj K mg "_law_renewed" uV ["_law_desk","_law_voices","_law_flipped"] t.vH t.vI
 eU:cj K mg "_law_cell_at" uW ["_law_script","_law_k"] t.vJ t.vK
 ij:cj K mg "_law_mixed" Aj ["_law_seed","_law_k"] t.AF t.AG
 vW:cj K mg "_law_numbers" uX ["_law_script","_law_at","_law_many"] t.vL t.vM
 yJ:cj K mg "_law_put_by" x4 ["_law_desk","_law_name","_law_at","_law_sign","_law_by_hand"] t.yk t.ym
 vX:cj K mg "_law_swapped" uZ ["_law_desk","_law_voices","_law_name","_law_at"] t.vP t.vQ
 LM:cj K mg "law" Oo ["_law_script"] t.LB t.LC
 fZ:HI K mg "measures" xZ t.DX #[.int 3 t.Ce] t.yg t.qP
 yK:HI K mg "runs" Lr t.Nk #[.int 3 t.Lz] t.Ly t.FE
 jJ:HI K mg "worths" DI t.Jg #[.int 3 t.FF] t.DY t.yh
 iU:LG K t.cF "__init__" "Book.__init__" mX ["self"] t.nc t.ng
 bM:LG K t.cg "__init__" "Deed.__init__" mZ ["self","things","at","before","after"] t.nk t.nq
 iV:LG K t.ic "__init__" "Desk.__init__" mY ["self"] t.nh t.nj
 dO:LG K t.kr "__init__" "Voice.__init__" lI ["self","name","terms"] t.lO t.lP
 cM:nN K t.cF "names" "Book.names" rD ["self"] t.rT t.rV
 bJ:nN K t.cF "refuse_new" "Book.refuse_new" j8 ["self","name"] t.kg t.kh
 bS:nN K t.cF "perform" "Book.perform" oH ["self","deed"] t.oQ t.oR
 fI:nN K t.cF "put_in" "Book.put_in" p5 ["self","voice"] t.qd t.qe
 e9:nN K t.cF "add_voice" "Book.add_voice" lJ ["self","name"] t.lQ t.lR
 aQ:nN K t.cF "voice_called" "Book.voice_called" iZ ["self","name"] t.i0 t.i4
 bj:nN K t.cF "plain_voice" "Book.plain_voice" jz ["self","name"] t.jD t.jE
 d7:nN K t.cF "put" "Book.put" xY ["self","name","at","sign"] t.ye t.yf
 cO:nN K t.cF "undo" "Book.undo" uN ["self"] t.vk t.vm
 dm:nN K t.cF "canon" "Book.canon" rH ["self","name"] t.r9 t.sd
 bf:nN K t.cF "line" "Book.line" uO ["self","name"] t.oU t.oV
 dY:nN K t.cF "kept" "Book.kept" uP ["self","name"] t.vo t.vq
 iN:nN K t.cF "drop" "Book.drop" uS ["self","name"] t.vB t.vC
 gi:nN K t.cF "swap" "Book.swap" uY ["self","name","at","sign"] t.vN t.vO
 uq:nN K t.cg "do" "Deed.do" Ad ["self"] t.Aq t.As
 pb:nN K t.cg "undo" "Deed.undo" uM ["self"] t.vi t.vj
 bg:nN K t.ic "told" "Desk.told" oJ ["self","command"] t.oW t.vy
 dP:Ot K t.cF "add_canon" "Book.add_canon" dH t.rX #[.int 0 t.qN,.int 1 t.qO,.bool false] t.dJ t.ib
 qm:∀ H,fc K H t.iB [.str "G",.str "D",.str "R"]
 zy:∀ H,fc K H t.kS [.str "s",.str "d",.str "r"]
 wB:∀ H,fc K H t.iS [.str ".",.str "3",.str "2"]
 nF:∀ H,fc K H t.fM [.str "3",.str "2"]
 ik:∀ H,fc K H t.dM [.str "G",.str "D",.str "s",.str "d"]
 jK:∀ H,fc K H t.gK [.str "R",.str "r",.str ".",.str "3",.str "2"]
 wC:KD K w t.jF [("3",.str "2"),("2",.str "3")]
 wD:KD K w t.jG [("G",.int 3),("D",.int 2),("R",.int 3),("s",.int 1),("d",.int 1),("r",.int 1),(".",.int 0),("3",.int 0),("2",.int 0)]
 kz:KD K w t.eZ [("G",.int 2),("R",.int 2)]
 Jo:∀ H,fc K H t.uj [.str "0",.str "1",.str "2",.str "3",.str "4",.str "5",.str "6",.str "7",.str "8",.str "9"]
 HR:KD K w t.Ci [("straight",.bl false),("turned",.bl true)]
 l6:KD K w t.pM [("add",.ref t.AH),("follow",.ref t.AI),("drop",.ref t.AJ),("put",.ref t.AK),("cut",.ref t.AL),("swap",.ref t.AM),("undo",.ref t.AN),("redo",.ref t.AO),("line",.ref t.AQ),("worths",.ref t.AR)]
 Jp:∀ H,fc K H t.AH [.str "name"]
 Jq:∀ H,fc K H t.AI [.str "name",.str "name",.str "number",.str "number",.str "way"]
 Qy:∀ H,fc K H t.AJ [.str "name"]
 Jr:∀ H,fc K H t.AK [.str "name",.str "number",.str "sign"]
 Qz:∀ H,fc K H t.AL [.str "name",.str "number"]
 QA:∀ H,fc K H t.AM [.str "name",.str "number",.str "sign"]
 Js:∀ H,fc K H t.AN []
 QB:∀ H,fc K H t.AO []
 Jt:∀ H,fc K H t.AQ [.str "name"]
 Ju:∀ H,fc K H t.AR [.str "name"]
 ip:KD K w t.pN [("add",.ref t.mJ),("follow",.ref t.iQ),("drop",.ref t.Ea),("put",.ref t.mK),("cut",.ref t.Eb),("swap",.ref t.Ec),("undo",.ref t.kQ),("redo",.ref t.Ed),("line",.ref t.kR),("worths",.ref t.iR)]
 dQ:EN K t.kr
 dB:EN K t.cg
 aJ:EN K t.cF
 cu:EN K t.ic
 kU:eO K t.kr "name"
 eV:eO K t.kr "terms"
 eW:eO K t.kr "signs"
 jL:eO K t.cg "things"
 jM:eO K t.cg "at"
 jN:eO K t.cg "before"
 kW:eO K t.cg "after"
 cw:eO K t.cF "voices"
 je:eO K t.cF "done"
 jO:eO K t.cF "undone"
 bE:eO K t.ic "book"
 FL:Mf K t.lU
 Cq:Mf K t.iK
 HS:Mf K t.yq
 FN:Mf K t.lV
 Ej:Mf K t.jH
 FO:Mf K t.lW
 FP:Mf K t.lX
 yL:Mf K t.um
 Jv:Mf K t.cS
 Jw:Mf K t.o6
 su:exmOne K (.ref t.cS) (.ref t.uk)=some false
 sx:exmOne K (.ref t.cS) (.ref t.lU)=some false
 pQ:exmOne K (.ref t.cS) (.ref t.iK)=some false
 yM:exmOne K (.ref t.cS) (.ref t.yq)=some false
 sy:exmOne K (.ref t.cS) (.ref t.lV)=some false
 qQ:exmOne K (.ref t.cS) (.ref t.jH)=some false
 sG:exmOne K (.ref t.cS) (.ref t.lX)=some false
 sH:exmOne K (.ref t.cS) (.ref t.lW)=some false
 ur:exmOne K (.ref t.cS) (.ref t.o6)=some false
 uv:exmOne K (.ref t.cS) (.ref t.cS)=some true
variable (P:Program) {w:World} {K:Frag} {mg:Str->Option Value} (base:Heap) {t:Ml}
theorem Txt.l8 {K:Frag}{w:World}{mg:Str->Option Value}{t:Ml}(T:Txt K w mg t):Binds K t.ib ["self","name","leader","later","slow","is_turned"] []:=by
 obtain⟨_,_,_,_,dl⟩:=T.dP.dl;exact T.dP.binds (ds:=[]) dl rfl fun _ _ _ _ _ _ us hl=>by obtain⟨_,_,_,_,_,_,rfl⟩:=Sa hl;exact⟨_,rfl,rfl⟩
theorem Txt.yN {K:Frag}{w:World}{mg:Str->Option Value}{t:Ml}(T:Txt K w mg t):Binds K t.qP ["line","begin"] []:=by
 obtain⟨_,_,_,_,dl⟩:=T.fZ.dl;exact T.fZ.binds (ds:=[]) dl rfl fun _ _ _ _ _ _ us hl=>by obtain⟨_,_,rfl⟩:=LH hl;exact⟨_,rfl,rfl⟩
theorem Txt.PU {K:Frag}{w:World}{mg:Str->Option Value}{t:Ml}(T:Txt K w mg t):Binds K t.FE ["line","begin"] []:=by
 obtain⟨_,_,_,_,dl⟩:=T.yK.dl;exact T.yK.binds (ds:=[]) dl rfl fun _ _ _ _ _ _ us hl=>by obtain⟨_,_,rfl⟩:=LH hl;exact⟨_,rfl,rfl⟩
theorem Txt.Ek {K:Frag}{w:World}{mg:Str->Option Value}{t:Ml}(T:Txt K w mg t):Binds K t.yh ["line","begin"] []:=by
 obtain⟨_,_,_,_,dl⟩:=T.jJ.dl;exact T.jJ.binds (ds:=[]) dl rfl fun _ _ _ _ _ _ us hl=>by obtain⟨_,_,rfl⟩:=LH hl;exact⟨_,rfl,rfl⟩
noncomputable def cs (t:Ml):Cs:=⟨t.cF,t.kr,t.cg,true,fun r=>match r with
 |.rq=>t.um
 |.BM=>t.lU
 |.uc=>t.iK
 |.Full=>t.yq
 |.gD=>t.lV
 |.ly=>t.jH
 |.rA=>t.lX
 |.BN=>t.lW
 |.Fq=>t.o6
 |.qD=>t.cS⟩
inductive sI (C:Addr)(vs:List V)(H:Hp)(Q:VK)(E:XK):Prop
 |mk (x dx:Addr) (cH:vs=[.ref x]) (cI:H x=some (.ins C dx [])) (dh:∀(L D U:Addr)(H':Hp),(∀ y o,H y=some o->y≠x->H' y=some o)->H L=none->H D=none->H U=none->L≠D->L≠U->D≠U->H' x=some (.ins C dx (tS L D U))->H' L=some (.lst [])->H' D=some (.lst [])->H' U=some (.lst [])->Q .non H'):sI C vs H Q E
theorem uw (T:Txt K w mg t):aS P w K mg base fk (0+1) t.nc t.ng ["self"] (sI t.cF):=by
 refine T.iU.ok ue ?_ ?_
 x_go
 obtain⟨x,dx,rfl,hx,q⟩:=h;refine aG (af (jk (pv 0) (bq ag) rfl) (af (jk (pv 0) (bq ag) rfl) (ah (jk (pv 0) (bq ag) rfl)))) ?_;refine⟨big (by show 0<=1000;omega),fun L hL=>?_⟩;have xL:x≠L:=ao hx hL;refine⟨_,rfl,x,_,dx,_,rfl,by rw[ai xL];exact hx,T.aJ,T.cw,by show 0<1000;decide,?_⟩;refine⟨big (by show 0<=1000;omega),fun D hD=>?_⟩;have xD:x≠D:=ao ae hD;have DL:L≠D:=ao (show upd (upd H L (.lst [])) x _ L=some (.lst []) by rw[ai (Ne.symm xL)];exact ae) hD;have Mi:H D=none:=by rw[ai (Ne.symm xD),ai (Ne.symm DL)]at hD;exact hD
 refine⟨_,rfl,x,_,dx,_,rfl,by rw[ai xD];exact ae,T.aJ,T.je,by rw[BL];show 1<1000;decide,?_⟩;refine⟨big (by show 0<=1000;omega),fun U hU=>?_⟩;have xU:x≠U:=ao ae hU;have DU:D≠U:=by
  rintro rfl;rw[ai (Ne.symm xU),ae]at hU;cases hU
 have LU:L≠U:=by
  rintro rfl;rw[ai (Ne.symm xU),ai DL,ai (Ne.symm xU),ae]at hU;cases hU
 have Hk:H U=none:=by rw[ai (Ne.symm xU),ai (Ne.symm DU),ai (Ne.symm xU),ai (Ne.symm LU)]at hU;exact hU
 refine⟨_,rfl,x,_,dx,_,rfl,by rw[ai xU];exact ae,T.aJ,T.jO,by rw[BL,Hj];show 2<1000;decide,?_⟩;rw[BL,Hj,M4];refine q L D U _ (fun y o hy ny=>?_) hL Mi Hk DL LU DU ae ?_ ?_ ?_
 ·rw[ai ny,ai (ao hy Hk),ai ny,ai (ao hy Mi),ai ny,ai (ao hy hL)];exact hy
 ·rw[ai (Ne.symm xL),ai LU,ai (Ne.symm xL),ai DL,ai (Ne.symm xL)];exact ae
 ·rw[ai (Ne.symm xD),ai DU,ai (Ne.symm xD)];exact ae
 ·rw[ai (Ne.symm xU)];exact ae
inductive sJ (C CB:Addr)(vs:List V)(H:Hp)(Q:VK)(E:XK):Prop
 |mk (d dd:Addr) (cH:vs=[.ref d]) (cI:H d=some (.ins C dd [])) (dh:∀(x dx L D U:Addr)(H':Hp),(∀ y o,H y=some o->y≠d->H' y=some o)->H x=none->H L=none->H D=none->H U=none->L≠D->L≠U->D≠U->H' d=some (.ins C dd (Mj x))->H' x=some (.ins CB dx (tS L D U))->H' L=some (.lst [])->H' D=some (.lst [])->H' U=some (.lst [])->Q .non H'):sJ C CB vs H Q E
theorem uy (T:Txt K w mg t):aS P w K mg base fk (0+3) t.nh t.nj ["self"] (sJ t.ic t.cF):=by
 have wF:=uw P base T;refine T.iV.ok uf ?_ ?_
 x_go
 obtain⟨d,dd,rfl,hd,q⟩:=h;refine aG (ah (jk (pv 0) (C4 T.iU.Oq wF (eR hr) rfl T.Nl T.iU.b .nil cC) rfl)) ?_;intro x dx nx ndx ne;refine⟨x,dx,rfl,ae,fun L D U H1 kp nL nD nU LD LU DU hx hL hD hU=>⟨rfl,?_⟩⟩;have s1:=Py nx ndx kp;have hd1:=s1 _ _ hd;have dn:∀{y o},H1 y=some o->H y=none->y≠d:=fun _ hn=>Ne.symm (ao hd hn);refine⟨_,rfl,d,_,dd,_,rfl,hd1,T.cu,T.bE,by show 0<1000;decide,?_⟩;refine q x dx L D U _ (fun y o hy ny=>by rw[ai ny];exact s1 _ _ hy) nx (oC nL) (oC nD) (oC nU) LD LU DU (by rw[ae];rfl) ?_ ?_ ?_ ?_
 ·rw[ai (dn hx nx)];exact hx
 ·rw[ai (dn hL (oC nL))];exact hL
 ·rw[ai (dn hD (oC nD))];exact hD
 ·rw[ai (dn hU (oC nU))];exact hU
inductive sL (vs:List V)(H:Hp)(Q:VK)(E:XK):Prop
 |mk (z:Str) (n m:Int) (cH:vs=[.str z,.int m]) (cI:Nh z n) (dh:(z.length:Int)<=m) (fJ:∀ H',aq H H'->Q (.int n) H'):sL vs H Q E
theorem mO (T:Txt K w mg t):aS P w K mg base fk (0+1) t.ve t.vf ["word","most"] sL:=by
 refine T.ku.ok BZ ?_ ?_
 x_go
 obtain⟨z,n,m,rfl,⟨l1,l3,hf,h0,hit⟩,hm,q⟩:=h;have big:z.length<=sizeLine:=Nat.le_trans l3 (by decide);have hlen:z.cps.toList.length=z.length:=Array.length_toList;refine aG (af (aM (dq (nZ lj lj ak (aI (aB.or aC) rfl T.bu br (aa (pv 0) ag)) (pv 1))) (ah (ar h8)) aA) (af (aM (a8 (aI xp rfl T.FH Fd (aa (dz (cn:=["figure"]) rfl (bL.of rfl) (Ks (pv 0)) (fun _=>(bQ (i:=0) x8 rfl (Or.inl rfl))) (fun _=>fh) (fun _=>(a9 (gu.or gw) (pv 0) (aX (v:=.ref t.uj) rfl T.Jm rfl) rfl))) ag))) (ah (ar h8)) aA) (af (aM (cv (PW.pt (cE (au C1 (aI (aB.or aC) rfl T.bu br (aa (pv 0) ag)) ak (aD _)) (dg (au (bo.or (aU (aE hr))) (eD (pv 0)) ax (aD _)))))) (ah (ar h8)) aA) (ah (ar (bT (lp.or fq) rfl T.uo tW (aa (pv 0) ag))))))) ?_;refine⟨_,rfl,.inr ⟨_,rfl,big,_,_,rfl,rfl,_,rfl,?_⟩⟩;refine aP (fun _=>?_) (fun h=>absurd (decide_eq_true (by omega)) h);tm_up;refine aP (fun h=>?_) (fun _=>?_)
 ·have h:(!decide (((z.length:Nat):Int)<=m))=true:=h;rw[decide_eq_true hm]at h;cases h
 refine⟨_,rfl,_,rfl,fun D b hD=>?_⟩;refine Df (fun i ys σ H'=>∃ v,σ=[v,some (.str z),some (.int m)]/\H'=upd H D (.lst ys)/\ys=((z.cps.toList.take i).map fun _=>false).map V.bl/\i<=z.cps.size) ⟨none,rfl,rfl,rfl,Nat.zero_le _⟩ ?_ ?_
 ·rintro i ys c σ H' hc ⟨v,rfl,rfl,rfl,hi⟩ N hN;have hi2:i<z.cps.size:=(Array.getElem?_eq_some_iff.mp hc).1;have hcl:z.cps.toList[i]? = some c:=by simpa using hc
  have hcf:=hf c (mem_of_getElem? hcl);refine bZ ?_;refine⟨_,rfl,.inl ⟨_,_,rfl,.inr (T.Jo _),rfl,rfl,ae,?_,?_⟩⟩
  ·rw[length_map,length_map,length_take];exact aF (by omega)
  ·refine hN _ _ _ ⟨_,rfl,bH,?_,hi2⟩;have:inV (.str ⟨#[c]⟩) Hr=true:=(Ni c).trans (decide_eq_true hcf);show(((z.cps.toList.take i).map fun _=>false).map V.bl)++[V.bl (!inV (.str ⟨#[c]⟩) Hr)]=_;rw[this,take_succ,hcl];simp
 ·rintro ys σ H' ⟨v,rfl,rfl,rfl,hi⟩;refine⟨rfl,D,_,rfl,aL.of ae,_,rfl,?_⟩;refine aP (fun h3=>?_) (fun h3=>?_)
  ·have h3:(((z.cps.toList.take z.cps.size).map fun _=>false).any id)=true:=h3;rw[List.any_map]at h3;obtain⟨c,_,hh⟩:=any_eq_true.mp h3;cases hh
  ·refine jW false ?_ ?_
   ·refine⟨_,rfl,.inr ⟨_,rfl,big,_,_,rfl,rfl,_,rfl,?_⟩⟩;refine aP (fun h=>?_) (fun h=>c7 rfl);have hgt:1<z.length:=by have:=of_decide_eq_true h;omega
    obtain⟨c0,hc0⟩:∃ c0,z.cps.toList[0]? = some c0:=⟨_,getElem?_eq_getElem (by rw[hlen];omega)⟩;refine⟨_,rfl,.inr (.inr ⟨_,_,c0,rfl,rfl,big,pE (j:=0) hc0,.inl ⟨rfl,_,rfl,c7 ?_⟩⟩)⟩;refine decide_eq_false fun e=>?_
    injection e with e
    rw[Lo]at e;have e:=(Hs c0 48).symm.trans (beq_iff_eq.mpr e);have e:=of_decide_eq_true e;exact h0 ⟨hgt,by rw[hc0,<-e]⟩
   ·exact ck ⟨_,rfl,.inr ⟨_,_,rfl,hit,by omega,q _ (aq.upd hD)⟩⟩
inductive HU (vs:List V)(H:Hp)(Q:VK)(E:XK):Prop
 |mk (a:Ar) (cH:vs=[.str a.w,.str a.f]) (cI:a.ok) (dh:∀ H',aq H H'->Q (.bl true) H'):HU vs H Q E
theorem Np (T:Txt K w mg t):aS P w K mg base fk (0+2) t.Lu t.Lv ["word","form"] HU:=by
 have iO:=mO P base T;refine T.LL.ok Nj ?_ ?_
 x_go
 obtain⟨a,rfl,ok,q⟩:=h;refine aG (af (aM (au (bo.or (aU (aE hr))) (pv 1) ax (aD _)) (ah (ar (a9 Bi (eC T.ku iO hr (aa (pv 0) (aa (aX (v:=.int 4) rfl T.i6 ⟨_,rfl⟩) ag))) h8 (aD _)))) aA) (af (aM (au (bo.or (aU (aE hr))) (pv 1) ax (aD _)) (ah (ar (a9 Dj (pv 0) (aX (v:=.ref t.Ci) rfl T.LJ rfl) rfl))) aA) (ah (ar (a9 (nX.or (jo (aE hr))) (pv 0) ax (aD _)))))) ?_;have hn:V.bl (!decide (V.str a.w=V.str ""))=.bl true:=by
  rw[decide_eq_false (fun e=>Ar.ne ok (V.str.inj e))];rfl
 cases a with
 |nb n =>
  refine⟨_,rfl,.inl ⟨rfl,_,rfl,gx ?_⟩⟩;obtain⟨f1,_⟩:=DE ok.1 ok.2;refine⟨_,rfl,_,n,4,rfl,f1,by show((iY n).length:Int)<=4;have:=f1.2.1;omega,fun H1 s1=>⟨rfl,?_⟩⟩;exact q H1 s1
 |wy tn =>
  refine⟨_,rfl,.inl ⟨rfl,_,rfl,ck ?_⟩⟩;refine⟨_,rfl,.inl ⟨rfl,_,rfl,gx ?_⟩⟩;refine⟨_,rfl,_,_,_,rfl,rfl,T.HR,?_⟩;cases tn <;> exact q H (aq.refl _)
 |nm w =>
  refine⟨_,rfl,.inl ⟨rfl,_,rfl,ck ?_⟩⟩;refine⟨_,rfl,.inl ⟨rfl,_,rfl,ck ?_⟩⟩;refine⟨_,rfl,.inl ⟨rfl,?_⟩⟩;rw[hn];exact q H (aq.refl _)
 |sg s =>
  refine⟨_,rfl,.inl ⟨rfl,_,rfl,ck ?_⟩⟩;refine⟨_,rfl,.inl ⟨rfl,_,rfl,ck ?_⟩⟩;refine⟨_,rfl,.inl ⟨rfl,?_⟩⟩;rw[hn];exact q H (aq.refl _)
theorem HV {K:Frag}{w:World}{mg:Str->Option Value}{t:Ml}(T:Txt K w mg t)(c:Cm):∃ fa kvs,KD K w t.pM kvs/\kvs.lookup c.head=some (.ref fa)/\∀ H,fc K H fa ((c.args.map Ar.f).map V.str):=by
 cases c with
 |add n=>exact⟨_,_,T.l6,by show List.lookup (Str.ofString "add") _=_;repeat (first|exact cQ|refine(az (by lk)).trans ?_),T.Jp⟩
 |follow n ld lt sl tn=>exact⟨_,_,T.l6,by show List.lookup (Str.ofString "follow") _=_;repeat (first|exact cQ|refine(az (by lk)).trans ?_),T.Jq⟩
 |put n i s=>exact⟨_,_,T.l6,by show List.lookup (Str.ofString "put") _=_;repeat (first|exact cQ|refine(az (by lk)).trans ?_),T.Jr⟩
 |undo=>exact⟨_,_,T.l6,by show List.lookup (Str.ofString "undo") _=_;repeat (first|exact cQ|refine(az (by lk)).trans ?_),T.Js⟩
 |line n=>exact⟨_,_,T.l6,by show List.lookup (Str.ofString "line") _=_;repeat (first|exact cQ|refine(az (by lk)).trans ?_),T.Jt⟩
 |jx n=>exact⟨_,_,T.l6,by show List.lookup (Str.ofString "worths") _=_;repeat (first|exact cQ|refine(az (by lk)).trans ?_),T.Ju⟩
theorem Sb (y:V)(ys:List V):n0 (y::ys) (some (1:Int)) none=ys:=by
 have:=wR (y::ys) 1 (by simp);rw[show(((1:Nat):Int))=1 from rfl]at this;rw[this];rfl
theorem Cm.len (c:Cm):c.args.length<=5:=by cases c <;> exact Nat.le_of_ble_eq_true rfl
inductive qo (K:Frag)(vs:List V)(H:Hp)(Q:VK)(E:XK):Prop
 |mk (l:Addr) (c:Cm) (cH:vs=[.ref l]) (cI:c.ok) (dh:H l=some (.lst (c.words.map V.str))) (fJ:∀ H',aq H H'->Q (.bl true) H'):qo K vs H Q E
theorem zA (T:Txt K w mg t):aS P w K mg base fk (0+3) t.rR t.rS ["words"] (qo K):=by
 have PV:=Np P base T;refine T.sq.ok p9 ?_ ?_
 x_go
 obtain⟨l,c,rfl,ok,hl,q⟩:=h;refine aG (af (aM (au Dk (eD (pv 0)) (aX (v:=.ref t.pM) rfl T.Co rfl) rfl) (ah (ar eM)) aA) (af (ed 1 p9.nd (bp zT (aX (v:=.ref t.pM) rfl T.Co rfl) (eD (pv 0)) (fun _ _=>rfl))) (af (aM (au (nX.or (jo (aE hr))) (aI (aB.or aC) rfl T.bu br (aa (pv 0) ag)) (aH (aV.or (ay.or aW)) (aI (aB.or aC) rfl T.bu br (aa (pv 1) ag)) ak) (aD _)) (ah (ar eM)) aA) (ah (ar (aI Dm rfl T.LK Kx (aa (dz (cn:=["word","form"]) rfl (bL.of rfl) (Hc rfl T.FJ (di (eG.or (gs.or gA)) (pv 0) (cX ak) eF) (pv 1)) (fun _=>(ff rfl (aK (bQ (i:=0) m9 rfl (Or.inl rfl)) (aK (bQ (i:=1) m9 rfl (Or.inl rfl)) cV)))) (fun _=>fh) (fun _=>(eC T.LL PV hr (aa (pv 0) (aa (pv 1) ag))))) ag))))))) ?_;have hl0:H l=some (.lst (V.str c.head::(c.args.map Ar.w).map V.str)):=hl;obtain⟨fa,kvs,kd,lk,hq⟩:=HV T c;have c5:=c.len;refine⟨_,rfl,EO (aL.of hl0) (n:=0) rfl rfl ?_⟩;refine⟨_,_,_,rfl,rfl,kd,?_⟩;rw[lk];refine⟨_,rfl,ck ?_⟩;refine⟨_,rfl,EO (aL.of hl0) (n:=0) rfl rfl ?_⟩;refine⟨_,_,_,_,rfl,rfl,kd,lk,?_⟩;refine⟨_,rfl,.inl ⟨_,_,rfl,.inl (aL.of hl0),?_⟩⟩;refine⟨_,rfl,.inl ⟨_,_,rfl,.inr (hq _),?_⟩⟩;refine .inl ⟨_,_,rfl,rfl,.inl ⟨rfl,_,rfl,?_⟩⟩;rw[show decide (V.int (((V.str c.head::(c.args.map Ar.w).map V.str).length:Nat):Int)=V.int ((((c.args.map Ar.f).map V.str).length:Nat)+1))=true from decide_eq_true (by simp)];refine ck ?_;tm_up;refine .inl ⟨l,_,rfl,aL.of hl0,fun k hk=>?_⟩;rw[Sb];have s1:=aq.upd (o:=.lst ((c.args.map Ar.w).map V.str)) hk;have k1:=ae (H:=H) (a:=k) (o:=.lst ((c.args.map Ar.w).map V.str));generalize upd H k (.lst ((c.args.map Ar.w).map V.str))=H1 at s1 k1;tm_up;refine⟨⟨_,aL.of k1⟩,⟨_,hq _⟩,fun D b hD=>?_⟩;have wl:((c.args.map Ar.w).map V.str).length=((c.args.map Ar.f).map V.str).length:=by simp
 refine zW (K:=K) (xs:=(c.args.map Ar.w).map V.str) (zs:=(c.args.map Ar.f).map V.str) (fun i ys σ H'=>∃(v w:Option V),σ=[v,w,some (.ref l),some (.ref fa)]/\aq H1 H'/\H' D=some (.lst ys)/\ys=(List.replicate i true).map V.bl/\i<=c.args.length)
  wl ⟨none,none,rfl,aq.upd hD,ae,rfl,Nat.zero_le _⟩ ?_ ?_ ?_
 ·rintro i ys σ H' ⟨v,w,rfl,s2,_⟩;exact⟨aL.of (s2 _ _ k1),hq _⟩
 ·rintro i ys x z τ σ H' hx hz ⟨v,w,rfl,s2,yO,rfl,hi⟩ Z7 N hN;obtain⟨a,ha,rfl,rfl⟩:∃ a,c.args[i]? = some a/\x=.str a.w/\z=.str a.f:=by
   rw[getElem?_map,getElem?_map]at hx hz;cases e:c.args[i]? with
   |none=>rw[e]at hx;cases hx
   |some a=>rw[e]at hx hz;exact⟨a,rfl,(Option.some.inj hx).symm,(Option.some.inj hz).symm⟩
  have hi2:i<c.args.length:=(List.getElem?_eq_some_iff.mp ha).1;have s3:=aq.upd (o:=.tup [V.str a.w,V.str a.f]) Z7;have t3:=ae (H:=H') (a:=τ) (o:=.tup [V.str a.w,V.str a.f]);generalize upd H' τ (.tup [V.str a.w,V.str a.f])=H3 at s3 t3;refine⟨τ,_,rfl,fc.of t3,rfl,_,_,rfl,_,_,rfl,rfl,?_⟩;refine⟨_,rfl,_,rfl,a,rfl,ok a (mem_of_getElem? ha),fun H4 s4=>?_⟩;have Ou:=s4 _ _ (s3 _ _ yO);refine⟨Ou,?_,?_⟩
  ·rw[length_map,List.length_replicate];exact aF (by omega)
  ·refine hN _ _ _ ⟨_,_,rfl,cZ ((s2.trans s3).trans s4) hD,ae,?_,hi2⟩;rw[List.replicate_succ',map_append];rfl
 ·rintro ys σ H' ⟨v,w,rfl,s2,yO,rfl,hi⟩;refine⟨rfl,D,_,rfl,aL.of yO,?_⟩;rw[show(List.replicate ((c.args.map Ar.w).map V.str).length true).all id=true by simp];exact q H' (s1.trans s2)
inductive yP (vs:List V)(H:Hp)(Q:VK)(E:XK):Prop
 |mk (s:Sg) (cH:vs=[.str (bO s)]) (cI:gb s) (dh:∀ p H',aq H H'->H' p=some (.tup [.str s.1.str,.int s.2])->Q (.ref p) H'):yP vs H Q E
theorem FQ (T:Txt K w mg t):aS P w K mg base fk (0+2) t.Am t.An ["word"] yP:=by
 have iO:=mO P base T;refine T.AV.ok qG ?_ ?_
 x_go
 obtain⟨s,rfl,hg,q⟩:=h;refine aG (af (aM (au (bA.or bx) (pv 0) (aX (v:=.ref t.gK) rfl T.o7 rfl) rfl) (ah (ar (dr (aa (pv 0) (aa ak ag))))) aA) (af (ed 1 qG.nd (di (eG.or (gs.or gA)) (pv 0) eF (cX ak))) (af (ed 2 qG.nd (eC T.ku iO hr (aa (di (eG.or (gs.or gA)) (pv 0) (cX ak) eF) (aa (aX (v:=.int 2) rfl T.o8 ⟨_,rfl⟩) ag)))) (af (aM (cv (PW.pt (qW (au (gu.or gw) (pv 1) (aX (v:=.ref t.dM) rfl T.ie rfl) rfl) (mf (au xi (pv 2) h8 (aD _)))))) (ah (ar h8)) aA) (ah (ar (dr (aa (pv 1) (aa (pv 2) ag))))))))) ?_;cases e:s.1.cK with
 |false =>
  have ew:bO s=s.1.str:=by unfold bO;rw[e];rfl
  have e0:s.2=0:=hg.2 e;rw[ew];refine⟨_,rfl,.inl ⟨_,_,rfl,.inr (T.jK _),rfl,rfl,_,rfl,?_⟩⟩;refine aP (fun _=>?_) (fun h=>absurd (show inV (.str s.1.str) iy=true by rw[Lc,e];rfl) h);refine⟨_,rfl,(by show 2<=sizeLine;decide),fun p hp=>?_⟩;exact q p _ (aq.upd hp) (by rw[e0];exact ae)
 |true =>
  obtain⟨h0,h1⟩:=hg.1 e;have ew:bO s=s.1.str++iY s.2:=by unfold bO;rw[e];rfl
  rw[ew];obtain⟨w1,w2,w3,w4,w5⟩:=R8 e h0 h1;obtain⟨f1,f2⟩:=DE h0 (show s.2<1000 by omega);have big:(s.1.str++iY s.2).length<=sizeLine:=Nat.le_trans w2 (by decide);refine⟨_,rfl,.inl ⟨_,_,rfl,.inr (T.jK _),rfl,rfl,_,rfl,?_⟩⟩;refine aP (fun h=>absurd (show inV (.str (s.1.str++iY s.2)) iy=true from h) (by rw[w1];decide)) (fun _=>?_);refine⟨_,rfl,_,rfl,.inr (.inr ⟨_,rfl,big,?_⟩)⟩;refine⟨_,rfl,_,rfl,.inr (.inr ⟨_,rfl,big,?_⟩)⟩;rw[w3,w4];tm_up;refine⟨_,s.2,2,rfl,f1,by have:=f2 h1;omega,fun H1 s1=>?_⟩;refine jW false ?_ (ck ?_)
  ·refine⟨_,rfl,.inl ⟨_,_,rfl,.inr (T.ik _),rfl,rfl,_,rfl,?_⟩⟩;refine aP (fun h=>?_) (fun _=>?_)
   ·have h:(!inV (.str s.1.str) oB)=true:=h;rw[w5]at h;cases h
   ·exact⟨_,rfl,rfl,_,rfl,c7 rfl⟩
  ·refine⟨_,rfl,_,rfl,(by show 2<=sizeLine;decide),fun p hp=>?_⟩;exact q p _ (s1.trans (aq.upd hp)) ae
inductive sM (vs:List V)(H:Hp)(Q:VK)(E:XK):Prop
 |mk (s:Sg) (cH:vs=[.str (bO s)]) (cI:gb s) (dh:∀ p H',aq H H'->H' p=some (.tup [.str s.1.str,.int s.2])->Q (.ref p) H'):sM vs H Q E
theorem Cr (T:Txt K w mg t):aS P w K mg base fk (0+3) t.vg t.vh ["word"] sM:=by
 have Jx:=FQ P base T;refine T.vS.ok rK ?_ ?_
 x_go
 obtain⟨s,rfl,hg,q⟩:=h;refine aG (af (ed 1 rK.nd (eC T.AV Jx hr (aa (pv 0) ag))) (af (aM (au xi (pv 1) h8 (aD _)) (ah JW) aA) (ah (ar (pv 1))))) ?_;refine⟨_,rfl,s,rfl,hg,fun p H1 s1 hp=>?_⟩;refine⟨_,rfl,rfl,_,rfl,ck ?_⟩;exact⟨_,rfl,q p H1 s1 hp⟩
inductive vY (vs:List V)(H:Hp)(Q:VK)(E:XK):Prop
 |mk (a:Ar) (cH:vs=[.str a.w,.str a.f]) (cI:a.ok) (dh:∀ v H',aq H H'->zq H' v a->Q v H'):vY vs H Q E
theorem El (T:Txt K w mg t):aS P w K mg base fk (0+4) t.ya t.yb ["word","form"] vY:=by
 have iO:=mO P base T;have Em:=Cr P base T;refine T.yC.ok DO ?_ ?_
 x_go
 obtain⟨a,rfl,ok,q⟩:=h;refine aG (af (aM (au (bo.or (aU (aE hr))) (pv 1) ax (aD _)) (ah (ar (eC T.ku iO hr (aa (pv 0) (aa (aX (v:=.int 4) rfl T.i6 ⟨_,rfl⟩) ag))))) aA) (af (aM (au (bo.or (aU (aE hr))) (pv 1) ax (aD _)) (ah (ar (bp zT (aX (v:=.ref t.Ci) rfl T.LJ rfl) (pv 0) (fun _ _=>rfl)))) aA) (af (aM (au (bo.or (aU (aE hr))) (pv 1) ax (aD _)) (ah (ar (eC T.vS Em hr (aa (pv 0) ag)))) aA) (ah (ar (pv 0)))))) ?_;cases a with
 |nb n =>
  refine⟨_,rfl,.inl ⟨rfl,_,rfl,gx ?_⟩⟩;obtain⟨f1,_⟩:=DE ok.1 ok.2;refine⟨_,rfl,_,n,4,rfl,f1,by show((iY n).length:Int)<=4;have:=f1.2.1;omega,fun H1 s1=>?_⟩;exact q _ H1 s1 rfl
 |wy tn =>
  refine⟨_,rfl,.inl ⟨rfl,_,rfl,ck ?_⟩⟩;refine⟨_,rfl,.inl ⟨rfl,_,rfl,gx ?_⟩⟩;refine⟨_,rfl,_,_,_,.bl tn,rfl,rfl,T.HR,by cases tn <;> decide +kernel,?_⟩;exact q _ H (aq.refl _) rfl
 |nm w =>
  refine⟨_,rfl,.inl ⟨rfl,_,rfl,ck ?_⟩⟩;refine⟨_,rfl,.inl ⟨rfl,_,rfl,ck ?_⟩⟩;refine⟨_,rfl,.inl ⟨rfl,_,rfl,ck ?_⟩⟩;exact⟨_,rfl,q _ H (aq.refl _) rfl⟩
 |sg s =>
  refine⟨_,rfl,.inl ⟨rfl,_,rfl,ck ?_⟩⟩;refine⟨_,rfl,.inl ⟨rfl,_,rfl,ck ?_⟩⟩;refine⟨_,rfl,.inl ⟨rfl,_,rfl,gx ?_⟩⟩;refine⟨_,rfl,s,rfl,ok,fun p H1 s1 hp=>?_⟩;exact q _ H1 s1 ⟨p,rfl,hp⟩
inductive yQ (vs:List V)(H:Hp)(Q:VK)(E:XK):Prop
 |mk (x:Str) (cH:vs=[.str x]) (cI:x.length<=1000) (dh:∀ H',aq H H'->Q (.bl (nameB x)) H'):yQ vs H Q E
theorem FR (T:Txt K w mg t):aS P w K mg base fk (0+1) t.Ao t.Ap ["name"] yQ:=by
 refine T.AW.ok Fz ?_ ?_
 x_go
 obtain⟨x,rfl,hx,q⟩:=h;refine aG (ah (ar (bX (gp (C2 lj lj ak (aI (aB.or aC) rfl T.bu br (aa (pv 0) ag)) (aX (v:=.int 8) rfl T.yB ⟨_,rfl⟩)) (fQ (aI Dm rfl T.LK Kx (aa (dz (cn:=["letter"]) rfl (bL.of rfl) (Ks (pv 0)) (fun _=>(bQ (i:=0) Cd rfl (Or.inl rfl))) (fun _=>fh) (fun _=>(a9 (bA.or bx) (pv 0) (aX (v:=.str "abcdefghijklmnopqrstuvwxyz") rfl T.Jk ⟨_,rfl⟩) rfl))) ag))))))) ?_;have xb:x.length<=sizeLine:=Nat.le_trans hx (by decide);refine⟨fun v H'=>v=.bl (nameB x)/\aq H H',?_,fun _ _ ⟨e1,e2⟩=>by rw[e1];exact q _ e2⟩;unfold nameB;refine⟨_,rfl,.inr ⟨_,rfl,xb,_,_,rfl,rfl,_,rfl,?_⟩⟩;refine aP (fun h1=>?_) (fun h1=>?_)
 rotate_left
 ·have e1:decide (1<=x.length)=false:=decide_eq_false fun z=>h1 (decide_eq_true (by omega));rw[e1];exact⟨_,rfl,ck ⟨rfl,aq.refl _⟩⟩
 have e1:decide (1<=x.length)=true:=decide_eq_true (by have:=of_decide_eq_true h1;omega);rw[e1,Bool.true_and];refine⟨_,_,rfl,rfl,_,rfl,?_⟩;refine aP (fun h2=>?_) (fun h2=>?_)
 rotate_left
 ·have e2:decide (x.length<=8)=false:=decide_eq_false fun z=>h2 (decide_eq_true (by omega));rw[e2];exact⟨rfl,aq.refl _⟩
 have n2:x.length<=8:=by have:=of_decide_eq_true h2;omega
 have e2:decide (x.length<=8)=true:=decide_eq_true n2;rw[e2,Bool.true_and];refine⟨_,rfl,_,rfl,fun D b hD=>?_⟩;refine Df (fun i ys σ H'=>∃ v,σ=[v,some (.str x)]/\H'=upd H D (.lst ys)/\ys=((x.cps.toList.take i).map fun c=>Bz ⟨#[c]⟩ "abcdefghijklmnopqrstuvwxyz").map V.bl/\i<=x.cps.size) ⟨none,rfl,rfl,rfl,Nat.zero_le _⟩ ?_ ?_
 ·rintro i ys c σ H' hc ⟨v,rfl,rfl,rfl,hi⟩ N hN;have hi2:i<x.cps.size:=(Array.getElem?_eq_some_iff.mp hc).1;have hcm:x.cps.toList[i]? = some c:=by simpa using hc
  have sz:x.cps.size<=8:=n2;refine bZ ?_;refine⟨_,rfl,.inr ⟨_,_,rfl,rfl,ae,?_,?_⟩⟩
  ·rw[length_map,length_map,length_take];exact aF (by omega)
  ·refine hN _ _ _ ⟨_,rfl,bH,?_,hi2⟩;rw[take_succ,hcm,map_append,map_append];rfl
 ·rintro ys σ H' ⟨v,rfl,rfl,rfl,hi⟩;refine⟨rfl,D,_,rfl,aL.of ae,?_,aq.upd hD⟩;rw[show x.cps.size=x.cps.toList.length from rfl,take_length];refine congrArg V.bl ?_;rw[List.all_map];rfl
inductive qp (c:Cs)(vs:List V)(H:Hp)(Q:VK)(E:XK):Prop
 |mk (x:Addr) (F:Addr->Prop) (vw:Vw) (ps fs:List Vw) (cH:vs=[.ref x]) (cI:pZ c H x F vw ps fs) (dh:∀(l:Addr)(H':Hp),H l=none->aq H H'->H' l=some (.lst (vw.map fun a=>V.str a.1))->Q (.ref l) H'):qp c vs H Q E
theorem iF (T:Txt K w mg t):aS P w K mg base fk (0+1) t.rT t.rV ["self"] (qp (cs t)):=by
 refine T.cM.ok zr ?_ ?_
 x_go
 obtain⟨x,F,vw,ps,fs,rfl,B,q⟩:=h;refine aG (ah (ar (dz (cn:=["voice"]) rfl (bL.of rfl) (cW (a6 (pv 0) rfl)) (fun _=>(bQ (i:=0) wo rfl (Or.inl rfl))) (fun _=>fh) (fun _=>(a6 (pv 0) rfl))))) ?_;obtain⟨L,D,U,all,M,Ps,Fs,es,us,b,i,pp,pf,f⟩:=B.ex;obtain⟨dx,hx⟩:=b.hx;obtain⟨vx,g,gv⟩:=b.oy i;have hL:=b.hL;have xl:=bF g;have vl:=bF gv;have ln:=(b.wf M (.inr (.inl rfl))).len;have hn:=Pz gv fun _ _ r=>r.2.1;refine⟨_,rfl,x,_,dx,_,_,rfl,hx,T.aJ,T.cw,fV _ _ _,L,rfl,⟨_,aL.of hL⟩,fun D' b' hD'=>?_⟩;refine dG (K:=K) (xs:=M L) (fun i ys σ H'=>∃ v,σ=[v,some (.ref x)]/\H'=upd H D' (.lst ys)/\ys=(vx.take i).map fun a=>V.str a.n) ⟨none,rfl,rfl,by simp⟩ ?_ ?_ ?_
 ·rintro i ys σ H' ⟨v,rfl,rfl,_⟩;exact cY (aL.of hL) hD'
 ·rintro i ys y σ H' hy ⟨v,rfl,rfl,rfl⟩ N hN;obtain⟨a,e1,rfl,ha⟩:=ou g hy;have hi:i<vx.length:=(List.getElem?_eq_some_iff.mp e1).1;refine bZ ?_;refine⟨_,rfl,a.o,_,a.d,_,_,rfl,by rw[ai (ao ha hD')];exact ha,T.dQ,T.kU,Dw _ _ _,ae,?_,?_⟩
  ·rw[length_map,length_take];exact aF (by omega)
  ·refine hN _ _ _ ⟨_,rfl,bH,?_⟩;rw[take_succ,e1];simp
 ·rintro ys σ H' ⟨v,rfl,rfl,rfl⟩;rw[xl,take_length,hn];exact q D' _ hD' (aq.upd hD') ae
theorem LN {x:Str}{l:List V}(h:inV (.str x) l=true):V.str x∈l:=by
 unfold inV at h;obtain⟨y,hy,e⟩:=any_eq_true.mp h;cases y with
 |str z =>
  have:z=x:=by simpa [GD] using e
  rw[<-this];exact hy
 |_=>simp[GD]at e
theorem FT {x:Str}{l:List V}(h:V.str x∈l):inV (.str x) l=true:=by
 unfold inV;exact any_eq_true.mpr ⟨_,h,by simp[GD]⟩
theorem vZ {vw:Vw}{n:Str}(h:fY vw n=none):nameB n=true/\aZ vw n=none/\vw.length<12:=by
 unfold fY at h;split at h
 ·cases h
 ·next h1 =>
  split at h
  ·cases h
  ·next h2 =>
   split at h
   ·cases h
   ·next h3=>exact⟨by simpa using h1,by cases e:aZ vw n with|none=>rfl|some _=>rw[e]at h2;exact absurd rfl h2,by omega⟩
inductive jP (c:Cs)(vs:List V)(H:Hp)(Q:VK)(E:XK):Prop
 |mk (x:Addr) (F:Addr->Prop) (vw:Vw) (ps fs:List Vw) (n:Str) (cH:vs=[.ref x,.str n]) (cI:pZ c H x F vw ps fs) (dh:n.length<=1000) (fJ:match fY vw n with
 |some r=>∀ H',aq H H'->RX E c r H'
 |none=>∀ H',aq H H'->Q .non H'):jP c vs H Q E
theorem jQ (T:Txt K w mg t):aS P w K mg base (dU P w) (0+2) t.kg t.kh ["self","name"] (jP (cs t)):=by
 have Jy:=FR P base T;have d8:=iF P base T;refine T.bJ.wO d5 ?_ ?_
 x_go
 obtain⟨x,F,vw,ps,fs,n,rfl,B,hlen,q⟩:=h;refine aG (af (aM (dq (a8 (eC T.AW Jy hr (aa (pv 1) ag)))) (ah (eh (X:=(nQ T.bJ.1 d5 (dU P w) P w mg base cdv A outer s H E)) (fun _ _ z=>z) rfl T.FL.exc rfl T.yr (aa ax ag))) aA) (af (aM (au (bA.or bx) (pv 1) (gq (pv 0) T.aJ T.cM.me d8 (eR hr) T.cM.b .nil cC) rfl) (ah (eh (X:=(nQ T.bJ.1 d5 (dU P w) P w mg base cdv A outer s H E)) (fun _ _ z=>z) rfl T.Cq.exc rfl T.sj (aa ax ag))) aA) (ah (aM (au NS (aI (aB.or aC) rfl T.bu br (aa (a6 (pv 0) rfl) ag)) (aX (v:=.int 12) rfl T.zx ⟨_,rfl⟩) (aD _)) (ah (eh (X:=(nQ T.bJ.1 d5 (dU P w) P w mg base cdv A outer s H E)) (fun _ _ z=>z) rfl T.HS.exc rfl T.Cj (aa ax ag))) aA)))) ?_;refine⟨_,rfl,n,rfl,hlen,fun H1 s1=>?_⟩;unfold fY at q;refine⟨_,rfl,?_⟩;cases hnb:nameB n with
 |false =>
  rw[if_pos hnb]at q;have q:=q H1 s1;exact gx ⟨by show 1<=sizeLine;decide,q.2⟩
 |true =>
  rw[if_neg (by rw[hnb];decide)]at q;refine ck ?_;have B1:=B.same s1;obtain⟨L,D,U,all,M,Ps,Fs,es,us,b,i,pp,pf,f⟩:=B1.ex;obtain⟨dx,hx⟩:=b.hx;refine⟨_,rfl,_,rfl,x,dx,_,rfl,hx,ja _ _ _,?_⟩;refine⟨x,F,vw,ps,fs,rfl,B1,fun l H2 hl s2 hl2=>?_⟩;refine .inl ⟨l,_,rfl,.inl (aL.of hl2),rfl,?_,_,rfl,?_⟩
  ·rw[List.all_map];exact all_eq_true.mpr fun _ _=>rfl
  have mem:inV (.str n) (vw.map fun a=>V.str a.1)=true ↔ (aZ vw n).isSome=true:=by
   constructor
   ·intro h;obtain⟨a,ha,e⟩:=mem_map.mp (LN h);cases e2:aZ vw n with
    |some _=>rfl
    |none=>exact absurd (V.str.inj e) (mz e2 a ha)
   ·intro h;cases e2:aZ vw n with
    |none=>rw[e2]at h;cases h
    |some th=>exact FT (mem_map.mpr ⟨_,cb e2,rfl⟩)
  refine aP (fun h=>?_) (fun h=>?_)
  ·rw[if_pos (mem.mp h)]at q;have q:=q H2 (s1.trans s2);exact⟨by show 1<=sizeLine;decide,q.2⟩
  rw[if_neg (fun z=>h (mem.mpr z))]at q;refine⟨_,rfl,x,_,dx,_,_,rfl,s2 _ _ hx,T.aJ,T.cw,fV _ _ _,?_⟩;refine .inl ⟨L,M L,rfl,.inl (aL.of (s2 _ _ b.hL)),?_⟩;refine⟨_,_,rfl,rfl,_,rfl,?_⟩;have ll:=bF i;refine aP (fun h=>?_) (fun h=>?_)
  ·have h':=of_decide_eq_true h;rw[if_pos (by omega)]at q;have q:=q H2 (s1.trans s2);exact⟨by show 1<=sizeLine;decide,q.2⟩
  ·rw[if_neg (fun z=>h (decide_eq_true (by omega)))]at q;exact q _ (s1.trans s2)
inductive yR (C:Addr)(vs:List V)(H:Hp)(Q:VK)(E:XK):Prop
 |mk (x dx T_ B A:Addr) (i:Nat) (xs bs as:List V) (cH:vs=[.ref x]) (cI:H x=some (.ins C dx (xF T_ (i:Int) B A))) (dh:H T_=some (.lst xs)) (fJ:H B=some (.lst bs)) (jh:H A=some (.lst as)) (zL:T_≠A) (Jz:i+bs.length<=xs.length) (Nq:xs.length+as.length<=1000) (Nr:Q .non (upd H T_ (.lst (xs.take i++as++xs.drop (i+bs.length))))):yR C vs H Q E
theorem FU (T:Txt K w mg t):aS P w K mg base fk (0+1) t.Aq t.As ["self"] (yR t.cg):=by
 refine T.uq.ok FA ?_ ?_
 x_go
 obtain⟨x,dx,T_,B,A_,i,xs,bs,as,rfl,hx,hT,hB,hA,hne,hi,hz,q⟩:=h;refine aG (ah (dD (a6 (pv 0) rfl) (Dl (a6 (pv 0) rfl) (cX (a6 (pv 0) rfl)) (cX (aH (aV.or (ay.or aW)) (a6 (pv 0) rfl) (aI (aB.or aC) rfl T.bu br (aa (a6 (pv 0) rfl) ag))))))) ?_;refine⟨_,rfl,x,_,dx,_,_,rfl,hx,T.dB,T.kW,zZ _ _ _ _,?_⟩;refine⟨_,rfl,x,_,dx,_,_,rfl,hx,T.dB,T.jL,xG _ _ _ _,?_⟩;refine⟨_,rfl,x,_,dx,_,_,rfl,hx,T.dB,T.jM,BJ _ _ _ _,_,rfl,?_⟩;refine⟨_,rfl,x,_,dx,_,_,rfl,hx,T.dB,T.jM,BJ _ _ _ _,?_⟩;refine⟨_,rfl,x,_,dx,_,_,rfl,hx,T.dB,T.jN,xH _ _ _ _,?_⟩;refine .inl ⟨B,bs,rfl,.inl (aL.of hB),.inl ⟨_,_,rfl,rfl,_,rfl,?_⟩⟩;refine⟨T_,A_,xs,as,(i:Int),((i+bs.length:Nat):Int),rfl,rfl,rfl,by simp,hT,hA,hne,by omega,by omega,by omega,Nat.le_trans hz (by decide),?_⟩;rw[Int.toNat_natCast,Int.toNat_natCast];exact q
inductive nG (CB CD:Addr)(vs:List V)(H:Hp)(Q:VK)(E:XK):Prop
 |mk (x dx L D U d dd T_ B A:Addr) (i:Nat) (ds us xs bs as:List V) (cH:vs=[.ref x,.ref d]) (cI:H x=some (.ins CB dx (tS L D U))) (dh:H D=some (.lst ds)) (fJ:H U=some (.lst us)) (jh:H d=some (.ins CD dd (xF T_ (i:Int) B A))) (zL:H T_=some (.lst xs)) (Jz:H B=some (.lst bs)) (Nq:H A=some (.lst as)) (Nr:T_≠A) (Tj:T_≠D) (Sd:T_≠U) (Ym:D≠U) (Yn:i+bs.length<=xs.length) (Yo:xs.length+as.length<=1000) (Yp:ds.length<=900) (Yq:Q .non (upd (upd (upd H T_ (.lst (xs.take i++as++xs.drop (i+bs.length)))) D (.lst (ds++[.ref d]))) U (.lst []))):nG CB CD vs H Q E
theorem fP (T:Txt K w mg t):aS P w K mg base fk (0+2) t.oQ t.oR ["self","deed"] (nG t.cF t.cg):=by
 have JA:=FU P base T;refine T.bS.ok wk ?_ ?_
 x_go
 obtain⟨x,dx,L,D,U,d,dd,T_,B,A_,i,ds,us,xs,bs,as,rfl,hx,hD,hU,hd,hT,hB,hA,n1,n2,n3,n4,hi,hz,hds,q⟩:=h;refine aG (af (aO (gq (pv 1) T.dB T.uq.me JA (eR hr) T.uq.b .nil cC)) (af (aO (ef plainAttrs_list slot_list_append type_list_append bB (a6 (pv 0) rfl) (aa (pv 1) ag))) (ah (aO (Kj plainAttrs_list PySem.F.slot_list_clear PySem.F.type_list_clear Kk (a6 (pv 0) rfl)))))) ?_;have xT:x≠T_:=fm hx hT (by intro z;cases z);have xD:x≠D:=fm hx hD (by intro z;cases z);refine⟨_,rfl,d,dd,_,rfl,hd,IX _ _ _ _,?_⟩;refine⟨d,dd,T_,B,A_,i,xs,bs,as,rfl,hd,hT,hB,hA,n1,hi,hz,?_⟩;refine⟨_,rfl,x,_,dx,_,_,rfl,by rw[ai xT];exact hx,T.aJ,T.je,xI _ _ _,?_⟩;refine⟨.inl ⟨rfl,_,aL.of (show upd H T_ _ D=some (.lst ds) by rw[ai (Ne.symm n2)];exact hD)⟩,_,rfl,D,_,_,rfl,rfl,by rw[ai (Ne.symm n2)];exact hD,aF (by omega),?_⟩;refine⟨_,rfl,x,_,dx,_,_,rfl,by rw[ai xD,ai xT];exact hx,T.aJ,T.jO,xJ _ _ _,?_⟩;have Qv:upd (upd H T_ (.lst (xs.take i++as++xs.drop (i+bs.length)))) D (.lst (ds++[.ref d])) U=some (.lst us):=by rw[ai (Ne.symm n4),ai (Ne.symm n3)];exact hU
 exact⟨.inl ⟨rfl,_,aL.of Qv⟩,U,_,rfl,rfl,Qv,q⟩
inductive sO (C:Addr)(vs:List V)(H:Hp)(Q:VK)(E:XK):Prop
 |mk (x dx:Addr) (T_:Addr) (i:Int) (B A:Addr) (cH:vs=[.ref x,.ref T_,.int i,.ref B,.ref A]) (cI:H x=some (.ins C dx [])) (dh:Q .non (upd H x (.ins C dx (xF T_ i B A)))):sO C vs H Q E
theorem fb (T:Txt K w mg t):aS P w K mg base fk (0+1) t.nk t.nq ["self","things","at","before","after"] (sO t.cg):=by
 refine T.bM.ok ug ?_ ?_
 x_go
 obtain⟨x,dx,T_,i,B,A_,rfl,hx,q⟩:=h;refine aG (af (jk (pv 0) (pv 1) rfl) (af (jk (pv 0) (pv 2) rfl) (af (jk (pv 0) (pv 3) rfl) (ah (jk (pv 0) (pv 4) rfl))))) ?_;refine⟨_,rfl,_,rfl,x,_,dx,_,rfl,hx,T.dB,T.jL,by show 0<1000;decide,?_⟩;refine⟨_,rfl,_,rfl,x,_,dx,_,rfl,ae,T.dB,T.jM,by rw[wU];show 1<1000;decide,?_⟩;refine⟨_,rfl,_,rfl,x,_,dx,_,rfl,ae,T.dB,T.jN,by rw[wU,BK];show 2<1000;decide,?_⟩;refine⟨_,rfl,_,rfl,x,_,dx,_,rfl,ae,T.dB,T.kW,by rw[wU,BK,Hi];show 3<1000;decide,?_⟩;rw[wU,BK,Hi,M3];simp only [bH];exact q
inductive pd (c:Cs)(vs:List V)(H:Hp)(Q:VK)(E:XK):Prop
 |mk (x dx L D U v:Addr) (xs ds us:List V) (cH:vs=[.ref x,.ref v]) (cI:H x=some (.ins c.B dx (tS L D U))) (dh:H L=some (.lst xs)) (fJ:H D=some (.lst ds)) (jh:H U=some (.lst us)) (zL:L≠D) (Jz:L≠U) (Nq:D≠U) (Nr:xs.length<=12) (Tj:ds.length<=900) (Sd:∀(e:Dd)(H1 H':Hp),e.T=L->e.i=xs.length->e.bs=[]->e.as=[.ref v]->aq H H1->H e.B=none->H e.A=none->jX c.D H1 (.ref e.o) e->(∀ y o,H1 y=some o->y≠L->y≠D->y≠U->H' y=some o)->H' L=some (.lst (xs++[.ref v]))->H' D=some (.lst (ds++[.ref e.o]))->H' U=some (.lst [])->Q .non H'):pd c vs H Q E
theorem ph (T:Txt K w mg t):aS P w K mg base fk (0+3) t.qd t.qe ["self","voice"] (pd (cs t)):=by
 have cT:=fP P base T;have cG:=fb P base T;refine T.fI.ok x5 ?_ ?_
 x_go
 obtain⟨x,dx,L,D,U,v,xs,ds,us,rfl,hx,hL,hD,hU,n1,n2,n3,hxs,hds,q⟩:=h;refine aG (ah (aO (cz (pv 0) T.aJ T.bS.me cT (eR hr) T.bS.b .nil cC (aa (pC T.bM.Oq cG (eR hr) rfl T.wW T.bM.b .nil cC (aa (a6 (pv 0) rfl) (aa (aI (aB.or aC) rfl T.bu br (aa (a6 (pv 0) rfl) ag)) (aa (bq ag) (aa (bq (aa (pv 1) ag)) ag))))) ag)))) ?_;refine⟨_,rfl,x,dx,_,rfl,hx,gC _ _ _,?_⟩;refine⟨_,rfl,x,_,dx,_,_,rfl,hx,T.aJ,T.cw,fV _ _ _,?_⟩;refine⟨_,rfl,x,_,dx,_,_,rfl,hx,T.aJ,T.cw,fV _ _ _,?_⟩;refine .inl ⟨L,xs,rfl,.inl (aL.of hL),?_⟩;refine⟨big (by show 0<=1000;omega),fun B hB=>?_⟩;refine⟨_,rfl,big (by show 1<=1000;omega),fun A_ hA=>?_⟩;have JT:=wV hA;have LA:L≠A_:=ao (aq.upd (o:=.lst []) hB _ _ hL) hA;have sB:=(aq.upd (o:=.lst []) hB).trans (aq.upd (o:=.lst [V.ref v]) hA);have hB2:=aq.upd (o:=.lst [V.ref v]) hA _ _ (ae (H:=H) (a:=B) (o:=.lst []));have FX:=ae (H:=upd H B (.lst [])) (a:=A_) (o:=.lst [V.ref v]);generalize upd (upd H B (.lst [])) A_ (.lst [V.ref v])=H2 at sB hB2 FX;intro d dd nd Mm ne;refine⟨d,dd,L,(xs.length:Int),B,A_,rfl,ae,rfl,?_⟩;rw[bH];have s3:aq H2 (upd (upd H2 dd (.own d)) d (.ins t.cg dd (xF L (xs.length:Int) B A_))):=fun y o hy=>by
  rw[ai (ao hy nd),ai (ao hy Mm)];exact hy
 have we:=ae (H:=upd H2 dd (.own d)) (a:=d) (o:=.ins t.cg dd (xF L (xs.length:Int) B A_));generalize upd (upd H2 dd (.own d)) d (.ins t.cg dd (xF L (xs.length:Int) B A_))=H3 at s3 we;have s4:=sB.trans s3;refine⟨x,dx,L,D,U,d,dd,L,B,A_,xs.length,ds,us,xs,[],[.ref v],rfl,s4 _ _ hx,s4 _ _ hD,s4 _ _ hU,we,s4 _ _ hL,s3 _ _ hB2,s3 _ _ FX,LA,n1,n2,n3,by simp,by simp;omega,hds,?_⟩;refine q ⟨d,dd,L,xs.length,B,A_,[],[.ref v]⟩ H3 _ rfl rfl rfl rfl s4 hB JT ⟨rfl,we,s3 _ _ hB2,s3 _ _ FX⟩ (fun y o hy y1 y2 y3=>?_) ?_ ?_ ae
 ·rw[ai y3,ai y2,ai y1];exact hy
 ·rw[ai n2,ai n1,ae];simp
 ·rw[ai n3,ae]
inductive qq (C:Addr)(vs:List V)(H:Hp)(Q:VK)(E:XK):Prop
 |mk (x dx:Addr) (n:Str) (tm:V) (cH:vs=[.ref x,.str n,tm]) (cI:H x=some (.ins C dx [])) (dh:∀(L:Addr)(H':Hp),(∀ y o,H y=some o->y≠x->H' y=some o)->H L=none->L≠x->H' x=some (.ins C dx (Og n tm L))->H' L=some (.lst [])->Q .non H'):qq C vs H Q E
theorem kA (T:Txt K w mg t):aS P w K mg base fk (0+1) t.lO t.lP ["self","name","terms"] (qq t.kr):=by
 refine T.dO.ok rL ?_ ?_
 x_go
 obtain⟨x,dx,n,tm,rfl,hx,q⟩:=h;refine aG (af (jk (pv 0) (pv 1) rfl) (af (jk (pv 0) (pv 2) rfl) (ah (jk (pv 0) (bq ag) rfl)))) ?_;refine⟨_,rfl,_,rfl,x,_,dx,_,rfl,hx,T.dQ,T.kU,by show 0<1000;decide,?_⟩;refine⟨_,rfl,_,rfl,x,_,dx,_,rfl,ae,T.dQ,T.eV,by rw[BI];show 1<1000;decide,?_⟩;refine⟨big (by show 0<=1000;omega),fun L hL=>?_⟩;rw[bH]at hL;have nx:x≠L:=fun e=>by rw[<-e,ae]at hL;cases hL
 have hL0:H L=none:=by rw[ai (Ne.symm nx)]at hL;exact hL
 refine⟨_,rfl,x,_,dx,_,rfl,by rw[ai nx,bH];exact ae,T.dQ,T.eW,by rw[BI,Hh];show 2<1000;decide,?_⟩;rw[BI,Hh,M0];simp only [bH];refine q L _ (fun y o hy ny=>?_) hL0 (Ne.symm nx) ae ?_
 ·rw[ai ny,ai (ao hy hL0),ai ny];exact hy
 ·rw[ai (Ne.symm nx)];exact ae
inductive kB (c:Cs)(vs:List V)(H:Hp)(Q:VK)(E:XK):Prop
 |mk (x:Addr) (F:Addr->Prop) (vw:Vw) (ps fs:List Vw) (n:Str) (cH:vs=[.ref x,.str n]) (cI:pZ c H x F vw ps fs) (dh:n.length<=1000) (fJ:ps.length<=900) (jh:match fY vw n with
 |some r=>∀ H',aq H H'->RX E c r H'
 |none=>∀ F' H',Gr F F' H->Fr F H H'->pZ c H' x F' (vw++[(n,.pl [])]) (ps++[vw]) []->Q .non H'):kB c vs H Q E
theorem sP (T:Txt K w mg t):aS P w K mg base (dU P w) (0+4) t.lQ t.lR ["self","name"] (kB (cs t)):=by
 have gP:=jQ P base T;have kX:=ph P base T;have iq:=kA P base T;refine T.e9.wO kf ?_ ?_
 x_go
 obtain⟨x,F,vw,ps,fs,n,rfl,B,hlen,hps,q⟩:=h;refine aG (af (aO (bK (X:=(nQ T.e9.1 kf (dU P w) P w mg base cdv A outer s H E)) (pv 0) T.aJ T.bJ.me gP (eR hr) T.bJ.b .nil (fun _ _ z=>Or.inl z) (aa (pv 1) ag))) (ah (aO (cz (pv 0) T.aJ T.fI.me kX (eR hr) T.fI.b .nil cC (aa (pC T.dO.Oq iq (eR hr) rfl T.Ef T.dO.b .nil cC (aa (pv 1) (aa h8 ag))) ag))))) ?_;obtain⟨L,D,U,all,M,Ps,Fs,es,us,b,i,pp,pf,f⟩:=B.ex;obtain⟨dx,hx⟩:=b.hx;refine⟨_,rfl,x,dx,_,rfl,hx,j7 _ _ _,_,rfl,x,F,vw,ps,fs,n,rfl,B,hlen,?_⟩;cases ho:fY vw n with
 |some r =>
  rw[ho]at q;intro H' s';have q:=q H' s';exact q
 |none =>
  rw[ho]at q;obtain⟨_,hf,PX⟩:=vZ ho;intro H1 s1;have b1:=b.kept f (.same s1);obtain⟨ds,hD,pD⟩:=b1.hD;obtain⟨ux,hU,pU⟩:=b1.hU;have ll:=bF i;have dl:=bF pD;have pl:=bF pp;have pe:=b.past.len;refine⟨_,rfl,x,dx,_,rfl,s1 _ _ hx,pY _ _ _,_,rfl,?_⟩;intro v dv nv U9 ne;refine⟨v,dv,n,.non,rfl,ae,fun l H2 kp hl Yr hv2 hl2=>⟨rfl,?_⟩⟩;have s2:aq H1 H2:=fun y o hy=>kp y o (by rw[ai (ao hy nv),ai (ao hy U9)];exact hy) (ao hy nv);have hl1:H1 l=none:=oC hl;refine⟨x,dx,L,D,U,v,M L,ds,ux,rfl,s2 _ _ (s1 _ _ hx),s2 _ _ b1.hL,s2 _ _ hD,s2 _ _ hU,b.LD,b.LU,b.DU,by omega,by omega,fun e H3 H' eT ei eb ea s3 nB nA hd fr hL' hD' hU'=>?_⟩;obtain⟨F',g,fr',B'⟩:=Bk.added b1 (Is.kept (F:=F) (.same s1) i) (bR (fun _ _ q=>Is.kept (F:=F) (.same s1) q) pp) f B.wv (a:=⟨v,dv,n,.non,l⟩) (th:=.pl []) s2 nv hl1 hv2 hl2 (fun M' h0=>⟨rfl,by rw[h0];exact .nil⟩) ((B.wv vw (.inr (.inl rfl))).RZ (mz hf) PX) eT ei eb ea s3 nB nA hd hD pD fr hL' hD' hU';exact q F' H' (g.old s1) (fun y o hy hn=>fr' y o (s1 y o hy) hn) B'
inductive gj (c:Cs)(h:Str)(vs:List V)(H:Hp)(Q:VK)(E:XK):Prop
 |mk (x l:Addr) (F:Addr->Prop) (vw:Vw) (ps fs:List Vw) (cm:Cm) (ys:List V) (cH:vs=[.ref x,.ref l]) (cI:cm.head=h) (dh:H l=some (.lst ys)) (fJ:Paired (zq H) ys cm.args) (jh:cm.ok) (zL:pZ c H x F vw ps fs) (Jz:cm.fit vw) (Nq:ps.length+fs.length<=900) (Nr:BU c x F H Q (fun H'=>RX E c .qD H') cm.look (cm.PN vw ps fs)):gj c h vs H Q E
theorem f6 {c:Cs}{H:Hp}{x:Addr}{F:Addr->Prop}{vw:Vw}{ps fs:List Vw}(B:pZ c H x F vw ps fs):∃ dx L D U,H x=some (.ins c.B dx (tS L D U)):=by
 obtain⟨L,D,U,all,M,Ps,Fs,es,us,b,_⟩:=B.ex;obtain⟨dx,e⟩:=b.hx;exact⟨dx,L,D,U,e⟩
theorem LO {H:Hp}{ys:List V}{n:Str}(h:Paired (zq H) ys [.nm n]):ys=[.str n]:=by
 cases h with
 |cons e r=>cases r;cases e;rfl
theorem zB (T:Txt K w mg t):aS P w K mg base (dU P w) (0+5) t.mJ t.rW ["book","values"] (gj (cs t) "add"):=by
 have uz:=sP P base T;refine T.jc.wO qa ?_ ?_
 x_go
 obtain⟨x,l,F,vw,ps,fs,cm,ys,rfl,hh,hl,pa,ok,B,ft,hlen,q⟩:=h;refine aG (af (aO (bK (X:=(nQ T.jc.1 qa (dU P w) P w mg base cdv A outer s H E)) (pv 0) T.aJ T.e9.me uz (eR hr) T.e9.b .nil (fun _ _ z=>Or.inl z) (aa (eD (pv 1)) ag))) (ah (ar ax))) ?_;cases cm with
 |add n =>
  obtain rfl:=LO pa;obtain⟨dx,L,D,U,hx⟩:=f6 B;have n8:=(jy (ok (.nm n) (List.mem_singleton_self _))).2;refine⟨_,rfl,x,dx,_,rfl,hx,ub _ _ _,_,rfl,EO (aL.of hl) (n:=0) rfl rfl ?_⟩;refine⟨x,F,vw,ps,fs,n,rfl,B,by omega,by omega,?_⟩;rw[show fY vw n=none from ft];intro F' H' gr fr b;exact q F' H' gr fr (fun z=>absurd z Bool.false_ne_true) b
 |_=>exact absurd hh (by show ¬ Str.ofString _=_;decide +kernel)
inductive iP (c:Cs)(vs:List V)(H:Hp)(Q:VK)(E:XK):Prop
 |mk (x dx L D U:Addr) (xs:List V) (vx:List Vx) (n:Str) (cH:vs=[.ref x,.str n]) (cI:H x=some (.ins c.B dx (tS L D U))) (dh:H L=some (.lst xs)) (fJ:Paired (M5 c.V H) xs vx) (jh:match vx.find? (fun a=>decide (a.n=n)) with
 |none=>RX E c .gD H
 |some a=>Q (.ref a.o) H):iP c vs H Q E
theorem JB {vx:List Vx}{n:Str}:∀{i:Nat},(∀ j a,j<i->vx[j]? = some a->a.n≠n)->∀{b},vx[i]? = some b->b.n=n->vx.find? (fun a=>decide (a.n=n))=some b:=by
 induction vx with
 |nil=>intro i _ b h;simp at h
 |cons v vs ih =>
  intro i hi b hb he;cases i with
  |zero =>
   simp at hb;subst hb;exact List.find?_cons_of_pos (decide_eq_true he)
  |succ i =>
   have h0:=hi 0 v (by omega) rfl;have h1:(v::vs).find? (fun a=>decide (a.n=n))=vs.find? (fun a=>decide (a.n=n)):=List.find?_cons_of_neg (fun z=>h0 (of_decide_eq_true z));rw[h1];exact ih (i:=i) (fun j a hj ha=>hi (j+1) a (Nat.succ_lt_succ hj) (by simpa using ha)) (by simpa using hb) he
theorem cy (T:Txt K w mg t):aS P w K mg base (dU P w) (0+1) t.i0 t.i4 ["self","name"] (iP (cs t)):=by
 refine T.aQ.wO eQ ?_ ?_
 x_go
 obtain⟨x,dx,L,D,U,xs,vx,n,rfl,hx,hL,g,q⟩:=h;refine aG (af (Pn (fg PassesOwn.never rfl (cW (a6 (pv 0) rfl)) (i5 2 eQ.nd) (ah (aM (au (bo.or (aU (aE hr))) (a6 (pv 2) rfl) (pv 1) (aD _)) (ah (ar (pv 2))) aA)))) (ah (eh (X:=(nQ T.aQ.1 eQ (dU P w) P w mg base cdv A outer s H E)) (fun _ _ z=>z) rfl T.FN.exc rfl T.yt (aa ax ag)))) ?_;have xl:=bF g;refine⟨_,rfl,x,_,dx,_,_,rfl,hx,T.aJ,T.cw,fV _ _ _,L,rfl,⟨_,aL.of hL⟩,jj (K:=K) (xs:=xs) (fun i σ H'=>∃ v,σ=[some (.ref x),some (.str n),v]/\H'=H/\∀ j a,j<i->vx[j]? = some a->a.n≠n) ⟨none,rfl,rfl,fun j a hj=>by omega⟩ ?_ ?_ ?_⟩
 ·rintro i σ H1 _ ⟨v,rfl,eH,_⟩;rw[eH];exact aL.of hL
 ·rintro i y σ H1 hy ⟨v,rfl,eH,hi⟩;have eH:=eH.symm;subst eH;obtain⟨b,e1,rfl,hb⟩:=ou g hy;refine⟨_,rfl,b.o,_,b.d,_,_,rfl,hb,T.dQ,T.kU,Dw _ _ _,?_⟩;refine⟨_,rfl,.inl ⟨rfl,_,rfl,?_⟩⟩;refine aP (fun h=>?_) (fun h=>?_)
  ·have e:b.n=n:=V.str.inj (of_decide_eq_true h);rw[JB hi e1 e]at q;exact⟨_,rfl,q⟩
  ·refine⟨_,rfl,rfl,fun j a hj ha=>?_⟩;rcases Nat.lt_or_ge j i with z|z
   ·exact hi j a z ha
   ·have hij:j=i:=by omega
    rw[hij,e1]at ha;cases ha;exact fun z=>h (decide_eq_true (congrArg V.str z))
 ·rintro σ H1 ⟨v,rfl,eH,hi⟩;have eH:=eH.symm;subst eH;have hn:vx.find? (fun a=>decide (a.n=n))=none:=List.find?_eq_none.mpr fun a ha z=>by
   obtain⟨j,hj⟩:=getElem?_of_mem ha;have hjl:j<vx.length:=(List.getElem?_eq_some_iff.mp hj).1;exact hi j a (by omega) hj (of_decide_eq_true z)
  rw[hn]at q;exact⟨by show 1<=sizeLine;decide,q.2⟩
inductive i7 (c:Cs)(vs:List V)(H:Hp)(Q:VK)(E:XK):Prop
 |mk (x dx L D U:Addr) (xs:List V) (vx:List Vx) (n:Str) (cH:vs=[.ref x,.str n]) (cI:H x=some (.ins c.B dx (tS L D U))) (dh:H L=some (.lst xs)) (fJ:Paired (M5 c.V H) xs vx) (jh:match vx.find? (fun a=>decide (a.n=n)) with
 |none=>RX E c .gD H
 |some a=>(a.tm=.non->Q (.ref a.o) H)/\(∀ p,a.tm=.ref p->RX E c .ly H)/\(a.tm=.non\/∃ p,a.tm=.ref p)):i7 c vs H Q E
theorem fi (T:Txt K w mg t):aS P w K mg base (dU P w) (0+2) t.jD t.jE ["self","name"] (i7 (cs t)):=by
 have bc:=cy P base T;refine T.bj.wO dA ?_ ?_
 x_go
 obtain⟨x,dx,L,D,U,xs,vx,n,rfl,hx,hL,g,q⟩:=h;refine aG (af (ed 2 dA.nd (bK (X:=(nQ T.bj.1 dA (dU P w) P w mg base cdv A outer s H E)) (pv 0) T.aJ T.aQ.me bc (eR hr) T.aQ.b .nil (fun _ _ z=>Or.inl z) (aa (pv 1) ag))) (af (aM (au Bi (a6 (pv 2) rfl) h8 (aD _)) (ah (eh (X:=(nQ T.bj.1 dA (dU P w) P w mg base cdv A outer s H E)) (fun _ _ z=>z) rfl T.Ej.exc rfl T.vR (aa ax ag))) aA) (ah (ar (pv 2))))) ?_;refine⟨_,rfl,x,dx,_,rfl,hx,cJ _ _ _,_,rfl,x,dx,L,D,U,xs,vx,n,rfl,hx,hL,g,?_⟩;cases hf:vx.find? (fun a=>decide (a.n=n)) with
 |none =>
  rw[hf]at q;exact q
 |some a =>
  rw[hf]at q;obtain⟨q1,q2,q3⟩:=q;obtain⟨j,hj⟩:=getElem?_of_mem (List.mem_of_find?_eq_some hf);obtain⟨v,hv,rfl,ha⟩:=j2 g hj;refine⟨_,rfl,a.o,_,a.d,_,_,rfl,ha,T.dQ,T.eV,pJ _ _ _,?_⟩;rcases q3 with e|⟨p,e⟩
  ·rw[e];refine⟨rfl,_,rfl,?_⟩;exact aP (fun h=>absurd h (by decide)) (fun _=>⟨_,rfl,q1 e⟩)
  ·have q:=q2 p e;rw[e];refine⟨rfl,_,rfl,?_⟩;exact aP (fun _=>⟨by show 1<=sizeLine;decide,q.2⟩) (fun h=>absurd (show(!decide (V.ref p=V.non))=true by rw[decide_eq_false (fun z=>nomatch z)];rfl) h)
inductive kC (c:Cs)(vs:List V)(H:Hp)(Q:VK)(E:XK):Prop
 |mk (x:Addr) (F:Addr->Prop) (vw:Vw) (ps fs:List Vw) (n ld:Str) (lt sl:Int) (tn:Bool) (cH:vs=[.ref x,.str n,.str ld,.int lt,.int sl,.bl tn]) (cI:pZ c H x F vw ps fs) (dh:n.length<=1000) (fJ:ps.length<=900) (jh:match fY vw n with
 |some r=>∀ H',aq H H'->RX E c r H'
 |none=>match aZ vw ld with
  |none=>∀ H',aq H H'->RX E c .gD H'
  |some (.cn _ _ _ _)=>∀ H',aq H H'->RX E c .ly H'
  |some (.pl _)=>(¬ kP lt sl->∀ H',aq H H'->RX E c .BN H')/\(kP lt sl->∀ F' H',Gr F F' H->Fr F H H'->pZ c H' x F' (vw++[(n,.cn ld lt sl tn)]) (ps++[vw]) []->Q .non H')):kC c vs H Q E
theorem kD (T:Txt K w mg t):aS P w K mg base (dU P w) (0+4) t.dJ t.ib ["self","name","leader","later","slow","is_turned"] (kC (cs t)):=by
 have gP:=jQ P base T;have cU:=fi P base T;have kX:=ph P base T;have iq:=kA P base T;refine T.dP.wO rM ?_ ?_
 x_go
 obtain⟨x,F,vw,ps,fs,n,ld,lt,sl,tn,rfl,B,hlen,hps,q⟩:=h;refine aG (af (aO (bK (X:=(kM (dU P w) P w K mg base ["self","name","leader","later","slow","is_turned"] "Book.add_canon" (aj dH) t.dJ cdv A outer s H E)) (pv 0) T.aJ T.bJ.me gP (eR hr) T.bJ.b .nil (fun _ _ z=>Or.inl z) (aa (pv 1) ag))) (af (aO (bK (X:=(kM (dU P w) P w K mg base ["self","name","leader","later","slow","is_turned"] "Book.add_canon" (aj dH) t.dJ cdv A outer s H E)) (pv 0) T.aJ T.bj.me cU (eR hr) T.bj.b .nil (fun _ _ z=>Or.inl z) (aa (pv 2) ag))) (af (aM (dq (cv (PW.pt (cE (nZ lj lj ak (pv 3) (aX (v:=.int 999) rfl T.LI ⟨_,rfl⟩)) (dg (nZ lj lj ak (pv 4) (aX (v:=.int 9) rfl T.Jl ⟨_,rfl⟩))))))) (ah (eh (X:=(kM (dU P w) P w K mg base ["self","name","leader","later","slow","is_turned"] "Book.add_canon" (aj dH) t.dJ cdv A outer s H E)) (fun _ _ z=>z) rfl T.FO.exc rfl T.yu (aa ax ag))) aA) (ah (aO (cz (pv 0) T.aJ T.fI.me kX (eR hr) T.fI.b .nil cC (aa (pC T.dO.Oq iq (eR hr) rfl T.Ef T.dO.b .nil cC (aa (pv 1) (aa (dr (aa (pv 2) (aa (pv 3) (aa (pv 4) (aa (pv 5) ag))))) ag))) ag))))))) ?_;obtain⟨L,D,U,all,M,Ps,Fs,es,us,b,i,pp,pf,f⟩:=B.ex;obtain⟨dx,hx⟩:=b.hx;have wv:=B.wv vw (.inr (.inl rfl));refine⟨_,rfl,x,dx,_,rfl,hx,j7 _ _ _,_,rfl,x,F,vw,ps,fs,n,rfl,B,hlen,?_⟩;cases ho:fY vw n with
 |some r =>
  rw[ho]at q;intro H' s';have q:=q H' s';exact q
 |none =>
  rw[ho]at q;obtain⟨_,hf,PX⟩:=vZ ho;intro H1 s1;have b1:=b.kept f (.same s1);have i1:Is H1 L all M vw:=Is.kept (F:=F) (.same s1) i;obtain⟨vx,g,gv⟩:=b1.oy i1;have hx1:=s1 _ _ hx;refine⟨_,rfl,x,dx,_,rfl,hx1,fW _ _ _,_,rfl,x,dx,L,D,U,M L,vx,ld,rfl,hx1,b1.hL,g,?_⟩;rcases xP gv (fun _ _ r=>r.2.1) ld with ⟨f1,f2⟩|⟨a,th,j,f1,f2,r,an,fj,fw⟩
  ·rw[f1];rw[f2]at q;have q:=q H1 s1;exact q
  rw[f1];rw[f2]at q;cases th with
  |cn ZA ZC sl2 ZD =>
   obtain⟨pt,Ov,_⟩:=r.2.2;have q:=q H1 s1;refine⟨(fun z=>by rw[Ov]at z;cases z),(fun _ _=>q),.inr ⟨pt,Ov⟩⟩
  |pl ss =>
   obtain⟨Hl,hg⟩:=r.2.2;obtain⟨q1,q2⟩:=q;refine⟨fun _=>?_,(fun pz z=>by rw[Hl]at z;cases z),.inl Hl⟩;refine⟨fun bb H'=>bb=decide (kP lt sl)/\H'=H1,?_,?_⟩
   ·refine⟨_,rfl,_,_,rfl,rfl,_,rfl,?_⟩;refine aP (fun h1=>?_) (fun h1=>?_)
    rotate_left
    ·have e:decide (kP lt sl)=false:=decide_eq_false fun z=>h1 (decide_eq_true z.1);rw[e];exact⟨_,rfl,ck ⟨rfl,rfl⟩⟩
    refine⟨_,_,rfl,rfl,_,rfl,?_⟩;refine aP (fun h2=>?_) (fun h2=>?_)
    rotate_left
    ·have e:decide (kP lt sl)=false:=decide_eq_false fun z=>h2 (decide_eq_true z.2.1);rw[e];exact⟨rfl,rfl⟩
    refine⟨_,rfl,_,_,rfl,rfl,_,rfl,?_⟩;refine aP (fun h3=>?_) (fun h3=>?_)
    rotate_left
    ·have e:decide (kP lt sl)=false:=decide_eq_false fun z=>h3 (decide_eq_true z.2.2.1);rw[e];exact⟨_,rfl,rfl,rfl⟩
    refine⟨_,_,rfl,rfl,_,rfl,?_,rfl⟩;refine decide_eq_decide.mpr ⟨fun z=>⟨of_decide_eq_true h1,of_decide_eq_true h2,of_decide_eq_true h3,z⟩,fun z=>z.2.2.2⟩
   intro bb ZE ⟨e1,e2⟩;rw[e1,e2]
   by_cases hok:kP lt sl
   rotate_left
   ·rw[decide_eq_false hok];have q:=q1 hok H1 s1;exact gx ⟨by show 1<=sizeLine;decide,q.2⟩
   rw[decide_eq_true hok];refine ck ?_;obtain⟨ds,hD,pD⟩:=b1.hD;obtain⟨ux,hU,pU⟩:=b1.hU;have ll:=bF i;have dl:=bF pD;have pl:=bF pp;have pe:=b.past.len;refine⟨_,rfl,x,dx,_,rfl,hx1,pY _ _ _,_,rfl,_,rfl,_,rfl,_,rfl,_,rfl,(by show 4<=sizeLine;decide),fun tp htp=>?_⟩;have st:=aq.upd (o:=.tup [V.str ld,V.int lt,V.int sl,V.bl tn]) htp;have Se:=ae (H:=H1) (a:=tp) (o:=.tup [V.str ld,V.int lt,V.int sl,V.bl tn]);generalize upd H1 tp (.tup [V.str ld,V.int lt,V.int sl,V.bl tn])=Ys at st Se;intro v dv nv U9 ne;refine⟨v,dv,n,.ref tp,rfl,ae,fun l H2 kp hl Yr hv2 hl2=>⟨rfl,?_⟩⟩;have We:aq Ys H2:=fun y o hy=>kp y o (by rw[ai (ao hy nv),ai (ao hy U9)];exact hy) (ao hy nv);have s2:=st.trans We;have hl1:H1 l=none:=st.free (oC hl);refine⟨x,dx,L,D,U,v,M L,ds,ux,rfl,s2 _ _ hx1,s2 _ _ b1.hL,s2 _ _ hD,s2 _ _ hU,b.LD,b.LU,b.DU,by omega,by omega,fun e H3 H' eT ei eb ea s3 nB nA hd fr hL' hD' hU'=>?_⟩;obtain⟨F',gr,fr',B'⟩:=Bk.added b1 i1 (bR (fun _ _ q=>Is.kept (F:=F) (.same s1) q) pp) f B.wv (a:=⟨v,dv,n,.ref tp,l⟩) (th:=.cn ld lt sl tn) s2 (st.free nv) hl1 hv2 hl2 (fun M' h0=>⟨tp,rfl,We _ _ Se⟩) (wv.R0 (mz hf) PX (cb f2) hok.1 hok.2.1 hok.2.2.1 hok.2.2.2) eT ei eb ea s3 nB nA hd hD pD fr hL' hD' hU';exact q2 hok F' H' (gr.old s1) (fun y o hy hn=>fr' y o (s1 y o hy) hn) B'
theorem uA (T:Txt K w mg t):aS P w K mg base (dU P w) (0+5) t.iQ t.nr ["book","values"] (gj (cs t) "follow"):=by
 have ir:=kD P base T;refine T.fN.wO cf ?_ ?_
 x_go
 obtain⟨x,l,F,vw,ps,fs,cm,ys,rfl,hh,hl,pa,ok,B,ft,hlen,q⟩:=h;refine aG (af (dD (pv 1) (K4 rfl (aK (i5 2 cf.nd) (aK (i5 3 cf.nd) (aK (i5 4 cf.nd) (aK (i5 5 cf.nd) (aK (i5 6 cf.nd) cV))))))) (af (aO (bK (X:=(nQ T.fN.1 cf (dU P w) P w mg base cdv A outer s H E)) (pv 0) T.aJ T.dP.me ir (eR hr) T.l8 .nil (fun _ _ z=>Or.inl z) (aa (pv 2) (aa (pv 3) (aa (pv 4) (aa (pv 5) (aa (pv 6) ag))))))) (ah (ar ax)))) ?_;cases cm with
 |follow n ld lt sl tn =>
  obtain rfl:ys=[.str n,.str ld,.int lt,.int sl,.bl tn]:=by
   cases pa with
   |cons e1 r=>cases r with
    |cons e2 r=>cases r with
     |cons e3 r=>cases r with
      |cons e4 r=>cases r with
       |cons e5 r=>cases r;cases e1;cases e2;cases e3;cases e4;cases e5;rfl
  obtain⟨dx,L,D,U,hx⟩:=f6 B;have n8:=(jy (ok (.nm n) (mem_cons_self ..))).2;obtain⟨no,⟨ss,Ct⟩,tk⟩:=ft;refine⟨_,rfl,l,_,rfl,aL.of hl,rfl,_,_,rfl,_,_,rfl,_,_,rfl,_,_,rfl,_,_,rfl,rfl,?_⟩;refine⟨_,rfl,x,dx,_,rfl,hx,lx _ _ _,_,rfl,_,rfl,_,rfl,_,rfl,_,rfl,?_⟩;refine⟨x,F,vw,ps,fs,n,ld,lt,sl,tn,rfl,B,by omega,by omega,?_⟩;rw[no,Ct];exact⟨fun z=>absurd tk z,fun _ F' H' gr fr b=>q F' H' gr fr (fun z=>absurd z Bool.false_ne_true) b⟩
 |_=>exact absurd hh (by show ¬ Str.ofString _=_;decide +kernel)
inductive gQ (c:Cs)(vs:List V)(H:Hp)(Q:VK)(E:XK):Prop
 |mk (i n:Int) (cH:vs=[.int i,.int n]) (cI:((0<=i/\i<=n->Q .non H)/\(¬(0<=i/\i<=n)->RX E c .rA H))):gQ c vs H Q E
theorem gR (T:Txt K w mg t):aS P w K mg base (dU P w) (0+1) t.hI t.hV ["at","last"] (gQ (cs t)):=by
 refine T.ba.wO gG ?_ ?_
 x_go
 obtain⟨i,n,rfl,q1,q2⟩:=h;refine aG (ah (aM (dq (nZ lj lj ak (pv 0) (pv 1))) (ah (eh (X:=(nQ T.ba.1 gG (dU P w) P w mg base cdv A outer s H E)) (fun _ _ z=>z) rfl T.FP.exc rfl T.yv (aa ax ag))) aA)) ?_;refine⟨_,rfl,_,_,rfl,rfl,_,rfl,?_⟩;refine aP (fun h0=>?_) (fun h0=>?_)
 ·refine⟨_,rfl,_,_,rfl,rfl,_,rfl,?_⟩;refine aP (fun h=>?_) (fun h=>?_)
  ·have h':(!decide (i<=n))=true:=h;have q:=q2 fun z=>by rw[decide_eq_true z.2]at h';cases h'
   exact⟨by show 1<=sizeLine;decide,q.2⟩
  ·have h':¬(!decide (i<=n))=true:=h;refine q1 ⟨of_decide_eq_true h0,?_⟩
   by_cases z:i<=n
   ·exact z
   ·exact absurd (by rw[decide_eq_false z];rfl) h'
 ·have q:=q2 fun z=>h0 (decide_eq_true z.1);exact⟨_,rfl,gx ⟨by show 1<=sizeLine;decide,q.2⟩⟩
inductive HW (vs:List V)(H:Hp)(Q:VK)(E:XK):Prop
 |mk (p:Addr) (s:Sn) (cH:vs=[.ref p]) (cI:H p=some (.tup [.str s.1,.int s.2])) (dh:Q (.bl (iX s)) H):HW vs H Q E
theorem HX (T:Txt K w mg t):aS P w K mg base fk (0+1) t.Lw t.Lx ["sign"] HW:=by
 refine T.FK.ok Ca ?_ ?_
 x_go
 obtain⟨p,s,rfl,hp,q⟩:=h;unfold iX at q;refine aG (af (dD (pv 0) (ff rfl (aK (i5 1 Ca.nd) (aK (i5 2 Ca.nd) cV)))) (af (aM (au (bA.or bx) (pv 1) (aX (v:=.ref t.dM) rfl T.ie rfl) rfl) (ah (ar (C2 lj lj ak (pv 2) (aX (v:=.int 99) rfl T.yx ⟨_,rfl⟩)))) aA) (ah (ar (bX (gp (a9 (bA.or bx) (pv 1) (aX (v:=.ref t.gK) rfl T.o7 rfl) rfl) (fQ (a9 (bo.or (aU (aE hr))) (pv 2) ak (aD _))))))))) ?_;refine⟨_,rfl,_,_,rfl,fc.of hp,rfl,_,_,rfl,_,_,rfl,rfl,_,rfl,.inl ⟨_,_,rfl,.inr (T.ik _),rfl,rfl,_,rfl,?_⟩⟩;refine aP (fun h=>?_) (fun h=>?_)
 ·rw[if_pos (show inV (.str s.1) oB=true from h)]at q;refine⟨_,rfl,_,_,rfl,rfl,_,rfl,?_⟩;refine aP (fun h2=>?_) (fun h2=>?_)
  ·rw[if_pos h2]at q;exact⟨_,_,rfl,rfl,q⟩
  ·rw[if_neg h2]at q;exact q
 ·rw[if_neg (show ¬ inV (.str s.1) oB=true from h)]at q;refine⟨fun v H'=>v=.bl (if inV (V.str s.fst) iy=true then decide (s.snd=0) else false)/\H'=H,?_,fun _ _ ⟨e1,e2⟩=>by rw[e1,e2];exact q⟩;refine⟨_,rfl,.inl ⟨_,_,rfl,.inr (T.jK _),rfl,rfl,_,rfl,?_⟩⟩;refine aP (fun h2=>?_) (fun h2=>?_)
  ·rw[if_pos (show inV (.str s.1) iy=true from h2)];refine⟨_,rfl,.inl ⟨rfl,?_⟩⟩;rw[dF];exact⟨rfl,rfl⟩
  ·rw[if_neg (show ¬ inV (.str s.1) iy=true from h2)];exact⟨rfl,rfl⟩
inductive jR (c:Cs)(vs:List V)(H:Hp)(Q:VK)(E:XK):Prop
 |mk (p:Addr) (s:Sn) (cH:vs=[.ref p]) (cI:H p=some (.tup [.str s.1,.int s.2])) (dh:((iX s=true->Q .non H)/\(iX s=false->RX E c .rq H))):jR c vs H Q E
theorem jS (T:Txt K w mg t):aS P w K mg base (dU P w) (0+2) t.ki t.kj ["sign"] (jR (cs t)):=by
 have FY:=HX P base T;refine T.bI.wO jA ?_ ?_
 x_go
 obtain⟨p,g,rfl,hp,q1,q2⟩:=h;refine aG (ah (aM (dq (a8 (eC T.FK FY hr (aa (pv 0) ag)))) (ah (eh (X:=(nQ T.bI.1 jA (dU P w) P w mg base cdv A outer s H E)) (fun _ _ z=>z) rfl T.yL.exc rfl T.yw (aa ax ag))) aA)) ?_;refine⟨_,rfl,p,g,rfl,hp,_,rfl,?_⟩;cases hg:iX g with
 |true=>exact ck (q1 hg)
 |false =>
  have q:=q2 hg;exact gx ⟨by show 1<=sizeLine;decide,q.2⟩
inductive En (vs:List V)(H:Hp)(Q:VK)(E:XK):Prop
 |mk (p:Addr) (s:Sg) (cH:vs=[.ref p]) (cI:H p=some (.tup [.str s.1.str,.int s.2])) (dh:Q (.bl s.1.small) H):En vs H Q E
theorem Nt (k:Kd):inV (.str k.str) [.str "s",.str "d",.str "r"]=k.small:=by cases k <;> decide +kernel
theorem Eo (T:Txt K w mg t):aS P w K mg base fk (0+1) t.Hy t.Hz ["sign"] En:=by
 refine T.Cp.ok Ls ?_ ?_
 x_go
 obtain⟨p,s,rfl,hp,q⟩:=h;rw[<-Nt]at q;refine aG (ah (ar (a9 (bA.or bx) (eD (pv 0)) (aX (v:=.ref t.kS) rfl T.zw rfl) rfl))) ?_;tm_up;exact .inl ⟨_,_,rfl,.inr (T.zy _),rfl,rfl,q⟩
theorem FZ (ks:List Kd)(p met:Nat):cD ks (p+1) met=if(if(ks.getD p .dot).small=true then met else met+1)=2 then p else cD ks p (if(ks.getD p .dot).small=true then met else met+1):=rfl
inductive yS (K:Frag)(vs:List V)(H:Hp)(Q:VK)(E:XK):Prop
 |mk (l:Addr) (xs:List V) (ss:List Sg) (i:Nat) (cH:vs=[.ref l,.int (i:Int)]) (cI:aL K H l xs) (dh:gn H xs ss) (fJ:ss.length<=200) (jh:i<=ss.length) (zL:Q (.int (cD (aR ss) i 0:Nat)) H):yS K vs H Q E
theorem F1 (T:Txt K w mg t):aS P w K mg base fk (0+2) t.Au t.Av ["line","at"] (yS K):=by
 have Cu:=Eo P base T;refine T.AX.ok mD ?_ ?_
 x_go
 obtain⟨l,xs,ss,i,rfl,hS,g,hl,hi,q⟩:=h;refine aG (af (ed 2 mD.nd ak) (af (fg PassesOwn.never rfl (IJ rfl T.gM (aa (aH dZ (pv 1) ak) (aa (J3 ET ak) (aa (J3 ET ak) ag)))) (i5 3 mD.nd) (af (jq (aM (dq (a8 (eC T.Cp Cu hr (aa (bp a7 (pv 0) (pv 3) (fun _ _=>rfl)) ag)))) (ah (OP (i:=2) mD.nd rfl (Or.inl rfl) ak OQ)) aA)) (ah (aM (au (bo.or (aU (aE hr))) (pv 2) ak (aD _)) (ah (ar (pv 3))) aA)))) (ah (ar ak)))) ?_;tm_up;have xl:=bF g;refine⟨(i:Int)-1,-1,rfl,⟨by omega,by omega,by omega,by omega⟩,KS (fun j σ H'=>∃(met:Nat)(v:Option V),σ=[some (.ref l),some (.int (i:Int)),some (.int (met:Int)),v]/\H'=H/\met<2/\cD (aR ss) i 0=cD (aR ss) (i-j) met) ⟨0,none,rfl,rfl,by decide,rfl⟩ ?_ ?_⟩
 ·rintro j σ H1 hj ⟨met,v,rfl,eH,hm2,hgo⟩;have eH:=eH.symm;subst eH;obtain⟨sg,hsg⟩:∃ sg,ss[i-1-j]? = some sg:=⟨_,getElem?_eq_getElem (by omega)⟩;have hk:(aR ss).getD (i-1-j) .dot=sg.1:=by rw[List.getD_eq_getElem?_getD,getElem?_map,hsg];rfl
  have hij:i-j=(i-1-j)+1:=by omega
  refine⟨fun σ H'=>σ=[some (.ref l),some (.int (i:Int)),some (.int ((if sg.1.small=true then met else met+1:Nat):Int)),some (.int ((i:Int)-1-(j:Int)))]/\H'=H,?_,?_⟩
  ·tm_up;refine wj hS g (n:=i-1-j) (by omega) hsg fun b hb=>?_;refine⟨b,sg,rfl,hb,?_⟩;refine⟨_,rfl,?_⟩;refine aP (fun hc=>?_) (fun hc=>?_)
   ·have hc':sg.1.small=false:=by simpa using hc
    rw[hc'];tm_up;exact⟨by simp,rfl⟩
   ·have hc':sg.1.small=true:=by simpa using hc
    rw[hc'];exact⟨rfl,rfl⟩
  ·rintro _ H1 ⟨rfl,eH⟩;have eH:=eH.symm;subst eH;tm_up;have LP:cD (aR ss) i 0=if(if sg.1.small=true then met else met+1)=2 then i-1-j else cD (aR ss) (i-1-j) (if sg.1.small=true then met else met+1):=by
    rw[hgo,hij,FZ,hk]
   have hle:(if sg.1.small=true then met else met+1)<=2:=by split <;> omega
   generalize (if sg.1.small=true then met else met+1)=PY at LP hle;refine aP (fun hc=>?_) (fun hc=>?_)
   ·have e2:PY=2:=by have:=V.int.inj (of_decide_eq_true hc);omega
    rw[if_pos e2]at LP;refine⟨_,rfl,?_⟩;rw[LP]at q;have:((i:Int)-1-(j:Int))=((i-1-j:Nat):Int):=by omega
    rw[this];exact q
   ·have e2:¬ PY=2:=fun z=>hc (decide_eq_true (congrArg V.int (by omega)));rw[if_neg e2]at LP;exact⟨PY,_,rfl,rfl,by omega,by rw[LP];congr 1;omega⟩
 ·rintro σ H1 ⟨met,v,rfl,eH,hm2,hgo⟩;have eH:=eH.symm;subst eH;have:cD (aR ss) i 0=0:=by
   rw[hgo];have e:i-(↑i-1 - -1:Int).toNat=0:=by omega
   rw[e];rfl
  rw[this]at q;exact q
inductive v5 (K:Frag)(vs:List V)(H:Hp)(Q:VK)(E:XK):Prop
 |mk (l kp:Addr) (xs:List V) (ss:List Sg) (i:Nat) (wide:Bool) (cH:vs=[.ref l,.int (i:Int),.ref kp]) (cI:aL K H l xs) (dh:gn H xs ss) (fJ:ss.length<=200) (jh:fc K H kp (Fv wide)) (zL:i<=ss.length) (Jz:Q (.int (fG (aR ss) i wide:Nat)) H):v5 K vs H Q E
theorem Ep (T:Txt K w mg t):aS P w K mg base fk (0+1) t.yc t.yd ["line","first","kinds"] (v5 K):=by
 refine T.yD.ok vb ?_ ?_
 x_go
 obtain⟨l,kp,xs,ss,i,wide,rfl,hS,g,hl,hT,hi,q⟩:=h;refine aG (af (fg PassesOwn.never rfl (zK rfl T.gM (aa (pv 1) (aa (aI (aB.or aC) rfl T.bu br (aa (pv 0) ag)) ag))) (i5 3 vb.nd) (ah (aM (au (bA.or bx) (bp a7 (bp a7 (pv 0) (pv 3) (fun _ _=>rfl)) ak (fun _ _=>rfl)) (pv 2) rfl) (ah (ar (pv 3))) aA))) (ah (ar (aI (aB.or aC) rfl T.bu br (aa (pv 0) ag))))) ?_;have xl:=bF g;tm_up;refine .inl ⟨l,xs,rfl,.inl hS,?_⟩;refine⟨(i:Int),(xs.length:Int),rfl,⟨by omega,by omega,by omega,by omega⟩,lg (fun j σ H'=>∃(v:Option V),σ=[some (.ref l),some (.int (i:Int)),some (.ref kp),v]/\H'=H/\∀ m x,m<j->(aR ss)[i+m]? = some x->oG wide x=false) ⟨none,rfl,rfl,fun m x hm=>by omega⟩ ?_ ?_⟩
 ·rintro j σ H1 hj ⟨v,rfl,eH,hno⟩;have eH:=eH.symm;subst eH;obtain⟨sg,hsg⟩:∃ sg,ss[i+j]? = some sg:=⟨_,getElem?_eq_getElem (by omega)⟩;tm_up;refine wj hS g (n:=i+j) (by omega) hsg fun b hb=>?_;tm_up;refine .inl ⟨kp,_,rfl,.inr hT,rfl,by cases wide <;> rfl,_,rfl,?_⟩;have hk:(aR ss)[i+j]? = some sg.1:=by rw[getElem?_map,hsg];rfl
  rw[Lf];refine aP (fun hc=>?_) (fun hc=>?_)
  ·rw[Hm hno hk hc]at q;refine⟨_,rfl,?_⟩;have e:((i+j:Nat):Int)=(i:Int)+(j:Int):=by omega
   rw[e]at q;exact q
  ·refine⟨_,rfl,rfl,fun m x hm hx=>?_⟩;rcases Nat.lt_or_ge m j with z|z
   ·exact hno m x z hx
   ·have e:m=j:=by omega
    subst e;rw[hk]at hx;cases hx
    simpa using hc
 ·rintro σ H1 ⟨v,rfl,eH,hno⟩;have eH:=eH.symm;subst eH;refine⟨_,rfl,.inl ⟨l,_,rfl,.inl hS,?_⟩⟩;have kl:(aR ss).length=ss.length:=length_map ..;rw[DC (by omega) fun m x hx=>hno m x (by have:=(List.getElem?_eq_some_iff.mp hx).1;omega) hx,kl,<-xl]at q;exact q
inductive nH (vs:List V)(H:Hp)(Q:VK)(E:XK):Prop
 |mk (p:Addr) (s:Sg) (cH:vs=[.ref p]) (cI:H p=some (.tup [.str s.1.str,.int s.2])) (dh:Q (.bl s.1.meas) H):nH vs H Q E
theorem PZ (k:Kd):inV (.str k.str) [.str "3",.str "2"]=k.meas:=by cases k <;> decide +kernel
theorem nI (T:Txt K w mg t):aS P w K mg base fk (0+1) t.oS t.oT ["sign"] nH:=by
 refine T.jI.ok wm ?_ ?_
 x_go
 obtain⟨p,s,rfl,hp,q⟩:=h;rw[<-PZ]at q;refine aG (ah (ar (a9 (bA.or bx) (eD (pv 0)) (aX (v:=.ref t.fM) rfl T.nE rfl) rfl))) ?_;tm_up;exact .inl ⟨_,_,rfl,.inr (T.nF _),rfl,rfl,q⟩
inductive A1 (K:Frag)(vs:List V)(H:Hp)(Q:VK)(E:XK):Prop
 |mk (l ch:Addr) (xs cx:List V) (ss cs:List Sg) (i b:Nat) (cH:vs=[.ref l,.int (i:Int),.int (b:Int),.ref ch]) (cI:aL K H l xs) (dh:gn H xs ss) (fJ:ss.length<=200) (jh:i<=ss.length) (zL:b<=ss.length) (Jz:aL K H ch cx) (Nq:gn H cx cs) (Nr:cs.length<=100) (Tj:∀(p:Addr)(H':Hp),aq H H'->H' p=some (.tup (Lg ss i b cs))->Q (.ref p) H'):A1 K vs H Q E
theorem A2 (T:Txt K w mg t):aS P w K mg base fk (0+3) t.DQ t.DR ["line","at","behind","changed"] (A1 K):=by
 have JC:=F1 P base T;have F4:=Ep P base T;have jT:=nI P base T;refine T.yE.ok Ak ?_ ?_
 x_go
 obtain⟨l,ch,xs,cx,ss,cs,i,b,rfl,hS,g,hl,hi,hb,hC,gc,hcl,q⟩:=h;refine aG (af (ed 4 Ak.nd (bX (dC (a8 (aI xp rfl T.FH Fd (aa (dz (cn:=["sign"]) rfl (bL.of rfl) (cW (pv 3)) (fun _=>(bQ (i:=0) DP rfl (Or.inl rfl))) (fun _=>fh) (fun _=>(eC T.jI jT hr (aa (pv 0) ag)))) ag))) (aX (v:=.ref t.fM) rfl T.nE rfl) (aX (v:=.ref t.iS) rfl T.wz rfl)))) (ah (ar (dr (aa (eC T.AX JC hr (aa (pv 0) (aa (pv 1) ag))) (aa (eC T.yD F4 hr (aa (pv 0) (aa (pv 2) (aa (pv 4) ag)))) ag)))))) ?_;have cl:=bF gc;refine⟨fun v H'=>∃ kp,v=.ref kp/\(∀ A3 ,fc K A3 kp (Fv (cs.any fun s=>s.1.meas)))/\aq H H',?_,?_⟩
 ·refine⟨_,rfl,ch,rfl,⟨_,hC⟩,fun D b2 hD=>?_⟩;refine dG (K:=K) (xs:=cx) (fun ii ys σ H'=>∃ v,σ=[v,some (.ref l),some (.int (i:Int)),some (.int (b:Int)),some (.ref ch),none]/\H'=upd H D (.lst ys)/\ys=((cs.take ii).map fun s=>s.1.meas).map V.bl) ⟨none,rfl,rfl,rfl⟩ ?_ ?_ ?_
  ·rintro ii ys σ H' ⟨v,rfl,rfl,_⟩;exact cY hC hD
  ·rintro ii ys x σ H' hx ⟨v,rfl,rfl,rfl⟩ N hN;obtain⟨sg,e1,p,rfl,hp⟩:=ou gc hx;have ZF:ii<cs.length:=(List.getElem?_eq_some_iff.mp e1).1;refine bZ ?_;refine⟨_,rfl,p,sg,rfl,(by rw[ai (ao hp hD)];exact hp),ae,?_,?_⟩
   ·rw[length_map,length_map,length_take];exact aF (by omega)
   ·refine hN _ _ _ ⟨_,rfl,bH,?_⟩;rw[take_succ,e1];simp
  ·rintro ys σ H' ⟨v,rfl,rfl,rfl⟩;refine⟨rfl,D,_,rfl,aL.of ae,_,rfl,?_⟩;rw[cl,take_length,List.any_map];refine aP (fun hc=>?_) (fun hc=>?_)
   ·have e:(cs.any fun s=>s.1.meas)=true:=hc;refine⟨_,rfl,fun A3=>?_,aq.upd hD⟩;rw[e];exact T.nF A3
   ·have e:(cs.any fun s=>s.1.meas)=false:=by
     cases z:(cs.any fun s=>s.1.meas) with
     |false=>rfl
     |true=>exact absurd z hc
    refine⟨_,rfl,fun A3=>?_,aq.upd hD⟩;rw[e];exact T.wB A3
 ·rintro _ H1 ⟨kp,rfl,hk,s1⟩;refine⟨_,rfl,_,rfl,l,xs,ss,i,rfl,s1.seq hS,g.same s1,hl,hi,?_⟩;refine⟨_,rfl,_,rfl,_,rfl,l,kp,xs,ss,b,_,rfl,s1.seq hS,g.same s1,hl,hk _,hb,?_⟩;refine⟨by show 2<=sizeLine;decide,fun p hp=>q p _ (s1.trans (aq.upd hp)) ae⟩
inductive v7 (c:Cs)(vs:List V)(H:Hp)(Q:VK)(E:XK):Prop
 |mk (x:Addr) (F:Addr->Prop) (vw:Vw) (ps fs:List Vw) (n:Str) (i:Int) (p:Addr) (sn:Sn) (cH:vs=[.ref x,.str n,.int i,.ref p]) (cI:pZ c H x F vw ps fs) (dh:H p=some (.tup [.str sn.1,.int sn.2])) (fJ:ps.length<=900) (jh:match aZ vw n with
 |none=>RX E c .gD H
 |some (.cn _ _ _ _)=>RX E c .ly H
 |some (.pl ss)=>(¬(0<=i/\i<=(ss.length:Int))->RX E c .rA H)/\((0<=i/\i<=(ss.length:Int))->iX sn=false->RX E c .rq H)/\((0<=i/\i<=(ss.length:Int))->iX sn=true->200<=ss.length->RX E c .Full H) /\
  ((0<=i/\i<=(ss.length:Int))->iX sn=true->ss.length<200->∀(s:Sg)(w:Addr) F' H',s.1.str=sn.1->s.2=sn.2->H' w=some (.tup (Lg (ss.take i.toNat++[s]++ss.drop i.toNat) i.toNat (i.toNat+1) [s]))->Gr F F' H->Fr F H H'->pZ c H' x F' (fF vw n (.pl (ss.take i.toNat++[s]++ss.drop i.toNat))) (ps++[vw]) []->Q (.ref w) H')):v7 c vs H Q E
theorem v8 (T:Txt K w mg t):aS P w K mg base (dU P w) (0+4) t.ye t.yf ["self","name","at","sign"] (v7 (cs t)):=by
 have eE:=gR P base T;have gS:=jS P base T;have cT:=fP P base T;have yT:=A2 P base T;have cU:=fi P base T;have cG:=fb P base T;refine T.d7.wO gf ?_ ?_
 x_go
 obtain⟨x,F,vw,ps,fs,n,iz,p,sn,rfl,B,hp,hps,q⟩:=h;refine aG (af (ed 4 gf.nd (a6 (bK (X:=(nQ T.d7.1 gf (dU P w) P w mg base cdv A outer s H E)) (pv 0) T.aJ T.bj.me cU (eR hr) T.bj.b .nil (fun _ _ z=>Or.inl z) (aa (pv 1) ag)) rfl)) (af (aO (oj (X:=(nQ T.d7.1 gf (dU P w) P w mg base cdv A outer s H E)) eE (eR hr) rfl T.ba.g T.ba.kp T.ba.b .nil (fun _ _ z=>Or.inl z) (aa (pv 2) (aa (aI (aB.or aC) rfl T.bu br (aa (pv 4) ag)) ag)))) (af (aO (oj (X:=(nQ T.d7.1 gf (dU P w) P w mg base cdv A outer s H E)) gS (eR hr) rfl T.bI.g T.bI.kp T.bI.b .nil (fun _ _ z=>Or.inl z) (aa (pv 3) ag))) (af (aM (au NS (aI (aB.or aC) rfl T.bu br (aa (pv 4) ag)) (aX (v:=.int 200) rfl T.Cn ⟨_,rfl⟩) (aD _)) (ah (eh (X:=(nQ T.d7.1 gf (dU P w) P w mg base cdv A outer s H E)) (fun _ _ z=>z) rfl T.HS.exc rfl T.Cj (aa ax ag))) aA) (af (aO (cz (pv 0) T.aJ T.bS.me cT (eR hr) T.bS.b .nil cC (aa (pC T.bM.Oq cG (eR hr) rfl T.wW T.bM.b .nil cC (aa (pv 4) (aa (pv 2) (aa (bq ag) (aa (bq (aa (pv 3) ag)) ag))))) ag))) (ah (ar (eC T.yE yT hr (aa (pv 4) (aa (pv 2) (aa (aH (aV.or (ay.or aW)) (pv 2) ak) (aa (bq (aa (pv 3) ag)) ag)))))))))))) ?_;obtain⟨L,D,U,all,M,Ps,Fs,es,us,b,iM,pp,pf,f⟩:=B.ex;obtain⟨dx,hx⟩:=b.hx;obtain⟨vx,g,gv⟩:=b.oy iM;obtain⟨ds,hD,pD⟩:=b.hD;obtain⟨ux,hU,pU⟩:=b.hU;have dl:=bF pD;have pl:=bF pp;have pe:=b.past.len;refine⟨_,rfl,x,dx,_,rfl,hx,fW _ _ _,_,rfl,x,dx,L,D,U,M L,vx,n,rfl,hx,b.hL,g,?_⟩;rcases xP gv (fun _ _ r=>r.2.1) n with ⟨f1,f2⟩|⟨a,th,j,f1,f2,r,an,fj,fw⟩
 ·rw[f1];rw[f2]at q;exact q
 rw[f1];rw[f2]at q;subst an;cases th with
 |cn ld lt sl tn =>
  obtain⟨pt,Ov,_⟩:=r.2.2;refine⟨fun z=>?_,fun _ _=>q,.inr ⟨pt,Ov⟩⟩;rw[Ov]at z;cases z
 |pl ss =>
  obtain⟨Hl,hg⟩:=r.2.2;obtain⟨q1,q2,q3,q4⟩:=q;have haa:=r.1;obtain⟨ha,hl⟩:=b.ha a haa;have yl:=bF hg;have hj:(M L)[j]? = some (.ref a.o):=by
   obtain⟨v,hv,e1,_⟩:=j2 g fj;rw[<-e1];exact hv
  refine⟨fun _=>?_,(fun pz z=>by rw[Hl]at z;cases z),.inl Hl⟩;refine⟨a.o,_,a.d,_,_,rfl,ha,T.dQ,T.eW,pK _ _ _,?_⟩;refine⟨_,rfl,_,rfl,.inl ⟨a.l,M a.l,rfl,.inl (aL.of hl),?_⟩⟩;refine⟨iz,((M a.l).length:Int),rfl,fun hi=>?_,fun hi=>?_⟩
  rotate_left
  ·have q:=q1 (by rw[<-yl];exact hi);exact q
  rw[yl]at hi;refine⟨_,rfl,p,sn,rfl,hp,fun hgd=>?_,fun hgd=>?_⟩
  rotate_left
  ·have q:=q2 hi hgd;exact q
  refine⟨_,rfl,.inl ⟨a.l,M a.l,rfl,.inl (aL.of hl),?_⟩⟩;refine⟨_,_,rfl,rfl,_,rfl,?_⟩;refine aP (fun h=>?_) (fun h=>?_)
  ·have h':=of_decide_eq_true h;have q:=q3 hi hgd (by omega);exact⟨by show 1<=sizeLine;decide,q.2⟩
  have hlt:ss.length<200:=by
   rcases Nat.lt_or_ge ss.length 200 with z|z
   ·exact z
   ·exact absurd (decide_eq_true (by omega)) h
  obtain⟨sg,e1,e2,gt⟩:=BO hgd;rw[<-e1,<-e2]at hp;obtain⟨i,rfl⟩:∃ i:Nat,iz=(i:Int):=⟨iz.toNat,by omega⟩;have hi:i<=ss.length:=by omega
  have q4:=q4 (by omega) hgd hlt sg;rw[Int.toNat_natCast]at q4;refine⟨_,rfl,x,dx,_,rfl,hx,gC _ _ _,?_⟩;refine⟨_,rfl,_,rfl,big (by show 0<=1000;omega),fun B' hB=>?_⟩;refine⟨_,rfl,big (by show 1<=1000;omega),fun A_ hA=>?_⟩;have JT:=wV hA;have sB:=(aq.upd (o:=.lst []) hB).trans (aq.upd (o:=.lst [V.ref p]) hA);have hB2:=aq.upd (o:=.lst [V.ref p]) hA _ _ (ae (H:=H) (a:=B') (o:=.lst []));have FX:=ae (H:=upd H B' (.lst [])) (a:=A_) (o:=.lst [V.ref p]);have lA:a.l≠A_:=ao hl JT;generalize upd (upd H B' (.lst [])) A_ (.lst [V.ref p])=H2 at sB hB2 FX;intro d dd nd Mm ne;refine⟨d,dd,a.l,(i:Int),B',A_,rfl,ae,rfl,?_⟩;rw[bH];have s3:aq H2 (upd (upd H2 dd (.own d)) d (.ins t.cg dd (xF a.l (i:Int) B' A_))):=fun y o hy=>by
   rw[ai (ao hy nd),ai (ao hy Mm)];exact hy
  have we:=ae (H:=upd H2 dd (.own d)) (a:=d) (o:=.ins t.cg dd (xF a.l (i:Int) B' A_));generalize upd (upd H2 dd (.own d)) d (.ins t.cg dd (xF a.l (i:Int) B' A_))=H3 at s3 we;have s4:=sB.trans s3;obtain⟨_,d1,d2⟩:=b.lists (.inr ⟨a,haa,rfl⟩);refine⟨x,dx,L,D,U,d,dd,a.l,B',A_,i,ds,ux,M a.l,[],[.ref p],rfl,s4 _ _ hx,s4 _ _ hD,s4 _ _ hU,we,s4 _ _ hl,s3 _ _ hB2,s3 _ _ FX,lA,d1,d2,b.DU,by simp;omega,by simp;omega,by omega,?_⟩;have hM:ox ⟨d,dd,a.l,i,B',A_,[],[.ref p]⟩ M a.l=(M a.l).take i++[.ref p]++(M a.l).drop (i+0):=eP;have keep:∀ y o,H3 y=some o->y≠a.l->y≠D->y≠U->(upd (upd (upd H3 a.l (.lst ((M a.l).take i++[.ref p]++(M a.l).drop (i+0)))) D (.lst (ds++[.ref d]))) U (.lst [])) y=some o:=fun y o hy y1 y2 y3=>by
   rw[ai y3,ai y2,ai y1];exact hy
  have k1:(upd (upd (upd H3 a.l (.lst ((M a.l).take i++[.ref p]++(M a.l).drop (i+0)))) D (.lst (ds++[.ref d]))) U (.lst [])) a.l=some (.lst ((M a.l).take i++[.ref p]++(M a.l).drop (i+0))):=by
   rw[ai d2,ai d1,ae]
  have k2:(upd (upd (upd H3 a.l (.lst ((M a.l).take i++[.ref p]++(M a.l).drop (i+0)))) D (.lst (ds++[.ref d]))) U (.lst [])) D=some (.lst (ds++[.ref d])):=by
   rw[ai b.DU,ae]
  have k3:(upd (upd (upd H3 a.l (.lst ((M a.l).take i++[.ref p]++(M a.l).drop (i+0)))) D (.lst (ds++[.ref d]))) U (.lst [])) U=some (.lst []):=ae;generalize (upd (upd (upd H3 a.l (.lst ((M a.l).take i++[.ref p]++(M a.l).drop (i+0)))) D (.lst (ds++[.ref d]))) U (.lst []))=H4 at keep k1 k2 k3;have g3:=hg.same s4;have Sf:gn H3 ((M a.l).take i++[.ref p]++(M a.l).drop (i+0)) (ss.take i++[sg]++ss.drop i):=rg (rg (rj i g3) (.cons ⟨p,rfl,s4 _ _ hp⟩ .nil)) (rh i g3);obtain⟨F',gr,fr,B4⟩:=Bk.Ol b iM pp f B.wv haa hj fw Hl (e:=⟨d,dd,a.l,i,B',A_,[],[.ref p]⟩) rfl ⟨by simp;omega,by simp⟩ (by simp) (by simp) s4 hB JT ⟨rfl,we,s3 _ _ hB2,s3 _ _ FX⟩ (by rw[hM];exact Sf) (by simp;omega) (fun s hs=>by
   have wg:=((B.wv vw (.inr (.inl rfl))).gd _ _ (mem_of_getElem? fw)).2;rcases mem_append.mp hs with hs|hs
   ·rcases mem_append.mp hs with hs|hs
    ·exact wg s (List.mem_of_mem_take hs)
    ·rw[mem_singleton.mp hs];exact gt
   ·exact wg s (List.mem_of_mem_drop hs)) hD pD keep (by rw[hM];exact k1) k2 k3
  have nT:∀{y us},H3 y=some (.tup us)->H4 y=some (.tup us):=fun {y us} hy=>keep y _ hy (fm hy (s4 _ _ hl) (by intro z;cases z)) (fm hy (s4 _ _ hD) (by intro z;cases z)) (fm hy (s4 _ _ hU) (by intro z;cases z));have Va:gn H4 ((M a.l).take i++[.ref p]++(M a.l).drop (i+0)) (ss.take i++[sg]++ss.drop i):=bR (fun _ _ ⟨z,e1,e2⟩=>⟨z,e1,nT e2⟩) Sf;refine⟨_,rfl,_,rfl,_,rfl,.inl ⟨_,_,rfl,rfl,_,rfl,big (by show 1<=1000;omega),fun lc Vb=>?_⟩⟩;have sc:=aq.upd (o:=.lst [V.ref p]) Vb;refine⟨a.l,lc,_,[.ref p],ss.take i++[sg]++ss.drop i,[sg],i,i+1,rfl,aL.of (sc _ _ k1),Va.same sc,by simp;omega,by simp;omega,by simp;omega,aL.of ae,.cons ⟨p,rfl,sc _ _ (nT (s4 _ _ hp))⟩ .nil,by simp,fun w H5 s5 Vc=>?_⟩;have s6:=sc.trans s5;exact q4 w F' H5 e1 e2 Vc gr (fun y o hy hn=>s6 _ _ (fr y o hy hn)) (B4.same s6)
theorem F6 (ss:List Sg)(i b:Nat)(ch:List Sg)(hi:i<=ss.length)(hb:b<=ss.length):cD (aR ss) i 0<=ss.length/\fG (aR ss) b (ch.any fun s=>s.1.meas)<=ss.length:=by
 have l1:∀(ks:List Kd)(p met:Nat),cD ks p met<=p:=by
  intro ks p
  induction p with
  |zero=>intro met;exact Nat.le_refl _
  |succ p ih =>
   intro met;show(if(if(ks.getD p .dot).small=true then met else met+1)=2 then p else cD ks p (if(ks.getD p .dot).small=true then met else met+1))<=p+1;generalize (if(ks.getD p .dot).small=true then met else met+1)=m;split
   ·exact Nat.le_succ _
   ·exact Nat.le_succ_of_le (ih m)
 refine⟨Nat.le_trans (l1 _ _ _) hi,?_⟩;unfold fG;have h1:((List.drop b (aR ss)).takeWhile fun k=>!oG (ch.any fun s=>s.1.meas) k).length<=(List.drop b (aR ss)).length:=(List.takeWhile_sublist _).length_le;have h2:(List.drop b (aR ss)).length=ss.length-b:=by rw[length_drop];exact congrArg (· - b) (length_map ..)
 omega
theorem zC (T:Txt K w mg t):aS P w K mg base (dU P w) (0+5) t.mK t.rY ["book","values"] (gj (cs t) "put"):=by
 have qR:=v8 P base T;refine T.jd.wO dw ?_ ?_
 x_go
 obtain⟨x,l,F,vw,ps,fs,cm,ys,rfl,hh,hl,pa,ok,B,ft,hlen,q⟩:=h;refine aG (af (dD (pv 1) (K4 rfl (aK (i5 2 dw.nd) (aK (i5 3 dw.nd) (aK (i5 4 dw.nd) cV))))) (af (dD (bK (X:=(nQ T.jd.1 dw (dU P w) P w mg base cdv A outer s H E)) (pv 0) T.aJ T.d7.me qR (eR hr) T.d7.b .nil (fun _ _ z=>Or.inl z) (aa (pv 2) (aa (pv 3) (aa (pv 4) ag)))) (ff rfl (aK (i5 5 dw.nd) (aK (i5 6 dw.nd) cV)))) (ah (ar (q9 (bN gy (bN (jn (pv 5)) (bN gy (bN (jn (pv 6)) q8))))))))) ?_;cases cm with
 |put n i sg =>
  obtain⟨p,rfl,hp⟩:∃ p,ys=[.str n,.int i,.ref p]/\H p=some (.tup [.str sg.1.str,.int sg.2]):=by
   cases pa with
   |cons e1 r=>cases r with
    |cons e2 r=>cases r with
     |cons e3 r=>cases r;cases e1;cases e2;obtain⟨p,e,hp⟩:=e3;exact⟨p,by rw[e],hp⟩
  obtain⟨dx,L,D,U,hx⟩:=f6 B;obtain⟨ss,hf,hi,Nu⟩:=ft;have gd:gb sg:=ok (.sg sg) (mem_cons_of_mem _ (mem_cons_of_mem _ (mem_cons_self ..)));refine⟨_,rfl,l,_,rfl,aL.of hl,rfl,_,_,rfl,_,_,rfl,_,_,rfl,rfl,?_⟩;refine⟨_,rfl,x,dx,_,rfl,hx,xK _ _ _,_,rfl,_,rfl,_,rfl,?_⟩;refine⟨x,F,vw,ps,fs,n,(i:Int),p,(sg.1.str,sg.2),rfl,B,hp,by omega,?_⟩;rw[hf];have gg:=rB gd;refine⟨(fun z=>absurd ⟨by omega,by omega⟩ z),(fun _ z=>by rw[gg]at z;cases z),(fun _ _ z=>by omega),fun _ _ _ s9 w F9 H9 e1 e2 hw gr fr b=>?_⟩;have es:s9=sg:=Prod.ext (str_inj.mp e1) e2;subst es;rw[Int.toNat_natCast]at hw b;refine⟨w,_,rfl,fc.of hw,rfl,_,_,rfl,_,_,rfl,rfl,?_⟩;have q1:=q F9 H9 gr fr (fun z=>absurd z Bool.false_ne_true) (by show pZ _ _ _ _ (fF vw n (.pl (putL (cR vw n) i s9))) _ _;rw[gF hf];exact b);have pl:(ss.take i++[s9]++ss.drop i).length=ss.length+1:=by simp;omega
  obtain⟨b1,b2⟩:=F6 (ss.take i++[s9]++ss.drop i) i (i+1) [s9] (by omega) (by omega);have q2:Q (.str ("ok " ++ iY (cD (aR (ss.take i++[s9]++ss.drop i)) i 0:Nat) ++ " " ++ iY (fG (aR (ss.take i++[s9]++ss.drop i)) (i+1) ([s9].any fun s=>s.1.meas):Nat))) H9:=by
   have e:Ja (putL (cR vw n) i s9) i (i+1) [s9] = "ok " ++ iY (cD (aR (ss.take i++[s9]++ss.drop i)) i 0:Nat) ++ " " ++ iY (fG (aR (ss.take i++[s9]++ss.drop i)) (i+1) ([s9].any fun s=>s.1.meas):Nat):=by rw[gF hf];rfl
   rw[<-e];exact q1
  generalize cD (aR (ss.take i++[s9]++ss.drop i)) i 0=lo at b1 q2 ⊢;generalize fG (aR (ss.take i++[s9]++ss.drop i)) (i+1) ([s9].any fun s=>s.1.meas)=hi2 at b2 q2 ⊢;have f4:(Str.ofString (toString (lo:Int))).length<=3:=DD (by omega) (by omega);have f5:(Str.ofString (toString (hi2:Int))).length<=3:=DD (by omega) (by omega);have e6:(Str.ofString "ok ").length=3:=by lk
  have e1:(Str.ofString " ").length=1:=by lk
  have e0:Str.empty.length=0:=by lk
  have big:∀{n:Nat},n<=3000->n<=sizeLine:=fun h=>Nat.le_trans h (by decide);refine⟨?_,_,rfl,.inr ⟨_,rfl,BR (by omega) (by omega),?_,?_,_,rfl,.inr ⟨_,rfl,BR (by omega) (by omega),?_,?_,?_⟩⟩⟩
  all_goals try (refine big ?_;(try simp only [PySem.Str.length_append]);omega)
  rw[PySem.Str.empty_append];exact q2
 |_=>exact absurd hh (by show ¬ Str.ofString _=_;decide +kernel)
inductive sQ (C:Addr)(vs:List V)(H:Hp)(Q:VK)(E:XK):Prop
 |mk (x dx T_ B A:Addr) (i:Nat) (xs bs as:List V) (cH:vs=[.ref x]) (cI:H x=some (.ins C dx (xF T_ (i:Int) B A))) (dh:H T_=some (.lst xs)) (fJ:H B=some (.lst bs)) (jh:H A=some (.lst as)) (zL:T_≠B) (Jz:i+as.length<=xs.length) (Nq:xs.length+bs.length<=1000) (Nr:Q .non (upd H T_ (.lst (xs.take i++bs++xs.drop (i+as.length))))):sQ C vs H Q E
theorem jf (T:Txt K w mg t):aS P w K mg base fk (0+1) t.vi t.vj ["self"] (sQ t.cg):=by
 refine T.pb.ok Cb ?_ ?_
 x_go
 obtain⟨x,dx,T_,B,A_,i,xs,bs,as,rfl,hx,hT,hB,hA,hne,hi,hz,q⟩:=h;refine aG (ah (dD (a6 (pv 0) rfl) (Dl (a6 (pv 0) rfl) (cX (a6 (pv 0) rfl)) (cX (aH (aV.or (ay.or aW)) (a6 (pv 0) rfl) (aI (aB.or aC) rfl T.bu br (aa (a6 (pv 0) rfl) ag))))))) ?_;refine⟨_,rfl,x,_,dx,_,_,rfl,hx,T.dB,T.jN,xH _ _ _ _,?_⟩;refine⟨_,rfl,x,_,dx,_,_,rfl,hx,T.dB,T.jL,xG _ _ _ _,?_⟩;refine⟨_,rfl,x,_,dx,_,_,rfl,hx,T.dB,T.jM,BJ _ _ _ _,_,rfl,?_⟩;refine⟨_,rfl,x,_,dx,_,_,rfl,hx,T.dB,T.jM,BJ _ _ _ _,?_⟩;refine⟨_,rfl,x,_,dx,_,_,rfl,hx,T.dB,T.kW,zZ _ _ _ _,?_⟩;refine .inl ⟨A_,as,rfl,.inl (aL.of hA),.inl ⟨_,_,rfl,rfl,_,rfl,?_⟩⟩;refine⟨T_,B,xs,bs,(i:Int),((i+as.length:Nat):Int),rfl,rfl,rfl,by simp,hT,hB,hne,by omega,by omega,by omega,Nat.le_trans hz (by decide),?_⟩;rw[Int.toNat_natCast,Int.toNat_natCast];exact q
inductive sR (c:Cs)(vs:List V)(H:Hp)(Q:VK)(E:XK):Prop
 |mk (x:Addr) (F:Addr->Prop) (vw:Vw) (ps fs:List Vw) (cH:vs=[.ref x]) (cI:pZ c H x F vw ps fs) (dh:ps.length+fs.length<=900) (fJ:(ps=[]->∀ H',aq H H'->RX E c .qD H')) (jh:(∀ IZ v,ps=IZ++[v]->∀ H',Fr F H H'->pZ c H' x F v IZ (fs++[vw])->Q .non H')):sR c vs H Q E
theorem mP (T:Txt K w mg t):aS P w K mg base (dU P w) (0+2) t.vk t.vm ["self"] (sR (cs t)):=by
 have kG:=jf P base T;refine T.cO.wO mF ?_ ?_
 x_go
 obtain⟨x,F,vw,ps,fs,rfl,B,hps,q1,q2⟩:=h;refine aG (af (aM (au (KP (aE hr)) (a6 (pv 0) rfl) (bq ag) (aD _)) (ah (eh (X:=(nQ T.cO.1 mF (dU P w) P w mg base cdv A outer s H E)) (fun _ _ z=>z) rfl T.Jv.exc rfl T.AS (aa ax ag))) aA) (af (ed 1 mF.nd (Kj plainAttrs_list PySem.F.slot_list_pop PySem.F.type_list_pop O1 (a6 (pv 0) rfl))) (af (aO (gq (pv 1) T.dB T.pb.me kG (eR hr) T.pb.b .nil cC)) (ah (aO (ef plainAttrs_list slot_list_append type_list_append bB (a6 (pv 0) rfl) (aa (pv 1) ag))))))) ?_;obtain⟨L,D,U,all,M,Ps,Fs,es,us,b,iM,pp,pf,f⟩:=B.ex;obtain⟨dx,hx⟩:=b.hx;obtain⟨ds,hD,pD⟩:=b.hD;have dl:=bF pD;have pl:=bF pp;have pe:=b.past.len;refine⟨_,rfl,x,_,dx,_,_,rfl,hx,T.aJ,T.je,xI _ _ _,big (by show 0<=1000;omega),fun e0 Ow=>?_⟩;have s0:=aq.upd (o:=.lst []) Ow;refine⟨D,e0,ds,rfl,rfl,aL.of (s0 _ _ hD),aL.of ae,_,rfl,?_⟩;generalize upd H e0 (.lst [])=H0 at s0;refine aP (fun h=>?_) (fun h=>?_)
 ·have hds:ds=[]:=List.isEmpty_iff.mp h;rw[hds]at dl;have hp0:ps=[]:=List.length_eq_zero_iff.mp (by rw[<-pl,pe,<-dl];rfl);have q:=q1 hp0 H0 s0;exact⟨by show 1<=sizeLine;decide,q.2⟩
 have hne:ds≠[]:=fun z=>h (by rw[z];rfl);obtain⟨QC,v,rfl⟩:∃ QC v,ds=QC++[v]:=⟨ds.dropLast,ds.getLast hne,(List.dropLast_concat_getLast hne).symm⟩;obtain⟨U4,e,he,U3,hd⟩:=Fo pD;have Yt:=hd.1;subst Yt;have B0:=B.same s0;have b0:=b.kept f (.same s0);have hd0:jX t.cg H0 (.ref e.o) e:=ia (F:=fun _=>True) (.same s0) ⟨trivial,trivial⟩ hd;have ok:=b.dd e (.inl (by rw[he];exact mem_append_right _ (List.mem_singleton_self _)));obtain⟨hT,TD,TU⟩:=b0.lists ok.1;have Yu:e.T≠e.B:=by
  rcases ok.1 with z|⟨a,ha,z⟩
  ·rw[z];exact Ne.symm ok.2.1.1
  ·rw[z];exact Ne.symm (ok.2.1.2.2.2 a ha)
 obtain⟨Ya,S,_,_,ft,Yv⟩:=(he ▸ b.past).last;have fit:e.i+e.as.length<=(M e.T).length:=by rw[Yv];exact M6 ft
 have hx0:=s0 _ _ hx;have Mi:=s0 _ _ hD;obtain⟨ux,Hk,pU⟩:=b0.hU;have Yw:(M e.T).length<=200:=by
  rcases ok.1 with z|⟨a,ha,z⟩
  ·rw[z];exact Nat.le_trans (b.wf M (.inr (.inl rfl))).len (by decide)
  ·rw[z];exact((b.wf M (.inr (.inl rfl))).ln a ha).1
 refine⟨_,rfl,x,_,dx,_,_,rfl,hx0,T.aJ,T.je,xI _ _ _,?_⟩;refine⟨.inl ⟨rfl,_,aL.of Mi⟩,D,QC++[V.ref e.o],V.ref e.o,rfl,rfl,Mi,by simp,?_⟩;rw[List.dropLast_concat];have nD:∀{y C d fs},H0 y=some (.ins C d fs)->y≠D:=fun hy=>fm hy Mi (by intro z;cases z);have nT:∀{y C d fs},H0 y=some (.ins C d fs)->y≠e.T:=fun hy=>fm hy hT (by intro z;cases z);have r1:∀{y o},H0 y=some o->y≠D->upd H0 D (.lst QC) y=some o:=fun hy hn=>by rw[ai hn];exact hy
 refine⟨_,rfl,e.o,e.d,_,rfl,r1 hd0.2.1 (nD hd0.2.1),Dx _ _ _ _,?_⟩;refine⟨e.o,e.d,e.T,e.B,e.A,e.i,M e.T,e.bs,e.as,rfl,r1 hd0.2.1 (nD hd0.2.1),r1 hT TD,r1 hd0.2.2.1 ok.2.1.2.1,r1 hd0.2.2.2 ok.2.2.1.2.1,Yu,fit,by have:=ok.2.2.2.1;omega,?_⟩;have r2:∀{y o},H0 y=some o->y≠D->y≠e.T->upd (upd H0 D (.lst QC)) e.T (.lst ((M e.T).take e.i++e.bs++(M e.T).drop (e.i+e.as.length))) y=some o:=fun hy hn hn'=>by rw[ai hn',ai hn];exact hy
 refine⟨_,rfl,x,_,dx,_,_,rfl,r2 hx0 (nD hx0) (nT hx0),T.aJ,T.jO,xJ _ _ _,?_⟩;have Wf:=r2 Hk (Ne.symm b.DU) (Ne.symm TU);have ul:=bF pU;have fl:=bF pf;have fe:=b.fut.len;refine⟨.inl ⟨rfl,_,aL.of Wf⟩,_,rfl,U,_,_,rfl,rfl,Wf,aF (by omega),?_⟩;obtain⟨IZ,v,e1,B2⟩:=Bk.Pw b0 (Is.kept (F:=F) (.same s0) iM) (bR (fun _ _ q=>Is.kept (F:=F) (.same s0) q) pp) (bR (fun _ _ q=>Is.kept (F:=F) (.same s0) q) pf) f B.wv he (my (fun _ e' _ q=>ia (F:=fun _=>True) (.same s0) ⟨trivial,trivial⟩ q) U3) hd0 pU
  (H2:=upd (upd (upd H0 D (.lst QC)) e.T (.lst ((M e.T).take e.i++e.bs++(M e.T).drop (e.i+e.as.length)))) U (.lst (ux++[.ref e.o]))) (fun y o hy y1 y2 y3=>by rw[ai y3];exact r2 hy y2 y1) (by rw[ai TU,ae];exact congrArg (fun z=>some (HO.lst z)) eP.symm) (by rw[ai b.DU,ai (Ne.symm TD),ae]) ae
 refine q2 IZ v e1 _ (fun y o hy hn=>?_) B2;have fT:F e.T:=by
  rcases ok.1 with z|⟨a,ha,z⟩
  ·rw[z];exact f.L
  ·rw[z];exact f.l a ha
 rw[ai (show y≠U from fun z=>hn (z ▸ f.U))];exact r2 (s0 _ _ hy) (fun z=>hn (z ▸ f.D)) (fun z=>hn (z ▸ fT))
theorem yU (T:Txt K w mg t):aS P w K mg base (dU P w) (0+3) t.kQ t.qf ["book","values"] (gj (cs t) "undo"):=by
 have kG:=jf P base T;have gk:=mP P base T;refine T.iC.wO oM ?_ ?_
 x_go
 obtain⟨x,l,F,vw,ps,fs,cm,ys,rfl,hh,hl,pa,ok,B,ft,hlen,q⟩:=h;refine aG (af (aO (IH (X:=(nQ T.iC.1 oM (dU P w) P w mg base cdv A outer s H E)) (pv 0) T.aJ T.cO.me gk (eR hr) T.cO.b .nil (fun _ _ z=>Or.inl z))) (ah (ar ax))) ?_;cases cm with
 |undo =>
  obtain⟨dx,L,D,U,hx⟩:=f6 B;refine⟨_,rfl,x,dx,_,rfl,hx,j6 _ _ _,?_⟩;refine⟨x,F,vw,ps,fs,rfl,B,hlen,fun e=>?_,fun IZ v e H' fr b=>?_⟩
  ·subst e;exact q
  ·subst e;unfold Cm.PN at q;rw[List.getLast?_concat,List.dropLast_concat]at q;exact q F H' (Gr.refl _ _) fr (fun z=>absurd z Bool.false_ne_true) b
 |_=>exact absurd hh (by show ¬ Str.ofString _=_;decide +kernel)
inductive A4 (vs:List V)(H:Hp)(Q:VK)(E:XK):Prop
 |mk (p:Addr) (s:Sg) (cH:vs=[.ref p]) (cI:H p=some (.tup [.str s.1.str,.int s.2])) (dh:Q (.bl s.1.cK) H):A4 vs H Q E
theorem JD (k:Kd):inV (.str k.str) [.str "G",.str "D",.str "s",.str "d"]=k.cK:=by cases k <;> decide +kernel
theorem JE (T:Txt K w mg t):aS P w K mg base fk (0+1) t.DS t.DT ["sign"] A4:=by
 refine T.Eg.ok Jb ?_ ?_
 x_go
 obtain⟨p,s,rfl,hp,q⟩:=h;rw[<-JD]at q;refine aG (ah (ar (a9 (bA.or bx) (eD (pv 0)) (aX (v:=.ref t.dM) rfl T.ie rfl) rfl))) ?_;tm_up;exact .inl ⟨_,_,rfl,.inr (T.ik _),rfl,rfl,q⟩
inductive qr (vs:List V)(H:Hp)(Q:VK)(E:XK):Prop
 |mk (p:Addr) (s:Sg) (cH:vs=[.ref p]) (cI:H p=some (.tup [.str s.1.str,.int s.2])) (dh:gb s) (fJ:Q (.str (bO s)) H):qr vs H Q E
theorem zD (T:Txt K w mg t):aS P w K mg base (dU P w) (0+2) t.rZ t.r6 ["sign"] qr:=by
 have LQ:=JE P base T;have FY:=HX P base T;refine T.gO.wO iA ?_ ?_
 x_go
 obtain⟨p,g,rfl,hp,gt,q⟩:=h;refine aG (af (aM (dq (a8 (eC T.FK FY hr (aa (pv 0) ag)))) (ah (eh (X:=(nQ T.gO.1 iA (dU P w) P w mg base cdv A outer s H E)) (fun _ _ z=>z) rfl T.yL.exc rfl T.yw (aa ax ag))) aA) (af (dD (pv 0) (ff rfl (aK (i5 1 iA.nd) (aK (i5 2 iA.nd) cV)))) (af (aM (a8 (eC T.Eg LQ hr (aa (pv 0) ag))) (ah (ar (q9 (bN (jn (pv 1)) (bN (jn (pv 2)) q8))))) aA) (ah (ar (pv 1)))))) ?_;refine⟨_,rfl,p,(g.1.str,g.2),rfl,hp,_,rfl,?_⟩;rw[rB gt];have wl:=lH gt;unfold bO at q wl;refine ck ⟨_,rfl,_,_,rfl,fc.of hp,rfl,_,_,rfl,_,_,rfl,rfl,_,rfl,p,g,rfl,hp,_,rfl,?_⟩;refine aP (fun h=>?_) (fun h=>?_)
 ·rw[if_pos h]at q wl;have hn:=gt.1 h;have big:∀{n:Nat},n<=4->n<=sizeLine:=fun h=>Nat.le_trans h (by decide);have k1:=BQ g.1;refine⟨_,rfl,.inl ⟨_,rfl,big (by omega),?_,_,rfl,.inr ⟨_,rfl,z9 hn.1 hn.2,?_,?_,?_⟩⟩⟩
  all_goals rw[PySem.Str.empty_append]
  ·exact big (by omega)
  ·exact big (Nat.le_succ_of_le wl)
  ·exact big (Nat.le_succ_of_le wl)
  ·exact q
 ·rw[if_neg h]at q;exact⟨_,rfl,q⟩
inductive qt (c:Cs)(vs:List V)(H:Hp)(Q:VK)(E:XK):Prop
 |mk (x:Addr) (F:Addr->Prop) (vw:Vw) (ps fs:List Vw) (n:Str) (cH:vs=[.ref x,.str n]) (cI:pZ c H x F vw ps fs) (dh:match aZ vw n with
 |none=>RX E c .gD H
 |some (.pl _)=>Q .non H
 |some (.cn ld lt sl tn)=>∀ p,H p=some (.tup [.str ld,.int lt,.int sl,.bl tn])->Q (.ref p) H):qt c vs H Q E
theorem kZ (T:Txt K w mg t):aS P w K mg base (dU P w) (0+2) t.r9 t.sd ["self","name"] (qt (cs t)):=by
 have bc:=cy P base T;refine T.dm.wO qb ?_ ?_
 x_go
 obtain⟨x,F,vw,ps,fs,n,rfl,B,q⟩:=h;refine aG (ah (ar (a6 (bK (X:=(nQ T.dm.1 qb (dU P w) P w mg base cdv A outer s H E)) (pv 0) T.aJ T.aQ.me bc (eR hr) T.aQ.b .nil (fun _ _ z=>Or.inl z) (aa (pv 1) ag)) rfl))) ?_;obtain⟨L,D,U,all,M,Ps,Fs,es,us,b,iM,pp,pf,f⟩:=B.ex;obtain⟨dx,hx⟩:=b.hx;obtain⟨vx,g,gv⟩:=b.oy iM;refine⟨_,rfl,x,dx,_,rfl,hx,cJ _ _ _,_,rfl,x,dx,L,D,U,M L,vx,n,rfl,hx,b.hL,g,?_⟩;rcases xP gv (fun _ _ r=>r.2.1) n with ⟨f1,f2⟩|⟨a,th,j,f1,f2,r,an,fj,fw⟩
 ·rw[f1];rw[f2]at q;exact q
 rw[f1];rw[f2]at q;refine⟨a.o,_,a.d,_,_,rfl,(b.ha a r.1).1,T.dQ,T.eV,pJ _ _ _,?_⟩;cases th with
 |pl ss=>rw[r.2.2.1];exact q
 |cn ld lt sl tn =>
  obtain⟨p,e1,e2⟩:=r.2.2;rw[e1];exact q p e2
theorem LR (k:Kd):(([(Str.ofString "3",V.str "2"),(Str.ofString "2",V.str "3")]:List (Str×V)).lookup k.str).getD (.str k.str)=.str (xM k).str:=by cases k <;> decide +kernel
inductive A5 (K:Frag)(vs:List V)(H:Hp)(Q:VK)(E:XK):Prop
 |mk (l:Addr) (xs:List V) (ss:List Sg) (cH:vs=[.ref l]) (cI:aL K H l xs) (dh:gn H xs ss) (fJ:ss.length<=400) (jh:∀(f:Addr)(ys:List V)(H':Hp),aq H H'->H f=none->H' f=some (.lst ys)->gn H' ys (ss.map jv)->Q (.ref f) H'):A5 K vs H Q E
theorem A6 (T:Txt K w mg t):aS P w K mg base fk (0+1) t.DV t.DW ["line"] (A5 K):=by
 refine T.yF.ok Jc ?_ ?_
 x_go
 obtain⟨l,xs,ss,rfl,hS,hg,hn,q⟩:=h;refine aG (ah (ar (dz (cn:=["kind","tone"]) rfl (bL.of rfl) (cW (pv 0)) (fun _=>(ff rfl (aK (bQ (i:=0) vd rfl (Or.inl rfl)) (aK (bQ (i:=1) vd rfl (Or.inl rfl)) cV)))) (fun _=>fh) (fun _=>(dr (aa (KL (aX (v:=.ref t.jF) rfl T.yy rfl) (pv 0) (pv 0)) (aa (pv 1) ag))))))) ?_;tm_up;refine⟨⟨xs,hS⟩,fun D b hD=>?_⟩;refine dG (K:=K) (xs:=xs) (fun i ys σ H'=>∃(v w:Option V),σ=[v,w,some (.ref l)]/\aq H H'/\H' D=some (.lst ys)/\gn H' ys ((ss.take i).map jv))
  ⟨none,none,rfl,aq.upd hD,ae,.nil⟩ ?_ ?_ ?_
 ·rintro i ys σ H' ⟨v,w,rfl,s2,_⟩;exact s2.seq hS
 ·rintro i ys x σ H' hx ⟨v,w,rfl,s2,yO,hsg⟩ N hN;obtain⟨s,hs,p,rfl,hp⟩:=ou hg hx;have hi:i<ss.length:=(List.getElem?_eq_some_iff.mp hs).1;refine⟨p,_,rfl,fc.of (s2 _ _ hp),rfl,_,_,rfl,_,_,rfl,rfl,?_⟩;refine⟨_,_,rfl,T.wC,?_⟩;tm_up;rw[LR];refine⟨by show 2<=sizeLine;decide,fun z hz=>?_⟩;have sz:=aq.upd (o:=.tup [.str (xM s.1).str,.int s.2]) hz;have Vd:=sz _ _ yO;refine⟨Vd,?_,?_⟩
  ·rw[bF hsg,length_map,length_take];exact aF (by omega)
  ·refine hN _ _ _ ⟨_,_,rfl,cZ (s2.trans sz) hD,ae,?_⟩;rw[take_succ,hs,map_append];exact gZ (K7 Vd (hsg.same sz)) (K6 Vd ⟨z,rfl,ae⟩)
 ·rintro ys σ H' ⟨v,w,rfl,s2,yO,hsg⟩;rw[bF hg,take_length]at hsg;exact q D ys H' s2 hD yO hsg
inductive qu (c:Cs)(vs:List V)(H:Hp)(Q:VK)(E:XK):Prop
 |mk (x:Addr) (F:Addr->Prop) (vw:Vw) (ps fs:List Vw) (n:Str) (ss:List Sg) (cH:vs=[.ref x,.str n]) (cI:pZ c H x F vw ps fs) (dh:aZ vw n=some (.pl ss)) (fJ:∀(l:Addr)(ys:List V)(H':Hp),H l=none->aq H H'->H' l=some (.lst ys)->gn H' ys ss->Q (.ref l) H'):qu c vs H Q E
theorem zE (T:Txt K w mg t):aS P w K mg base (dU P w) (0+3) t.oU t.oV ["self","name"] (qu (cs t)):=by
 have gT:=kZ P base T;have yV:=A6 P base T;have bc:=cy P base T;refine T.bf.wO aY ?_ ?_
 x_go
 obtain⟨x,F,vw,ps,fs,n,ss,rfl,B,hf,q⟩:=h;refine aG (af (ed 2 aY.nd (bK (X:=(nQ T.bf.1 aY (dU P w) P w mg base cdv A outer s H E)) (pv 0) T.aJ T.dm.me gT (eR hr) T.dm.b .nil (fun _ _ z=>Or.inl z) (aa (pv 1) ag))) (af (aM (au xi (pv 2) h8 (aD _)) (ah (ar (bT q0 rfl T.mM mv (aa (a6 (bK (X:=(nQ T.bf.1 aY (dU P w) P w mg base cdv A outer s H E)) (pv 0) T.aJ T.aQ.me bc (eR hr) T.aQ.b .nil (fun _ _ z=>Or.inl z) (aa (pv 1) ag)) rfl) ag)))) aA) (af (dD (pv 2) (ff rfl (aK (i5 3 aY.nd) (aK (i5 4 aY.nd) (aK (i5 5 aY.nd) (aK (i5 6 aY.nd) cV)))))) (af (ed 7 aY.nd KU) (ah (ar (bX (dC (a8 (pv 6)) (eC T.yF yV hr (aa (pv 7) ag)) (pv 7))))))))) ?_;obtain⟨L,D,U,all,M,Ps,Fs,es,us,b,iM,pp,pf,f⟩:=B.ex;obtain⟨dx,hx⟩:=b.hx;obtain⟨vx,g,gv⟩:=b.oy iM;refine⟨_,rfl,x,dx,_,rfl,hx,mx _ _ _,_,rfl,x,F,vw,ps,fs,n,rfl,B,?_⟩;rw[hf];refine⟨_,rfl,rfl,_,rfl,?_⟩;refine aP (fun _=>?_) (fun h=>absurd (by decide) h);refine⟨_,rfl,x,dx,_,rfl,hx,cJ _ _ _,_,rfl,x,dx,L,D,U,M L,vx,n,rfl,hx,b.hL,g,?_⟩;rcases xP gv (fun _ _ r=>r.2.1) n with ⟨f1,f2⟩|⟨a,th,j,f1,f2,r,an,fj,fw⟩
 ·rw[f2]at hf;cases hf
 rw[f1];rw[f2]at hf;cases hf;refine⟨a.o,_,a.d,_,_,rfl,(b.ha a r.1).1,T.dQ,T.eW,pK _ _ _,?_⟩;refine⟨_,_,rfl,.inl (aL.of (b.ha a r.1).2),fun l hl=>?_⟩;exact q l _ _ hl (aq.upd hl) ae (r.2.2.2.same (aq.upd hl))
inductive sS (c:Cs)(vs:List V)(H:Hp)(Q:VK)(E:XK):Prop
 |mk (x:Addr) (F:Addr->Prop) (vw:Vw) (ps fs:List Vw) (n:Str) (cH:vs=[.ref x,.str n]) (cI:pZ c H x F vw ps fs) (dh:match aZ vw n with
 |none=>RX E c .gD H
 |some _=>∀(l:Addr)(ys:List V)(H':Hp),H l=none->aq H H'->H' l=some (.lst ys)->gn H' ys (cR vw n)->Q (.ref l) H'):sS c vs H Q E
theorem mQ (T:Txt K w mg t):aS P w K mg base (dU P w) (0+4) t.oU t.oV ["self","name"] (sS (cs t)):=by
 have Cv:=zE P base T;have gT:=kZ P base T;have yV:=A6 P base T;have bc:=cy P base T;refine T.bf.wO aY ?_ ?_
 x_go
 obtain⟨x,F,vw,ps,fs,n,rfl,B,q⟩:=h;refine aG (af (ed 2 aY.nd (bK (X:=(nQ T.bf.1 aY (dU P w) P w mg base cdv A outer s H E)) (pv 0) T.aJ T.dm.me gT (eR hr) T.dm.b .nil (fun _ _ z=>Or.inl z) (aa (pv 1) ag))) (af (aM (au xi (pv 2) h8 (aD _)) (ah (ar (bT q0 rfl T.mM mv (aa (a6 (bK (X:=(nQ T.bf.1 aY (dU P w) P w mg base cdv A outer s H E)) (pv 0) T.aJ T.aQ.me bc (eR hr) T.aQ.b .nil (fun _ _ z=>Or.inl z) (aa (pv 1) ag)) rfl) ag)))) aA) (af (dD (pv 2) (ff rfl (aK (i5 3 aY.nd) (aK (i5 4 aY.nd) (aK (i5 5 aY.nd) (aK (i5 6 aY.nd) cV)))))) (af (ed 7 aY.nd (bK (X:=(nQ T.bf.1 aY (dU P w) P w mg base cdv A outer s H E)) (pv 0) T.aJ T.bf.me Cv (eR hr) T.bf.b .nil (fun _ _ z=>Or.inl z) (aa (pv 3) ag))) (ah (ar (bX (dC (a8 (pv 6)) (eC T.yF yV hr (aa (pv 7) ag)) (pv 7))))))))) ?_;obtain⟨L,D,U,all,M,Ps,Fs,es,us,b,iM,pp,pf,f⟩:=B.ex;obtain⟨dx,hx⟩:=b.hx;obtain⟨vx,g,gv⟩:=b.oy iM;have wv:=B.wv vw (.inr (.inl rfl));refine⟨_,rfl,x,dx,_,rfl,hx,mx _ _ _,_,rfl,x,F,vw,ps,fs,n,rfl,B,?_⟩;cases hf:aZ vw n with
 |none =>
  rw[hf]at q;exact q
 |some th =>
  rw[hf]at q;cases th with
  |pl ss =>
   refine⟨_,rfl,rfl,_,rfl,?_⟩;refine aP (fun _=>?_) (fun h=>absurd (by decide) h);refine⟨_,rfl,x,dx,_,rfl,hx,cJ _ _ _,_,rfl,x,dx,L,D,U,M L,vx,n,rfl,hx,b.hL,g,?_⟩;rcases xP gv (fun _ _ r=>r.2.1) n with ⟨f1,f2⟩|⟨a,th,j,f1,f2,r,an,fj,fw⟩
   ·rw[f2]at hf;cases hf
   rw[f1];rw[f2]at hf;cases hf;refine⟨a.o,_,a.d,_,_,rfl,(b.ha a r.1).1,T.dQ,T.eW,pK _ _ _,?_⟩;refine⟨_,_,rfl,.inl (aL.of (b.ha a r.1).2),fun l hl=>?_⟩;exact q l _ _ hl (aq.upd hl) ae (by rw[gF f2];exact r.2.2.2.same (aq.upd hl))
  |cn ld lt sl tn =>
   intro p hp;refine⟨_,rfl,rfl,_,rfl,?_⟩;refine aP (fun h=>by have:=of_decide_eq_true h;cases this) (fun _=>?_);obtain⟨⟨ss,Ct⟩,_⟩:=wv.ld n ld lt sl tn (cb hf);have hfl:=wv.find Ct;have gl:=(wv.gd _ _ Ct).1;rw[lD hf hfl]at q;refine⟨_,rfl,p,_,rfl,fc.of hp,rfl,_,_,rfl,_,_,rfl,_,_,rfl,_,_,rfl,rfl,?_⟩;refine⟨_,rfl,x,dx,_,rfl,hx,iI _ _ _,_,rfl,x,F,vw,ps,fs,ld,ss,rfl,B,hfl,fun l ys H1 hl s1 h1 g1=>?_⟩;refine⟨fun v H'=>∃ l' ys',v=.ref l'/\H l'=none/\aq H H'/\H' l'=some (.lst ys')/\gn H' ys' (if tn=true then ss.map jv else ss),?_,?_⟩
   ·refine⟨_,rfl,_,rfl,?_⟩;cases tn with
    |true =>
     refine gx ⟨_,rfl,l,ys,ss,rfl,aL.of h1,g1,by omega,fun f' ys' H2 s2 hf' h2 g2=>⟨f',ys',rfl,s1.free hf',s1.trans s2,h2,g2⟩⟩
    |false=>exact ck ⟨_,rfl,l,ys,rfl,hl,s1,h1,g1⟩
   ·rintro v H' ⟨l',ys',rfl,a1,a2,a3,a4⟩;exact q l' ys' H' a1 a2 a3 a4
theorem HY {vw:Vw}(w:pL vw){n:Str}{th:Th}(hf:aZ vw n=some th):(∀ s∈cR vw n,gb s)/\(cR vw n).length<=200:=by
 cases th with
 |pl ss =>
  rw[gF hf];exact⟨(w.gd _ _ (cb hf)).2,(w.gd _ _ (cb hf)).1⟩
 |cn ld lt sl tn =>
  obtain⟨⟨ss,Ct⟩,_⟩:=w.ld n ld lt sl tn (cb hf);rw[lD hf (w.find Ct)];have g:=w.gd _ _ Ct;split
  ·refine⟨fun s hs=>?_,by rw[length_map];exact g.1⟩;obtain⟨z,hz,rfl⟩:=mem_map.mp hs;have e:(jv z).1.cK=z.1.cK:=by
    show(xM z.1).cK=z.1.cK;generalize z.1=k;cases k <;> rfl
   exact⟨fun h=>(g.2 z hz).1 (e ▸ h),fun h=>(g.2 z hz).2 (e ▸ h)⟩
  ·exact⟨g.2,g.1⟩
theorem yW (T:Txt K w mg t):aS P w K mg base (dU P w) (0+5) t.kR t.qg ["book","values"] (gj (cs t) "line"):=by
 have Cw:=zD P base T;have gm:=mQ P base T;refine T.iD.wO oN ?_ ?_
 x_go
 obtain⟨x,l,F,vw,ps,fs,cm,ys,rfl,hh,hl,pa,ok,B,ft,hlen,q⟩:=h;refine aG (ah (ar (ef plainAttrs_str slot_str_join type_str_join wL ax (aa (aH (aV.or (ay.or aW)) (bq (aa ax ag)) (dz (cn:=["sign"]) rfl (bL.of rfl) (cW (bK (X:=(nQ T.iD.1 oN (dU P w) P w mg base cdv A outer s H E)) (pv 0) T.aJ T.bf.me gm (eR hr) T.bf.b .nil (fun _ _ z=>Or.inl z) (aa (eD (pv 1)) ag))) (fun _=>(bQ (i:=0) ui rfl (Or.inl rfl))) (fun _=>fh) (fun _=>(mn Cw (eR hr) rfl T.gO.g T.gO.kp T.gO.b .nil pT (aa (pv 0) ag))))) ag)))) ?_;cases cm with
 |line n =>
  obtain rfl:=LO pa;obtain⟨dx,L,D,U,hx⟩:=f6 B;obtain⟨th,hf⟩:=ft;have wv:=B.wv vw (.inr (.inl rfl));obtain⟨gd,LS⟩:=HY wv hf;have w3:=qF gd;refine⟨rfl,by show 1<=sizeLine;decide,fun d0 hd0=>?_⟩;have s0:=aq.upd (o:=.lst [V.str "ok"]) hd0;have h0:=ae (H:=H) (a:=d0) (o:=.lst [V.str "ok"]);generalize upd H d0 (.lst [V.str "ok"])=H0 at s0 h0;refine⟨_,rfl,x,dx,_,rfl,s0 _ _ hx,iI _ _ _,_,rfl,EO (aL.of (s0 _ _ hl)) (n:=0) rfl rfl ?_⟩;refine⟨x,F,vw,ps,fs,n,rfl,B.same s0,?_⟩;rw[hf];intro l1 ys H1 hl1 s1 h1 g1;have yl:=bF g1;have Sh:=s1 _ _ h0;have q:BU (cs t) x F H Q (fun H'=>RX E (cs t) .qD H') true (some (Str.join " " ("ok" :: (cR vw n).map bO),vw,ps,fs)):=q;generalize cR vw n=ss at gd LS w3 g1 yl q;refine⟨l1,rfl,⟨_,aL.of h1⟩,fun D b hD=>?_⟩;refine dG (K:=K) (xs:=ys) (fun i zs σ H'=>∃ v,σ=[v,some (.ref x),some (.ref l)]/\H'=upd H1 D (.lst zs)/\zs=((ss.take i).map bO).map V.str) ⟨none,rfl,rfl,by simp⟩ ?_ ?_ ?_
  ·rintro i zs σ H' ⟨v,rfl,rfl,rfl⟩;exact cY (aL.of h1) hD
  ·rintro i zs y σ H' hy ⟨v,rfl,rfl,rfl⟩ N hN;obtain⟨sg,e1,p,rfl,hp⟩:=ou g1 hy;have hi:i<ss.length:=(List.getElem?_eq_some_iff.mp e1).1;refine bZ ?_;refine⟨_,rfl,p,sg,rfl,(by rw[ai (ao hp hD)];exact hp),gd sg (mem_of_getElem? e1),ae,?_,?_⟩
   ·rw[length_map,length_map,length_take];exact aF (by omega)
   ·refine hN _ _ _ ⟨_,rfl,bH,?_⟩;rw[take_succ,e1];simp
  ·rintro zs σ H' ⟨v,rfl,rfl,rfl⟩;rw[yl,take_length];have hdD:(upd H1 D (.lst ((ss.map bO).map V.str))) d0=some (.lst [V.str "ok"]):=by rw[ai (ao Sh hD)];exact Sh
   refine .inr (.inr ⟨d0,D,_,_,rfl,rfl,hdD,ae,?_,fun c hc=>?_⟩)
   ·rw[length_map,length_map];exact Nat.le_of_lt (aF (by show 1+_<=_;omega))
   have sD:=aq.upd (o:=.lst ((ss.map bO).map V.str)) hD;generalize upd H1 D (.lst ((ss.map bO).map V.str))=H2 at hc sD;have s2:=((s0.trans s1).trans sD).trans (aq.upd (o:=.lst ([V.str "ok"]++(ss.map bO).map V.str)) hc);refine⟨_,c,"ok" :: ss.map bO,rfl,rfl,aL.of ae,?_,q F _ (Gr.refl _ _) (.same s2) (fun _=>s2) (B.same s2)⟩;have e:(Str.ofString " ").length=1:=by lk
   have e5:(Str.ofString "ok").length=2:=by lk
   simp only [map_cons,List.sum_cons,length_cons,length_map];rw[e,e5];omega
 |_=>exact absurd hh (by show ¬ Str.ofString _=_;decide +kernel)
inductive v9 (K:Frag)(vs:List V)(H:Hp)(Q:VK)(E:XK):Prop
 |mk (l:Addr) (b:Int) (xs:List V) (ss:List Sg) (cH:vs=[.ref l,.int b]) (cI:aL K H l xs) (dh:gn H xs ss) (fJ:ss.length<=400) (jh:∀(f:Addr)(H':Hp),aq H H'->H f=none->H' f=some (.lst ((eI b (aR ss)).map V.int))->Q (.ref f) H'):v9 K vs H Q E
theorem Si {k:Kd}(h:k.meas=true)(m:Int):intText? k.str=some (nm m k)/\k.str.length<=640:=by
 cases k <;> first|(cases h;done)|exact⟨by first|exact(show intText? Kd.three.str=some 3 by lk)|exact(show intText? Kd.two.str=some 2 by lk),by lk⟩
theorem P0 {k:Kd}(h:¬ k.meas=true)(m:Int):nm m k=m:=by
 cases k <;> first|rfl|exact absurd rfl h
theorem wa (T:Txt K w mg t):aS P w K mg base fk (0+2) t.yg t.qP ["line","begin"] (v9 K):=by
 have jT:=nI P base T;refine T.fZ.ok iJ ?_ ?_
 x_go
 obtain⟨l,b,xs,ss,rfl,hS,hg,hn,q⟩:=h;refine aG (af (ed 2 iJ.nd (bq ag)) (af (ed 3 iJ.nd (pv 1)) (af (fg PassesOwn.never rfl (cW (pv 0)) (i5 4 iJ.nd) (af (jq (aM (a8 (eC T.jI jT hr (aa (pv 4) ag))) (ah (ed 3 iJ.nd (bT (lp.or fq) rfl T.uo tW (aa (eD (pv 4)) ag)))) aA)) (ah (aO (ef plainAttrs_list slot_list_append type_list_append bB (pv 2) (aa (pv 3) ag)))))) (ah (ar (pv 2)))))) ?_;refine⟨big (by show 0<=1000;omega),fun f hf=>?_⟩;tm_up;refine⟨⟨xs,cY hS hf⟩,jj (K:=K) (xs:=xs) (fun i σ H'=>∃(m:Int)(v:Option V)(fs:List Int),σ=[some (.ref l),some (.int b),some (.ref f),some (.int m),v]/\H'=upd H f (.lst (fs.map V.int))/\fs++eI m ((aR ss).drop i)=eI b (aR ss))
  ⟨b,none,[],rfl,rfl,rfl⟩ ?_ ?_ ?_⟩
 ·rintro i σ H' _ ⟨m,v,fs,rfl,rfl,_⟩;exact cY hS hf
 ·rintro i x σ H' hx ⟨m,v,fs,rfl,rfl,hm⟩;obtain⟨s,hs,p,rfl,hp⟩:=ou hg hx;have hd:=i9 (ow (f:=Prod.fst) hs);rw[hd]at hm;have hp':upd H f (.lst (fs.map V.int)) p=some (.tup [.str s.1.str,.int s.2]):=by rw[ai (ao hp hf)];exact hp
  have hl:=congrArg List.length hm;simp only [length_append,eI,length_cons,tZ,length_map]at hl;refine KN [some (.ref l),some (.int b),some (.ref f),some (.int (nm m s.1)),some (.ref p)] (upd H f (.lst (fs.map V.int))) ?_ ?_
  ·refine⟨_,rfl,p,s,rfl,hp',_,rfl,?_⟩;refine aP (fun h=>?_) (fun h=>?_)
   ·obtain⟨e1,e2⟩:=Si h m;tm_up;exact .inr ⟨_,_,rfl,e1,e2,rfl,rfl⟩
   ·rw[P0 h];exact⟨rfl,rfl⟩
  ·tm_up;refine⟨.inl ⟨rfl,_,aL.of ae⟩,?_⟩;tm_up;refine⟨_,_,_,rfl,rfl,ae,by rw[length_map];exact aF (by omega),?_⟩;exact⟨_,_,fs++[nm m s.1],rfl,by rw[bH,map_append];rfl,by rw[List.append_assoc];exact hm⟩
 ·rintro σ H' ⟨m,v,fs,rfl,rfl,hm⟩;rw[List.drop_eq_nil_of_le (by rw[length_map,bF hg];exact Nat.le_refl _)]at hm;tm_up;have e:fs=eI b (aR ss):=by rw[<-hm];simp[eI]
  subst e;exact q f _ (aq.upd hf) hf ae
inductive yX (K:Frag)(vs:List V)(H:Hp)(Q:VK)(E:XK):Prop
 |mk (l:Addr) (i:Int) (xs:List V) (ss:List Sg) (cH:vs=[.ref l,.int i]) (cI:aL K H l xs) (dh:gn H xs ss) (fJ:Q (.str (j1 (BH (aR ss) i))) H):yX K vs H Q E
theorem mR (T:Txt K w mg t):aS P w K mg base fk (0+1) t.Aw t.Ax ["line","at"] (yX K):=by
 refine T.e8.ok FC ?_ ?_
 x_go
 obtain⟨l,i,xs,ss,rfl,hS,hg,q⟩:=h;have out:¬(0<=i/\i<ss.length)->BH (aR ss) i=none:=fun z=>by
  unfold BH;split
  ·exact List.getElem?_eq_none (by rw[length_map];omega)
  ·rfl
 refine aG (af (aM (nZ lj nY ak (pv 1) (aI (aB.or aC) rfl T.bu br (aa (pv 0) ag))) (ah (ar (bp a7 (bp a7 (pv 0) (pv 1) (fun _ _=>rfl)) ak (fun _ _=>rfl)))) aA) (ah (ar ax))) ?_;tm_up;refine aP (fun h0=>?_) (fun h0=>?_)
 ·have h0':=of_decide_eq_true h0;tm_up;refine .inl ⟨_,_,rfl,.inl hS,?_⟩;rw[bF hg];tm_up;refine aP (fun h1=>?_) (fun h1=>?_)
  ·have h1':=of_decide_eq_true h1;have hi:i.toNat<ss.length:=by omega
   have e:BH (aR ss) i=some (ss[i.toNat]).1:=by
    unfold BH;rw[if_pos h0',getElem?_map,getElem?_eq_getElem hi];rfl
   rw[e]at q;tm_up;refine wj hS hg (n:=i.toNat) (by omega) (getElem?_eq_getElem hi) fun b hb=>?_;tm_up;exact q
  ·rw[out fun z=>h1 (decide_eq_true z.2)]at q;exact q
 ·rw[out fun z=>h0 (decide_eq_true z.1)]at q;exact⟨_,rfl,ck q⟩
inductive pj (vs:List V)(H:Hp)(Q:VK)(E:XK):Prop
 |mk (k:Kd) (m:Int) (cH:vs=[.str k.str,.int m]) (cI:Q (.int (pw k m)) H):pj vs H Q E
theorem yY (T:Txt K w mg t):aS P w K mg base fk (0+1) t.qh t.qi ["kind","measure"] pj:=by
 refine T.qk.ok x6 ?_ ?_
 x_go
 obtain⟨k,m,rfl,q⟩:=h;refine aG (af (aM (cv (PW.pt (cE (au (bo.or (aU (aE hr))) (pv 1) ak (aD _)) (dg (au Dj (pv 0) (aX (v:=.ref t.eZ) rfl T.l4 rfl) rfl))))) (ah (ar (bp zT (aX (v:=.ref t.eZ) rfl T.l4 rfl) (pv 0) (fun _ _=>rfl)))) aA) (ah (ar (bp zT (aX (v:=.ref t.jG) rfl T.yz rfl) (pv 0) (fun _ _=>rfl))))) ?_;refine jW (decide (m=2)&&(decide (k=.G)||decide (k=.R))) ?_ ?_
 ·tm_up;rw[dF];refine aP (fun h=>?_) (fun h=>?_)
  ·tm_up;refine⟨_,_,_,rfl,rfl,T.kz,_,rfl,c7 ?_⟩;rw[h];cases k <;> decide +kernel
  ·exact c7 (by rw[Bool.eq_false_iff.mpr h];rfl)
 ·refine aP (fun h=>?_) (fun h=>?_)
  ·tm_up;obtain⟨h1,h2⟩:=Bool.and_eq_true_iff.mp h;have hm:=of_decide_eq_true h1;have e:[(Str.ofString "G",V.int 2),(Str.ofString "R",V.int 2)].lookup k.str=some (.int (pw k m)):=by
    rw[hm];cases k <;> first|decide +kernel|(exfalso;revert h2;decide)
   exact⟨_,_,_,_,rfl,rfl,T.kz,e,q⟩
  ·tm_up;have e:[(Str.ofString "G",V.int 3),(Str.ofString "D",V.int 2),(Str.ofString "R",V.int 3),(Str.ofString "s",V.int 1),(Str.ofString "d",V.int 1),(Str.ofString "r",V.int 1),(Str.ofString ".",V.int 0),(Str.ofString "3",V.int 0),(Str.ofString "2",V.int 0)].lookup k.str=some (.int (pw k m)):=by
    by_cases hm:m=2
    ·rw[hm]at h ⊢;cases k <;> first|decide +kernel|(exfalso;revert h;decide)
    ·cases k <;> first|decide +kernel|(simp only [pw,if_neg hm];decide +kernel)
   exact⟨_,_,_,_,rfl,rfl,T.wD,e,q⟩
inductive gU (K:Frag)(vs:List V)(H:Hp)(Q:VK)(E:XK):Prop
 |mk (l:Addr) (b:Int) (xs:List V) (ss:List Sg) (cH:vs=[.ref l,.int b]) (cI:aL K H l xs) (dh:gn H xs ss) (fJ:ss.length<=400) (jh:∀(f:Addr)(H':Hp),aq H H'->H f=none->H' f=some (.lst ((eJ b (aR ss)).map V.int))->Q (.ref f) H'):gU K vs H Q E
theorem mS (T:Txt K w mg t):aS P w K mg base fk (0+3) t.hX t.hZ ["line","begin"] (gU K):=by
 have qS:=wa P base T;have dR:=mR P base T;have zF:=yY P base T;refine T.h7.ok cL ?_ ?_
 x_go
 obtain⟨l,b,xs,ss,rfl,hS,hg,hn,q⟩:=h;refine aG (af (ed 2 cL.nd (bq ag)) (af (fg PassesOwn.never rfl (GL rfl T.mL (mn qS (eR hr) rfl T.fZ.g T.fZ.kp T.yN .nil cC (aa (pv 0) (aa (pv 1) ag)))) (ff rfl (aK (i5 3 cL.nd) (aK (i5 4 cL.nd) cV))) (ah (aM (cv (PW.pt (cE (au (bo.or (aU (aE hr))) (pv 4) ak (aD _)) (cE (au (bo.or (aU (aE hr))) (eC T.e8 dR hr (aa (pv 0) (aa (pv 3) ag))) ax (aD _)) (dg (au (bo.or (aU (aE hr))) (eC T.e8 dR hr (aa (pv 0) (aa (aH (aV.or (ay.or aW)) (pv 3) ak) ag))) ax (aD _))))))) (ah (aO (ef plainAttrs_list slot_list_append type_list_append bB (pv 2) (aa (aX (v:=.int 3) rfl T.yA ⟨_,rfl⟩) ag)))) (ah (aO (ef plainAttrs_list slot_list_append type_list_append bB (pv 2) (aa (eC T.qk zF hr (aa (eC T.e8 dR hr (aa (pv 0) (aa (pv 3) ag))) (aa (pv 4) ag))) ag))))))) (ah (ar (pv 2))))) ?_;refine⟨big (by show 0<=1000;omega),fun f hf=>?_⟩;tm_up;refine⟨l,b,xs,ss,rfl,cY hS hf,hg.same (aq.upd hf),hn,fun f2 H2 s2 n2 h2=>⟨_,rfl,⟨_,aL.of h2⟩,?_⟩⟩;have ml:(eI b (aR ss)).length=ss.length:=by rw[tZ,length_map]
 have Ve:f2≠f:=fun e=>by rw[e,ae]at n2;cases n2
 refine Dg (K:=K) (xs:=(eI b (aR ss)).map V.int) (fun i σ H'=>∃(v w:Option V)(fs:List Int),σ=[some (.ref l),some (.int b),some (.ref f),v,w]/\aq H H'/\H' f=some (.lst (fs.map V.int))/\H' f2=some (.lst ((eI b (aR ss)).map V.int))/\fs++qA ((aR ss).drop i) ((eI b (aR ss)).drop i)=eJ b (aR ss))
  ⟨none,none,[],rfl,(aq.upd hf).trans s2,s2 _ _ ae,h2,Dt ..⟩ ?_ ?_ ?_
 ·rintro i σ H' ⟨v,w,fs,rfl,_,_,h3,_⟩;exact aL.of h3
 ·rintro i x t σ H' hx ⟨v,w,fs,rfl,s3,h3,h4,hm⟩ ht;obtain⟨m,hm1,rfl⟩:=BG hx;have hil:i<ss.length:=by
   have:=(List.getElem?_eq_some_iff.mp hm1).1;omega
  have hk:(aR ss)[i]? = some (ss[i]).1:=ow (getElem?_eq_getElem hil);rw[i9 hk,i9 hm1]at hm;simp only [qA,head_drop]at hm;have hl:=congrArg List.length hm;simp only [length_append,length_cons,lu,length_map]at hl;have sT:aq H' (upd H' t (.tup [.int i,.int m])):=aq.upd ht;have hS':aL K (upd H' t (.tup [.int i,.int m])) l xs:=(s3.trans sT).seq hS;have hg':=hg.same (s3.trans sT);have h3':=sT _ _ h3;have ka:BH (aR ss) (i:Int)=some (ss[i]).1:=by rw[j3];exact hk
  have kb:BH (aR ss) ((i:Int)+1)=(aR ss)[i+1]?:=by rw[<-j3];rfl
  refine⟨t,_,rfl,fc.of ae,rfl,_,_,rfl,_,_,rfl,rfl,?_⟩;have fin:∀ z:Int,z=bw m (ss[i]).1 (aR ss)[i+1]?->∃(v w:Option V)(fs':List Int),[some (V.ref l),some (V.int b),some (V.ref f),some (V.int (i:Int)),some (V.int m)]=[some (.ref l),some (.int b),some (.ref f),v,w]/\aq H (upd (upd H' t (.tup [.int i,.int m])) f (.lst (fs.map V.int++[V.int z]))) /\
    (upd (upd H' t (.tup [.int i,.int m])) f (.lst (fs.map V.int++[V.int z]))) f=some (.lst (fs'.map V.int))/\(upd (upd H' t (.tup [.int i,.int m])) f (.lst (fs.map V.int++[V.int z]))) f2=some (.lst ((eI b (aR ss)).map V.int))/\fs'++qA ((aR ss).drop (i+1)) ((eI b (aR ss)).drop (i+1))=eJ b (aR ss):=by
   intro z hz;refine⟨_,_,fs++[z],rfl,cZ (s3.trans sT) hf,by rw[ae,map_append];rfl,by rw[ai Ve];exact sT _ _ h4,?_⟩;rw[List.append_assoc,hz];exact hm
  refine jW (decide (m=2)&&(decide (j1 (BH (aR ss) (i:Int)) = "G")&&decide (j1 (BH (aR ss) ((i:Int)+1)) = "."))) ?_ ?_
  ·tm_up;rw[dF];refine aP (fun h=>?_) (fun h=>?_)
   ·tm_up;refine⟨l,_,xs,ss,rfl,hS',hg',?_⟩;tm_up;rw[MX];refine aP (fun h2=>?_) (fun h2=>?_)
    ·tm_up;refine⟨l,_,xs,ss,rfl,hS',hg',?_⟩;tm_up;rw[MX];exact c7 (by rw[h,h2];rfl)
    ·exact c7 (by rw[h,Bool.eq_false_iff.mpr h2];rfl)
   ·exact c7 (by rw[Bool.eq_false_iff.mpr h];rfl)
  ·refine aP (fun h=>?_) (fun h=>?_)
   ·tm_up;refine⟨.inl ⟨rfl,_,aL.of h3'⟩,?_⟩;refine⟨_,_,_,rfl,rfl,h3',by rw[length_map];exact aF (by omega),fin 3 ?_⟩;obtain⟨h1,h2⟩:=Bool.and_eq_true_iff.mp h;obtain⟨h2,h5⟩:=Bool.and_eq_true_iff.mp h2;have e1:(ss[i]).1=.G:=by
     have:=of_decide_eq_true h2;rw[ka]at this;exact str_inj.mp (this.trans (rfl:("G":Str)=Kd.G.str))
    have e2:(aR ss)[i+1]? = some .dot:=by
     have:=of_decide_eq_true h5;rw[kb]at this;exact Ds.mp (this.trans (rfl:(".":Str)=j1 (some .dot)))
    unfold bw;rw[if_pos ⟨of_decide_eq_true h1,e1,e2⟩]
   ·tm_up;refine⟨.inl ⟨rfl,_,aL.of h3'⟩,?_⟩;tm_up;refine⟨l,_,xs,ss,rfl,hS',hg',?_⟩;tm_up;rw[ka];refine⟨_,_,rfl,?_⟩;refine⟨_,_,_,rfl,rfl,h3',by rw[length_map];exact aF (by omega),fin _ ?_⟩;unfold bw;rw[if_neg];rintro⟨h1,h2,h5⟩;refine h ?_;rw[ka,kb,h2,h5,h1];decide +kernel
 ·rintro σ H' ⟨v,w,fs,rfl,s3,h3,_,hm⟩;rw[length_map,ml,List.drop_eq_nil_of_le (by rw[length_map];exact Nat.le_refl _)]at hm;tm_up;have e:fs=eJ b (aR ss):=by rw[<-hm];simp[qA]
  subst e;exact q f _ s3 hf h3
inductive HZ (K:Frag)(vs:List V)(H:Hp)(Q:VK)(E:XK):Prop
 |mk (l:Addr) (b:Int) (xs:List V) (ss:List Sg) (cH:vs=[.ref l,.int b]) (cI:aL K H l xs) (dh:gn H xs ss) (fJ:ss.length<=400) (jh:∀(f:Addr)(ys:List V)(H':Hp),aq H H'->H f=none->H' f=some (.lst ys)->Fj H' ys (mW b (aR ss))->Q (.ref f) H'):HZ K vs H Q E
theorem Nv (T:Txt K w mg t):aS P w K mg base fk (0+3) t.Ly t.FE ["line","begin"] (HZ K):=by
 have qS:=wa P base T;have Cu:=Eo P base T;refine T.yK.ok mG ?_ ?_
 x_go
 obtain⟨l,b,xs,ss,rfl,hS,hg,hn,q⟩:=h;refine aG (af (ed 2 mG.nd (bq ag)) (af (ed 3 mG.nd ak) (af (fg PassesOwn.never rfl (Rv rfl T.FJ rfl T.mL (pv 0) (mn qS (eR hr) rfl T.fZ.g T.fZ.kp T.yN .nil cC (aa (pv 0) (aa (pv 1) ag)))) (ff rfl (aK (i5 4 mG.nd) (aK (ff rfl (aK (i5 5 mG.nd) (aK (i5 6 mG.nd) cV))) cV))) (ah (aM (cv (PW.pt (qW (au (bo.or (aU (aE hr))) (pv 6) ak (aD _)) (mf (dq (a8 (eC T.Cp Cu hr (aa (pv 5) ag)))))))) (af (jq (aM (au nY (pv 3) (pv 4) (aD _)) (ah (aO (ef plainAttrs_list slot_list_append type_list_append bB (pv 2) (aa (dr (aa (pv 3) (aa (pv 4) ag))) ag)))) aA)) (ah (ed 3 mG.nd (aH (aV.or (ay.or aW)) (pv 4) ak)))) aA))) (af (jq (aM (au nY (pv 3) (aI (aB.or aC) rfl T.bu br (aa (pv 0) ag)) (aD _)) (ah (aO (ef plainAttrs_list slot_list_append type_list_append bB (pv 2) (aa (dr (aa (pv 3) (aa (aI (aB.or aC) rfl T.bu br (aa (pv 0) ag)) ag))) ag)))) aA)) (ah (ar (pv 2))))))) ?_;refine⟨big (by show 0<=1000;omega),fun f hf=>?_⟩;tm_up;refine⟨l,b,xs,ss,rfl,cY hS hf,hg.same (aq.upd hf),hn,fun f2 H2 s2 n2 h2=>⟨_,_,rfl,rfl,⟨xs,((aq.upd hf).trans s2).seq hS⟩,⟨_,aL.of h2⟩,?_⟩⟩;have ml:(eI b (aR ss)).length=ss.length:=by rw[tZ,length_map]
 have Ve:f2≠f:=fun e=>by rw[e,ae]at n2;cases n2
 have cnt:(mW b (aR ss)).length<=401:=by
  have:=iH (fB b (aR ss)) 0 0;rw[jr,length_map]at this;exact Nat.le_trans this (by omega)
 refine Pd (K:=K) (xs:=xs) (ys:=(eI b (aR ss)).map V.int) (fun i σ H'=>∃(v w u:Option V)(first:Nat)(ys:List V)(qs:List (Nat×Nat)),σ=[some (.ref l),some (.int b),some (.ref f),some (.int (first:Int)),v,w,u]/\aq H H'/\H' f=some (.lst ys)/\Fj H' ys qs/\H' f2=some (.lst ((eI b (aR ss)).map V.int))/\first<=i/\qs++c8 i first (Du ((aR ss).drop i) ((eI b (aR ss)).drop i))=mW b (aR ss))
  (by rw[length_map,ml];exact bF hg) ⟨none,none,none,0,[],[],rfl,(aq.upd hf).trans s2,s2 _ _ ae,.nil,h2,Nat.le_refl _,by rw[List.drop_zero,List.drop_zero,Fi];rfl⟩ ?_ ?_ ?_
 ·rintro i σ H' ⟨v,w,u,first,ys,qs,rfl,s3,_,_,h4,_⟩;exact⟨s3.seq hS,aL.of h4⟩
 ·rintro i x y t u' σ H' hx hy ⟨v,w,u,first,ys,qs,rfl,s3,h3,hq,h4,hfi,hm⟩ ht hu htu;obtain⟨s,hs,p,rfl,hp⟩:=ou hg hx;obtain⟨m,hm1,rfl⟩:=BG hy;rw[i9 (ow (f:=Prod.fst) hs),i9 hm1]at hm;simp only [Du]at hm;have sT:aq H' (upd (upd H' t (.tup [.ref p,.int m])) u' (.tup [.int i,.ref t])):=(aq.upd ht).trans (aq.upd (by rw[ai htu.symm];exact hu));have ut:upd (upd H' t (.tup [.ref p,.int m])) u' (.tup [.int i,.ref t]) t=some (.tup [.ref p,.int m]):=by rw[ai htu,ae]
  refine⟨u',_,rfl,fc.of ae,rfl,_,_,rfl,_,_,rfl,t,_,rfl,fc.of ut,rfl,_,_,rfl,_,_,rfl,rfl,rfl,?_⟩;generalize upd (upd H' t (.tup [.ref p,.int m])) u' (.tup [.int i,.ref t])=H3 at sT;have hp3:=(s3.trans sT) _ _ hp;have Tn:=sT _ _ h3;have To:=j4 sT hq;refine jW (!inR m s.1) ?_ ?_
  ·tm_up;rw[dF];refine aP (fun h=>?_) (fun h=>?_)
   ·refine c7 ?_;unfold inR;have:=of_decide_eq_true h;simp[this]
   ·tm_up;refine⟨p,s,rfl,hp3,_,rfl,c7 ?_⟩;have hm2:m≠2:=fun e=>h (decide_eq_true e);unfold inR;simp[hm2]
  ·cases hin:inR m s.1 with
   |false =>
    rw[hin]at hm;refine gx ?_;refine⟨fun ZX H1=>ZX=[some (.ref l),some (.int b),some (.ref f),some (.int (first:Int)),some (.int i),some (.ref p),some (.int m)]/\aq H H1/\(∃ ys',H1 f=some (.lst ys')/\Fj H1 ys' (qs++if first<i then [(first,i)] else []))/\H1 f2=some (.lst ((eI b (aR ss)).map V.int)),?_,?_⟩
    ·tm_up;refine aP (fun h=>?_) (fun h=>?_)
     ·have hlt:first<i:=by have:=of_decide_eq_true h;omega
      have ql:qs.length<=401:=by
       have:=congrArg List.length hm;simp only [length_append]at this;omega
      tm_up;refine⟨.inl ⟨rfl,_,aL.of Tn⟩,?_⟩;tm_up;refine⟨by show 2<=sizeLine;decide,fun z hz=>?_⟩;have sz:aq H3 (upd H3 z (.tup [.int (first:Int),.int i])):=aq.upd hz;have P4:=sz _ _ Tn;refine⟨_,_,_,rfl,rfl,P4,by rw[bF To];exact aF (by omega),?_⟩;rw[if_pos hlt];exact⟨rfl,cZ ((s3.trans sT).trans sz) hf,⟨_,ae,gZ (jt P4 (j4 sz To)) (Dv P4 ⟨z,rfl,ae⟩)⟩,by rw[ai Ve];exact sz _ _ (sT _ _ h4)⟩
     ·have hlt:¬ first<i:=fun z=>h (decide_eq_true (by omega))
      rw[if_neg hlt,append_nil];exact⟨rfl,s3.trans sT,⟨_,Tn,To⟩,sT _ _ h4⟩
    ·rintro ZX H1 ⟨rfl,sa,⟨ys',hb,hc⟩,hd⟩;tm_up;refine⟨_,_,_,i+1,ys',_,rfl,sa,hb,hc,hd,Nat.le_refl _,?_⟩;rw[<-hm,List.append_assoc];rfl
   |true =>
    rw[hin]at hm;refine ck ?_;exact⟨_,_,_,first,ys,qs,rfl,s3.trans sT,Tn,To,sT _ _ h4,by omega,hm⟩
 ·rintro σ H' ⟨v,w,u,first,ys,qs,rfl,s3,h3,hq,h4,hfi,hm⟩;rw[bF hg]at hm hfi;rw[List.drop_eq_nil_of_le (by rw[length_map];exact Nat.le_refl _)]at hm;have hm':qs++(if first<ss.length then [(first,ss.length)] else [])=mW b (aR ss):=hm;have ql:qs.length<=401:=by
   have:=congrArg List.length hm;simp only [length_append]at this;omega
  refine⟨fun ZX H1=>ZX=[some (.ref l),some (.int b),some (.ref f),some (.int (first:Int)),v,w,u]/\aq H H1/\∃ ys',H1 f=some (.lst ys')/\Fj H1 ys' (mW b (aR ss)),?_,?_⟩
  ·tm_up;refine .inl ⟨_,_,rfl,.inl (s3.seq hS),?_⟩;rw[bF hg];tm_up;refine aP (fun h=>?_) (fun h=>?_)
   ·have hlt:first<ss.length:=by have:=of_decide_eq_true h;omega
    tm_up;refine⟨.inl ⟨rfl,_,aL.of h3⟩,?_⟩;tm_up;refine .inl ⟨_,_,rfl,.inl (s3.seq hS),?_⟩;rw[bF hg];refine⟨by show 2<=sizeLine;decide,fun z hz=>?_⟩;have sz:aq H' (upd H' z (.tup [.int (first:Int),.int (ss.length:Int)])):=aq.upd hz;have P4:=sz _ _ h3;refine⟨_,_,_,rfl,rfl,P4,by rw[bF hq];exact aF (by omega),?_⟩;rw[if_pos hlt]at hm';rw[<-hm'];exact⟨rfl,cZ (s3.trans sz) hf,_,ae,gZ (jt P4 (j4 sz hq)) (Dv P4 ⟨z,rfl,ae⟩)⟩
   ·have hlt:¬ first<ss.length:=fun z=>h (decide_eq_true (by omega))
    rw[if_neg hlt,append_nil]at hm';rw[<-hm'];exact⟨rfl,s3,_,h3,hq⟩
  ·rintro ZX H1 ⟨rfl,sa,ys',hb,hc⟩;tm_up;exact q f ys' H1 sa hf hb hc
inductive l9 (K:Frag)(vs:List V)(H:Hp)(Q:VK)(E:XK):Prop
 |mk (l f:Addr) (a:Nat) (xs:List V) (ss:List Sg) (fs:List Int) (cH:vs=[.ref l,.ref f,.int (a:Int)]) (cI:aL K H l xs) (dh:gn H xs ss) (fJ:H f=some (.lst (fs.map V.int))) (jh:fs.length=ss.length) (zL:Q (.bl (fD (aR ss) fs a)) H):l9 K vs H Q E
theorem ma (T:Txt K w mg t):aS P w K mg base fk (0+2) t.nt t.nu ["line","found","first"] (l9 K):=by
 have dR:=mR P base T;refine T.iT.ok uh ?_ ?_
 x_go
 obtain⟨l,f,a,xs,ss,fs,rfl,hS,hg,hf,hl,q⟩:=h;refine aG (ah (ar (bX (gp (a9 (bo.or (aU (aE hr))) (eC T.e8 dR hr (aa (pv 0) (aa (aH dZ (pv 2) ak) ag))) ax (aD _)) (fQ (a9 (bo.or (aU (aE hr))) (bp a7 (pv 1) (aH dZ (pv 2) ak) (fun _ _=>rfl)) (aX (v:=.int 3) rfl T.Ck ⟨_,rfl⟩) (aD _))))))) ?_;refine rf (.bl (fD (aR ss) fs a)) ?_ q;tm_up;refine⟨l,_,xs,ss,rfl,hS,hg,?_⟩;tm_up;rw[V7];refine aP (fun h=>?_) (fun h=>?_)
 ·have e:=of_decide_eq_true h;have e':1<=a/\a-1<ss.length:=by
   unfold BH at e;split at e
   ·have:=(List.getElem?_eq_some_iff.mp e).1;rw[length_map]at this;omega
   ·cases e
  tm_up;refine K8 (aL.of hf) (n:=a-1) (by omega) (getElem?_eq_getElem (by omega)) ?_;tm_up;rw[dF];refine i8 ?_;unfold fD;rw[h,List.getD_eq_getElem?_getD,getElem?_eq_getElem (by omega)];rfl
 ·refine i8 ?_;unfold fD;rw[Bool.eq_false_iff.mpr h];rfl
inductive kH (K:Frag)(vs:List V)(H:Hp)(Q:VK)(E:XK):Prop
 |mk (l:Addr) (z:Nat) (xs:List V) (ss:List Sg) (cH:vs=[.ref l,.int (z:Int)]) (cI:aL K H l xs) (dh:gn H xs ss) (fJ:Q (.bl (d3 (aR ss) z)) H):kH K vs H Q E
theorem Ia (k:Option Kd):inV (.str (j1 k)) [.str "G",.str "D",.str "R"]=kO k:=by
 cases k with
 |none=>decide +kernel
 |some k=>cases k <;> decide +kernel
theorem kI (T:Txt K w mg t):aS P w K mg base fk (0+2) t.lS t.lT ["line","behind"] (kH K):=by
 have dR:=mR P base T;refine T.ig.ok rN ?_ ?_
 x_go
 obtain⟨l,z,xs,ss,rfl,hS,hg,q⟩:=h;refine aG (ah (ar (bX (gp (a9 (bo.or (aU (aE hr))) (eC T.e8 dR hr (aa (pv 0) (aa (pv 1) ag))) ax (aD _)) (fQ (a9 (gu.or gw) (eC T.e8 dR hr (aa (pv 0) (aa (aH (aV.or (ay.or aW)) (pv 1) ak) ag))) (aX (v:=.ref t.iB) rfl T.qj rfl) rfl)))))) ?_;refine rf (.bl (d3 (aR ss) z)) ?_ q;tm_up;refine⟨l,_,xs,ss,rfl,hS,hg,?_⟩;tm_up;rw[V7];refine aP (fun h=>?_) (fun h=>?_)
 ·tm_up;refine⟨l,_,xs,ss,rfl,hS,hg,?_⟩;tm_up;refine .inl ⟨_,_,rfl,.inr (T.qm _),rfl,rfl,i8 ?_⟩;unfold d3;rw[j3]at h;have e:BH (aR ss) ((z:Int)+1)=(aR ss)[z+1]?:=by rw[<-j3];rfl
  rw[h,<-Ia,<-e];rfl
 ·refine i8 ?_;unfold d3;rw[j3]at h;rw[Bool.eq_false_iff.mpr h];rfl
noncomputable def LV (K:Frag)(g:List Kd->List Int->Nat->Nat->Bool×List Int):Sp:=fun vs H Q _=>∃(l f:Addr)(a z:Nat)(xs:List V)(ss:List Sg)(fs:List Int),vs=[.ref l,.ref f,.int (a:Int),.int (z:Int)]/\aL K H l xs/\gn H xs ss/\H f=some (.lst (fs.map V.int))/\fs.length=ss.length/\a<z/\z<=ss.length /\
 Q (.bl (g (aR ss) fs a z).1) (upd H f (.lst ((g (aR ss) fs a z).2.map V.int)))
theorem qT (T:Txt K w mg t):aS P w K mg base fk (0+3) t.km t.kn ["line","found","first","behind"] (LV K pG):=by
 have iW:=ma P base T;have iu:=kI P base T;refine T.kx.ok qH ?_ ?_
 x_go
 obtain⟨l,f,a,z,xs,ss,fs,rfl,hS,hg,hf,hl,Sj,hz,q⟩:=h;unfold pG at q;refine aG (af (aM (a8 (eC T.iT iW hr (aa (pv 0) (aa (pv 1) (aa (pv 2) ag))))) (af (dD (aX (v:=.int 2) rfl T.eK ⟨_,rfl⟩) (nS (pv 1) (aH dZ (pv 2) ak) set_list)) (ah (ar eM))) aA) (af (aM (a8 (eC T.ig iu hr (aa (pv 0) (aa (pv 3) ag)))) (af (dD (aX (v:=.int 2) rfl T.eK ⟨_,rfl⟩) (nS (pv 1) (pv 3) set_list)) (ah (ar eM))) aA) (ah (ar eM)))) ?_;tm_up;refine⟨l,f,a,xs,ss,fs,rfl,hS,hg,hf,hl,_,rfl,?_⟩;refine aP (fun h=>?_) (fun h=>?_)
 ·rw[if_pos h]at q;have hp:=ua h;rw[length_map]at hp;tm_up;refine⟨_,_,_,_,rfl,rfl,hf,j5 (j:=a-1) (by omega) (by rw[length_map];omega),?_⟩;rw[ix];exact q
 ·rw[if_neg h]at q;tm_up;refine⟨l,z,xs,ss,rfl,hS,hg,_,rfl,?_⟩;refine aP (fun h2=>?_) (fun h2=>?_)
  ·rw[if_pos h2]at q;have hp:=qC h2;rw[length_map]at hp;tm_up;refine⟨_,_,_,_,rfl,rfl,hf,j5 (j:=z) rfl (by rw[length_map];omega),?_⟩;rw[ix];exact q
  ·rw[if_neg h2,rk hf]at q;exact q
theorem qU (T:Txt K w mg t):aS P w K mg base fk (0+3) t.ko t.kq ["line","found","first","behind"] (LV K pH):=by
 have iW:=ma P base T;have iu:=kI P base T;have dR:=mR P base T;refine T.ky.ok qI ?_ ?_
 x_go
 obtain⟨l,f,a,z,xs,ss,fs,rfl,hS,hg,hf,hl,Sj,hz,q⟩:=h;unfold pH at q;refine aG (af (aM (cv (PW.pt (cE (au (bA.or bx) (eC T.e8 dR hr (aa (pv 0) (aa (pv 3) ag))) (aX (v:=.ref t.iB) rfl T.qj rfl) rfl) (dg (au (bo.or (aU (aE hr))) (eC T.e8 dR hr (aa (pv 0) (aa (aH dZ (pv 3) ak) ag))) ax (aD _)))))) (af (dD (aX (v:=.int 2) rfl T.wA ⟨_,rfl⟩) (nS (pv 1) (aH dZ (pv 3) ak) set_list)) (ah (ar eM))) aA) (af (aM (cv (PW.pt (cE (a8 (eC T.iT iW hr (aa (pv 0) (aa (pv 1) (aa (pv 2) ag))))) (dg (a8 (eC T.ig iu hr (aa (pv 0) (aa (pv 3) ag)))))))) (af (dD (aX (v:=.int 2) rfl T.eK ⟨_,rfl⟩) (nS (pv 1) (aH dZ (pv 2) ak) set_list)) (af (dD (aX (v:=.int 2) rfl T.eK ⟨_,rfl⟩) (nS (pv 1) (pv 3) set_list)) (ah (ar eM)))) aA) (ah (ar eM)))) ?_;refine jW (kO (aR ss)[z]? && decide ((aR ss)[z-1]? = some .s)) ?_ ?_
 ·tm_up;refine⟨l,_,xs,ss,rfl,hS,hg,?_⟩;tm_up;refine .inl ⟨_,_,rfl,.inr (T.qm _),rfl,rfl,_,rfl,?_⟩;show if inV (.str (j1 (BH (aR ss) (z:Int)))) [.str "G",.str "D",.str "R"]=true then _ else _;rw[Ia,j3];refine aP (fun h=>?_) (fun h=>?_)
  ·tm_up;refine⟨l,_,xs,ss,rfl,hS,hg,?_⟩;tm_up;rw[X0];have e:BH (aR ss) ((z:Int)-1)=(aR ss)[z-1]?:=by rw[<-j3];congr 1;omega
   rw[e];exact c7 (by rw[h];rfl)
  ·exact c7 (by rw[Bool.eq_false_iff.mpr h];rfl)
 ·refine aP (fun h=>?_) (fun h=>?_)
  ·rw[if_pos h]at q;tm_up;refine⟨_,_,_,_,rfl,rfl,hf,j5 (j:=z-1) (by omega) (by rw[length_map];omega),?_⟩;rw[ix];exact q
  ·rw[if_neg h]at q;refine jW (fD (aR ss) fs a&&d3 (aR ss) z) ?_ ?_
   ·tm_up;refine⟨l,f,a,xs,ss,fs,rfl,hS,hg,hf,hl,_,rfl,?_⟩;refine aP (fun h=>?_) (fun h=>?_)
    ·tm_up;refine⟨l,z,xs,ss,rfl,hS,hg,_,rfl,c7 ?_⟩;rw[h];rfl
    ·exact c7 (by rw[Bool.eq_false_iff.mpr h];rfl)
   ·refine aP (fun h2=>?_) (fun h2=>?_)
    ·rw[if_pos h2]at q;have hp:=ua (Bool.and_eq_true_iff.mp h2).1;have hr:=qC (Bool.and_eq_true_iff.mp h2).2;rw[length_map]at hp hr;tm_up;refine⟨_,_,_,_,rfl,rfl,hf,j5 (j:=a-1) (by omega) (by rw[length_map];omega),?_⟩;rw[ix];tm_up;refine⟨_,_,_,_,rfl,rfl,ae,j5 (j:=z) rfl (by rw[length_map,List.length_set];omega),?_⟩;rw[ix,bH];exact q
    ·rw[if_neg h2,rk hf]at q;exact q
theorem zG (T:Txt K w mg t):aS P w K mg base fk (0+4) t.se t.sf ["line","found","first","behind"] (LV K settle):=by
 have sU:=qT P base T;have sV:=qU P base T;refine T.sr.ok qc ?_ ?_
 x_go
 obtain⟨l,f,a,z,xs,ss,fs,rfl,hS,hg,hf,hl,Sj,hz,q⟩:=h;unfold settle at q;refine aG (af (ed 4 qc.nd (aH dE (aH dZ (pv 3) (pv 2)) ak)) (af (aM (au (bo.or (aU (aE hr))) (pv 4) ak (aD _)) (ah (ar (eC T.kx sU hr (aa (pv 0) (aa (pv 1) (aa (pv 2) (aa (pv 3) ag))))))) aA) (af (aM (au (bo.or (aU (aE hr))) (pv 4) ak (aD _)) (ah (ar (eC T.ky sV hr (aa (pv 0) (aa (pv 1) (aa (pv 2) (aa (pv 3) ag))))))) aA) (ah (ar eM))))) ?_;tm_up;rw[dF];have e:((z:Int)-(a:Int)) % 3=(((z-a) % 3:Nat):Int):=by omega
 refine aP (fun h=>?_) (fun h=>?_)
 ·have h1:(z-a) % 3=1:=by have:((z:Int)-(a:Int)) % 3=1:=of_decide_eq_true h;omega
  rw[if_pos h1]at q;tm_up;exact⟨l,f,a,z,xs,ss,fs,rfl,hS,hg,hf,hl,Sj,hz,q⟩
 ·have h1:¬(z-a) % 3=1:=fun c=>h (decide_eq_true (by show((z:Int)-(a:Int)) % 3=1;omega));rw[if_neg h1]at q;tm_up;rw[dF];refine aP (fun h=>?_) (fun h=>?_)
  ·have h2:(z-a) % 3=2:=by have:((z:Int)-(a:Int)) % 3=2:=of_decide_eq_true h;omega
   rw[if_pos h2]at q;tm_up;exact⟨l,f,a,z,xs,ss,fs,rfl,hS,hg,hf,hl,Sj,hz,q⟩
  ·have h2:¬(z-a) % 3=2:=fun c=>h (decide_eq_true (by show((z:Int)-(a:Int)) % 3=2;omega));rw[if_neg h2,rk hf]at q;exact q
inductive yZ (K:Frag)(vs:List V)(H:Hp)(Q:VK)(E:XK):Prop
 |mk (l:Addr) (b:Int) (xs:List V) (ss:List Sg) (cH:vs=[.ref l,.int b]) (cI:aL K H l xs) (dh:gn H xs ss) (fJ:ss.length<=400) (jh:∀(p f lo:Addr)(ys:List V)(H':Hp),aq H H'->H f=none->H lo=none->f≠lo->H' p=some (.tup [.ref f,.ref lo])->H' f=some (.lst ((fE b (aR ss)).1.map V.int))->H' lo=some (.lst ys)->Fj H' ys (fE b (aR ss)).2->Q (.ref p) H'):yZ K vs H Q E
theorem F7 (T:Txt K w mg t):aS P w K mg base fk (0+5) t.Ay t.Az ["line","begin"] (yZ K):=by
 have nP:=mS P base T;have P5:=Nv P base T;have Cy:=zG P base T;refine T.AY.ok jB ?_ ?_
 x_go
 obtain⟨l,b,xs,ss,rfl,hS,hg,hn,q⟩:=h;refine aG (af (ed 2 jB.nd (eC T.h7 nP hr (aa (pv 0) (aa (pv 1) ag)))) (af (ed 3 jB.nd (bq ag)) (af (fg PassesOwn.never rfl (cW (mn P5 (eR hr) rfl T.yK.g T.yK.kp T.PU .nil cC (aa (pv 0) (aa (pv 1) ag)))) (ff rfl (aK (i5 4 jB.nd) (aK (i5 5 jB.nd) cV))) (ah (aM (dq (a8 (eC T.sr Cy hr (aa (pv 0) (aa (pv 2) (aa (pv 4) (aa (pv 5) ag))))))) (ah (aO (ef plainAttrs_list slot_list_append type_list_append bB (pv 3) (aa (dr (aa (pv 4) (aa (pv 5) ag))) ag)))) aA))) (ah (ar (dr (aa (pv 2) (aa (pv 3) ag)))))))) ?_;tm_up;refine⟨l,b,xs,ss,rfl,hS,hg,hn,fun f H1 s1 n1 h1=>?_⟩;refine⟨big (by show 0<=1000;omega),fun lo hlo=>?_⟩;have Qs:=s1.trans (aq.upd (o:=.lst []) hlo);tm_up;refine⟨l,b,xs,ss,rfl,Qs.seq hS,hg.same Qs,hn,fun r zs H2 s2 n2 h2 hz=>⟨_,rfl,⟨_,aL.of h2⟩,?_⟩⟩;have LW:H lo=none:=s1.free hlo;have P6:f≠lo:=ao h1 hlo;have Yx:r≠f:=fun e=>by
  have:=Qs.free n2;have h1':=aq.upd (o:=.lst []) hlo _ _ h1;rw[<-e,n2]at h1';cases h1'
 have Yy:r≠lo:=fun e=>by rw[e,ae]at n2;cases n2
 have bl:(eJ b (aR ss)).length=ss.length:=by rw[lu,length_map]
 have cnt:(mW b (aR ss)).length<=401:=by
  have:=iH (fB b (aR ss)) 0 0;rw[jr,length_map]at this;exact Nat.le_trans this (by omega)
 refine jj (K:=K) (xs:=zs) (fun i σ H'=>∃(v w:Option V)(c:MY)(ys:List V),σ=[some (.ref l),some (.int b),some (.ref f),some (.ref lo),v,w]/\aq H H'/\H' f=some (.lst (c.1.map V.int))/\H' lo=some (.lst ys)/\Fj H' ys c.2/\H' r=some (.lst zs)/\Fj H' zs (mW b (aR ss))/\c.1.length=ss.length/\c.2.length<=i/\((mW b (aR ss)).drop i).foldl (js (aR ss)) c=fE b (aR ss))
  ⟨none,none,(eJ b (aR ss),[]),[],rfl,Qs.trans s2,s2 _ _ (aq.upd (o:=.lst []) hlo _ _ h1),s2 _ _ ae,.nil,h2,hz,bl,Nat.le_refl _,rfl⟩ ?_ ?_ ?_
 ·rintro i σ H' _ ⟨v,w,c,ys,rfl,_,_,_,_,hr,_⟩;exact aL.of hr
 ·rintro i x σ H' hx ⟨v,w,c,ys,rfl,s3,P7,P8,hys,Sk,hzs,hcl,Yz,kJ⟩;obtain⟨pr,hpr,p,rfl,hp⟩:=ou hzs hx;have hin:=La b (aR ss) pr (mem_of_getElem? hpr);rw[length_map]at hin;rw[i9 hpr,List.foldl_cons]at kJ;have hil:i<401:=by
   have:=(List.getElem?_eq_some_iff.mp hpr).1;omega
  refine⟨p,_,rfl,fc.of hp,rfl,_,_,rfl,_,_,rfl,rfl,?_⟩;tm_up;refine⟨l,f,pr.1,pr.2,xs,ss,c.1,rfl,s3.seq hS,hg.same s3,P7,hcl,hin.1,hin.2,?_⟩;have s4:aq H (upd H' f (.lst ((settle (aR ss) c.1 pr.1 pr.2).2.map V.int))):=cZ s3 n1;have Ga:upd H' f (.lst ((settle (aR ss) c.1 pr.1 pr.2).2.map V.int)) lo=some (.lst ys):=by rw[ai P6.symm];exact P8
  have Wg:upd H' f (.lst ((settle (aR ss) c.1 pr.1 pr.2).2.map V.int)) r=some (.lst zs):=by rw[ai Yx];exact Sk
  have Sl:(settle (aR ss) c.1 pr.1 pr.2).2.length=ss.length:=by rw[qB];exact hcl
  tm_up;refine aP (fun h=>?_) (fun h=>?_)
  ·have hst:(settle (aR ss) c.1 pr.1 pr.2).1=false:=by
    cases e:(settle (aR ss) c.1 pr.1 pr.2).1
    ·rfl
    ·rw[e]at h;cases h
   tm_up;refine⟨.inl ⟨rfl,_,aL.of Ga⟩,?_⟩;tm_up;refine⟨by show 2<=sizeLine;decide,fun z hz=>?_⟩;have sz:=aq.upd (o:=.tup [.int (pr.1:Int),.int (pr.2:Int)]) hz;have Er:=sz _ _ Ga;refine⟨_,_,_,rfl,rfl,Er,by rw[bF hys];exact aF (by omega),?_⟩;refine⟨_,_,((settle (aR ss) c.1 pr.1 pr.2).2,c.2++[pr]),_,rfl,cZ (s4.trans sz) LW,by rw[ai P6];exact sz _ _ ae,ae,gZ (jt Er (j4 sz (jt P7 hys))) (Dv Er ⟨z,rfl,ae⟩),
    by rw[ai Yy];exact sz _ _ Wg,jt Er (j4 sz (jt P7 hzs)),Sl,by simp;omega,?_⟩
   rw[<-kJ];unfold js;rw[hst];rfl
  ·have hst:(settle (aR ss) c.1 pr.1 pr.2).1=true:=by
    cases e:(settle (aR ss) c.1 pr.1 pr.2).1
    ·rw[e]at h;exact absurd rfl h
    ·rfl
   refine⟨_,_,((settle (aR ss) c.1 pr.1 pr.2).2,c.2),ys,rfl,s4,ae,Ga,jt P7 hys,Wg,jt P7 hzs,Sl,by show c.2.length<=i+1;omega,?_⟩;rw[<-kJ];unfold js;rw[hst];rfl
 ·rintro σ H' ⟨v,w,c,ys,rfl,s3,P7,P8,hys,Sk,hzs,hcl,Yz,kJ⟩;rw[bF hz,List.drop_length]at kJ;have e:c=fE b (aR ss):=kJ;subst e;tm_up;refine⟨by show 2<=sizeLine;decide,fun z hz=>?_⟩;have sz:=aq.upd (o:=.tup [.ref f,.ref lo]) hz;exact q z f lo ys _ (s3.trans sz) n1 LW P6 ae (sz _ _ P7) (sz _ _ P8) (j4 sz hys)
inductive A7 (K:Frag)(vs:List V)(H:Hp)(Q:VK)(E:XK):Prop
 |mk (l:Addr) (b:Int) (xs:List V) (ss:List Sg) (cH:vs=[.ref l,.int b]) (cI:aL K H l xs) (dh:gn H xs ss) (fJ:ss.length<=400) (jh:∀(f:Addr)(H':Hp),aq H H'->H f=none->H' f=some (.lst ((fE b (aR ss)).1.map V.int))->Q (.ref f) H'):A7 K vs H Q E
theorem JF (T:Txt K w mg t):aS P w K mg base fk (0+6) t.DY t.yh ["line","begin"] (A7 K):=by
 have JG:=F7 P base T;refine T.jJ.ok Jd ?_ ?_
 x_go
 obtain⟨l,b,xs,ss,rfl,hS,hg,hn,q⟩:=h;refine aG (ah (ar (bp a7 (eC T.AY JG hr (aa (pv 0) (aa (pv 1) ag))) ak (fun _ _=>rfl)))) ?_;tm_up;refine⟨l,b,xs,ss,rfl,hS,hg,hn,fun p f lo ys H' s1 n1 n2 _ hp hf _ _=>?_⟩;tm_up;exact q f H' s1 n1 hf
inductive sW (c:Cs)(vs:List V)(H:Hp)(Q:VK)(E:XK):Prop
 |mk (x:Addr) (F:Addr->Prop) (vw:Vw) (ps fs:List Vw) (n:Str) (cH:vs=[.ref x,.str n]) (cI:pZ c H x F vw ps fs) (dh:match aZ vw n with
 |none=>RX E c .gD H
 |some _=>∀(l:Addr)(H':Hp),H l=none->aq H H'->H' l=some (.lst ((dy vw n).map V.int))->Q (.ref l) H'):sW c vs H Q E
theorem tq (T:Txt K w mg t):aS P w K mg base (dU P w) (0+7) t.vo t.vq ["self","name"] (sW (cs t)):=by
 have gT:=kZ P base T;have Es:=JF P base T;have gm:=mQ P base T;refine T.dY.wO cq ?_ ?_
 x_go
 obtain⟨x,F,vw,ps,fs,n,rfl,B,q⟩:=h;refine aG (af (ed 2 cq.nd (bK (X:=(nQ T.dY.1 cq (dU P w) P w mg base cdv A outer s H E)) (pv 0) T.aJ T.dm.me gT (eR hr) T.dm.b .nil (fun _ _ z=>Or.inl z) (aa (pv 1) ag))) (af (aM (au xi (pv 2) h8 (aD _)) (ah (ar (mn Es (eR hr) rfl T.jJ.g T.jJ.kp T.Ek .nil cC (aa (bK (X:=(nQ T.dY.1 cq (dU P w) P w mg base cdv A outer s H E)) (pv 0) T.aJ T.bf.me gm (eR hr) T.bf.b .nil (fun _ _ z=>Or.inl z) (aa (pv 1) ag)) (aa ak ag))))) aA) (af (dD (pv 2) (ff rfl (aK (i5 3 cq.nd) (aK (i5 4 cq.nd) (aK (bQ (i:=5) cq.nd rfl (Or.inr rfl)) (aK (i5 6 cq.nd) cV)))))) (af (ed 7 cq.nd (bX (dC (a8 (pv 6)) ak ak))) (ah (ar (dz (cn:=["worth"]) rfl (bL.of rfl) (cW (mn Es (eR hr) rfl T.jJ.g T.jJ.kp T.Ek .nil cC (aa (bK (X:=(nQ T.dY.1 cq (dU P w) P w mg base cdv A outer s H E)) (pv 0) T.aJ T.bf.me gm (eR hr) T.bf.b .nil (fun _ _ z=>Or.inl z) (aa (pv 1) ag)) (aa (pv 7) ag)))) (fun _=>(bQ (i:=0) x9 rfl (Or.inl rfl))) (fun _=>fh) (fun _=>(aH (nW.or n6) (pv 6) (pv 0)))))))))) ?_;obtain⟨L,D,U,all,M,Ps,Fs,es,us,b,iM,pp,pf,f⟩:=B.ex;obtain⟨dx,hx⟩:=b.hx;have wv:=B.wv vw (.inr (.inl rfl));refine⟨_,rfl,x,dx,_,rfl,hx,mx _ _ _,_,rfl,x,F,vw,ps,fs,n,rfl,B,?_⟩;cases hf:aZ vw n with
 |none =>
  rw[hf]at q;exact q
 |some th =>
  rw[hf]at q;cases th with
  |pl ss =>
   have gl:=(wv.gd _ _ (cb hf)).1;refine⟨_,rfl,rfl,_,rfl,?_⟩;refine aP (fun _=>?_) (fun h=>absurd (by decide) h);refine⟨_,rfl,x,dx,_,rfl,hx,iI _ _ _,_,rfl,x,F,vw,ps,fs,n,rfl,B,?_⟩;rw[hf];intro l ys H1 hl s1 h1 g1;rw[gF hf]at g1;refine⟨l,3,ys,ss,rfl,aL.of h1,g1,by omega,fun f' H2 s2 n2 h2=>?_⟩;exact q f' H2 (s1.free n2) (s1.trans s2) (by rw[xN hf];exact h2)
  |cn ld lt sl tn =>
   intro p hp;obtain⟨⟨ss,Ct⟩,Oe,Wh,Wi,Vf⟩:=wv.ld n ld lt sl tn (cb hf);have hfl:=wv.find Ct;have gl:=(wv.gd _ _ Ct).1;rw[xO hf hfl]at q;refine⟨_,rfl,rfl,_,rfl,?_⟩;refine aP (fun h=>by have:=of_decide_eq_true h;cases this) (fun _=>?_);refine⟨_,rfl,p,_,rfl,fc.of hp,rfl,_,_,rfl,_,_,rfl,_,_,rfl,_,_,rfl,rfl,?_⟩;refine⟨fun v H'=>v=.int (if tn=true then 2 else 3)/\H'=H,?_,?_⟩
   ·refine⟨_,rfl,_,rfl,?_⟩;cases tn with
    |true=>exact gx ⟨rfl,rfl⟩
    |false=>exact ck ⟨rfl,rfl⟩
   intro v0 H0 ⟨e1,e2⟩;rw[e1,e2];refine⟨_,rfl,x,dx,_,rfl,hx,iI _ _ _,_,rfl,x,F,vw,ps,fs,n,rfl,B,?_⟩;rw[hf];intro l ys H1 hl s1 h1 g1;rw[lD hf hfl]at g1;have Sm:(if tn=true then ss.map jv else ss).length<=400:=by
    split
    ·rw[length_map];omega
    ·omega
   refine⟨_,rfl,l,(if tn=true then 2 else 3),ys,_,rfl,aL.of h1,g1,Sm,fun f' H2 s2 n2 h2=>?_⟩;generalize hW:(fE (if tn=true then 2 else 3) (aR (if tn=true then ss.map jv else ss))).1=W at q h2;have YA:W.length<=400:=by rw[<-hW,pI,length_map];exact Sm
   refine⟨f',rfl,⟨_,aL.of h2⟩,fun D' b' hD'=>?_⟩;generalize ZG:(if tn=true then(2:Int) else 3)=bz;refine dG (K:=K) (xs:=W.map V.int) (fun i ys σ H'=>∃ v,σ=[v,some (.ref x),some (.str n),some (.ref p),some (.str ld),some (.int lt),some (.int sl),some (.bl tn),some (.int bz)]/\H'=upd H2 D' (.lst ys)/\ys=((W.take i).map fun w=>sl * w).map V.int) ⟨none,rfl,rfl,by simp⟩ ?_ ?_ ?_
   ·rintro i ys σ H' ⟨v,rfl,rfl,_⟩;exact cY (aL.of h2) hD'
   ·rintro i ys y σ H' hy ⟨v,rfl,rfl,rfl⟩ N hN;obtain⟨z,hz,rfl⟩:=BG hy;have hi:i<W.length:=(List.getElem?_eq_some_iff.mp hz).1;refine bZ ?_;refine⟨_,rfl,_,rfl,.inl ⟨_,_,rfl,rfl,.inl ⟨by omega,by omega⟩,ae,?_,?_⟩⟩
    ·rw[length_map,length_map,length_take];exact aF (by omega)
    ·refine hN _ _ _ ⟨_,rfl,bH,?_⟩;rw[take_succ,hz,map_append,map_append];rfl
   ·rintro ys σ H' ⟨v,rfl,rfl,rfl⟩;rw[length_map,take_length];exact q D' _ (s1.free (s2.free hD')) ((s1.trans s2).trans (aq.upd hD')) ae
theorem YB (m:Int)(k:Kd)(n:Option Kd):0<=bw m k n/\bw m k n<=3:=by
 unfold bw;split
 ·omega
 ·cases k <;> unfold pw <;> first|omega|(split <;> omega)
theorem So (m:Int)(ks:List Kd):∀ x∈eJ m ks,0<=x/\x<=(3:Int):=by
 induction ks generalizing m with
 |nil=>intro x hx;cases hx
 |cons k t ih =>
  intro x hx;rcases List.mem_cons.mp hx with rfl|hx
  ·exact YB (nm m k) k t.head?
  ·exact ih _ x hx
theorem P9 {f:List Int}{j:Nat}(h:∀ x∈f,0<=x/\x<=(3:Int)):∀ x∈f.set j 2,0<=x/\x<=(3:Int):=fun x hx=>by
 rcases List.mem_or_eq_of_mem_set hx with z|z
 ·exact h x z
 ·omega
theorem Nw {ks:List Kd}{f:List Int}{a z:Nat}(h:∀ x∈f,0<=x/\x<=(3:Int)):∀ x∈(settle ks f a z).2,0<=x/\x<=(3:Int):=by
 unfold settle pG pH
 repeat' split
 all_goals first|exact h|exact P9 h|exact P9 (P9 h)
theorem Sq (ks:List Kd)(rs:List (Nat×Nat))(c:MY)(h:∀ x∈c.1,0<=x/\x<=(3:Int)):∀ x∈(rs.foldl (js ks) c).1,0<=x/\x<=(3:Int):=by
 induction rs generalizing c with
 |nil=>exact h
 |cons p t ih=>exact ih _ (Nw h)
theorem Ox (m:Int)(ks:List Kd):∀ x∈(fE m ks).1,0<=x/\x<=(3:Int):=Sq _ _ _ (So m ks)
theorem Ib {vw:Vw}(w:pL vw){n:Str}{th:Th}(hf:aZ vw n=some th):(∀ x∈dy vw n,0<=x/\x<=(27:Int))/\(dy vw n).length=(cR vw n).length/\(cR vw n).length<=200:=by
 cases th with
 |pl ss =>
  rw[xN hf,gF hf];refine⟨fun x hx=>?_,by rw[pI,length_map],(w.gd _ _ (cb hf)).1⟩;have:=Ox _ _ x hx;omega
 |cn ld lt sl tn =>
  obtain⟨⟨ss,Ct⟩,Oe,Wh,Wi,Vf⟩:=w.ld n ld lt sl tn (cb hf);have hfl:=w.find Ct;have gl:=(w.gd _ _ Ct).1;rw[xO hf hfl,lD hf hfl];refine⟨fun x hx=>?_,by rw[length_map,pI,length_map],?_⟩
  ·obtain⟨y,hy,rfl⟩:=mem_map.mp hx;have:=Ox _ _ y hy;have h1:0<=sl * y:=Int.mul_nonneg (by omega) this.1;have h2:sl * y<=9 * 3:=Int.mul_le_mul Vf this.2 this.1 (by omega);exact⟨h1,by omega⟩
  ·split
   ·rw[length_map];omega
   ·omega
theorem Et:∀{ws:List Int},(∀ w∈ws,0<=w/\w<=(27:Int))->((ws.map iY).map (·.length)).sum<=3 * ws.length:=by
 intro ws h
 induction ws with
 |nil=>exact Nat.le_refl _
 |cons w ws ih =>
  have h1:=ih fun z hz=>h z (mem_cons_of_mem _ hz);have h2:=h w (mem_cons_self ..);have h3:=DD h2.1 (show w<1000 by omega);simp only [map_cons,List.sum_cons,length_cons];omega
theorem uB (T:Txt K w mg t):aS P w K mg base (dU P w) (0+8) t.iR t.nC ["book","values"] (gj (cs t) "worths"):=by
 have pq:=tq P base T;refine T.fO.wO lM ?_ ?_
 x_go
 obtain⟨x,l,F,vw,ps,fs,cm,ys,rfl,hh,hl,pa,ok,B,ft,hlen,q⟩:=h;refine aG (ah (ar (ef plainAttrs_str slot_str_join type_str_join wL ax (aa (aH (aV.or (ay.or aW)) (bq (aa ax ag)) (dz (cn:=["worth"]) rfl (bL.of rfl) (cW (bK (X:=(nQ T.fO.1 lM (dU P w) P w mg base cdv A outer s H E)) (pv 0) T.aJ T.dY.me pq (eR hr) T.dY.b .nil (fun _ _ z=>Or.inl z) (aa (eD (pv 1)) ag))) (fun _=>(bQ (i:=0) qK rfl (Or.inl rfl))) (fun _=>fh) (fun _=>(bT mi rfl T.FI Fc (aa (pv 0) ag))))) ag)))) ?_;cases cm with
 |jx n =>
  obtain rfl:=LO pa;obtain⟨dx,L,D,U,hx⟩:=f6 B;obtain⟨th,hf⟩:=ft;have wv:=B.wv vw (.inr (.inl rfl));obtain⟨gd,Sr,LS⟩:=Ib wv hf;have w3:=Et gd;rw[<-Sr]at LS;refine⟨rfl,by show 1<=sizeLine;decide,fun d0 hd0=>?_⟩;have s0:=aq.upd (o:=.lst [V.str "ok"]) hd0;have h0:=ae (H:=H) (a:=d0) (o:=.lst [V.str "ok"]);generalize upd H d0 (.lst [V.str "ok"])=H0 at s0 h0;refine⟨_,rfl,x,dx,_,rfl,s0 _ _ hx,uI _ _ _,_,rfl,EO (aL.of (s0 _ _ hl)) (n:=0) rfl rfl ?_⟩;refine⟨x,F,vw,ps,fs,n,rfl,B.same s0,?_⟩;rw[hf];intro l1 H1 hl1 s1 h1;have Sh:=s1 _ _ h0;have q:BU (cs t) x F H Q (fun H'=>RX E (cs t) .qD H') true (some (Str.join " " ("ok" :: (dy vw n).map iY),vw,ps,fs)):=q;clear Sr;generalize dy vw n=ss at gd LS w3 h1 q;refine⟨l1,rfl,⟨_,aL.of h1⟩,fun D b hD=>?_⟩;refine dG (K:=K) (xs:=ss.map V.int) (fun i zs σ H'=>∃ v,σ=[v,some (.ref x),some (.ref l)]/\H'=upd H1 D (.lst zs)/\zs=((ss.take i).map iY).map V.str) ⟨none,rfl,rfl,by simp⟩ ?_ ?_ ?_
  ·rintro i zs σ H' ⟨v,rfl,rfl,rfl⟩;exact cY (aL.of h1) hD
  ·rintro i zs y σ H' hy ⟨v,rfl,rfl,rfl⟩ N hN;obtain⟨sg,e1,rfl⟩:∃ sg,ss[i]? = some sg/\y=.int sg:=by
    rw[getElem?_map]at hy;cases e:ss[i]? with
    |none=>rw[e]at hy;cases hy
    |some z=>rw[e]at hy;exact⟨z,rfl,(Option.some.inj hy).symm⟩
   have hi:i<ss.length:=(List.getElem?_eq_some_iff.mp e1).1;have bd:=gd sg (mem_of_getElem? e1);refine bZ ?_;refine⟨_,rfl,_,rfl,BR bd.1 (by omega),ae,?_,?_⟩
   ·rw[length_map,length_map,length_take];exact aF (by omega)
   ·refine hN _ _ _ ⟨_,rfl,bH,?_⟩;rw[take_succ,e1];simp;rfl
  ·rintro zs σ H' ⟨v,rfl,rfl,rfl⟩;rw[length_map,take_length];have hdD:(upd H1 D (.lst ((ss.map iY).map V.str))) d0=some (.lst [V.str "ok"]):=by rw[ai (ao Sh hD)];exact Sh
   refine .inr (.inr ⟨d0,D,_,_,rfl,rfl,hdD,ae,?_,fun c hc=>?_⟩)
   ·rw[length_map,length_map];exact Nat.le_of_lt (aF (by show 1+_<=_;omega))
   have sD:=aq.upd (o:=.lst ((ss.map iY).map V.str)) hD;generalize upd H1 D (.lst ((ss.map iY).map V.str))=H2 at hc sD;have s2:=((s0.trans s1).trans sD).trans (aq.upd (o:=.lst ([V.str "ok"]++(ss.map iY).map V.str)) hc);refine⟨_,c,"ok" :: ss.map iY,rfl,rfl,aL.of ae,?_,q F _ (Gr.refl _ _) (.same s2) (fun _=>s2) (B.same s2)⟩;have e:(Str.ofString " ").length=1:=by lk
   have e5:(Str.ofString "ok").length=2:=by lk
   simp only [map_cons,List.sum_cons,length_cons,length_map];rw[e,e5];omega
 |_=>exact absurd hh (by show ¬ Str.ofString _=_;decide +kernel)
inductive tw (c:Cs)(vs:List V)(H:Hp)(Q:VK)(E:XK):Prop
 |mk (x l:Addr) (F:Addr->Prop) (vw:Vw) (ps fs:List Vw) (cm:Cm) (cH:vs=[.ref x,.ref l]) (cI:H l=some (.lst (cm.words.map V.str))) (dh:cm.ok) (fJ:pZ c H x F vw ps fs) (jh:cm.fit vw) (zL:ps.length+fs.length<=900) (Jz:BU c x F H Q (fun H'=>RX E c .qD H') cm.look (cm.PN vw ps fs)):tw c vs H Q E
theorem Cz (T:Txt K w mg t):aS P w K mg base (dU P w) (0+9) t.vt t.vv ["book","words"] (tw (cs t)):=by
 have Gb:=El P base T;have CA:=zB P base T;have wG:=uA P base T;have CC:=zC P base T;have zH:=yU P base T;have zI:=yW P base T;have wH:=uB P base T;refine T.iL.wO mH ?_ ?_
 x_go
 obtain⟨x,l,F,vw,ps,fs,cm,rfl,hl,ok,B,ft,hlen,q⟩:=h;refine aG (af (ed 2 mH.nd (bp zT (aX (v:=.ref t.pN) rfl T.Jn rfl) (eD (pv 1)) (fun _ _=>rfl))) (ah (ar (K3 (k:=8) (X:=(nQ T.iL.1 mH (dU P w) P w mg base cdv A outer s H E)) (eR hr) (pv 2) (fun _ _ z=>Or.inl z) (aa (pv 0) (aa (dz (cn:=["word","form"]) rfl (bL.of rfl) (Hc rfl T.FJ (di (eG.or (gs.or gA)) (pv 1) (cX ak) eF) (bp zT (aX (v:=.ref t.pM) rfl T.Co rfl) (eD (pv 1)) (fun _ _=>rfl))) (fun _=>(ff rfl (aK (bQ (i:=0) oO rfl (Or.inl rfl)) (aK (bQ (i:=1) oO rfl (Or.inl rfl)) cV)))) (fun _=>fh) (fun _=>(eC T.yC Gb hr (aa (pv 0) (aa (pv 1) ag))))) ag)))))) ?_;have hl0:H l=some (.lst (V.str cm.head::(cm.args.map Ar.w).map V.str)):=hl;obtain⟨fa,kvs,kd,lk,hq⟩:=HV T cm;have c5:=cm.len;have hA:∃ f fd Vg,KD K w t.pN Vg/\Vg.lookup cm.head=some (.ref f)/\aS P w K mg base (dU P w) 8 f fd ["book","values"] (gj (cs t) cm.head)/\keepIn K (.ref f)=true/\Binds K fd ["book","values"] []:=by
  cases cm with
  |add n=>exact⟨_,_,_,T.ip,by show List.lookup (Str.ofString "add") _=_;repeat (first|exact cQ|refine(az (by lk)).trans ?_),CA.mono (by decide),T.jc.kp,T.jc.b⟩
  |follow n ld lt sl tn=>exact⟨_,_,_,T.ip,by show List.lookup (Str.ofString "follow") _=_;repeat (first|exact cQ|refine(az (by lk)).trans ?_),wG.mono (by decide),T.fN.kp,T.fN.b⟩
  |put n i s=>exact⟨_,_,_,T.ip,by show List.lookup (Str.ofString "put") _=_;repeat (first|exact cQ|refine(az (by lk)).trans ?_),CC.mono (by decide),T.jd.kp,T.jd.b⟩
  |undo=>exact⟨_,_,_,T.ip,by show List.lookup (Str.ofString "undo") _=_;repeat (first|exact cQ|refine(az (by lk)).trans ?_),zH.mono (by decide),T.iC.kp,T.iC.b⟩
  |line n=>exact⟨_,_,_,T.ip,by show List.lookup (Str.ofString "line") _=_;repeat (first|exact cQ|refine(az (by lk)).trans ?_),zI.mono (by decide),T.iD.kp,T.iD.b⟩
  |jx n=>exact⟨_,_,_,T.ip,by show List.lookup (Str.ofString "worths") _=_;repeat (first|exact cQ|refine(az (by lk)).trans ?_),wH.mono (by decide),T.fO.kp,T.fO.b⟩
 obtain⟨f,fd,Vg,ad,YC,GF,kp,bd⟩:=hA;refine⟨_,rfl,EO (aL.of hl0) (n:=0) rfl rfl ?_⟩;refine⟨_,_,_,_,rfl,rfl,ad,YC,?_⟩;refine⟨_,rfl,f,fd,_,_,rfl,GF,kp,bd,?_⟩;tm_up;refine .inl ⟨l,_,rfl,aL.of hl0,fun k hk=>?_⟩;rw[Sb];have s1:=aq.upd (o:=.lst ((cm.args.map Ar.w).map V.str)) hk;have k1:=ae (H:=H) (a:=k) (o:=.lst ((cm.args.map Ar.w).map V.str));generalize upd H k (.lst ((cm.args.map Ar.w).map V.str))=H1 at s1 k1;refine⟨_,rfl,EO (aL.of (s1 _ _ hl0)) (n:=0) rfl rfl ?_⟩;refine⟨_,_,_,_,rfl,rfl,kd,lk,?_⟩;tm_up;refine⟨⟨_,aL.of k1⟩,⟨_,hq _⟩,fun D b hD=>?_⟩;have wl:((cm.args.map Ar.w).map V.str).length=((cm.args.map Ar.f).map V.str).length:=by simp
 refine zW (K:=K) (xs:=(cm.args.map Ar.w).map V.str) (zs:=(cm.args.map Ar.f).map V.str) (fun i ys σ H'=>∃(v w:Option V),σ=[v,w,some (.ref x),some (.ref l),some (.ref f)]/\aq H1 H'/\H' D=some (.lst ys)/\Paired (zq H') ys (cm.args.take i)/\i<=cm.args.length)
  wl ⟨none,none,rfl,aq.upd hD,ae,.nil,Nat.zero_le _⟩ ?_ ?_ ?_
 ·rintro i ys σ H' ⟨v,w,rfl,s2,_⟩;exact⟨aL.of (s2 _ _ k1),hq _⟩
 ·rintro i ys y z τ σ H' hx hz ⟨v,w,rfl,s2,yO,pa,hi⟩ Z7 N hN;obtain⟨a,ha,rfl,rfl⟩:∃ a,cm.args[i]? = some a/\y=.str a.w/\z=.str a.f:=by
   rw[getElem?_map,getElem?_map]at hx hz;cases e:cm.args[i]? with
   |none=>rw[e]at hx;cases hx
   |some a=>rw[e]at hx hz;exact⟨a,rfl,(Option.some.inj hx).symm,(Option.some.inj hz).symm⟩
  have hi2:i<cm.args.length:=(List.getElem?_eq_some_iff.mp ha).1;have s3:=aq.upd (o:=.tup [V.str a.w,V.str a.f]) Z7;have t3:=ae (H:=H') (a:=τ) (o:=.tup [V.str a.w,V.str a.f]);generalize upd H' τ (.tup [V.str a.w,V.str a.f])=H3 at s3 t3;refine⟨τ,_,rfl,fc.of t3,rfl,_,_,rfl,_,_,rfl,rfl,?_⟩;refine⟨_,rfl,_,rfl,a,rfl,ok a (mem_of_getElem? ha),fun va H4 s4 av=>?_⟩;have Ou:=s4 _ _ (s3 _ _ yO);have pl:=bF pa;rw[length_take]at pl;refine⟨Ou,aF (by omega),?_⟩;refine hN _ _ _ ⟨_,_,rfl,cZ ((s2.trans s3).trans s4) hD,ae,?_,hi2⟩;rw[take_succ,ha];exact gZ (bR (fun _ _ z=>((z.same s3).same s4).write Ou) pa) (av.write Ou)
 ·rintro ys σ H' ⟨v,w,rfl,s2,yO,pa,hi⟩;rw[show((cm.args.map Ar.w).map V.str).length=cm.args.length by simp,take_length]at pa;have s3:=s1.trans s2;exact⟨x,D,F,vw,ps,fs,cm,ys,rfl,rfl,yO,pa,ok,B.same s3,ft,hlen,q.same s3⟩
theorem Cm.text_len {c:Cm}(h:c.ok):c.text.length<=100:=by
 have hw:∀ w∈c.words,w.length<=8:=fun w hw=>by
  rcases List.mem_cons.mp hw with rfl|hw
  ·cases c <;> (show(Str.ofString _).length<=8;decide +kernel)
  ·obtain⟨a,ha,rfl⟩:=mem_map.mp hw;exact Ar.len (h a ha)
 have hl:c.words.length<=6:=by
  have:=c.len;show(c.args.map Ar.w).length+1<=6;rw[length_map];omega
 have hj:∀ ws:List Str,(∀ w∈ws,w.length<=8)->(Str.join " " ws).length<=9 * ws.length:=by
  intro ws
  induction ws with
  |nil=>intro _;exact Nat.le_of_eq (by lk)
  |cons a r ih =>
   intro hh;have h1:=hh a (mem_cons_self ..);cases r with
   |nil=>show a.length<=9;omega
   |cons b r =>
    have h2:=ih fun w hw=>hh w (mem_cons_of_mem _ hw);have e1:(Str.ofString " ").length=1:=by lk
    rw[join_cons,PySem.Str.length_append,PySem.Str.length_append,e1];have e2:(a::b::r).length=(b::r).length+1:=rfl;omega
 have:=hj _ hw;show(Str.join " " c.words).length<=100;omega
inductive tD (C:Addr)(c:Cs)(vs:List V)(H:Hp)(Q:VK)(E:XK):Prop
 |mk (d dd x:Addr) (F:Addr->Prop) (vw:Vw) (ps fs:List Vw) (cm:Cm) (cH:vs=[.ref d,.str cm.text]) (cI:H d=some (.ins C dd (Mj x))) (dh:cm.ok) (fJ:pZ c H x F vw ps fs) (jh:cm.fit vw) (zL:ps.length+fs.length<=900) (Jz:BU c x F H Q (fun H'=>Q (.str "no NoMore") H') cm.look (cm.PN vw ps fs)):tD C c vs H Q E
theorem mT (T:Txt K w mg t):aS P w K mg base fk (0+10) t.oW t.vy ["self","command"] (tD t.ic (cs t)):=by
 have CF:=zA P base T;have Eu:=Cz P base T;refine T.bg.ok rO ?_ ?_
 x_go
 obtain⟨d,dd,x,F,vw,ps,fs,cm,rfl,hd,ok,B,ft,hlen,q⟩:=h;refine aG (af (ed 2 rO.nd (ef plainAttrs_str PySem.F.slot_str_split PySem.F.type_str_split Kr (pv 1) (aa ax ag))) (af (aM (dq (a8 (eC T.sq CF hr (aa (pv 2) ag)))) (ah (ar ax)) aA) (ah (MT (fun pn XS=>(ah (ar (oj (X:=Cx.CQ (kM fk P w K mg base ["self","command","words"] "Desk.told" (aj oJ) t.oW cdv A outer s H E).NO pn) (XS:=XS) Eu (eR hr) rfl T.iL.g T.iL.kp T.iL.b .nil (fun _ _ z=>z) (aa (MV (K:=K) rfl (pv 0) rfl) (aa (pv 2) ag)))))) (fA (CT:=t.uk) (fun pn a=>(ah (ar ax))) rfl T.FG (fA (CT:=t.lU) (fun pn a=>(ah (ar ax))) rfl T.yr (fA (CT:=t.iK) (fun pn a=>(ah (ar ax))) rfl T.sj (fA (CT:=t.yq) (fun pn a=>(ah (ar ax))) rfl T.Cj (fA (CT:=t.lV) (fun pn a=>(ah (ar ax))) rfl T.yt (fA (CT:=t.jH) (fun pn a=>(ah (ar ax))) rfl T.vR (fA (CT:=t.lX) (fun pn a=>(ah (ar ax))) rfl T.yv (fA (CT:=t.lW) (fun pn a=>(ah (ar ax))) rfl T.yu (fA (CT:=t.o6) (fun pn a=>(ah (ar ax))) rfl T.AU (fA (CT:=t.cS) (fun pn a=>(ah (ar ax))) rfl T.AS MS)))))))))) rfl rfl)))) ?_;have tl:=Cm.text_len ok;have Wj:=Cm.split ok;have c5:=cm.len;have wl:cm.words.length<=6:=by
  show(cm.args.map Ar.w).length+1<=6;rw[length_map];omega
 refine⟨_,rfl,rfl,_,_,rfl,rfl,rfl,Nat.le_trans tl (by decide),?_,fun l hl=>?_⟩
 ·rw[Wj];exact Nat.le_trans wl (by decide)
 rw[Wj];have s1:=aq.upd (o:=.lst (cm.words.map V.str)) hl;have k1:=ae (H:=H) (a:=l) (o:=.lst (cm.words.map V.str));generalize upd H l (.lst (cm.words.map V.str))=H1 at s1 k1;refine⟨_,rfl,l,cm,rfl,ok,k1,fun H2 s2=>⟨_,rfl,ck ?_⟩⟩;have s3:=s1.trans s2;refine⟨_,rfl,d,_,dd,_,_,rfl,s3 _ _ hd,T.cu,T.bE,eo _,?_⟩;refine⟨_,rfl,x,l,F,vw,ps,fs,cm,rfl,s2 _ _ k1,ok,B.same s3,ft,hlen,?_⟩;cases hb:cm.PN vw ps fs with
 |none =>
  rw[hb]at q;intro H' s';exact⟨rfl,.inr ⟨T.su,.inr ⟨T.sx,.inr ⟨T.pQ,.inr ⟨T.yM,.inr ⟨T.sy,.inr ⟨T.qQ,.inr ⟨T.sG,.inr ⟨T.sH,.inr ⟨T.ur,.inl ⟨T.uv,q H' (s3.trans s')⟩⟩⟩⟩⟩⟩⟩⟩⟩⟩⟩
 |some r =>
  rw[hb]at q;exact BU.same s3 q
noncomputable def Vh:List Kd:=[.G,.G,.G,.G,.G,.s,.s,.s,.s,.s,.s,.s,.s,.s,.d,.d,.r,.r,.D,.R,.dot,.dot,.three,.two]
theorem Ss:(Str.ofString "GGGGGsssssssssddrrDR..32").cps.toList=Vh.map Kd.cp:=by lk
theorem Ew (k:Kd):Bz k.str "GDsd"=k.cK:=by cases k <;> decide +kernel
inductive tE (vs:List V)(H:Hp)(Q:VK)(E:XK):Prop
 |mk (m:Int) (cH:vs=[.int m]) (cI:∀(p:Addr)(s:Sg),gb s->H p=none->Q (.ref p) (upd H p (.tup [.str s.1.str,.int s.2]))):tE vs H Q E
theorem CG (T:Txt K w mg t):aS P w K mg base fk (0+1) t.vz t.vA ["_law_number"] tE:=by
 refine T.vT.ok rP ?_ ?_
 x_go
 obtain⟨m,rfl,q⟩:=h;refine aG (af (ed 1 rP.nd (bp a7 ax (aH dE (pv 0) ak) (fun _ _=>rfl))) (af (aM (au (bA.or bx) (pv 1) ax rfl) (ah (ar (dr (aa (pv 1) (aa (aH dE (aH qX (pv 0) ak) ak) ag))))) aA) (ah (ar (dr (aa (pv 1) (aa ak ag))))))) ?_;obtain⟨k,hk⟩:∃ k,Vh[(m % 24).toNat]? = some k:=by
  have h1:(m % 24).toNat<Vh.length:=by
   show _<24;omega
  exact⟨_,getElem?_eq_getElem h1⟩
 have hat:Md (Str.ofString "GGGGGsssssssssddrrDR..32").cps.toList (m % 24)=some k.cp:=by
  have e0:m % 24=(((m % 24).toNat:Nat):Int):=by omega
  rw[e0,Ss];exact pE (by rw[getElem?_map,hk];rfl)
 refine⟨_,rfl,_,_,rfl,rfl,(by decide:(0:Int)<24),.inr (.inr ⟨_,_,_,rfl,rfl,(by lk),hat,?_⟩)⟩;rw[<-RQ k];tm_up;refine aP (fun h=>?_) (fun h=>?_)
 ·have h4:k.cK=true:=by rw[<-Ew];exact h
  tm_up;refine⟨(by show 2<=sizeLine;decide),fun p hp=>?_⟩;exact q p (k,m / 24 % 100) ⟨fun _=>by show 0<=m / 24 % 100/\m / 24 % 100<100;omega,fun z=>by rw[h4]at z;cases z⟩ hp
 ·have h4:k.cK=false:=by
   rw[<-Ew];exact Bool.eq_false_iff.mpr h
  tm_up;refine⟨(by show 2<=sizeLine;decide),fun p hp=>?_⟩;exact q p (k,0) ⟨(fun z=>by rw[h4]at z;cases z),fun _=>rfl⟩ hp
theorem Su {a b:TS}{D:Ends}{σ:St}{H:Hp}{rt:VK}{bk ct:St->Hp->Prop}(h:Mq a b D σ H):Ends.nx { nx:=Mq a b D,rt:=rt,bk:=bk,ct:=ct } σ H:=h
noncomputable def YD (H:Hp)(v:V)(d:De):Prop:=∃ p xs ps,v=.ref p/\H p=some (.tup xs)/\xs[0]? = some (.str d.wy.str)/\xs[4]? = some (.ref ps)/\H ps=some (.tup [.str d.sg.1,.int d.sg.2])
theorem Ex (xs:List V)(n:Nat):n0 xs (some (n:Int)) none=xs.drop n:=by
 rcases Nat.lt_or_ge xs.length n with h|h
 ·unfold n0;have e:HT.gY xs.length 0 (some (n:Int))=min n xs.length:=HT.Bj xs.length 0 n;rw[HT.xj,e,Nat.min_eq_right (by omega),List.drop_eq_nil_of_le (Nat.le_refl _),List.take_nil,List.drop_eq_nil_of_le (by omega)]
 ·exact wR xs n h
theorem y8 (ks:List Kd)(p met:Nat):cD ks (p+1) met=if(if(ks.getD p .dot).small=true then met else met+1)=2 then p else cD ks p (if(ks.getD p .dot).small=true then met else met+1):=rfl
theorem A8 {ks:List Kd}{j met:Nat}{k:Kd}(h:ks[j]? = some k)(hk:k.small=true)(hm:met<2):cD ks (j+1) met=cD ks j met:=by
 have e:ks.getD j .dot=k:=by rw[List.getD_eq_getElem?_getD,h];rfl
 rw[y8,e,if_pos hk,if_neg (by omega)]
theorem Nx {ks:List Kd}{j:Nat}{k:Kd}(h:ks[j]? = some k)(hk:k.small=false):cD ks (j+1) 1=j:=by
 have e:ks.getD j .dot=k:=by rw[List.getD_eq_getElem?_getD,h];rfl
 rw[y8,e,hk];rfl
theorem LX {ks:List Kd}{j:Nat}{k:Kd}(h:ks[j]? = some k)(hk:k.small=false):cD ks (j+1) 0=cD ks j 1:=by
 have e:ks.getD j .dot=k:=by rw[List.getD_eq_getElem?_getD,h];rfl
 rw[y8,e,hk];rfl
theorem Ny {α:Type}(xs:List α)(b c:α):Md (xs++[b,c]) (-2)=some b:=by
 have hl:(xs++[b,c]).length=xs.length+2:=by simp
 have e:Ke (xs++[b,c]).length (-2)=some xs.length:=by
  unfold Ke;rw[hl]
  first|(rw[if_neg (by omega),if_pos (by omega)];congr 1;omega)|(simp;omega)|(split <;> simp <;> omega)
 unfold Md;rw[e];simp
theorem Nz {ns:List Nat}(h:1<ns.length):∃ w b c,ns=w++[b,c]:=by
 rcases List.eq_nil_or_concat ns with rfl|⟨w,c,e⟩
 ·simp at h
 ·rw[List.concat_eq_append]at e;subst e;rcases List.eq_nil_or_concat w with rfl|⟨w',b,e⟩
  ·simp at h
  ·rw[List.concat_eq_append]at e;subst e;exact⟨w',b,c,by simp⟩
theorem Sv (k:Kd):Bz k.str "sdr"=k.small:=by cases k <;> decide +kernel
theorem Qa (k:Kd):Bz k.str "32"=k.meas:=by cases k <;> decide +kernel
theorem Sw (k:Kd):Bz k.str ".32" = k.parting:=by cases k <;> decide +kernel
inductive wb (K:Frag)(vs:List V)(H:Hp)(Q:VK)(E:XK):Prop
 |mk (l:Addr) (v:V) (ys:List V) (ss:List Sg) (de:De) (i:Nat) (cH:vs=[.ref l,v,.int (i:Int)]) (cI:H l=some (.lst ys)) (dh:gn H ys ss) (fJ:ss.length<=200) (jh:YD H v de) (zL:(de.wy=.put\/de.wy=.cut\/de.wy=.swap)) (Jz:(de.wy≠.cut->iX de.sg=true)) (Nq:i<=ss.length) (Nr:(de.wy≠.put->i<ss.length)) (Tj:∀(p:Addr)(ch:List Sg)(H':Hp),aq H H'->(de.wy=.put->ch=[jw de.sg])->(∀ s,ss[i]? = some s->(de.wy=.cut->ch=[s])/\(de.wy=.swap->ch=[s,jw de.sg]))->H' p=some (.tup (Lg (d4 ss de.wy de.sg i) i (if de.wy=.cut then i else i+1) ch))->Q (.ref p) H'):wb K vs H Q E
theorem Ey (T:Txt K w mg t):aS P w K mg base fk (0+1) t.yi t.yj ["_law_line","_law_deed","_law_at"] (wb K):=by
 refine T.yG.ok dj ?_ ?_
 x_go
 obtain⟨l,v,ys,ss,de,i,rfl,hl,g,Nu,hde,Vi,hgd,hi,hi2,q⟩:=h;obtain⟨p2,ZH,ps2,rfl,hp2,e0,e4,Sx⟩:=id hde;refine aG (af (qv (i:=3) dj.nd rfl (Or.inr rfl) (aH (aV.or (ay.or aW)) (di (eG.or (gs.or gA)) (pv 0) eF (cX (pv 2))) (di (eG.or (gs.or gA)) (pv 0) (cX (aH (aV.or (ay.or aW)) (pv 2) ak)) eF))) (af (ed 4 dj.nd (pv 2)) (af (qv (i:=5) dj.nd rfl (Or.inr rfl) (bX (gp (a9 (nX.or (jo (aE hr))) (eD (pv 1)) ax (aD _)) (fQ (a9 (bA.or bx) (bp a7 (bp a7 (pv 0) (pv 2) (fun _ _=>rfl)) ak (fun _ _=>rfl)) ax rfl))))) (af (jq (aM (au (nX.or (jo (aE hr))) (eD (pv 1)) ax (aD _)) (af (qv (i:=3) dj.nd rfl (Or.inr rfl) (aH (aV.or (ay.or aW)) (aH (aV.or (ay.or aW)) (di (eG.or (gs.or gA)) (pv 0) eF (cX (pv 2))) (bq (aa (eD (pv 1)) ag))) (di (eG.or (gs.or gA)) (pv 0) (cX (aH (aV.or (ay.or aW)) (pv 2) (bT (lp.or fq) rfl T.uo tW (aa (a9 (bo.or (aU (aE hr))) (eD (pv 1)) ax (aD _)) ag)))) eF))) (af (ed 4 dj.nd (aH (aV.or (ay.or aW)) (pv 2) ak)) (ah (qv (i:=5) dj.nd rfl (Or.inr rfl) (bX (Gp (pv 5) (fQ (a9 (bA.or bx) (bp a7 (eD (pv 1)) ak (fun _ _=>rfl)) ax rfl)))))))) aA)) (af (xq (i:=6) dj.nd rfl rfl (cn:=["_law_k"]) rfl (bL.of rfl) (jg rfl T.gM (aa (pv 2) ag)) (fun _=>(bQ (i:=0) oP rfl (Or.inl rfl))) (fun _=>(Ko (au (gu.or gw) (bp a7 (bp a7 (pv 4) (pv 0) (fun _ _=>rfl)) ak (fun _ _=>rfl)) ax rfl))) (fun _=>(pv 0))) (af (xq (i:=7) dj.nd rfl rfl (cn:=["_law_k"]) rfl (bL.of rfl) (zK rfl T.gM (aa (pv 4) (aa (aI (aB.or aC) rfl T.bu br (aa (pv 3) ag)) ag))) (fun _=>(bQ (i:=0) oP rfl (Or.inl rfl))) (fun _=>(Ko (au (bA.or bx) (bp a7 (bp a7 (pv 4) (pv 0) (fun _ _=>rfl)) ak (fun _ _=>rfl)) (bX (dC (a8 (pv 6)) ax ax)) rfl))) (fun _=>(pv 0))) (ah (ar (dr (aa (bX (dC (au C1 (aI (aB.or aC) rfl T.bu br (aa (pv 6) ag)) ak (aD _)) (bp a7 (pv 6) (J3 ET ak) (fun _ _=>rfl)) ak)) (aa (bX (dC (au (Pf (aE hr)) (pv 7) (bq ag) (aD _)) (eD (pv 7)) (aI (aB.or aC) rfl T.bu br (aa (pv 3) ag)))) ag))))))))))) ?_;have yl:=bF g;refine fX fun N hN=>?_;refine⟨_,rfl,_,rfl,i,rfl,.inl ⟨l,ys,rfl,aL.of hl,fun c1 hc1=>?_⟩⟩;rw[zX];have S1:=aq.upd (o:=.lst (ys.take i)) hc1;have k1:=ae (H:=H) (a:=c1) (o:=.lst (ys.take i));generalize upd H c1 (.lst (ys.take i))=H1 at S1 k1;refine⟨_,rfl,_,rfl,.inl ⟨_,_,rfl,rfl,_,rfl,.inl ⟨l,ys,rfl,aL.of (S1 _ _ hl),fun c4 hc4=>?_⟩⟩⟩;rw[show n0 ys (some ((i:Int)+1)) none=ys.drop (i+1) from Ex ys (i+1)];have S4:=aq.upd (o:=.lst (ys.drop (i+1))) hc4;have k4:=ae (H:=H1) (a:=c4) (o:=.lst (ys.drop (i+1)));generalize upd H1 c4 (.lst (ys.drop (i+1)))=H4 at S4 k4;refine .inr (.inr ⟨c1,c4,_,_,rfl,rfl,S4 _ _ k1,k4,?_,fun c5 hc5=>?_⟩)
 ·exact big (by simp only [length_take,length_drop];omega)
 have S5:=aq.upd (o:=.lst (ys.take i++ys.drop (i+1))) hc5;have k5:=ae (H:=H4) (a:=c5) (o:=.lst (ys.take i++ys.drop (i+1)));generalize upd H4 c5 (.lst (ys.take i++ys.drop (i+1)))=H5 at S5 k5;have SS:=(S1.trans S4).trans S5;have g5:gn H5 (ys.take i++ys.drop (i+1)) (ss.take i++ss.drop (i+1)):=gn.same SS (rg (rj i g) (rh (i+1) g));refine hN _ _ ?_;clear hN N S1 S4 S5 k1 k4 hc1 hc4 hc5;tm_up;refine⟨fun v H'=>v=.bl (decide (de.wy≠.put)&&((ss[i]?.map fun s=>s.1.meas).getD false))/\H'=H5,?_,?_⟩
 ·refine⟨_,rfl,xV (i:=0) (SS _ _ hp2) e0 ?_⟩;tm_up;rw[show decide (V.str de.wy.str=V.str (Str.ofString "put"))=decide (de.wy=.put) from Lj de.wy .put]
  by_cases z1:de.wy=.put
  ·rw[decide_eq_true z1,decide_eq_false (fun z=>z z1)];exact ck ⟨rfl,rfl⟩
  ·rw[decide_eq_false z1,decide_eq_true (show de.wy≠.put from z1)];refine gx ?_;obtain⟨sg,hsg⟩:∃ sg,ss[i]? = some sg:=⟨_,getElem?_eq_getElem (hi2 z1)⟩;obtain⟨vp,Tp,p0,rfl,hp0⟩:=j2 g hsg;refine⟨_,rfl,_,rfl,EO (aL.of (SS _ _ hl)) (n:=i) rfl Tp ?_⟩;refine xV (i:=0) (SS _ _ hp0) rfl ?_;tm_up;rw[hsg];exact⟨congrArg V.bl (Qa sg.1),rfl⟩
 rintro _ H' ⟨rfl,eH⟩;have eH:=eH.symm;subst eH;refine Su ?_;refine fX fun N hN=>?_;refine⟨fun σ H'=>∃(bh:Addr)(zs:List V)(ch:List Sg),σ=[some (.ref l),some (.ref p2),some (.int (i:Int)),some (.ref bh),some (.int ((if de.wy=.cut then i else i+1:Nat):Int)),some (.bl (ch.any fun s=>s.1.meas)),none,none]/\aq H H'/\H' bh=some (.lst zs)/\gn H' zs (d4 ss de.wy de.sg i)/\(de.wy=.put->ch=[jw de.sg])/\(∀ s,ss[i]? = some s->(de.wy=.cut->ch=[s])/\(de.wy=.swap->ch=[s,jw de.sg])),?_,?_⟩
 ·tm_up;refine xV (i:=0) (SS _ _ hp2) e0 ?_;tm_up;rw[show decide (V.str de.wy.str=V.str (Str.ofString "cut"))=decide (de.wy=.cut) from Lj de.wy .cut]
  by_cases z1:de.wy=.cut
  ·rw[decide_eq_true z1];obtain⟨sg,hsg⟩:∃ sg,ss[i]? = some sg:=⟨_,getElem?_eq_getElem (hi2 (by rw[z1];decide))⟩;refine ck ⟨c5,_,[sg],?_,SS,k5,?_,(fun z=>by rw[z1]at z;cases z),fun s hs=>⟨fun _=>by rw[hsg]at hs;cases hs;rfl,fun z=>by rw[z1]at z;cases z⟩⟩
   ·rw[hsg,if_pos z1,decide_eq_true (show de.wy≠.put by rw[z1];decide)];show _=[some (V.ref l),some (V.ref p2),some (V.int (i:Int)),some (V.ref c5),some (V.int (i:Int)),some (V.bl (sg.1.meas||false)),none,none];rw[Bool.or_false];rfl
   ·unfold d4;rw[z1];show gn H5 _ (ss.take i++[]++ss.drop (i+1));rw[append_nil];exact g5
  ·rw[decide_eq_false z1];refine gx ?_;refine⟨_,rfl,_,rfl,i,rfl,.inl ⟨l,ys,rfl,aL.of (SS _ _ hl),fun c1 hc1=>?_⟩⟩;rw[zX];have S1:=aq.upd (o:=.lst (ys.take i)) hc1;have k1:=ae (H:=H5) (a:=c1) (o:=.lst (ys.take i));generalize upd H5 c1 (.lst (ys.take i))=Wk at S1 k1;refine⟨_,rfl,xV (i:=4) (S1 _ _ (SS _ _ hp2)) e4 ?_⟩;refine⟨big (by show 1<=1000;omega),fun c2 hc2=>?_⟩;have S2:=aq.upd (o:=.lst [V.ref ps2]) hc2;have k2:=ae (H:=Wk) (a:=c2) (o:=.lst [V.ref ps2]);generalize upd Wk c2 (.lst [V.ref ps2])=Wl at S2 k2;refine .inr (.inr ⟨c1,c2,_,_,rfl,rfl,S2 _ _ k1,k2,?_,fun c3 hc3=>?_⟩)
   ·exact big (by rw[length_take];show _+1<=1000;omega)
   have Wm:=aq.upd (o:=.lst (ys.take i++[V.ref ps2])) hc3;have k3:=ae (H:=Wl) (a:=c3) (o:=.lst (ys.take i++[V.ref ps2]));generalize upd Wl c3 (.lst (ys.take i++[V.ref ps2]))=Vj at Wm k3;have SS2:=SS.trans ((S1.trans S2).trans Wm);have Wn:=g.same SS2;obtain⟨es1,es2,_⟩:=Li (hgd z1);have Vk:BE Vj (.ref ps2) (jw de.sg):=⟨ps2,rfl,by rw[es1,es2];exact SS2 _ _ Sx⟩;refine⟨_,rfl,_,rfl,_,rfl,xV (i:=0) (SS2 _ _ hp2) e0 ?_⟩;tm_up;refine .inl (.inr ⟨_,rfl,?_⟩);rw[show decide (V.str de.wy.str=V.str (Str.ofString "swap"))=decide (de.wy=.swap) from Lj de.wy .swap];obtain⟨k,hk,hkb,hki⟩:∃ k:Nat,((i:Int)+(if decide (de.wy=.swap)=true then 1 else 0))=((i+k:Nat):Int)/\d4 ss de.wy de.sg i=ss.take i++[jw de.sg]++ss.drop (i+k)/\i+k<=ss.length:=by
    by_cases z2:de.wy=.swap
    ·refine⟨1,by rw[decide_eq_true z2,if_pos rfl];omega,by unfold d4;rw[z2],hi2 (by rw[z2];decide)⟩
    ·have z3:de.wy=.put:=by rcases Vi with z|z|z;exact z;exact absurd z z1;exact absurd z z2
     refine⟨0,by rw[decide_eq_false z2,if_neg (by decide)];omega,by unfold d4;rw[z3];try rfl,hi⟩
   refine .inl ⟨_,_,rfl,rfl,_,rfl,.inl ⟨l,ys,rfl,aL.of (SS2 _ _ hl),fun c4 hc4=>?_⟩⟩;rw[show n0 ys (some ((i:Int)+(if decide (de.wy=.swap)=true then 1 else 0))) none=ys.drop (i+k) by rw[hk];exact Ex ys (i+k)];have S4:=aq.upd (o:=.lst (ys.drop (i+k))) hc4;have k4:=ae (H:=Vj) (a:=c4) (o:=.lst (ys.drop (i+k)));generalize upd Vj c4 (.lst (ys.drop (i+k)))=Wo at S4 k4;refine .inr (.inr ⟨c3,c4,_,_,rfl,rfl,S4 _ _ k3,k4,?_,fun c6 hc6=>?_⟩)
   ·exact big (by simp only [length_append,length_take,length_drop,List.length_singleton];omega)
   have S6:=aq.upd (o:=.lst (ys.take i++[V.ref ps2]++ys.drop (i+k))) hc6;have k6:=ae (H:=Wo) (a:=c6) (o:=.lst (ys.take i++[V.ref ps2]++ys.drop (i+k)));generalize upd Wo c6 (.lst (ys.take i++[V.ref ps2]++ys.drop (i+k)))=YE at S6 k6;have Tq:=(SS2.trans S4).trans S6;have Wq:gn YE (ys.take i++[V.ref ps2]++ys.drop (i+k)) (d4 ss de.wy de.sg i):=by
    rw[hkb];exact gn.same (S4.trans S6) (rg (rg (rj i Wn) (.cons Vk .nil)) (rh (i+k) Wn))
   refine⟨_,rfl,.inl ⟨_,_,rfl,rfl,?_⟩⟩;refine rf (.bl ((decide (de.wy≠.put)&&((ss[i]?.map fun s=>s.1.meas).getD false))||(jw de.sg).1.meas)) ?_ ?_
   ·refine⟨_,rfl,_,rfl,?_⟩;cases (decide (de.wy≠.put)&&((ss[i]?.map fun s=>s.1.meas).getD false)) with
    |true=>exact gx ⟨rfl,rfl⟩
    |false =>
     refine ck ?_;refine⟨_,rfl,xV (i:=4) (Tq _ _ hp2) e4 (xV (i:=0) (Tq _ _ Sx) rfl ?_)⟩;tm_up;rw[<-es1];exact⟨congrArg V.bl (Qa (jw de.sg).1),rfl⟩
   ·have e1:((i:Int)+1)=((if de.wy=.cut then i else i+1:Nat):Int):=by rw[if_neg z1];omega
    by_cases z2:de.wy=.swap
    ·obtain⟨s,hs⟩:∃ s,ss[i]? = some s:=⟨_,getElem?_eq_getElem (hi2 (by rw[z2];decide))⟩;refine⟨c6,_,[s,jw de.sg],?_,Tq,k6,Wq,(fun z=>by rw[z2]at z;cases z),fun s' hs'=>⟨fun z=>absurd z z1,fun _=>by rw[hs]at hs';cases hs';rfl⟩⟩;rw[hs,decide_eq_true (show de.wy≠.put by rw[z2];decide),<-e1];show _=[some (V.ref l),some (V.ref p2),some (V.int (i:Int)),some (V.ref c6),some (V.int ((i:Int)+1)),some (V.bl (s.1.meas||((jw de.sg).1.meas||false))),none,none];rw[Bool.or_false];rfl
    ·have z3:de.wy=.put:=by rcases Vi with z|z|z;exact z;exact absurd z z1;exact absurd z z2
     refine⟨c6,_,[jw de.sg],?_,Tq,k6,Wq,fun _=>rfl,fun s' hs'=>⟨fun z=>absurd z z1,fun z=>absurd z z2⟩⟩;rw[decide_eq_false (show ¬ de.wy≠.put from fun z=>z z3),<-e1];show _=[some (V.ref l),some (V.ref p2),some (V.int (i:Int)),some (V.ref c6),some (V.int ((i:Int)+1)),some (V.bl ((jw de.sg).1.meas||false)),none,none];rw[Bool.or_false];rfl
 rintro _ H6 ⟨bh,zs,ch,rfl,S6,Tr,gz,hc1,hc2⟩;refine hN _ _ ?_;clear hN N;have zl:=bF gz;have ll:(d4 ss de.wy de.sg i).length<=201:=by
  unfold d4;split
  ·simp;omega
  ·simp;omega
  ·simp;omega
 have fl:(if de.wy=.cut then i else i+1:Nat)<=(d4 ss de.wy de.sg i).length:=by
  rcases Vi with z|z|z
  ·rw[z,if_neg (by decide)];unfold d4;simp;omega
  ·have:=hi2 (by rw[z];decide);rw[z,if_pos rfl];unfold d4;simp;omega
  ·have:=hi2 (by rw[z];decide);rw[z,if_neg (by decide)];unfold d4;simp;omega
 have il:i<=(d4 ss de.wy de.sg i).length:=by
  refine Nat.le_trans ?_ fl;split <;> omega
 generalize hw:(ch.any fun s=>s.1.meas)=wide at *;generalize (if de.wy=.cut then i else i+1:Nat)=fo at *;generalize d4 ss de.wy de.sg i=bs at *;refine fX fun N hN=>?_;refine⟨_,rfl,(i:Int),rfl,(by omega),(by omega),fun D b hD=>?_⟩;refine qw (lo:=0) (n:=((i:Int)).toNat) (fun j zz σ H'=>∃(v:Option V)(ns:List Nat),σ=[v,some (.ref l),some (.ref p2),some (.int (i:Int)),some (.ref bh),some (.int (fo:Int)),some (.bl wide),none,none]/\aq H6 H'/\H' D=some (.lst zz)/\zz=ns.map (fun n:Nat=>V.int (n:Int))/\ns.length<=j/\cD (aR bs) j 1=ns.getLast?.getD 0/\cD (aR bs) j 0=ns.dropLast.getLast?.getD 0) ⟨none,[],rfl,aq.upd hD,ae,rfl,Nat.le_refl _,rfl,rfl⟩ ?_ ?_
 ·rintro j zz σ H' hj ⟨v,ns,rfl,s7,yO,rfl,nl,lo1,Sy⟩ N hN;obtain⟨sg,hsg⟩:∃ sg,bs[j]? = some sg:=⟨_,getElem?_eq_getElem (by omega)⟩;have hk:(aR bs)[j]? = some sg.1:=by rw[getElem?_map,hsg];rfl
  unfold uG;refine⟨_,rfl,_,rfl,wj (aL.of (s7 _ _ Tr)) (gz.same s7) (n:=j) (by omega) hsg fun b hb=>?_⟩;refine xV (i:=0) hb rfl ?_;tm_up;show(if(!Bz sg.1.str "sdr")=true then _ else _);rw[Sv];cases hs:sg.1.small with
  |true=>exact ck (hN _ _ _ ⟨_,ns,rfl,s7,yO,rfl,by omega,by rw[A8 hk hs (by decide)];exact lo1,by rw[A8 hk hs (by decide)];exact Sy⟩)
  |false =>
   refine gx ⟨_,rfl,yO,by rw[length_map];exact aF (by omega),hN _ _ _ ⟨_,ns++[j],rfl,cZ s7 hD,ae,?_,by rw[length_append];show _+1<=_;omega,by rw[Nx hk hs];simp,by rw[LX hk hs,lo1];simp⟩⟩;rw[map_append];show _++[V.int (0+(j:Int))]=_++[V.int (j:Int)];rw[Int.zero_add]
 rintro zz σ H7 ⟨v,ns,rfl,s7,yO,rfl,nl,lo1,Sy⟩;refine hN _ _ ?_;clear hN N;have ZI:ns.length<=201:=by omega
 rw[show((i:Int)).toNat=i by omega]at lo1 Sy;refine fX fun N hN=>?_;refine⟨_,rfl,_,rfl,.inl ⟨bh,zs,rfl,.inl (aL.of (s7 _ _ Tr)),?_⟩⟩;refine⟨(fo:Int),(zs.length:Int),rfl,⟨by omega,by omega,by omega,by omega⟩,fun D2 b2 hD2=>?_⟩;refine qw (lo:=(fo:Int)) (n:=((zs.length:Int)-(fo:Int)).toNat) (fun j zz σ H'=>∃(v:Option V)(ms:List Nat),σ=[v,some (.ref l),some (.ref p2),some (.int (i:Int)),some (.ref bh),some (.int (fo:Int)),some (.bl wide),some (.ref D),none]/\aq H7 H'/\H' D2=some (.lst zz)/\zz=ms.map (fun n:Nat=>V.int (n:Int))/\ms.length<=j/\(match ms with|[]=>∀(m:Nat)(x:Kd),m<j->(aR bs)[fo+m]? = some x->oG wide x=false|h::_=>h=fG (aR bs) fo wide)) ⟨none,[],rfl,aq.upd hD2,ae,rfl,Nat.le_refl _,fun m x hm=>by omega⟩ ?_ ?_
 ·rintro j zz σ H' hj ⟨v,ms,rfl,s8,LY,rfl,ml,hst⟩ N hN;obtain⟨sg,hsg⟩:∃ sg,bs[fo+j]? = some sg:=⟨_,getElem?_eq_getElem (by omega)⟩;have hk:(aR bs)[fo+j]? = some sg.1:=by rw[getElem?_map,hsg];rfl
  have Wr:=s7.trans s8;unfold uG;refine⟨_,rfl,_,rfl,wj (aL.of (Wr _ _ Tr)) (gz.same Wr) (n:=fo+j) (by omega) hsg fun b hb=>?_⟩;refine xV (i:=0) hb rfl ?_;refine rf (.str (if wide=true then "32" else ".32")) ?_ ?_
  ·refine⟨_,rfl,_,rfl,?_⟩;cases wide with
   |true=>exact gx ⟨rfl,rfl⟩
   |false=>exact ck ⟨rfl,rfl⟩
  tm_up;have ek:Bz sg.1.str (if wide=true then "32" else ".32")=oG wide sg.1:=by
   unfold oG;cases wide with
   |true=>exact Qa _
   |false=>exact Sw _
  show(if Bz sg.1.str (if wide=true then "32" else ".32")=true then _ else _);rw[ek];cases hs:oG wide sg.1 with
  |false =>
   refine ck (hN _ _ _ ⟨_,ms,rfl,s8,LY,rfl,by omega,?_⟩);cases ms with
   |cons h r=>exact hst
   |nil =>
    intro m x hm hx;rcases Nat.lt_or_ge m j with z|z
    ·exact hst m x z hx
    ·have e:m=j:=by omega
     subst e;rw[hk]at hx;cases hx;exact hs
  |true =>
   refine gx ⟨_,rfl,LY,by rw[length_map];exact aF (by omega),hN _ _ _ ⟨_,ms++[fo+j],rfl,cZ s8 hD2,ae,?_,by rw[length_append];show _+1<=_;omega,?_⟩⟩
   ·rw[map_append];show _++[V.int ((fo:Int)+(j:Int))]=_++[V.int ((fo+j:Nat):Int)];rw[show((fo+j:Nat):Int)=(fo:Int)+(j:Int) by omega]
   ·cases ms with
    |cons h r=>exact hst
    |nil=>exact(Hm hst hk hs).symm
 rintro zz σ H8 ⟨v,ms,rfl,s8,LY,rfl,ml,hst⟩;refine hN _ _ ?_;clear hN N;have kl:(aR bs).length=bs.length:=length_map ..;have S8:=S6.trans (s7.trans s8);refine rf (.int (cD (aR bs) i 0:Nat)) ?_ ?_
 ·refine⟨_,rfl,.inl ⟨D,_,rfl,.inl (aL.of (s8 _ _ yO)),?_⟩⟩;tm_up;rw[length_map];refine aP (fun h=>?_) (fun h=>?_)
  ·have h':=of_decide_eq_true h;obtain⟨w',b',c',rfl⟩:=Nz (ns:=ns) (by omega);refine⟨_,rfl,2,rfl,.inl ⟨D,_,-2,V.int (b':Int),rfl,rfl,aL.of (s8 _ _ yO),?_,?_,rfl⟩⟩
   ·rw[map_append];exact Ny _ _ _
   ·rw[Sy,show w'++[b',c']=(w'++[b'])++[c'] by simp,List.dropLast_concat];simp
  ·have h':ns.length<=1:=Nat.le_of_not_lt fun z=>h (decide_eq_true (by omega));refine⟨?_,rfl⟩;rw[Sy]
   match ns,h' with
   |[],_=>rfl
   |[_],_=>rfl
 refine⟨fun v H'=>v=.int (fG (aR bs) fo wide:Nat)/\aq H8 H',?_,?_⟩
 ·refine⟨_,rfl,big (by show 0<=1000;omega),fun e0 Ow=>?_⟩;have T0:=aq.upd (o:=.lst []) Ow;refine⟨D2,e0,_,rfl,rfl,aL.of (T0 _ _ LY),aL.of ae,_,rfl,?_⟩;cases ms with
  |nil =>
   refine ck ?_;refine⟨_,rfl,.inl ⟨bh,zs,rfl,.inl (aL.of (T0 _ _ ((s7.trans s8) _ _ Tr))),?_,T0⟩⟩;rw[DC (by omega) fun m x hx=>hst m x (by have:=(List.getElem?_eq_some_iff.mp hx).1;omega) hx,kl,zl]
  |cons h r =>
   refine gx ?_;refine⟨_,rfl,EO (aL.of (T0 _ _ LY)) (n:=0) rfl rfl ⟨?_,T0⟩⟩;rw[hst]
 rintro _ H9 ⟨rfl,S9⟩;refine⟨by show 2<=sizeLine;decide,fun pp hpp=>?_⟩;have YF:=aq.upd (o:=.tup [V.int (cD (aR bs) i 0:Nat),V.int (fG (aR bs) fo wide:Nat)]) hpp;refine q pp ch _ ((S8.trans S9).trans YF) hc1 hc2 ?_;unfold Lg;rw[hw];exact ae
theorem JH {K:Frag}{H:Hp}{p:Addr}{a b c d:V}{i:Nat}{v:V}{Q:VK}(h:H p=some (.tup [a,b,c,d]))(e:[a,b,c,d][i]? = some v)(q:Q v H):Bm K (.ref p) (.int (i:Int)) H Q\/Bn K (.ref p) (.int (i:Int)) H Q\/Bo (.ref p) (.int (i:Int)) H Q:=.inr (.inl ⟨p,_,i,v,rfl,rfl,fc.of h,pE e,q⟩)
inductive tG (c:Cs)(vs:List V)(H:Hp)(Q:VK)(E:XK):Prop
 |mk (x:Addr) (F:Addr->Prop) (vw:Vw) (ps fs:List Vw) (n:Str) (cH:vs=[.ref x,.str n]) (cI:pZ c H x F vw ps fs) (dh:ps.length<=900) (fJ:match aZ vw n with
 |none=>RX E c .gD H
 |some _=>(leans vw n=true->∀ H',aq H H'->RX E c .Fq H')/\(leans vw n=false->∀ F' H',Gr F F' H->Fr F H H'->pZ c H' x F' (oF vw n) (ps++[vw]) []->Q .non H')):tG c vs H Q E
theorem CH (T:Txt K w mg t):aS P w K mg base (dU P w) (0+3) t.vB t.vC ["self","name"] (tG (cs t)):=by
 have bc:=cy P base T;have cT:=fP P base T;have cG:=fb P base T;have d8:=iF P base T;refine T.iN.wO jb ?_ ?_
 x_go
 obtain⟨x,F,vw,ps,fs,n,rfl,B,hps,q⟩:=h;refine aG (af (ed 2 jb.nd (bK (X:=(nQ T.iN.1 jb (dU P w) P w mg base cdv A outer s H E)) (pv 0) T.aJ T.aQ.me bc (eR hr) T.aQ.b .nil (fun _ _ z=>Or.inl z) (aa (pv 1) ag))) (af (aM (a8 (aI xp rfl T.FH Fd (aa (dz (cn:=["voice"]) rfl (bL.of rfl) (cW (a6 (pv 0) rfl)) (fun _=>(bQ (i:=0) wq rfl (Or.inl rfl))) (fun _=>fh) (fun _=>(bX (gp (a9 Bi (a6 (pv 0) rfl) h8 (aD _)) (fQ (a9 (bo.or (aU (aE hr))) (bp a7 (a6 (pv 0) rfl) ak (fun _ _=>rfl)) (pv 2) (aD _))))))) ag))) (ah (eh (X:=(nQ T.iN.1 jb (dU P w) P w mg base cdv A outer s H E)) (fun _ _ z=>z) rfl T.Jw.exc rfl T.AU (aa ax ag))) aA) (ah (aO (cz (pv 0) T.aJ T.bS.me cT (eR hr) T.bS.b .nil cC (aa (pC T.bM.Oq cG (eR hr) rfl T.wW T.bM.b .nil cC (aa (a6 (pv 0) rfl) (aa (ef plainAttrs_list PySem.F.slot_list_index PySem.F.type_list_index Le (gq (pv 0) T.aJ T.cM.me d8 (eR hr) T.cM.b .nil cC) (aa (pv 1) ag)) (aa (bq (aa (pv 2) ag)) (aa (bq ag) ag))))) ag)))))) ?_;obtain⟨L,D,U,all,M,Ps,Fs,es,us,b,iM,pp,pf,f⟩:=B.ex;obtain⟨dx,hx⟩:=b.hx;obtain⟨vx,g,gv⟩:=b.oy iM;have wv:=B.wv vw (.inr (.inl rfl));have hL:=b.hL;have xl:=bF g;have vl:=bF gv;have wl:=wv.len;refine⟨_,rfl,x,dx,_,rfl,hx,cJ _ _ _,_,rfl,x,dx,L,D,U,M L,vx,n,rfl,hx,b.hL,g,?_⟩;rcases xP gv (fun _ _ r=>r.2.1) n with ⟨f1,f2⟩|⟨a,th,j,f1,f2,r,an,fj,fw⟩
 ·rw[f1];rw[f2]at q;exact q
 rw[f1];rw[f2]at q;obtain⟨q1,q2⟩:=q;refine⟨_,rfl,x,_,dx,_,_,rfl,hx,T.aJ,T.cw,fV _ _ _,L,rfl,⟨_,aL.of hL⟩,fun D' b' hD'=>?_⟩;refine dG (K:=K) (xs:=M L) (fun i ys σ H'=>∃ v,σ=[v,some (.ref x),some (.str n),some (.ref a.o)]/\H'=upd H D' (.lst ys)/\ys=((vw.take i).map (uJ n)).map V.bl) ⟨none,rfl,rfl,rfl⟩ ?_ ?_ ?_
 ·rintro i ys σ H' ⟨v,rfl,rfl,_⟩;exact cY (aL.of hL) hD'
 ·rintro i ys y σ H' hy ⟨v,rfl,rfl,rfl⟩ N hN;obtain⟨a1,e1,rfl,ha1⟩:=ou g hy;obtain⟨Ws,e2,_,ZJ,t1⟩:=ou gv e1;have hi:i<vw.length:=(List.getElem?_eq_some_iff.mp e2).1;refine bZ ?_;refine⟨fun v H'=>v=.bl (uJ n Ws)/\H'=upd H D' (.lst (((vw.take i).map (uJ n)).map V.bl)),?_,?_⟩
  ·refine⟨_,rfl,a1.o,_,a1.d,_,_,rfl,by rw[ai (ao ha1 hD')];exact ha1,T.dQ,T.eV,pJ _ _ _,rfl,_,rfl,?_⟩;obtain⟨m1,YG⟩:=Ws;cases YG with
   |pl ss =>
    obtain⟨e3,_⟩:=t1;rw[e3];exact ck ⟨rfl,rfl⟩
   |cn ld lt sl tn =>
    obtain⟨p,e3,hp⟩:=t1;have hp':upd H D' (.lst (((vw.take i).map (uJ n)).map V.bl)) p=some (.tup [.str ld,.int lt,.int sl,.bl tn]):=by rw[ai (ao hp hD')];exact hp
    rw[e3];refine gx ?_;refine⟨_,rfl,a1.o,_,a1.d,_,_,rfl,by rw[ai (ao ha1 hD')];exact ha1,T.dQ,T.eV,pJ _ _ _,?_⟩;rw[e3];refine JH (i:=0) hp' rfl ?_;refine⟨_,rfl,.inl ⟨rfl,?_,rfl⟩⟩;show V.bl (decide (V.str ld=V.str n))=V.bl (decide (ld=n));refine congrArg V.bl (decide_eq_decide.mpr ⟨fun z=>V.str.inj z,fun z=>congrArg V.str z⟩)
  ·rintro _ _ ⟨rfl,rfl⟩;refine⟨ae,?_,?_⟩
   ·rw[length_map,length_map,length_take];exact aF (by omega)
   ·refine hN _ _ _ ⟨_,rfl,bH,?_⟩;rw[take_succ,e2];simp
 ·rintro ys σ H' ⟨v,rfl,rfl,rfl⟩;have ml:(M L).length=vw.length:=xl.trans vl;refine⟨rfl,D',_,rfl,aL.of ae,_,rfl,?_⟩;rw[ml,take_length,List.any_map];have sD:=aq.upd (o:=.lst ((vw.map (uJ n)).map V.bl)) hD';generalize upd H D' (.lst ((vw.map (uJ n)).map V.bl))=H1 at sD;refine aP (fun h=>?_) (fun h=>?_)
  ·have q:=q1 h H1 sD;exact⟨by show 1<=sizeLine;decide,q.2⟩
  have hle:leans vw n=false:=by
   cases e:leans vw n with
   |false=>rfl
   |true=>exact absurd e h
  have q2:=q2 hle;have B1:=B.same sD;have hx1:=sD _ _ hx;refine⟨_,rfl,x,dx,_,rfl,hx1,gC _ _ _,?_⟩;refine⟨_,rfl,x,_,dx,_,_,rfl,hx1,T.aJ,T.cw,fV _ _ _,?_⟩;refine⟨_,rfl,x,dx,_,rfl,hx1,ja _ _ _,x,F,vw,ps,fs,rfl,B1,fun l H2 nl s2 h2=>?_⟩;have jl:j<vw.length:=(List.getElem?_eq_some_iff.mp fw).1;have hjn:(vw.map (·.1))[j]? = some n:=by rw[getElem?_map,fw];rfl
  refine⟨.inl ⟨rfl,_,aL.of h2⟩,_,rfl,l,vw.map (·.1),n,j,rfl,rfl,by rw[List.map_map];exact h2,hjn,fun i hi z=>?_,?_⟩
  ·have:=rm wv.nd z hjn;omega
  have s12:=sD.trans s2;clear s2 sD hx1 B1 nl h2;obtain⟨ds,hD,pD⟩:=b.hD;obtain⟨ux,hU,pU⟩:=b.hU;have dl:=bF pD;have pl:=bF pp;have pe:=b.past.len;refine⟨_,rfl,big (by show 1<=1000;omega),fun B' hB=>?_⟩;refine⟨big (by show 0<=1000;omega),fun A_ hA=>?_⟩;have JT:=wV hA;have sB:=(aq.upd (o:=.lst [V.ref a.o]) hB).trans (aq.upd (o:=.lst []) hA);have hB2:=aq.upd (o:=.lst []) hA _ _ (ae (H:=H2) (a:=B') (o:=.lst [V.ref a.o]));have FX:=ae (H:=upd H2 B' (.lst [V.ref a.o])) (a:=A_) (o:=.lst []);have YH:H B'=none:=s12.free hB;have JT:H A_=none:=s12.free JT;have LA:L≠A_:=ao hL JT;generalize upd (upd H2 B' (.lst [V.ref a.o])) A_ (.lst [])=H3 at sB hB2 FX;have UU:=s12.trans sB;intro d dd nd Mm ne;refine⟨d,dd,L,(j:Int),B',A_,rfl,ae,rfl,?_⟩;rw[bH];have s3:aq H3 (upd (upd H3 dd (.own d)) d (.ins t.cg dd (xF L (j:Int) B' A_))):=fun y o hy=>by
   rw[ai (ao hy nd),ai (ao hy Mm)];exact hy
  have we:=ae (H:=upd H3 dd (.own d)) (a:=d) (o:=.ins t.cg dd (xF L (j:Int) B' A_));generalize upd (upd H3 dd (.own d)) d (.ins t.cg dd (xF L (j:Int) B' A_))=H4 at s3 we;have s4:=UU.trans s3;refine⟨x,dx,L,D,U,d,dd,L,B',A_,j,ds,ux,M L,[.ref a.o],[],rfl,s4 _ _ hx,s4 _ _ hD,s4 _ _ hU,we,s4 _ _ hL,s3 _ _ hB2,s3 _ _ FX,LA,b.LD,b.LU,b.DU,by simp;omega,by simp;omega,by omega,?_⟩;have hj':(M L)[j]? = some (.ref a.o):=by
   obtain⟨v,hv,e1,_⟩:=j2 g fj;rw[<-e1];exact hv
  have w':pL (vw.take j++vw.drop (j+1)):=by
   rw[<-xS wv.nd fw];exact wv.dropped hle
  obtain⟨F',gr,fr,B4⟩:=Bk.dropped b iM pp f B.wv hj' w' (e:=⟨d,dd,L,j,B',A_,[.ref a.o],[]⟩) rfl rfl rfl rfl s4 YH JT ⟨rfl,we,s3 _ _ hB2,s3 _ _ FX⟩ hD pD
   (H':=upd (upd (upd H4 L (.lst ((M L).take j++[]++(M L).drop (j+1)))) D (.lst (ds++[.ref d]))) U (.lst [])) (fun y o hy y1 y2 y3=>by rw[ai y3,ai y2,ai y1];exact hy) (by rw[ai b.LU,ai b.LD,ae,append_nil]) (by rw[ai b.DU,ae]) ae
  refine q2 F' _ gr fr ?_;rw[xS wv.nd fw];exact B4
theorem _root_.L2.xu.same {H H':Hp}{a:Addr}{y:V}{r:Option V}(s:aq H H')(h:xu H a y r):xu H' a y r:=by
 have rd:∀{u},Rd H a u->Rd H' a u:=fun z=>z.imp (fun e=>s _ _ e) fun⟨o,e⟩=>⟨o,s _ _ e⟩;rcases h with ⟨kvs,k,e,e2,e3⟩|⟨kvs,k,b,e,e2,e3,e4⟩
 ·exact .inl ⟨kvs,k,rd e,e2,e3⟩
 ·exact .inr ⟨kvs,k,b,rd e,e2,s _ _ e3,e4⟩
inductive tH (K:Frag)(vs:List V)(H:Hp)(Q:VK)(E:XK):Prop
 |mk (d:Addr) (vw:Vw) (n:Str) (th:Th) (cH:vs=[.ref d,.str n]) (cI:lG H d vw) (dh:pL vw) (fJ:aZ vw n=some th) (jh:∀(l:Addr)(ys:List V)(H':Hp),aq H H'->H' l=some (.lst ys)->gn H' ys (cR vw n)->Q (.ref l) H'):tH K vs H Q E
theorem tI (T:Txt K w mg t):aS P w K mg base fk (0+1) t.vD t.vE ["_law_voices","_law_name"] (tH K):=by
 refine T.o9.ok gH ?_ ?_
 x_go
 obtain⟨d,vw,n,th,rfl,hd,wv,hf,q⟩:=h;refine aG (af (ed 2 gH.nd (jZ (n9 hr) (pv 0) (pv 1) (fun _ _=>rfl))) (af (aM (a8 (aI oh rfl T.fH fu (aa (pv 2) (aa (qV (v:=.ty "list") rfl T.mM mv rfl) ag)))) (ah (ar (pv 2))) aA) (af (aM (dq (a8 (eD (pv 2)))) (ah (ar (jZ (n9 hr) (pv 0) (eD (pv 2)) (fun _ _=>rfl)))) aA) (af (ed 3 gH.nd (bq ag)) (af (fg PassesOwn.never rfl (cW (jZ (n9 hr) (pv 0) (eD (pv 2)) (fun _ _=>rfl))) (i5 4 gH.nd) (af (ed 5 gH.nd (bX (dC (au (bo.or (aU (aE hr))) (eD (pv 4)) ax (aD _)) ax (bX (dC (au (bo.or (aU (aE hr))) (eD (pv 4)) ax (aD _)) ax (eD (pv 4))))))) (ah (aO (ef plainAttrs_list slot_list_append type_list_append bB (pv 3) (aa (dr (aa (pv 5) (aa (eD (pv 4)) ag))) ag)))))) (ah (ar (pv 3)))))))) ?_;obtain⟨v,hg,hv⟩:=hd.get hf;refine⟨_,rfl,_,rfl,d,v,rfl,hg,?_⟩;cases th with
 |pl ss =>
  obtain⟨l,ys,rfl,h1,h2⟩:=hv;tm_up;refine⟨_,_,_,_,rfl,lq.lst h1,rfl,_,rfl,gx ?_⟩;exact⟨_,rfl,q l ys H (aq.refl _) h1 (by rw[gF hf];exact h2)⟩
 |cn ld lt sl tn =>
  obtain⟨p,rfl,hp⟩:=hv;obtain⟨⟨ss,Ct⟩,_⟩:=wv.ld n ld lt sl tn (cb hf);have hfl:=wv.find Ct;have gl:=(wv.gd _ _ Ct).1;rw[lD hf hfl]at q;obtain⟨v2,hg2,l,ys,rfl,h1,h2⟩:=hd.get hfl;tm_up;refine⟨_,_,_,_,rfl,lq.tup hp,rfl,_,rfl,ck ?_⟩;refine⟨_,rfl,JH (i:=3) hp rfl ?_⟩;refine⟨_,rfl,?_⟩;cases tn with
  |false =>
   refine gx ?_;refine⟨_,rfl,_,rfl,JH (i:=0) hp rfl ?_⟩;exact⟨d,_,rfl,hg2,q l ys H (aq.refl _) h1 h2⟩
  |true =>
   refine ck ?_;refine⟨big (by show 0<=1000;omega),fun told LZ=>?_⟩;have s1:=aq.upd (o:=.lst []) LZ;have ht1:=ae (H:=H) (a:=told) (o:=.lst []);generalize upd H told (.lst [])=H1 at s1 ht1;have y3:=bF h2;refine⟨_,rfl,_,rfl,JH (i:=0) (s1 _ _ hp) rfl ?_⟩;have ZK:l≠told:=ao h1 LZ;have YI:xu H1 d (.str ld) (some (.ref l)):=hg2.same s1;refine⟨d,_,rfl,YI,l,rfl,⟨_,aL.of (s1 _ _ h1)⟩,jj (K:=K) (xs:=ys) (fun i σ H'=>∃(u k:Option V)(zs:List V),σ=[some (.ref d),some (.str n),some (.ref p),some (.ref told),u,k]/\aq H H'/\H' told=some (.lst zs)/\gn H' zs ((ss.take i).map jv)) ⟨none,none,[],rfl,s1,ht1,.nil⟩ ?_ ?_ ?_⟩
   ·rintro i σ H' _ ⟨u,k,zs,rfl,s2,_⟩;exact aL.of (s2 _ _ h1)
   ·rintro i y σ H' hy ⟨u,k,zs,rfl,s2,Oy,gz⟩;obtain⟨sg,hsg,ps,rfl,hps⟩:=ou h2 hy;have hi:i<ss.length:=(List.getElem?_eq_some_iff.mp hsg).1;have NA:=s2 _ _ hps;have zl:=bF gz;rw[length_map,length_take]at zl;refine⟨fun v Hx=>v=.str (xM sg.1).str/\Hx=H',?_,?_⟩
    ·refine⟨_,rfl,Qt NA ?_⟩;refine .inl ⟨rfl,_,rfl,?_⟩;rw[K5];refine aP (fun h=>?_) (fun h=>?_)
     ·rw[of_decide_eq_true h];exact⟨rfl,rfl⟩
     ·have h':sg.1≠.two:=fun z=>h (decide_eq_true z);refine⟨fun v Hx=>v=.str (xM sg.1).str/\Hx=H',?_,fun _ _ z=>z⟩;refine⟨_,rfl,Qt NA ?_⟩;refine .inl ⟨rfl,_,rfl,?_⟩;rw[BA];refine aP (fun h3=>?_) (fun h3=>?_)
      ·rw[of_decide_eq_true h3];exact⟨rfl,rfl⟩
      ·have h3':sg.1≠.three:=fun z=>h3 (decide_eq_true z);refine⟨_,rfl,Qt NA ⟨?_,rfl⟩⟩;cases hk:sg.1 <;> first|rfl|exact absurd hk h'|exact absurd hk h3'
    intro v Hx ⟨e1,e2⟩;rw[e1,e2];refine⟨_,rfl,.inl ⟨rfl,_,aL.of Oy⟩,_,rfl,_,rfl,V8 NA ?_⟩;refine⟨by show 2<=sizeLine;decide,fun tp htp=>?_⟩;have s3:=aq.upd (o:=.tup [V.str (xM sg.1).str,V.int sg.2]) htp;refine⟨told,_,_,rfl,rfl,s3 _ _ Oy,aF (by omega),?_⟩;refine⟨_,_,zs++[.ref tp],rfl,cZ (s2.trans s3) LZ,ae,?_⟩;rw[take_succ,hsg,map_append];exact gZ (K7 (s3 _ _ Oy) (gz.same s3)) (K6 (s3 _ _ Oy) ⟨tp,rfl,ae⟩)
   ·rintro σ H' ⟨u,k,zs,rfl,s2,Oy,gz⟩;rw[y3,take_length]at gz;exact⟨_,rfl,q told zs H' s2 Oy gz⟩
theorem Qb {k:Kd}(h:k.meas=true)(m:Int):intText? k.str=some (nm m k)/\k.str.length<=640:=by
 cases k <;> first|(cases h;done)|exact⟨by first|exact(show intText? Kd.three.str=some 3 by lk)|exact(show intText? Kd.two.str=some 2 by lk),by lk⟩
theorem Sz {k:Kd}(h:¬ k.meas=true)(m:Int):nm m k=m:=by
 cases k <;> first|rfl|exact absurd rfl h
theorem Ez (k:Kd):k.meas=(decide (k=.three)||decide (k=.two)):=by cases k <;> rfl
theorem Ic (k:Kd):Bz k.str ".32" = k.parting:=by cases k <;> decide +kernel
theorem tK (k:Kd):Bz k.str "sdr"=k.small:=by cases k <;> decide +kernel
theorem NB {k:Kd}(h:k.parting=true)(m:Int)(n:Option Kd):bw m k n=0:=by cases k <;> first|(cases h;done)|(unfold bw;rw[if_neg (by rintro⟨_,z,_⟩;cases z)];rfl)
theorem L0 {k:Kd}(h:k.small=true)(m:Int)(n:Option Kd):bw m k n=1:=by cases k <;> first|(cases h;done)|(unfold bw;rw[if_neg (by rintro⟨_,z,_⟩;cases z)];rfl)
theorem Vl (m:Int)(n:Option Kd):bw m .D n=2:=by unfold bw;rw[if_neg (by rintro⟨_,z,_⟩;cases z)];rfl
theorem NC {k:Kd}{m:Int}{n:Option Kd}(hm:Ms m)(h1:k.parting=false)(h2:k.small=false)(h3:k≠.D)(h4:¬(m=2/\k=.G/\n=some .dot)):bw m k n=m:=by
 unfold bw;rw[if_neg h4];rcases hm with rfl|rfl <;> cases k <;> first|(cases h1;done)|(cases h2;done)|rfl|exact absurd rfl h3
inductive A9 (K:Frag)(vs:List V)(H:Hp)(Q:VK)(E:XK):Prop
 |mk (l:Addr) (b:Int) (xs:List V) (ss:List Sg) (cH:vs=[.ref l,.int b]) (cI:Ms b) (dh:aL K H l xs) (fJ:gn H xs ss) (jh:ss.length<=400) (zL:∀(f:Addr)(H':Hp),aq H H'->H f=none->H' f=some (.lst ((eJ b (aR ss)).map V.int))->Q (.ref f) H'):A9 K vs H Q E
theorem JI (T:Txt K w mg t):aS P w K mg base fk (0+1) t.DZ t.D3 ["_law_line","_law_begin"] (A9 K):=by
 refine T.Eh.ok ji ?_ ?_
 x_go
 obtain⟨l,b,xs,ss,rfl,QD,hS,hg,hn,q⟩:=h;have SA:(2:Int) ^ 62=4611686018427387904:=by decide
 refine aG (af (ed 2 ji.nd (bq ag)) (af (ed 3 ji.nd (pv 1)) (af (fg PassesOwn.never rfl (jg rfl T.gM (aa (aI (aB.or aC) rfl T.bu br (aa (pv 0) ag)) ag)) (i5 4 ji.nd) (af (ed 5 ji.nd (bp a7 (bp a7 (pv 0) (pv 4) (fun _ _=>rfl)) ak (fun _ _=>rfl))) (af (jq (aM (cv (PW.pt (qW (au (bo.or (aU (aE hr))) (pv 5) ax (aD _)) (mf (au (bo.or (aU (aE hr))) (pv 5) ax (aD _)))))) (ah (ed 3 ji.nd (bT (lp.or fq) rfl T.uo tW (aa (pv 5) ag)))) aA)) (ah (aM (au (bA.or bx) (pv 5) ax rfl) (ah (aO (ef plainAttrs_list slot_list_append type_list_append bB (pv 2) (aa ak ag)))) (ah (aM (au (bA.or bx) (pv 5) ax rfl) (ah (aO (ef plainAttrs_list slot_list_append type_list_append bB (pv 2) (aa ak ag)))) (ah (aM (au (bo.or (aU (aE hr))) (pv 5) ax (aD _)) (ah (aO (ef plainAttrs_list slot_list_append type_list_append bB (pv 2) (aa ak ag)))) (ah (aM (cv (PW.pt (cE (au (bo.or (aU (aE hr))) (pv 3) ak (aD _)) (cE (au (bo.or (aU (aE hr))) (pv 5) ax (aD _)) (cE (au nY (aH (aV.or (ay.or aW)) (pv 4) ak) (aI (aB.or aC) rfl T.bu br (aa (pv 0) ag)) (aD _)) (dg (au (bo.or (aU (aE hr))) (bp a7 (bp a7 (pv 0) (aH (aV.or (ay.or aW)) (pv 4) ak) (fun _ _=>rfl)) ak (fun _ _=>rfl)) ax (aD _)))))))) (ah (aO (ef plainAttrs_list slot_list_append type_list_append bB (pv 2) (aa ak ag)))) (ah (aO (ef plainAttrs_list slot_list_append type_list_append bB (pv 2) (aa (pv 3) ag))))))))))))))) (ah (ar (pv 2)))))) ?_;refine⟨big (by show 0<=1000;omega),fun f hf=>?_⟩;tm_up;refine .inl ⟨_,_,rfl,.inl (cY hS hf),?_⟩;rw[bF hg];refine⟨(ss.length:Int),rfl,by rw[SA];omega,by rw[SA];omega,?_⟩;refine lg (n:=((ss.length:Int)).toNat) (fun i σ H'=>∃(m:Int)(v w:Option V)(fs:List Int),σ=[some (.ref l),some (.int b),some (.ref f),some (.int m),v,w]/\Ms m/\H'=upd H f (.lst (fs.map V.int))/\fs++eJ m ((aR ss).drop i)=eJ b (aR ss))
  ⟨b,none,none,[],rfl,QD,rfl,rfl⟩ ?_ ?_
 ·rintro i σ H' hi ⟨m,v,w,fs,rfl,Wt,rfl,hm⟩;have hil:i<ss.length:=by omega
  have hd:=i9 (ow (f:=Prod.fst) (getElem?_eq_getElem hil));rw[hd]at hm;have hS':aL K (upd H f (.lst (fs.map V.int))) l xs:=cY hS hf;have hg':gn (upd H f (.lst (fs.map V.int))) xs ss:=hg.same (aq.upd hf);have hl:=congrArg List.length hm;simp only [length_append,eJ,length_cons,lu,length_map]at hl;simp only [eJ,head_drop]at hm;tm_up;refine wj hS' hg' (n:=i) (by omega) (getElem?_eq_getElem hil) fun p hp=>?_;generalize hk:(ss[i]).1=k at hm hp;tm_up;refine KN [some (.ref l),some (.int b),some (.ref f),some (.int (nm m k)),some (.int (0+(i:Int))),some (.str k.str)] (upd H f (.lst (fs.map V.int))) ?_ ?_
  ·refine jW k.meas ?_ ?_
   ·tm_up;rw[BA];refine aP (fun h=>?_) (fun h=>?_)
    ·exact c7 (by rw[Ez,h];rfl)
    ·tm_up;rw[K5];exact c7 (by rw[Ez,Bool.eq_false_iff.mpr h];rfl)
   refine aP (fun h=>?_) (fun h=>?_)
   ·obtain⟨e1,e2⟩:=Qb h m;tm_up;exact .inr ⟨_,_,rfl,e1,e2,rfl,rfl⟩
   ·rw[Sz h];exact⟨rfl,rfl⟩
  have Wu:=Wt.nm k;have fin:∀(z:Int),z=bw (nm m k) k (aR ss)[i+1]?->∃(m':Int)(v w:Option V)(fs':List Int),[some (V.ref l),some (V.int b),some (V.ref f),some (V.int (nm m k)),some (V.int (0+(i:Int))),some (V.str k.str)]=[some (.ref l),some (.int b),some (.ref f),some (.int m'),v,w]/\Ms m'/\upd (upd H f (.lst (fs.map V.int))) f (.lst (fs.map V.int++[V.int z]))=upd H f (.lst (fs'.map V.int))/\fs'++eJ m' ((aR ss).drop (i+1))=eJ b (aR ss):=by
   intro z hz;exact⟨nm m k,_,_,fs++[z],rfl,Wu,by rw[bH,map_append];rfl,by rw[List.append_assoc,hz];exact hm⟩
  tm_up;refine aP (fun h=>?_) (fun h=>?_)
  ·have h':k.parting=true:=by rw[<-Ic];exact h
   tm_up;refine⟨.inl ⟨rfl,_,aL.of ae⟩,?_⟩;refine⟨_,_,_,rfl,rfl,ae,by rw[length_map];exact aF (by omega),fin 0 (NB h' ..).symm⟩
  ·have h1:k.parting=false:=by rw[<-Ic];exact Bool.eq_false_iff.mpr h
   tm_up;refine aP (fun h=>?_) (fun h=>?_)
   ·have h':k.small=true:=by rw[<-tK];exact h
    tm_up;refine⟨.inl ⟨rfl,_,aL.of ae⟩,?_⟩;refine⟨_,_,_,rfl,rfl,ae,by rw[length_map];exact aF (by omega),fin 1 (L0 h' ..).symm⟩
   ·have h2:k.small=false:=by rw[<-tK];exact Bool.eq_false_iff.mpr h
    tm_up;rw[XZ];refine aP (fun h=>?_) (fun h=>?_)
    ·have h':k=.D:=of_decide_eq_true h;tm_up;refine⟨.inl ⟨rfl,_,aL.of ae⟩,?_⟩;refine⟨_,_,_,rfl,rfl,ae,by rw[length_map];exact aF (by omega),fin 2 (by rw[h'];exact(Vl ..).symm)⟩
    ·have h3:k≠.D:=fun z=>h (decide_eq_true z);refine jW (decide (nm m k=2/\k=.G/\(aR ss)[i+1]? = some .dot)) ?_ ?_
     ·tm_up;rw[dF];refine aP (fun h=>?_) (fun h=>?_)
      ·have e1:=of_decide_eq_true h;tm_up;rw[UZ];refine aP (fun h=>?_) (fun h=>?_)
       ·have e2:=of_decide_eq_true h;tm_up;refine .inl ⟨_,_,rfl,.inl hS',?_⟩;rw[bF hg];tm_up;refine aP (fun h=>?_) (fun h=>?_)
        ·have hlt:i+1<ss.length:=by have:=of_decide_eq_true h;omega
         tm_up;refine wj hS' hg' (n:=i+1) (by omega) (getElem?_eq_getElem hlt) fun p2 hp2=>?_;tm_up;rw[RT];refine c7 ?_;have e3:(aR ss)[i+1]? = some (ss[i+1]).1:=ow (getElem?_eq_getElem hlt);rw[e3];subst e2;simp[e1]
        ·refine c7 ?_;have e3:(aR ss)[i+1]? = none:=List.getElem?_eq_none (by rw[length_map];have:¬(0+(i:Int)+1<ss.length):=fun z=>h (decide_eq_true z);omega);rw[e3];simp
       ·refine c7 ?_;have e2:k≠.G:=fun z=>h (decide_eq_true z);simp[e2]
      ·refine c7 ?_;have e1:nm m k≠2:=fun z=>h (decide_eq_true z);simp[e1]
     ·refine aP (fun h=>?_) (fun h=>?_)
      ·have h':=of_decide_eq_true h;tm_up;refine⟨.inl ⟨rfl,_,aL.of ae⟩,?_⟩;refine⟨_,_,_,rfl,rfl,ae,by rw[length_map];exact aF (by omega),fin 3 (by unfold bw;rw[if_pos h'])⟩
      ·have h':¬(nm m k=2/\k=.G/\(aR ss)[i+1]? = some .dot):=fun z=>h (decide_eq_true z);tm_up;refine⟨.inl ⟨rfl,_,aL.of ae⟩,?_⟩;tm_up;refine⟨_,_,_,rfl,rfl,ae,by rw[length_map];exact aF (by omega),fin _ (NC Wu h1 h2 h3 h').symm⟩
 ·rintro σ H' ⟨m,v,w,fs,rfl,_,rfl,hm⟩;have e0:((ss.length:Int)).toNat=ss.length:=by omega
  rw[e0,List.drop_eq_nil_of_le (by rw[length_map];exact Nat.le_refl _)]at hm;tm_up;have e:fs=eJ b (aR ss):=by rw[<-hm];simp[eJ]
  subst e;exact q f _ (aq.upd hf) hf ae
inductive y9 (K:Frag)(vs:List V)(H:Hp)(Q:VK)(E:XK):Prop
 |mk (l:Addr) (b:Int) (xs:List V) (ss:List Sg) (cH:vs=[.ref l,.int b]) (cI:aL K H l xs) (dh:gn H xs ss) (fJ:ss.length<=400) (jh:∀(f:Addr)(H':Hp),aq H H'->H f=none->H' f=some (.lst ((fU b (aR ss)).map V.bl))->Q (.ref f) H'):y9 K vs H Q E
theorem SD {k:Kd}(h:k.meas=true)(m:Int):intText? k.str=some (nm m k)/\k.str.length<=640:=by
 cases k <;> first|(cases h;done)|exact⟨by first|exact(show intText? Kd.three.str=some 3 by lk)|exact(show intText? Kd.two.str=some 2 by lk),by lk⟩
theorem Vm {k:Kd}(h:¬ k.meas=true)(m:Int):nm m k=m:=by
 cases k <;> first|rfl|exact absurd rfl h
theorem Ie (k:Kd):k.meas=(decide (k=.three)||decide (k=.two)):=by cases k <;> rfl
theorem Gd (T:Txt K w mg t):aS P w K mg base fk (0+1) t.AA t.AB ["_law_line","_law_begin"] (y9 K):=by
 refine T.AZ.ok jC ?_ ?_
 x_go
 obtain⟨l,b,xs,ss,rfl,hS,hg,hn,q⟩:=h;refine aG (af (ed 2 jC.nd (bq ag)) (af (ed 3 jC.nd (pv 1)) (af (fg PassesOwn.never rfl (cW (pv 0)) (i5 4 jC.nd) (af (jq (aM (cv (PW.pt (qW (au (bo.or (aU (aE hr))) (eD (pv 4)) ax (aD _)) (mf (au (bo.or (aU (aE hr))) (eD (pv 4)) ax (aD _)))))) (ah (ed 3 jC.nd (bT (lp.or fq) rfl T.uo tW (aa (eD (pv 4)) ag)))) aA)) (ah (aO (ef plainAttrs_list slot_list_append type_list_append bB (pv 2) (aa (a9 (bo.or (aU (aE hr))) (pv 3) ak (aD _)) ag)))))) (ah (ar (pv 2)))))) ?_;refine⟨big (by show 0<=1000;omega),fun f hf=>?_⟩;tm_up;refine⟨⟨xs,cY hS hf⟩,jj (K:=K) (xs:=xs) (fun i σ H'=>∃(m:Int)(v:Option V)(fs:List Bool),σ=[some (.ref l),some (.int b),some (.ref f),some (.int m),v]/\H'=upd H f (.lst (fs.map V.bl))/\fs++fU m ((aR ss).drop i)=fU b (aR ss))
  ⟨b,none,[],rfl,rfl,rfl⟩ ?_ ?_ ?_⟩
 ·rintro i σ H' _ ⟨m,v,fs,rfl,rfl,_⟩;exact cY hS hf
 ·rintro i x σ H' hx ⟨m,v,fs,rfl,rfl,hm⟩;obtain⟨s,hs,p,rfl,hp⟩:=ou hg hx;have hd:=i9 (ow (f:=Prod.fst) hs);rw[hd]at hm;have hp':upd H f (.lst (fs.map V.bl)) p=some (.tup [.str s.1.str,.int s.2]):=by rw[ai (ao hp hf)];exact hp
  have hl:=congrArg List.length hm;simp only [length_append,fU,length_cons,Fl,length_map]at hl;refine KN [some (.ref l),some (.int b),some (.ref f),some (.int (nm m s.1)),some (.ref p)] (upd H f (.lst (fs.map V.bl))) ?_ ?_
  ·refine jW s.1.meas ?_ ?_
   ·tm_up;rw[BA];refine aP (fun h=>?_) (fun h=>?_)
    ·exact c7 (by rw[Ie,h];rfl)
    ·tm_up;rw[K5];exact c7 (by rw[Ie,Bool.eq_false_iff.mpr h];rfl)
   refine aP (fun h=>?_) (fun h=>?_)
   ·obtain⟨e1,e2⟩:=SD h m;tm_up;exact .inr ⟨_,_,rfl,e1,e2,rfl,rfl⟩
   ·rw[Vm h];exact⟨rfl,rfl⟩
  ·tm_up;refine⟨.inl ⟨rfl,_,aL.of ae⟩,?_⟩;tm_up;rw[dF];refine⟨_,_,_,rfl,rfl,ae,by rw[length_map];exact aF (by omega),?_⟩;exact⟨_,_,fs++[decide (nm m s.1=3)],rfl,by rw[bH,map_append];rfl,by rw[List.append_assoc];exact hm⟩
 ·rintro σ H' ⟨m,v,fs,rfl,rfl,hm⟩;rw[List.drop_eq_nil_of_le (by rw[length_map,bF hg];exact Nat.le_refl _)]at hm;tm_up;have e:fs=fU b (aR ss):=by rw[<-hm];simp[fU]
  subst e;exact q f _ (aq.upd hf) hf ae
noncomputable def Vn (K:Frag)(g:List Kd->List Int->Nat->Nat->Bool×List Int):Sp:=fun vs H Q _=>∃(l f:Addr)(a z:Nat)(xs:List V)(ss:List Sg)(fs:List Int),vs=[.ref l,.ref f,.int (a:Int),.int (z:Int)]/\aL K H l xs/\gn H xs ss/\l≠f/\H f=some (.lst (fs.map V.int))/\fs.length=ss.length/\a<z/\z<=ss.length /\
 Q (.bl (g (aR ss) fs a z).1) (upd H f (.lst ((g (aR ss) fs a z).2.map V.int)))
theorem za (k:Kd):Bz k.str "GDR"=k.great:=by cases k <;> decide +kernel
theorem uC (o:Option Kd):(o.getD .dot).great=kO o:=by cases o <;> rfl
theorem Vo (o:Option Kd):decide (o.getD .dot=.G)=decide (o=some .G):=by
 cases o with
 |none=>decide
 |some k=>simp
theorem JJ {ks:List Kd}{f:List Int}{a z:Nat}{r:Nat}(hr:(z-a) % 3=r)(Sk:r<3) :
  settle ks f a z=if decide (r=2)&&(kO ks[z]? && decide (ks[z-1]? = some .s)) then(true,f.set (z-1) 2) else
   (decide (r=0)||((decide (r=1)&&(fD ks f a||d3 ks z))||(decide (r=2)&&(fD ks f a&&d3 ks z))),
    let g:=if(decide (r=1)&&fD ks f a)||(decide (r=2)&&(fD ks f a&&d3 ks z)) then f.set (a-1) 2 else f
    if(decide (r=1)&&(d3 ks z && !fD ks f a))||(decide (r=2)&&(fD ks f a&&d3 ks z)) then g.set z 2 else g):=by
 unfold settle pG pH;rw[hr];have:r=0\/r=1\/r=2:=by omega
 rcases this with rfl|rfl|rfl <;> cases fD ks f a <;> cases d3 ks z <;> cases kO ks[z]? <;> cases decide (ks[z-1]? = some .s) <;> rfl
theorem L1 (T:Txt K w mg t):aS P w K mg base fk (0+1) t.HG t.HH ["_law_line","_law_told","_law_low","_law_high"] (Vn K settle):=by
 refine T.HQ.ok lN ?_ ?_
 x_go
 obtain⟨l,f,a,z,xs,ss,fs,rfl,hS,hg,ZL,hf,hl,Sj,hz,q⟩:=h;obtain⟨r,hrr⟩:∃ r:Nat,(z-a) % 3=r:=⟨_,rfl⟩;have Sk:r<3:=by omega
 rw[JJ hrr Sk]at q;have YJ:((z:Int)-(a:Int)) % 3=(r:Int):=by omega
 have dI:∀ n:Nat,decide (V.int (((z:Int)-(a:Int)) % 3)=V.int (n:Int))=decide (r=n):=fun n=>by
  rw[YJ,dF]
  by_cases e:r=n
  ·simp[e]
  ·have:¬((r:Int)=(n:Int)):=by omega
   simp[e,this]
 have d0:decide (V.int (((z:Int)-(a:Int)) % 3)=V.int 0)=decide (r=0):=dI 0;have d1:decide (V.int (((z:Int)-(a:Int)) % 3)=V.int 1)=decide (r=1):=dI 1;have d2:decide (V.int (((z:Int)-(a:Int)) % 3)=V.int 2)=decide (r=2):=dI 2;refine aG (af (ed 4 lN.nd (aH dE (aH dZ (pv 3) (pv 2)) ak)) (af (ed 5 lN.nd (bX (dC (au nY (pv 3) (aI (aB.or aC) rfl T.bu br (aa (pv 0) ag)) (aD _)) (bp a7 (bp a7 (pv 0) (pv 3) (fun _ _=>rfl)) ak (fun _ _=>rfl)) ax))) (af (ed 6 lN.nd (bX (dC (au nY (aH (aV.or (ay.or aW)) (pv 3) ak) (aI (aB.or aC) rfl T.bu br (aa (pv 0) ag)) (aD _)) (bp a7 (bp a7 (pv 0) (aH (aV.or (ay.or aW)) (pv 3) ak) (fun _ _=>rfl)) ak (fun _ _=>rfl)) ax))) (af (ed 7 lN.nd (bX (gp (a9 C1 (pv 2) ak (aD _)) (gp (a9 (bo.or (aU (aE hr))) (bp a7 (bp a7 (pv 0) (aH dZ (pv 2) ak) (fun _ _=>rfl)) ak (fun _ _=>rfl)) ax (aD _)) (fQ (a9 (bo.or (aU (aE hr))) (bp a7 (pv 1) (aH dZ (pv 2) ak) (fun _ _=>rfl)) ak (aD _))))))) (af (ed 8 lN.nd (bX (gp (a9 (bo.or (aU (aE hr))) (pv 5) ax (aD _)) (fQ (a9 (gu.or gw) (pv 6) ax rfl))))) (af (aM (cv (PW.pt (cE (au (bo.or (aU (aE hr))) (pv 4) ak (aD _)) (cE (au (bA.or bx) (pv 5) ax rfl) (dg (au (bo.or (aU (aE hr))) (bp a7 (bp a7 (pv 0) (aH dZ (pv 3) ak) (fun _ _=>rfl)) ak (fun _ _=>rfl)) ax (aD _))))))) (af (dD ak (nS (pv 1) (aH dZ (pv 3) ak) set_list)) (ah (ar eM))) aA) (af (jq (aM (cv (PW.pt (qW (cv (PW.pt (cE (au (bo.or (aU (aE hr))) (pv 4) ak (aD _)) (dg (a8 (pv 7)))))) (mf (cv (PW.pt (cE (au (bo.or (aU (aE hr))) (pv 4) ak (aD _)) (cE (a8 (pv 7)) (dg (a8 (pv 8))))))))))) (ah (dD ak (nS (pv 1) (aH dZ (pv 2) ak) set_list))) aA)) (af (jq (aM (cv (PW.pt (qW (cv (PW.pt (cE (au (bo.or (aU (aE hr))) (pv 4) ak (aD _)) (cE (a8 (pv 8)) (dg (dq (a8 (pv 7)))))))) (mf (cv (PW.pt (cE (au (bo.or (aU (aE hr))) (pv 4) ak (aD _)) (cE (a8 (pv 7)) (dg (a8 (pv 8))))))))))) (ah (dD ak (nS (pv 1) (pv 3) set_list))) aA)) (ah (ar (bX (Gp (a9 (bo.or (aU (aE hr))) (pv 4) ak (aD _)) (Gp (bX (gp (a9 (bo.or (aU (aE hr))) (pv 4) ak (aD _)) (fQ (bX (Gp (pv 7) (fQ (pv 8))))))) (fQ (bX (gp (a9 (bo.or (aU (aE hr))) (pv 4) ak (aD _)) (gp (pv 7) (fQ (pv 8))))))))))))))))))) ?_;tm_up;refine rf (.str ((aR ss)[z]?.getD .dot).str) ?_ ?_
 ·tm_up;refine .inl ⟨_,_,rfl,.inl hS,?_⟩;rw[bF hg];tm_up;refine aP (fun h=>?_) (fun h=>?_)
  ·have hlt:z<ss.length:=by have:=of_decide_eq_true h;omega
   tm_up;refine wj hS hg (n:=z) rfl (getElem?_eq_getElem hlt) fun p hp=>?_;tm_up;refine i8 ?_;rw[getElem?_map,getElem?_eq_getElem hlt];rfl
  ·refine i8 ?_;have hge:¬ z<ss.length:=fun c=>h (decide_eq_true (by omega));rw[List.getElem?_eq_none (by rw[length_map];omega)];rfl
 refine rf (.str ((aR ss)[z+1]?.getD .dot).str) ?_ ?_
 ·tm_up;refine .inl ⟨_,_,rfl,.inl hS,?_⟩;rw[bF hg];tm_up;refine aP (fun h=>?_) (fun h=>?_)
  ·have hlt:z+1<ss.length:=by have:=of_decide_eq_true h;omega
   tm_up;refine wj hS hg (n:=z+1) (by omega) (getElem?_eq_getElem hlt) fun p hp=>?_;tm_up;refine i8 ?_;rw[getElem?_map,getElem?_eq_getElem hlt];rfl
  ·refine i8 ?_;have hge:¬ z+1<ss.length:=fun c=>h (decide_eq_true (by omega));rw[List.getElem?_eq_none (by rw[length_map];omega)];rfl
 refine rf (.bl (fD (aR ss) fs a)) ?_ ?_
 ·tm_up;refine aP (fun h=>?_) (fun h=>?_)
  ·have hp:0<a:=by have:=of_decide_eq_true h;omega
   have hlt:a-1<ss.length:=by omega
   have ek:BH (aR ss) ((a:Int)-1)=some (ss[a-1]).1:=by
    have:(a:Int)-1=((a-1:Nat):Int):=by omega
    rw[this,j3,getElem?_map,getElem?_eq_getElem hlt];rfl
   tm_up;refine wj hS hg (n:=a-1) (by omega) (getElem?_eq_getElem hlt) fun p hp=>?_;tm_up;rw[UZ];refine aP (fun h2=>?_) (fun h2=>?_)
   ·tm_up;refine K8 (aL.of hf) (n:=a-1) (by omega) (getElem?_eq_getElem (by omega)) ?_;tm_up;rw[dF];refine i8 ?_;unfold fD;rw[ek,of_decide_eq_true h2,List.getD_eq_getElem?_getD,getElem?_eq_getElem (by omega)];simp
   ·refine i8 ?_;unfold fD;rw[ek];have:(ss[a-1]).1≠.G:=fun c=>h2 (decide_eq_true c);simp[this]
  ·refine i8 ?_;have hp:a=0:=by
    have:¬ 0<a:=fun c=>h (decide_eq_true (by omega));omega
   subst hp;unfold fD BH;simp
 refine rf (.bl (d3 (aR ss) z)) ?_ ?_
 ·tm_up;rw[UZ,Vo];refine aP (fun h=>?_) (fun h=>?_)
  ·tm_up;refine i8 ?_;unfold d3;rw[h];show V.bl (!Bz _ _)=_;rw[za,uC];rfl
  ·refine i8 ?_;unfold d3;rw[Bool.eq_false_iff.mpr h];rfl
 generalize hL:fD (aR ss) fs a=L at q;generalize hR:d3 (aR ss) z=R at q;refine jW (decide (r=2)&&(kO (aR ss)[z]? && decide ((aR ss)[z-1]? = some .s))) ?_ ?_
 ·tm_up;rw[d2];refine aP (fun h=>?_) (fun h=>?_)
  ·rw[h];tm_up;refine aP (fun h2=>?_) (fun h2=>?_)
   ·have h2':kO (aR ss)[z]? = true:=by
     have:Bz ((aR ss)[z]?.getD .dot).str "GDR"=true:=h2
     rwa [za,uC]at this
    rw[h2'];tm_up;have hlt:z-1<ss.length:=by omega
    refine wj hS hg (n:=z-1) (by omega) (getElem?_eq_getElem hlt) fun p hp=>?_;tm_up;rw[X1];refine c7 ?_;rw[getElem?_map,getElem?_eq_getElem hlt];simp
   ·have h2':kO (aR ss)[z]? = false:=by
     have:Bz ((aR ss)[z]?.getD .dot).str "GDR"=false:=Bool.eq_false_iff.mpr h2
     rwa [za,uC]at this
    rw[h2'];exact c7 rfl
  ·exact c7 (by rw[Bool.eq_false_iff.mpr h];rfl)
 refine aP (fun h=>?_) (fun h=>?_)
 ·rw[if_pos h]at q;tm_up;refine⟨_,_,_,_,rfl,rfl,hf,j5 (j:=z-1) (by omega) (by rw[length_map];omega),?_⟩;rw[ix];exact q
 ·rw[if_neg h]at q;dsimp only at q;have YK:L=true->1<=a/\a-1<ss.length:=fun e=>by
   have:=ua (hL.trans e)
   rwa [length_map]at this
  have YL:R=true->z<ss.length:=fun e=>by
   have:=qC (hR.trans e)
   rwa [length_map]at this
  generalize hg1:(if(decide (r=1)&&L||decide (r=2)&&(L&&R))=true then fs.set (a-1) 2 else fs)=g1 at q;have ZM:g1.length=ss.length:=by rw[<-hg1];split <;> simp[hl]
  refine KN [some (.ref l),some (.ref f),some (.int (a:Int)),some (.int (z:Int)),some (.int (((z:Int)-(a:Int)) % 3)),some (.str ((aR ss)[z]?.getD .dot).str),some (.str ((aR ss)[z+1]?.getD .dot).str),some (.bl L),some (.bl R)] (upd H f (.lst (g1.map V.int))) ?_ ?_
  ·refine jW (decide (r=1)&&L||decide (r=2)&&(L&&R)) ?_ ?_
   ·refine jW (decide (r=1)&&L) ?_ ?_
    ·tm_up;rw[d1];refine aP (fun h=>?_) (fun h=>?_)
     ·tm_up;exact c7 (by rw[h];rfl)
     ·exact c7 (by rw[Bool.eq_false_iff.mpr h];rfl)
    ·refine aP (fun h=>c7 (by rw[h];rfl)) (fun h=>?_);rw[Bool.eq_false_iff.mpr h,Bool.false_or];refine jW (decide (r=2)&&(L&&R)) ?_ (c7 rfl);tm_up;rw[d2];refine aP (fun h=>?_) (fun h=>?_)
     ·tm_up;refine aP (fun h2=>?_) (fun h2=>?_)
      ·tm_up;exact c7 (by rw[h,h2];rfl)
      ·exact c7 (by rw[h,Bool.eq_false_iff.mpr h2];rfl)
     ·exact c7 (by rw[Bool.eq_false_iff.mpr h];rfl)
   ·refine aP (fun h=>?_) (fun h=>?_)
    ·rw[if_pos h]at hg1;have hp:=YK (by cases L <;> simp_all);tm_up;refine⟨_,_,_,_,rfl,rfl,hf,j5 (j:=a-1) (by omega) (by rw[length_map];omega),?_⟩;rw[ix,hg1];exact⟨rfl,rfl⟩
    ·rw[if_neg h]at hg1;subst hg1;rw[rk hf];exact⟨rfl,rfl⟩
  generalize hg2:(if(decide (r=1)&&(R && !L)||decide (r=2)&&(L&&R))=true then g1.set z 2 else g1)=g2 at q;refine KN [some (.ref l),some (.ref f),some (.int (a:Int)),some (.int (z:Int)),some (.int (((z:Int)-(a:Int)) % 3)),some (.str ((aR ss)[z]?.getD .dot).str),some (.str ((aR ss)[z+1]?.getD .dot).str),some (.bl L),some (.bl R)] (upd H f (.lst (g2.map V.int))) ?_ ?_
  ·refine jW (decide (r=1)&&(R && !L)||decide (r=2)&&(L&&R)) ?_ ?_
   ·refine jW (decide (r=1)&&(R && !L)) ?_ ?_
    ·tm_up;rw[d1];refine aP (fun h=>?_) (fun h=>?_)
     ·tm_up;refine aP (fun h2=>?_) (fun h2=>?_)
      ·tm_up;exact c7 (by rw[h,h2];rfl)
      ·exact c7 (by rw[h,Bool.eq_false_iff.mpr h2];rfl)
     ·exact c7 (by rw[Bool.eq_false_iff.mpr h];rfl)
    ·refine aP (fun h=>c7 (by rw[h];rfl)) (fun h=>?_);rw[Bool.eq_false_iff.mpr h,Bool.false_or];refine jW (decide (r=2)&&(L&&R)) ?_ (c7 rfl);tm_up;rw[d2];refine aP (fun h=>?_) (fun h=>?_)
     ·tm_up;refine aP (fun h2=>?_) (fun h2=>?_)
      ·tm_up;exact c7 (by rw[h,h2];rfl)
      ·exact c7 (by rw[h,Bool.eq_false_iff.mpr h2];rfl)
     ·exact c7 (by rw[Bool.eq_false_iff.mpr h];rfl)
   ·refine aP (fun h=>?_) (fun h=>?_)
    ·rw[if_pos h]at hg2;have hp:=YL (by cases R <;> simp_all);tm_up;refine⟨_,_,_,_,rfl,rfl,ae,j5 (j:=z) rfl (by rw[length_map];omega),?_⟩;rw[ix,hg2,bH];exact⟨rfl,rfl⟩
    ·rw[if_neg h]at hg2;subst hg2;exact⟨rfl,rfl⟩
  refine rf (.bl (decide (r=0)||(decide (r=1)&&(L||R)||decide (r=2)&&(L&&R)))) ?_ q;tm_up;rw[d0];refine aP (fun h=>i8 (by rw[h];rfl)) (fun h=>?_);rw[Bool.eq_false_iff.mpr h,Bool.false_or];refine rf (.bl (decide (r=1)&&(L||R))) ?_ ?_
  ·tm_up;rw[d1];refine aP (fun h=>?_) (fun h=>i8 (by rw[Bool.eq_false_iff.mpr h];rfl));refine rf (.bl (L||R)) ?_ (i8 (by rw[h];rfl));tm_up;refine aP (fun h=>i8 (by rw[h];rfl)) (fun h=>?_);tm_up;exact i8 (by rw[Bool.eq_false_iff.mpr h];rfl)
  ·refine⟨_,rfl,?_⟩;refine aP (fun h=>i8 (by rw[h];rfl)) (fun h=>?_);rw[Bool.eq_false_iff.mpr h,Bool.false_or];refine rf (.bl (decide (r=2)&&(L&&R))) ?_ (i8 rfl);tm_up;rw[d2];refine aP (fun h=>?_) (fun h=>i8 (by rw[Bool.eq_false_iff.mpr h];rfl));tm_up;refine aP (fun h2=>?_) (fun h2=>?_)
   ·tm_up;exact i8 (by rw[h,h2];rfl)
   ·exact i8 (by rw[h,Bool.eq_false_iff.mpr h2];rfl)
inductive Ba (K:Frag)(vs:List V)(H:Hp)(Q:VK)(E:XK):Prop
 |mk (l:Addr) (b:Int) (xs:List V) (ss:List Sg) (cH:vs=[.ref l,.int b]) (cI:Ms b) (dh:H l=some (.lst xs)) (fJ:gn H xs ss) (jh:ss.length<=400) (zL:∀(p f lo:Addr)(ys:List V)(H':Hp),aq H H'->H f=none->H lo=none->f≠lo->H' p=some (.tup [.ref f,.ref lo])->H' f=some (.lst ((fE b (aR ss)).1.map V.int))->H' lo=some (.lst ys)->Fj H' ys (fE b (aR ss)).2->Q (.ref p) H'):Ba K vs H Q E
theorem JK (T:Txt K w mg t):aS P w K mg base fk (0+2) t.D4 t.D5 ["_law_line","_law_begin"] (Ba K):=by
 have L4:=JI P base T;have JL:=Gd P base T;have ND:=L1 P base T;refine T.yH.ok gh ?_ ?_
 x_go
 obtain⟨l,b,xs,ss,rfl,QD,hS,hg,hn,q⟩:=h;refine aG (af (ed 2 gh.nd (eC T.Eh L4 hr (aa (pv 0) (aa (pv 1) ag)))) (af (ed 3 gh.nd (eC T.AZ JL hr (aa (pv 0) (aa (pv 1) ag)))) (af (ed 4 gh.nd (bq ag)) (af (ed 5 gh.nd ak) (af (xg PassesOwn.never (au nY (pv 5) (aI (aB.or aC) rfl T.bu br (aa (pv 0) ag)) (aD _)) (af (ed 6 gh.nd (pv 5)) (af (xg PassesOwn.never (cv (PW.pt (cE (au nY (pv 6) (aI (aB.or aC) rfl T.bu br (aa (pv 0) ag)) (aD _)) (cE (au (bA.or bx) (bp a7 (bp a7 (pv 0) (pv 6) (fun _ _=>rfl)) ak (fun _ _=>rfl)) ax rfl) (dg (a8 (bp a7 (pv 3) (pv 6) (fun _ _=>rfl)))))))) (ah (ed 6 gh.nd (aH (aV.or (ay.or aW)) (pv 6) ak)))) (af (jq (aM (cv (PW.pt (cE (au C1 (pv 6) (pv 5) (aD _)) (dg (dq (a8 (eC T.HQ ND hr (aa (pv 0) (aa (pv 2) (aa (pv 5) (aa (pv 6) ag))))))))))) (ah (aO (ef plainAttrs_list slot_list_append type_list_append bB (pv 4) (aa (dr (aa (pv 5) (aa (pv 6) ag))) ag)))) aA)) (ah (ed 5 gh.nd (aI (Ip rfl) rfl T.PQ O9 (aa (pv 6) (aa (aH (aV.or (ay.or aW)) (pv 5) ak) ag))))))))) (ah (ar (dr (aa (pv 2) (aa (pv 4) ag)))))))))) ?_;tm_up;refine⟨l,b,xs,ss,rfl,QD,aL.of hS,hg,hn,fun f H1 s1 n1 h1=>?_⟩;tm_up;refine⟨l,b,xs,ss,rfl,aL.of (s1 _ _ hS),hg.same s1,hn,fun th H2 s2 n2 h2=>?_⟩;refine⟨big (by show 0<=1000;omega),fun lo hlo=>?_⟩;have s3:=s2.trans (aq.upd (o:=.lst []) hlo);have LW:H lo=none:=s1.free (s2.free hlo);have P6:f≠lo:=ao (s2 _ _ h1) hlo;have Wv:th≠lo:=ao h2 hlo;have YM:th≠f:=fun e=>by rw[e,h1]at n2;cases n2
 have YN:l≠f:=ao hS n1;have bl:(eJ b (aR ss)).length=ss.length:=by rw[lu,length_map]
 have cnt:(mW b (aR ss)).length<=401:=by
  have:=iH (fB b (aR ss)) 0 0;rw[jr,length_map]at this;exact Nat.le_trans this (by omega)
 tm_up;refine⟨fun mm σ H'=>∃(low:Nat)(v:Option V)(c:MY)(ys:List V),mm=ss.length-low/\low<=ss.length/\σ=[some (.ref l),some (.int b),some (.ref f),some (.ref th),some (.ref lo),some (.int (low:Int)),v]/\aq H H'/\H' f=some (.lst (c.1.map V.int))/\H' lo=some (.lst ys)/\Fj H' ys c.2/\H' th=some (.lst ((fU b (aR ss)).map V.bl))/\c.1.length=ss.length/\c.2.length+(c8 low low ((fB b (aR ss)).drop low)).length<=401/\(c8 low low ((fB b (aR ss)).drop low)).foldl (js (aR ss)) c=fE b (aR ss),
  ⟨_,0,none,(eJ b (aR ss),[]),[],rfl,Nat.zero_le _,rfl,s1.trans s3,s3 _ _ h1,ae,.nil,by rw[ai Wv];exact h2,bl,by show 0+(mW b (aR ss)).length<=401;omega,rfl⟩,?_⟩
 rintro mm σ H' ⟨low,v,c,ys,rfl,hlow,rfl,s4,SE,Ga,hys,hth,hcl,SF,kJ⟩;have Ts:=s4 _ _ hS;have Ww:=hg.same s4;tm_up;refine .inl ⟨_,_,rfl,.inl (aL.of Ts),?_⟩;rw[bF hg];tm_up;refine aP (fun h=>?_) (fun h=>?_)
 ·have hlt:low<ss.length:=by have:=of_decide_eq_true h;omega
  refine⟨fun σ' A3=>∃ m',m'<ss.length-low/\∃(low:Nat)(v:Option V)(c:MY)(ys:List V),m'=ss.length-low/\low<=ss.length/\σ'=[some (.ref l),some (.int b),some (.ref f),some (.ref th),some (.ref lo),some (.int (low:Int)),v]/\aq H A3/\A3 f=some (.lst (c.1.map V.int))/\A3 lo=some (.lst ys)/\Fj A3 ys c.2/\A3 th=some (.lst ((fU b (aR ss)).map V.bl))/\c.1.length=ss.length/\c.2.length+(c8 low low ((fB b (aR ss)).drop low)).length<=401/\(c8 low low ((fB b (aR ss)).drop low)).foldl (js (aR ss)) c=fE b (aR ss),fun _ _ h=>h,?_⟩;generalize hn':lead ((fB b (aR ss)).drop low)=n;have hnle:n<=ss.length-low:=by
   have:=He ((fB b (aR ss)).drop low);rw[length_drop,jr,length_map,hn']at this;exact this
  tm_up;refine⟨fun mm σ A3=>∃ j:Nat,mm=n-j/\j<=n/\σ=[some (.ref l),some (.int b),some (.ref f),some (.ref th),some (.ref lo),some (.int (low:Int)),some (.int ((low+j:Nat):Int))]/\A3=H',⟨n,0,rfl,Nat.zero_le _,rfl,rfl⟩,?_⟩;rintro mm σ A3 ⟨j,rfl,hj,rfl,rfl⟩;have hla:=Hg ((fB b (aR ss)).drop low) j (by rw[hn'];exact hj);rw[hn',Pr]at hla;refine jW (decide (j<n)) ?_ ?_
  ·tm_up;refine .inl ⟨_,_,rfl,.inl (aL.of Ts),?_⟩;rw[bF hg];tm_up;refine aP (fun h=>?_) (fun h=>?_)
   ·have hjl:low+j<ss.length:=by have:=of_decide_eq_true h;omega
    have hk:(aR ss)[low+j]? = some (ss[low+j]).1:=ow (getElem?_eq_getElem hjl);obtain⟨tb,ht1,Oy⟩:=Hf QD (aR ss) (low+j) _ hk;rw[Oy]at hla;tm_up;refine wj (aL.of Ts) Ww (n:=low+j) rfl (getElem?_eq_getElem hjl) fun p hp=>?_;tm_up;refine aP (fun h=>?_) (fun h=>?_)
    ·have h':(ss[low+j]).1.small=true:=by rw[<-tK];exact h
     rw[h',Bool.true_and]at hla;tm_up;refine EO (aL.of hth) (n:=low+j) rfl (ow ht1) ?_;tm_up;refine c7 ?_;cases tb with
     |true=>exact(decide_eq_true (hla.mpr rfl)).symm
     |false=>exact(decide_eq_false (fun z=>by have:=hla.mp z;cases this)).symm
    ·have h':(ss[low+j]).1.small=false:=by rw[<-tK];exact Bool.eq_false_iff.mpr h
     rw[h',Bool.false_and]at hla;exact c7 (decide_eq_false (fun z=>by have:=hla.mp z;cases this)).symm
   ·have hjl:¬ low+j<ss.length:=fun z=>h (decide_eq_true (by omega));exact c7 (decide_eq_false (by omega)).symm
  refine aP (fun h=>?_) (fun h=>?_)
  ·have hjn:=of_decide_eq_true h;refine⟨fun σ' Hx=>∃ m',m'<n-j/\∃ j:Nat,m'=n-j/\j<=n/\σ'=[some (.ref l),some (.int b),some (.ref f),some (.ref th),some (.ref lo),some (.int (low:Int)),some (.int ((low+j:Nat):Int))]/\Hx=A3,fun _ _ h=>h,?_⟩;tm_up;exact⟨n-(j+1),by omega,j+1,rfl,by omega,rfl,rfl⟩
  ·have hjn:j=n:=by
    have:¬ j<n:=fun z=>h (decide_eq_true z);omega
   subst hjn;have Tt:=xC ((fB b (aR ss)).drop low) low low (by rw[hn'];omega) (Nat.le_refl _);rw[hn',List.drop_drop]at Tt;refine⟨fun ZX H1=>ZX=[some (.ref l),some (.int b),some (.ref f),some (.ref th),some (.ref lo),some (.int (low:Int)),some (.int ((low+j:Nat):Int))]/\∃(c:MY)(ys:List V),aq H H1/\H1 f=some (.lst (c.1.map V.int))/\H1 lo=some (.lst ys)/\Fj H1 ys c.2/\H1 th=some (.lst ((fU b (aR ss)).map V.bl))/\c.1.length=ss.length/\c.2.length+(c8 (low+j) (low+j) ((fB b (aR ss)).drop (low+j))).length<=401/\(c8 (low+j) (low+j) ((fB b (aR ss)).drop (low+j))).foldl (js (aR ss)) c=fE b (aR ss),?_,?_⟩
   ·by_cases hj0:j=0
    ·subst hj0;refine jW false ?_ ?_
     ·tm_up;rw[decide_eq_false (show ¬((low:Int)<((low+0:Nat):Int)) by omega)];exact c7 rfl
     ·exact ck ⟨rfl,c,ys,s4,SE,Ga,hys,hth,hcl,SF,kJ⟩
    ·have hlt2:low<low+j:=by omega
     rw[if_pos hlt2,List.singleton_append]at Tt;rw[Tt,List.foldl_cons]at kJ;rw[Tt,length_cons]at SF;have s5:aq H (upd A3 f (.lst ((settle (aR ss) c.1 low (low+j)).2.map V.int))):=cZ s4 n1;have Er:upd A3 f (.lst ((settle (aR ss) c.1 low (low+j)).2.map V.int)) lo=some (.lst ys):=by rw[ai P6.symm];exact Ga
     have SG:upd A3 f (.lst ((settle (aR ss) c.1 low (low+j)).2.map V.int)) th=some (.lst ((fU b (aR ss)).map V.bl)):=by rw[ai YM];exact hth
     have SH:(settle (aR ss) c.1 low (low+j)).2.length=ss.length:=by rw[qB];exact hcl
     refine⟨fun bb H3=>bb = !(settle (aR ss) c.1 low (low+j)).1/\H3=upd A3 f (.lst ((settle (aR ss) c.1 low (low+j)).2.map V.int)),?_,?_⟩
     ·tm_up;rw[decide_eq_true (show((low:Int)<((low+j:Nat):Int)) by omega)];refine gx ?_;tm_up;refine⟨l,f,low,low+j,xs,ss,c.1,rfl,aL.of Ts,Ww,YN,SE,hcl,hlt2,by omega,?_⟩;tm_up;exact⟨rfl,rfl⟩
     ·rintro bb H3 ⟨rfl,rfl⟩;refine aP (fun h=>?_) (fun h=>?_)
      ·have hst:(settle (aR ss) c.1 low (low+j)).1=false:=by
        cases e:(settle (aR ss) c.1 low (low+j)).1
        ·rfl
        ·rw[e]at h;cases h
       tm_up;refine⟨.inl ⟨rfl,_,aL.of Er⟩,?_⟩;tm_up;refine⟨by show 2<=sizeLine;decide,fun z hz=>?_⟩;have sz:=aq.upd (o:=.tup [.int (low:Int),.int ((low+j:Nat):Int)]) hz;have JM:=sz _ _ Er;refine⟨_,_,_,rfl,rfl,JM,by rw[bF hys];exact aF (by omega),?_⟩;refine⟨rfl,((settle (aR ss) c.1 low (low+j)).2,c.2++[(low,low+j)]),_,cZ (s5.trans sz) LW,by rw[ai P6];exact sz _ _ ae,ae,gZ (jt JM (j4 sz (jt SE hys))) (Dv JM ⟨z,rfl,ae⟩),
        by rw[ai Wv];exact sz _ _ SG,SH,by simp only [length_append,List.length_singleton];omega,?_⟩
       rw[<-kJ];unfold js;rw[hst];rfl
      ·have hst:(settle (aR ss) c.1 low (low+j)).1=true:=by
        cases e:(settle (aR ss) c.1 low (low+j)).1
        ·rw[e]at h;exact absurd rfl h
        ·rfl
       refine⟨rfl,((settle (aR ss) c.1 low (low+j)).2,c.2),ys,s5,ae,Er,jt SE hys,SG,SH,by show c.2.length+_<=401;omega,?_⟩;rw[<-kJ];unfold js;rw[hst];rfl
   ·rintro ZX H1 ⟨rfl,c',ys',s6,Wx,JM,SI,SJ,SK,Ig,CI⟩;tm_up;refine⟨_,_,rfl,?_⟩
    by_cases hj0:j=0
    ·subst hj0;have YO:(fB b (aR ss))[low]? = some false:=by
      have h1:low<(fB b (aR ss)).length:=by rw[jr,length_map];exact hlt
      have h2:¬(fB b (aR ss))[low+0]? = some true:=fun z=>Nat.lt_irrefl _ (hla.mpr z);rw[Nat.add_zero,getElem?_eq_getElem h1]at h2;rw[getElem?_eq_getElem h1];cases e:(fB b (aR ss))[low]
      ·rfl
      ·rw[e]at h2;exact absurd rfl h2
     rw[Nat.add_zero,i9 YO]at CI Ig;have er:c8 low low (false::(fB b (aR ss)).drop (low+1))=c8 (low+1) (low+1) ((fB b (aR ss)).drop (low+1)):=by
      show(if low<low then [(low,low)] else [])++c8 (low+1) (low+1) ((fB b (aR ss)).drop (low+1))=_;rw[if_neg (Nat.lt_irrefl _),nil_append]
     rw[er]at CI Ig;have em:(if(low:Int)+1 > ((low+0:Nat):Int) then(low:Int)+1 else((low+0:Nat):Int))=((low+1:Nat):Int):=by rw[if_pos (by omega)];rfl
     rw[em];exact⟨ss.length-(low+1),by omega,low+1,_,c',ys',rfl,by omega,rfl,s6,Wx,JM,SI,SJ,SK,Ig,CI⟩
    ·have em:(if(low:Int)+1 > ((low+j:Nat):Int) then(low:Int)+1 else((low+j:Nat):Int))=((low+j:Nat):Int):=by
      split <;> omega
     rw[em];exact⟨ss.length-(low+j),by omega,low+j,_,c',ys',rfl,by omega,rfl,s6,Wx,JM,SI,SJ,SK,Ig,CI⟩
 ·have hlt:low=ss.length:=by
   have:¬ low<ss.length:=fun z=>h (decide_eq_true (by omega));omega
  subst hlt;rw[List.drop_eq_nil_of_le (by rw[jr,length_map];exact Nat.le_refl _)]at kJ;have e:c=fE b (aR ss):=by
   have:c8 ss.length ss.length []=[]:=by unfold c8;rw[if_neg (Nat.lt_irrefl _)]
   rw[this]at kJ;exact kJ
  subst e;tm_up;refine⟨by show 2<=sizeLine;decide,fun z hz=>?_⟩;have sz:=aq.upd (o:=.tup [.ref f,.ref lo]) hz;exact q z f lo ys _ (s4.trans sz) n1 LW P6 ae (sz _ _ SE) (sz _ _ Ga) (j4 sz hys)
inductive tL (K:Frag)(vs:List V)(H:Hp)(Q:VK)(E:XK):Prop
 |mk (d:Addr) (vw:Vw) (n:Str) (th:Th) (cH:vs=[.ref d,.str n]) (cI:lG H d vw) (dh:pL vw) (fJ:aZ vw n=some th) (jh:∀(l:Addr)(H':Hp),aq H H'->H' l=some (.lst ((dy vw n).map V.int))->Q (.ref l) H'):tL K vs H Q E
theorem CJ (T:Txt K w mg t):aS P w K mg base fk (0+3) t.vF t.vG ["_law_voices","_law_name"] (tL K):=by
 have pA:=tI P base T;have EA:=JK P base T;refine T.vU.ok mI ?_ ?_
 x_go
 obtain⟨d,vw,n,th,rfl,hd,wv,hf,q⟩:=h;refine aG (af (qv (i:=2) mI.nd rfl (Or.inr rfl) (jZ (n9 hr) (pv 0) (pv 1) (fun _ _=>rfl))) (af (ed 3 mI.nd (eC T.o9 pA hr (aa (pv 0) (aa (pv 1) ag)))) (af (aM (a8 (aI oh rfl T.fH fu (aa (pv 2) (aa (qV (v:=.ty "list") rfl T.mM mv rfl) ag)))) (ah (ar (bp a7 (eC T.yH EA hr (aa (pv 3) (aa ak ag))) ak (fun _ _=>rfl)))) aA) (ah (ar (dz (cn:=["_law_worth"]) rfl (bL.of rfl) (cW (bp a7 (eC T.yH EA hr (aa (pv 3) (aa (bX (dC (a8 (eD (pv 2))) ak ak)) ag))) ak (fun _ _=>rfl))) (fun _=>(bQ (i:=0) wt rfl (Or.inl rfl))) (fun _=>fh) (fun _=>(aH (nW.or n6) (eD (pv 3)) (pv 0))))))))) ?_;obtain⟨v,hg,hv⟩:=hd.get hf;refine⟨_,rfl,_,rfl,d,v,rfl,hg,?_⟩;refine⟨_,rfl,_,rfl,d,vw,n,th,rfl,hd,wv,hf,fun l ys H1 s1 h1 g1=>?_⟩;cases th with
 |pl ss =>
  obtain⟨l0,ZN,rfl,h0,_⟩:=hv;have gl:=(wv.gd _ _ (cb hf)).1;rw[gF hf]at g1;tm_up;refine⟨_,_,_,_,rfl,lq.lst (s1 _ _ h0),rfl,_,rfl,gx ?_⟩;refine⟨_,rfl,l,3,ys,ss,rfl,.inl rfl,h1,g1,by omega,fun p f lo zs H2 s2 _ _ _ hp hf2 _ _=>Qt hp ?_⟩;exact q f H2 (s1.trans s2) (by rw[xN hf];exact hf2)
 |cn ld lt sl tn =>
  obtain⟨p,rfl,hp⟩:=hv;obtain⟨⟨ss,Ct⟩,Oe,Wh,Wi,Vf⟩:=wv.ld n ld lt sl tn (cb hf);have hfl:=wv.find Ct;have gl:=(wv.gd _ _ Ct).1;rw[lD hf hfl]at g1;rw[xO hf hfl]at q;have Sm:(if tn=true then ss.map jv else ss).length<=400:=by
   split
   ·rw[length_map];omega
   ·omega
  tm_up;refine⟨_,_,_,_,rfl,lq.tup (s1 _ _ hp),rfl,_,rfl,ck ?_⟩;refine⟨_,rfl,?_⟩;refine⟨fun v H'=>v=.int (if tn=true then 2 else 3)/\H'=H1,?_,?_⟩
  ·refine⟨_,rfl,JH (i:=3) (s1 _ _ hp) rfl ⟨_,rfl,?_⟩⟩;cases tn with
   |true=>exact gx ⟨rfl,rfl⟩
   |false=>exact ck ⟨rfl,rfl⟩
  intro v0 H0 ⟨e1,e2⟩;rw[e1,e2];have QD:Ms (if tn=true then 2 else 3):=by cases tn;exact .inl rfl;exact .inr rfl
  refine⟨l,_,ys,_,rfl,QD,h1,g1,Sm,fun p2 f lo zs H2 s2 _ _ _ hp2 hf2 _ _=>Qt hp2 ?_⟩;generalize hW:(fE (if tn=true then 2 else 3) (aR (if tn=true then ss.map jv else ss))).1=W at q hf2;have YA:W.length<=400:=by rw[<-hW,pI,length_map];exact Sm
  refine⟨f,rfl,⟨_,aL.of hf2⟩,fun D' b' hD'=>?_⟩;have Wz:=s2 _ _ (s1 _ _ hp);refine dG (K:=K) (xs:=W.map V.int) (fun i ys' σ H'=>∃ v,σ=[v,some (.ref d),some (.str n),some (.ref p),some (.ref l)]/\H'=upd H2 D' (.lst ys')/\ys'=((W.take i).map fun w=>sl * w).map V.int) ⟨none,rfl,rfl,by simp⟩ ?_ ?_ ?_
  ·rintro i ys σ H' ⟨v,rfl,rfl,_⟩;exact cY (aL.of hf2) hD'
  ·rintro i ys' y σ H' hy ⟨v,rfl,rfl,rfl⟩ N hN;obtain⟨z,hz,rfl⟩:=BG hy;have hi:i<W.length:=(List.getElem?_eq_some_iff.mp hz).1;refine bZ ?_;refine⟨_,rfl,JH (i:=2) (by rw[ai (ao Wz hD')];exact Wz) rfl ?_⟩;refine⟨_,rfl,.inl ⟨_,_,rfl,rfl,.inl ⟨by omega,by omega⟩,ae,?_,?_⟩⟩
   ·rw[length_map,length_map,length_take];exact aF (by omega)
   ·refine hN _ _ _ ⟨_,rfl,bH,?_⟩;rw[take_succ,hz,map_append,map_append];rfl
  ·rintro ys' σ H' ⟨v,rfl,rfl,rfl⟩;rw[length_map,take_length];exact q D' _ ((s1.trans s2).trans (aq.upd hD')) ae
inductive zb (vs:List V)(H:Hp)(Q:VK)(E:XK):Prop
 |mk (n:Int) (cH:vs=[.int n]) (cI:Q (.bl true) H):zb vs H Q E
theorem Ge (T:Txt K w mg t):aS P w K mg base fk (0+1) t.AD t.AE ["_law_found"] zb:=by
 refine T.A0.ok FD ?_ ?_
 x_go
 obtain⟨n,rfl,q⟩:=h;refine aG (ah (ar (bX (gp (aI oh rfl T.fH fu (aa (pv 0) (aa (qV (v:=.ty "int") rfl T.uo tW rfl) ag))) (fQ (OM (aI oh rfl T.fH fu (aa (pv 0) (aa (qV (v:=.ty "bool") rfl T.Nn ME rfl) ag))))))))) ?_;refine rf (.bl true) ?_ q;exact⟨_,rfl,_,_,_,_,rfl,lq.int _,rfl,_,rfl,gx ⟨_,rfl,_,_,_,_,rfl,lq.int _,rfl,_,rfl,i8 rfl⟩⟩
inductive Bb (K:Frag)(vs:List V)(H:Hp)(Q:VK)(E:XK):Prop
 |mk (f d:Addr) (fs ds:List Int) (cH:vs=[.ref f,.ref d]) (cI:H f=some (.lst (fs.map V.int))) (dh:aL K H d (ds.map V.int)) (fJ:ds.length<=1000) (jh:Q (.bl (decide (fs=ds))) H):Bb K vs H Q E
theorem JN (T:Txt K w mg t):aS P w K mg base fk (0+2) t.D6 t.D7 ["_law_found","_law_due"] (Bb K):=by
 have JO:=Ge P base T;refine T.Ei.ok Al ?_ ?_
 x_go
 obtain⟨f,d,fs,ds,rfl,hf,hd,hn,q⟩:=h;refine aG (af (aM (cv (PW.pt (qW (dq (a8 (aI oh rfl T.fH fu (aa (pv 0) (aa (qV (v:=.ty "list") rfl T.mM mv rfl) ag))))) (mf (au (nX.or (jo (aE hr))) (aI (aB.or aC) rfl T.bu br (aa (pv 0) ag)) (aI (aB.or aC) rfl T.bu br (aa (pv 1) ag)) (aD _)))))) (ah (ar eM)) aA) (af (fg PassesOwn.never rfl (jg rfl T.gM (aa (aI (aB.or aC) rfl T.bu br (aa (pv 1) ag)) ag)) (i5 2 Al.nd) (ah (aM (cv (PW.pt (qW (dq (a8 (eC T.A0 JO hr (aa (bp a7 (pv 0) (pv 2) (fun _ _=>rfl)) ag)))) (mf (au (nX.or (jo (aE hr))) (bp a7 (pv 0) (pv 2) (fun _ _=>rfl)) (bp a7 (pv 1) (pv 2) (fun _ _=>rfl)) (aD _)))))) (ah (ar eM)) aA))) (ah (ar eM)))) ?_;refine jW (decide (fs.length≠ds.length)) ?_ ?_
 ·tm_up;refine⟨_,_,_,_,rfl,lq.lst hf,rfl,_,rfl,?_⟩;refine ck ?_;tm_up;refine .inl ⟨_,_,rfl,.inl (aL.of hf),?_⟩;tm_up;refine .inl ⟨_,_,rfl,.inl hd,?_⟩;tm_up;rw[length_map,length_map];refine c7 ?_;rw[dF]
  by_cases e:fs.length=ds.length
  ·simp[e]
  ·have:¬((fs.length:Int)=(ds.length:Int)):=by omega
   simp[e,this]
 ·refine aP (fun h=>?_) (fun h=>?_)
  ·have e:fs≠ds:=fun z=>by
    have:=of_decide_eq_true h;rw[z]at this;exact this rfl
   rw[decide_eq_false e]at q;exact q
  ·have el:fs.length=ds.length:=by
    by_cases e:fs.length=ds.length
    ·exact e
    ·exact absurd (decide_eq_true e) h
   tm_up;refine .inl ⟨_,_,rfl,.inl hd,?_⟩;rw[length_map];have SA:(2:Int) ^ 62=4611686018427387904:=by decide
   refine⟨(ds.length:Int),rfl,by rw[SA];omega,by rw[SA];omega,?_⟩;refine lg (n:=((ds.length:Int)).toNat) (fun i σ H'=>∃ v,σ=[some (.ref f),some (.ref d),v]/\H'=H/\fs.take i=ds.take i) ⟨none,rfl,rfl,rfl⟩ ?_ ?_
   ·rintro i σ H' hi ⟨v,rfl,rfl,ht⟩;have hid:i<ds.length:=by omega
    have hif:i<fs.length:=by omega
    refine jW (decide (fs[i]≠ds[i])) ?_ ?_
    ·tm_up;refine K8 (aL.of hf) (n:=i) (by omega) (getElem?_eq_getElem hif) ?_;tm_up;refine K8 (aL.of hf) (n:=i) (by omega) (getElem?_eq_getElem hif) ?_;tm_up;refine K8 hd (n:=i) (by omega) (getElem?_eq_getElem hid) ?_;tm_up;refine c7 ?_;rw[dF];simp
    ·refine aP (fun h=>?_) (fun h=>?_)
     ·have e:fs≠ds:=fun z=>by
       subst z;exact(of_decide_eq_true h) rfl
      rw[decide_eq_false e]at q;exact q
     ·have e:fs[i]=ds[i]:=by
       by_cases z:fs[i]=ds[i]
       ·exact z
       ·exact absurd (decide_eq_true z) h
      refine⟨_,rfl,rfl,?_⟩;rw[List.take_succ_eq_append_getElem hif,List.take_succ_eq_append_getElem hid,ht,e]
   ·rintro σ H' ⟨v,rfl,rfl,ht⟩;have e:fs=ds:=by
     have h1:((ds.length:Int)).toNat=ds.length:=by omega
     rw[h1,take_length,<-el,take_length]at ht;exact ht
    rw[decide_eq_true e]at q;exact q
theorem Gf (k:Kd):Bz k.str "GDsd"=k.cK:=by cases k <;> decide +kernel
inductive Bc (vs:List V)(H:Hp)(Q:VK)(E:XK):Prop
 |mk (p:Addr) (s:Sg) (cH:vs=[.ref p]) (cI:H p=some (.tup [.str s.1.str,.int s.2])) (dh:gb s) (fJ:Q (.str (bO s)) H):Bc vs H Q E
theorem Bd (T:Txt K w mg t):aS P w K mg base fk (0+1) t.D8 t.D9 ["_law_sign"] Bc:=by
 refine T.yI.ok Je ?_ ?_
 x_go
 obtain⟨p,g,rfl,hp,gt,q⟩:=h;have wl:=lH gt;unfold bO at q wl;rw[<-Gf]at q wl;refine aG (af (aM (au (bA.or bx) (eD (pv 0)) ax rfl) (ah (ar (aH (aV.or (ay.or aW)) (eD (pv 0)) (bT mi rfl T.FI Fc (aa (eD (pv 0)) ag))))) aA) (ah (ar (eD (pv 0))))) ?_;tm_up;refine aP (fun h=>?_) (fun h=>?_)
 ·have h':Bz g.1.str "GDsd"=true:=h;rw[if_pos h']at q wl;have hn:=gt.1 ((Gf g.1).symm.trans h');tm_up;refine⟨z9 hn.1 hn.2,.inr (.inl ⟨_,_,rfl,rfl,?_,q⟩)⟩;rw[PySem.Str.length_append]at wl;exact Nat.le_trans wl (by decide)
 ·rw[if_neg (show ¬ Bz g.1.str "GDsd"=true from h)]at q;tm_up;exact q
theorem NF {K:Frag}{H:Hp}{a b:Addr}{ys:List V}(ha:aL K H a ys)(hb:aL K H b ys)(hf:∀ v∈ys,∃ x,v=.str x):Kt K H 60 (.ref a) (.ref b):=by
 refine .lst ha hb rfl fun i x y e1 e2=>?_;have e:x=y:=Option.some.inj (e1.symm.trans e2);subst e;obtain⟨z,rfl⟩:=hf x (mem_of_getElem? e1);exact .flat rfl
theorem JP (n:Str):(Cm.line n).text = "line " ++ n:=by
 show Str.join " " ["line",n]=_;rw[join_cons,show("line":Str) ++ " " = "line " from by lk];rfl
theorem EB (n:Str):(Cm.jx n).text = "worths " ++ n:=by
 show Str.join " " ["worths",n]=_;rw[join_cons,show("worths":Str) ++ " " = "worths " from by lk];rfl
inductive nJ (C:Addr)(c:Cs)(vs:List V)(H:Hp)(Q:VK)(E:XK):Prop
 |mk (d dd x dv:Addr) (F:Addr->Prop) (vw:Vw) (ps fs:List Vw) (cH:vs=[.ref d,.ref dv]) (cI:H d=some (.ins C dd (Mj x))) (dh:pZ c H x F vw ps fs) (fJ:lG H dv vw) (jh:(∀ q∈vw,nameB q.1=true)) (zL:ps.length+fs.length<=900) (Jz:∀ H',aq H H'->Q (.bl true) H'):nJ C c vs H Q E
theorem nK (T:Txt K w mg t):aS P w K mg base fk (0+11) t.oX t.oY ["_law_desk","_law_voices"] (nJ t.ic (cs t)):=by
 have pA:=tI P base T;have EC:=CJ P base T;have d8:=iF P base T;have cP:=mT P base T;have L5:=JN P base T;have gm:=mQ P base T;have pq:=tq P base T;have zc:=Bd P base T;refine T.dN.ok fL ?_ ?_
 x_go
 obtain⟨d,dd,x,dv,F,vw,ps,fs,rfl,hd,B,hv,nb,hlen,q⟩:=h;refine aG (af (fg PassesOwn.never rfl (cW (bT xw rfl T.mM mv (aa (pv 1) ag))) (i5 2 fL.nd) (af (ed 3 fL.nd (eC T.o9 pA hr (aa (pv 1) (aa (pv 2) ag)))) (af (aM (au (nX.or (jo (aE hr))) (cz (pv 0) T.cu T.bg.me cP (eR hr) T.bg.b .nil cC (aa (aH (aV.or (ay.or aW)) ax (pv 2)) ag)) (ef plainAttrs_str slot_str_join type_str_join wL ax (aa (aH (aV.or (ay.or aW)) (bq (aa ax ag)) (dz (cn:=["_law_sign"]) rfl (bL.of rfl) (cW (pv 3)) (fun _=>(bQ (i:=0) qL rfl (Or.inl rfl))) (fun _=>fh) (fun _=>(eC T.yI zc hr (aa (pv 0) ag))))) ag)) (aD _)) (ah (ar eM)) aA) (af (ed 4 fL.nd (eC T.vU EC hr (aa (pv 1) (aa (pv 2) ag)))) (af (aM (au (nX.or (jo (aE hr))) (cz (pv 0) T.cu T.bg.me cP (eR hr) T.bg.b .nil cC (aa (aH (aV.or (ay.or aW)) ax (pv 2)) ag)) (ef plainAttrs_str slot_str_join type_str_join wL ax (aa (aH (aV.or (ay.or aW)) (bq (aa ax ag)) (dz (cn:=["_law_worth"]) rfl (bL.of rfl) (cW (pv 4)) (fun _=>(bQ (i:=0) qM rfl (Or.inl rfl))) (fun _=>fh) (fun _=>(bT mi rfl T.FI Fc (aa (pv 0) ag))))) ag)) (aD _)) (ah (ar eM)) aA) (ah (aM (cv (PW.pt (qW (dq (a8 (eC T.Ei L5 hr (aa (cz (a6 (pv 0) rfl) T.aJ T.dY.me pq (eR hr) T.dY.b .nil pT (aa (pv 2) ag)) (aa (pv 4) ag))))) (mf (au (nX.or (jo (aE hr))) (cz (a6 (pv 0) rfl) T.aJ T.bf.me gm (eR hr) T.bf.b .nil pT (aa (pv 2) ag)) (pv 3) (aD _)))))) (ah (ar eM)) aA))))))) (ah (ar (a9 (bo.or (aU (aE hr))) (gq (a6 (pv 0) rfl) T.aJ T.cM.me d8 (eR hr) T.cM.b .nil cC) (bT xw rfl T.mM mv (aa (pv 1) ag)) (aD _))))) ?_;have wv:=B.wv vw (.inr (.inl rfl));have wl:=wv.len;obtain⟨dx,L,D0,U,hx⟩:=f6 B;obtain⟨kvs,hk,ek⟩:=hv.keys;have hstr:∀ v∈vw.map (fun q=>V.str q.1),∃ z,v=.str z:=fun v hv=>by
  obtain⟨q,_,e⟩:=mem_map.mp hv;exact⟨_,e.symm⟩
 have l5:(Str.ofString "line ").length=5:=by lk
 have l7:(Str.ofString "worths ").length=7:=by lk
 have e1:(Str.ofString " ").length=1:=by lk
 have e5:(Str.ofString "ok").length=2:=by lk
 have big:∀{n:Nat},n<=3000->n<=sizeLine:=fun h=>Nat.le_trans h (by decide);refine⟨_,rfl,rfl,dv,kvs,rfl,.inl hk,fun l0 hl0=>?_⟩;have s0:=aq.upd (o:=.lst (kvs.map fun kv=>kV kv.1)) hl0;have h0:=ae (H:=H) (a:=l0) (o:=.lst (kvs.map fun kv=>kV kv.1));rw[ek]at s0 h0 ⊢;generalize upd H l0 (.lst (vw.map fun q=>V.str q.1))=H0 at s0 h0;refine⟨l0,rfl,⟨_,aL.of h0⟩,jj (K:=K) (xs:=vw.map fun q=>V.str q.1) (fun i σ H'=>∃(u v w:Option V),σ=[some (.ref d),some (.ref dv),u,v,w]/\aq H0 H') ⟨none,none,none,rfl,aq.refl _⟩ ?_ ?_ ?_⟩
 ·rintro i σ H' _ ⟨_,_,_,rfl,s8⟩;exact aL.of (s8 _ _ h0)
 ·rintro i y σ H1 hy ⟨u,v,w',rfl,s1⟩;obtain⟨qn,hq,rfl⟩:∃ qn,vw[i]? = some qn/\y=.str qn.1:=by
   rw[getElem?_map]at hy;cases e:vw[i]? with
   |none=>rw[e]at hy;cases hy
   |some z=>rw[e]at hy;exact⟨z,rfl,(Option.some.inj hy).symm⟩
  obtain⟨n,th⟩:=qn;have mq:=mem_of_getElem? hq;have hf:=wv.find mq;have nn:nameB n=true:=nb _ mq;have n8:=(jy nn).2;have S1:=s0.trans s1;obtain⟨gd,LS⟩:=HY wv hf;obtain⟨kd,WA,_⟩:=Ib wv hf;have w3:=qF gd;have f3:=Et kd;refine⟨_,rfl,_,rfl,dv,vw,n,th,rfl,hv.same S1,wv,hf,fun l2 ys H2 s2 h2 g2=>?_⟩;have R2:=s1.trans s2;have S2:=s0.trans R2;have yl:=bF g2;refine⟨_,rfl,d,dd,_,rfl,S2 _ _ hd,dX _,_,rfl,.inr (.inl ⟨_,_,rfl,rfl,big (by show(Str.ofString "line ").length+n.length<=3000;omega),?_⟩)⟩;rw[show(Str.ofString "line ")++n=(Cm.line n).text from(JP n).symm];refine⟨d,dd,x,F,vw,ps,fs,.line n,rfl,S2 _ _ hd,(fun a ha=>by rw[mem_singleton.mp ha];exact nn),B.same S2,⟨th,hf⟩,hlen,fun F3 H3 _ _ s3 _=>?_⟩;have s3:=s3 rfl;have R3:=R2.trans s3;refine⟨rfl,by show 1<=sizeLine;decide,fun d0 hd0=>?_⟩;have t0:=aq.upd (o:=.lst [V.str "ok"]) hd0;have k0:=ae (H:=H3) (a:=d0) (o:=.lst [V.str "ok"]);generalize upd H3 d0 (.lst [V.str "ok"])=H4 at t0 k0;have Vp:=t0 _ _ (s3 _ _ h2);have WB:=(g2.same s3).same t0;have eS:Str.join " " ("ok" :: (cR vw n).map bO)=Str.join " " ("ok" :: (cR vw n).map bO):=rfl;refine⟨_,rfl,l2,rfl,⟨_,aL.of Vp⟩,fun D b hD=>?_⟩;refine dG (K:=K) (xs:=ys) (fun i zs σ H'=>∃ v,σ=[v,some (.ref d),some (.ref dv),some (.str n),some (.ref l2),w']/\H'=upd H4 D (.lst zs)/\zs=(((cR vw n).take i).map bO).map V.str) ⟨none,rfl,rfl,by simp⟩ ?_ ?_ ?_
  ·rintro i zs σ H' ⟨v,rfl,rfl,rfl⟩;exact cY (aL.of Vp) hD
  ·rintro i zs y σ H' hy ⟨v,rfl,rfl,rfl⟩ N hN;obtain⟨sg,e1,p,rfl,hp⟩:=ou WB hy;have hi:i<(cR vw n).length:=(List.getElem?_eq_some_iff.mp e1).1;refine bZ ?_;refine⟨_,rfl,p,sg,rfl,(by rw[ai (ao hp hD)];exact hp),gd sg (mem_of_getElem? e1),ae,?_,?_⟩
   ·rw[length_map,length_map,length_take];exact aF (by omega)
   ·refine hN _ _ _ ⟨_,rfl,bH,?_⟩;rw[take_succ,e1];simp
  ·rintro zs σ H' ⟨v,rfl,rfl,rfl⟩;rw[yl,take_length];have hdD:(upd H4 D (.lst (((cR vw n).map bO).map V.str))) d0=some (.lst [V.str "ok"]):=by rw[ai (ao k0 hD)];exact k0
   have sD:=aq.upd (o:=.lst (((cR vw n).map bO).map V.str)) hD;refine .inr (.inr ⟨d0,D,_,_,rfl,rfl,hdD,ae,?_,fun c hc=>?_⟩)
   ·rw[length_map,length_map];exact Nat.le_of_lt (aF (by show 1+_<=_;omega))
   generalize upd H4 D (.lst (((cR vw n).map bO).map V.str))=H5 at hc sD;have tc:=aq.upd (o:=.lst ([V.str "ok"]++((cR vw n).map bO).map V.str)) hc;refine⟨_,c,"ok" :: (cR vw n).map bO,rfl,rfl,aL.of ae,?_,?_⟩
   ·simp only [map_cons,List.sum_cons,length_cons,length_map];rw[e1,e5];omega
   have R4:=((R3.trans t0).trans sD).trans tc;have WC:=tc _ _ (sD _ _ Vp);have WE:=(WB.same sD).same tc;generalize upd H5 c (.lst ([V.str "ok"]++((cR vw n).map bO).map V.str))=H6 at R4 WC WE;have S4:=s0.trans R4;refine .inl ⟨rfl,_,rfl,?_⟩;rw[show decide (V.str (Str.join " " ("ok" :: (cR vw n).map bO))=V.str (Str.join " " ("ok" :: (cR vw n).map bO)))=true from decide_eq_true rfl];refine ck ?_;refine⟨_,rfl,_,rfl,dv,vw,n,th,rfl,hv.same S4,wv,hf,fun m2 H7 s7 k2=>?_⟩;have R7:=R4.trans s7;have S7:=s0.trans R7;have YQ:=s7 _ _ WC;have YR:=WE.same s7;refine⟨_,rfl,d,dd,_,rfl,S7 _ _ hd,dX _,_,rfl,.inr (.inl ⟨_,_,rfl,rfl,big (by show(Str.ofString "worths ").length+n.length<=3000;omega),?_⟩)⟩;rw[show(Str.ofString "worths ")++n=(Cm.jx n).text from(EB n).symm];refine⟨d,dd,x,F,vw,ps,fs,.jx n,rfl,S7 _ _ hd,(fun a ha=>by rw[mem_singleton.mp ha];exact nn),B.same S7,⟨th,hf⟩,hlen,fun F8 H8 _ _ s8 _=>?_⟩;have s8:=s8 rfl;refine⟨rfl,by show 1<=sizeLine;decide,fun d9 Vq=>?_⟩;have t9:=aq.upd (o:=.lst [V.str "ok"]) Vq;have k9:=ae (H:=H8) (a:=d9) (o:=.lst [V.str "ok"]);generalize upd H8 d9 (.lst [V.str "ok"])=H9 at t9 k9;have R9:=(R7.trans s8).trans t9;have Vr:=t9 _ _ (s8 _ _ k2);have YS:=t9 _ _ (s8 _ _ YQ);have YT:=(YR.same s8).same t9;refine⟨_,rfl,m2,rfl,⟨_,aL.of Vr⟩,fun D' b' hD'=>?_⟩;refine dG (K:=K) (xs:=(dy vw n).map V.int) (fun i zs σ H'=>∃ v,σ=[v,some (.ref d),some (.ref dv),some (.str n),some (.ref l2),some (.ref m2)]/\H'=upd H9 D' (.lst zs)/\zs=(((dy vw n).take i).map iY).map V.str) ⟨none,rfl,rfl,by simp⟩ ?_ ?_ ?_
   ·rintro i zs σ H' ⟨v,rfl,rfl,rfl⟩;exact cY (aL.of Vr) hD'
   ·rintro i zs y σ H' hy ⟨v,rfl,rfl,rfl⟩ N hN;obtain⟨sg,e1,rfl⟩:∃ sg,(dy vw n)[i]? = some sg/\y=.int sg:=by
     rw[getElem?_map]at hy;cases e:(dy vw n)[i]? with
     |none=>rw[e]at hy;cases hy
     |some z=>rw[e]at hy;exact⟨z,rfl,(Option.some.inj hy).symm⟩
    have hi:i<(dy vw n).length:=(List.getElem?_eq_some_iff.mp e1).1;have bd:=kd sg (mem_of_getElem? e1);refine bZ ?_;refine⟨_,rfl,_,rfl,BR bd.1 (by omega),ae,?_,?_⟩
    ·rw[length_map,length_map,length_take];exact aF (by omega)
    ·refine hN _ _ _ ⟨_,rfl,bH,?_⟩;rw[take_succ,e1];simp;rfl
   ·rintro zs σ H' ⟨v,rfl,rfl,rfl⟩;rw[length_map,take_length];have Vs:(upd H9 D' (.lst (((dy vw n).map iY).map V.str))) d9=some (.lst [V.str "ok"]):=by rw[ai (ao k9 hD')];exact k9
    have SM:=aq.upd (o:=.lst (((dy vw n).map iY).map V.str)) hD';refine .inr (.inr ⟨d9,D',_,_,rfl,rfl,Vs,ae,?_,fun c2 hc2=>?_⟩)
    ·rw[length_map,length_map];exact Nat.le_of_lt (aF (by show 1+_<=_;omega))
    generalize upd H9 D' (.lst (((dy vw n).map iY).map V.str))=HA at hc2 SM;have Tu:=aq.upd (o:=.lst ([V.str "ok"]++((dy vw n).map iY).map V.str)) hc2;refine⟨_,c2,"ok" :: (dy vw n).map iY,rfl,rfl,aL.of ae,?_,?_⟩
    ·simp only [map_cons,List.sum_cons,length_cons,length_map];rw[e1,e5];omega
    have RB:=(R9.trans SM).trans Tu;have mB:=Tu _ _ (SM _ _ Vr);have hB:=Tu _ _ (SM _ _ YS);have gB:=(YT.same SM).same Tu;generalize upd HA c2 (.lst ([V.str "ok"]++((dy vw n).map iY).map V.str))=HB at RB mB hB gB;have SB:=s0.trans RB;refine .inl ⟨rfl,_,rfl,?_⟩;rw[show decide (V.str (Str.join " " ("ok" :: (dy vw n).map iY))=V.str (Str.join " " ("ok" :: (dy vw n).map iY)))=true from decide_eq_true rfl];refine ck ?_;refine⟨fun bb H'=>bb=false/\aq HB H',?_,?_⟩
    ·refine⟨_,rfl,d,_,dd,_,_,rfl,SB _ _ hd,T.cu,T.bE,eo _,?_⟩;refine⟨x,dx,_,rfl,SB _ _ hx,uI _ _ _,_,rfl,x,F,vw,ps,fs,n,rfl,B.same SB,?_⟩;rw[hf];intro lC HC _ sC hC;refine⟨_,rfl,lC,m2,dy vw n,dy vw n,rfl,hC,aL.of (sC _ _ mB),by omega,?_⟩;rw[decide_eq_true (rfl:dy vw n=dy vw n)];refine⟨_,rfl,ck ?_⟩;have SC:=SB.trans sC;refine⟨_,rfl,d,_,dd,_,_,rfl,SC _ _ hd,T.cu,T.bE,eo _,?_⟩;refine⟨x,dx,_,rfl,SC _ _ hx,iI _ _ _,_,rfl,x,F,vw,ps,fs,n,rfl,B.same SC,?_⟩;rw[hf];intro lE ZO HE _ sE hE gE;refine⟨_,rfl,.inr ⟨lE,l2,rfl,rfl,MZ (aL.of hE) (aL.of (sE _ _ (sC _ _ hB))) gE ((gB.same sC).same sE),?_⟩⟩;exact⟨_,rfl,rfl,sC.trans sE⟩
    rintro _ HC ⟨rfl,sC⟩;exact ck ⟨_,_,_,rfl,RB.trans sC⟩
 ·rintro σ H1 ⟨u,v,w',rfl,s1⟩;have S1:=s0.trans s1;refine⟨_,rfl,d,_,dd,_,_,rfl,S1 _ _ hd,T.cu,T.bE,eo _,?_⟩;refine⟨x,dx,_,rfl,S1 _ _ hx,ja _ _ _,x,F,vw,ps,fs,rfl,B.same S1,fun l2 H2 _ s2 h2=>?_⟩;refine⟨_,rfl,rfl,dv,kvs,rfl,.inl (s2 _ _ (S1 _ _ hk)),fun l3 hl3=>?_⟩;have s3:=aq.upd (o:=.lst (kvs.map fun kv=>kV kv.1)) hl3;have h3:=ae (H:=H2) (a:=l3) (o:=.lst (kvs.map fun kv=>kV kv.1));rw[ek]at s3 h3 ⊢;refine .inr ⟨l2,l3,rfl,rfl,NF (aL.of (s3 _ _ h2)) (aL.of h3) hstr,?_⟩;exact q _ ((S1.trans s2).trans s3)
structure Bw (c:Cs)(H0 H:Hp)(x:Addr)(own:List Addr)(vw:Vw)(ps fs:List Vw):Prop where
 ex:∃ F,pZ c H x F vw ps fs/\(∀ y,F y->∃ xs,H y=some (.lst xs))/\(∀ y,F y->H0 y=none)/\∀ a∈own,¬ F a/\∃ o,H a=some o
 sm:aq H0 H
section
variable {c:Cs} {H0 H H' H1:Hp} {x:Addr} {own:List Addr} {vw Pu:Vw} {ps ps' fs fs':List Vw} {F F':Addr->Prop}
theorem Bw.mk' (b:pZ c H' x F' Pu ps' fs')(sm:aq H0 H)(hF:∀ y,F y->∃ xs,H y=some (.lst xs))(h0:∀ y,F y->H0 y=none)(ho:∀ a∈own,¬ F a/\∃ o,H a=some o)(g:Gr F F' H)(fr:Fr F H H'):Bw c H0 H' x own Pu ps' fs'/\oE own H H':=by
 obtain⟨F0,h1,h2,b0⟩:=b.R5;refine⟨⟨⟨F0,b0,h2,fun y z=>?_,fun a ha=>?_⟩,fun y o e=>fr y o (sm y o e) fun z=>?_⟩,fun y o e k=>fr y o e fun z=>?_⟩
 ·rcases g y (h1 y z) with q|q
  ·exact h0 y q
  ·exact sm.free q
 ·obtain⟨n,o,e⟩:=ho a ha;refine⟨fun z=>?_,o,fr a o e n⟩;rcases g a (h1 a z) with q|q
  ·exact n q
  ·rw[e]at q;cases q
 ·rw[h0 y z]at e;cases e
 ·rcases k with k|k
  ·obtain⟨xs,q⟩:=hF y z;rw[e]at q;cases q;exact k _ rfl
  ·exact(ho y k).1 z
theorem Bw.same (h:Bw c H0 H x own vw ps fs)(s:aq H H'):Bw c H0 H' x own vw ps fs:=by
 obtain⟨F,b,hF,h0,ho⟩:=h.ex;exact⟨⟨F,b.same s,fun y z=>let ⟨xs,e⟩:=hF y z;⟨xs,s _ _ e⟩,h0,fun a ha=>⟨(ho a ha).1,let ⟨o,e⟩:=(ho a ha).2;⟨o,s _ _ e⟩⟩⟩,h.sm.trans s⟩
theorem Bw.add (h:Bw c H0 H x own vw ps fs)(s:aq H H'){l:Addr}(n:H l=none){o:HO}(e:H' l=some o):Bw c H0 H' x (l::own) vw ps fs:=by
 obtain⟨F,b,hF,h0,ho⟩:=h.ex;refine⟨⟨F,b.same s,fun y z=>let ⟨xs,e⟩:=hF y z;⟨xs,s _ _ e⟩,h0,fun a ha=>?_⟩,h.sm.trans s⟩;rcases List.mem_cons.mp ha with rfl|ha
 ·refine⟨fun z=>?_,o,e⟩;obtain⟨xs,q⟩:=hF _ z;rw[n]at q;cases q
 ·exact⟨(ho a ha).1,let ⟨o,e⟩:=(ho a ha).2;⟨o,s _ _ e⟩⟩
theorem Bw.wv (h:Bw c H0 H x own vw ps fs):pL vw:=by
 obtain⟨F,b,_⟩:=h.ex;exact b.wv vw (.inr (.inl rfl))
theorem Bw.new {dx L D U:Addr}(hx:H' x=some (.ins c.B dx (tS L D U)))(hL:H' L=some (.lst []))(hD:H' D=some (.lst []))(hU:H' U=some (.lst []))(LD:L≠D)(LU:L≠U)(DU:D≠U)(s:aq H H')(nL:H L=none)(nD:H D=none)(nU:H U=none):Bw c H H' x [] [] [] []:=by
 refine⟨⟨_,Bk.new hx hL hD hU LD LU DU,fun y hy=>?_,fun y hy=>?_,fun a ha=>nomatch ha⟩,s⟩
 ·rcases hy with rfl|rfl|rfl
  ·exact⟨_,hL⟩
  ·exact⟨_,hD⟩
  ·exact⟨_,hU⟩
 ·rcases hy with rfl|rfl|rfl
  ·exact nL
  ·exact nD
  ·exact nU
theorem Bw.wrote (h:Bw c H0 H x own vw ps fs){l:Addr}{zs:List V}{o:HO}(m:l∈own)(e:H l=some (.lst zs))(n:H0 l=none):Bw c H0 (upd H l o) x own vw ps fs:=by
 obtain⟨F,b,hF,h0,ho⟩:=h.ex;have nl:=(ho l m).1;refine⟨⟨F,b.kept (.own e nl),fun y z=>?_,h0,fun a ha=>⟨(ho a ha).1,?_⟩⟩,cZ h.sm n⟩
 ·obtain⟨xs,q⟩:=hF y z;exact⟨xs,by rw[ai (show y≠l from fun w=>nl (w ▸ z))];exact q⟩
 ·by_cases w:a=l
  ·rw[w];exact⟨o,ae⟩
  ·obtain⟨o',q⟩:=(ho a ha).2;exact⟨o',by rw[ai w];exact q⟩
end
noncomputable def mix (H0 H H':Hp):Hp:=fun y=>match H y with
 |none=>H' y
 |some (.lst _)=>H0 y
 |some o=>some o
section
variable {H0 H H' A3:Hp}
theorem mU (s:aq H0 H):aq H0 (mix H0 H H'):=fun y o e=>by
 unfold mix;rw[s _ _ e];cases o with
 |lst xs=>exact e
 |_=>rfl
theorem kK {y:Addr}{o:HO}(n:H y=none)(e:H' y=some o):mix H0 H H' y=some o:=by
 unfold mix;rw[n];exact e
theorem wY (s:aq H H'){y:Addr}{o:HO}(e:H' y=some o)(k:∀ xs,o≠.lst xs):mix H0 H H' y=some o:=by
 unfold mix;cases h:H y with
 |none=>exact e
 |some u =>
  have:o=u:=Option.some.inj (e.symm.trans (s _ _ h));subst this;cases o with
  |lst xs=>exact absurd rfl (k xs)
  |_=>rfl
theorem CK (s0:aq H0 H)(s:aq H H'):aq (mix H0 H H') H':=fun y o e=>by
 unfold mix at e;cases h:H y with
 |none=>rw[h]at e;exact e
 |some u =>
  rw[h]at e;cases u with
  |lst xs=>exact s _ _ (s0 _ _ e)
  |_=>exact(s _ _ h).trans e
theorem Bw.mix {c:Cs}{x:Addr}{vw:Vw}{ps fs:List Vw}(h:Bw c H0 H x [] vw ps fs)(s:aq H H'):Bw c (bD.mix H0 H H') H' x [] vw ps fs:=by
 obtain⟨F,b,hF,h0,ho⟩:=h.ex;refine⟨⟨F,b.same s,fun y z=>let ⟨xs,e⟩:=hF y z;⟨xs,s _ _ e⟩,fun y hy=>?_,fun a ha=>nomatch ha⟩,CK h.sm s⟩;obtain⟨xs,e⟩:=hF y hy;unfold bD.mix;rw[e];exact h0 y hy
theorem gn.mixed (s:aq H H'){xs:List V}{ss:List Sg}(h:gn H' xs ss):gn (mix H0 H H') xs ss:=bR (fun _ _ ⟨z,e1,e2⟩=>⟨z,e1,wY s e2 (fun _ q=>nomatch q)⟩) h
end
theorem Bw.Qc {c:Cs}{H0 H H':Hp}{x:Addr}{own:List Addr}{vw:Vw}{ps fs:List Vw}(h:Bw c H0 H x own vw ps fs)(s:aq H H'):Bw c (bD.mix H0 H H') H' x own vw ps fs:=by
 obtain⟨F,b,hF,h0,ho⟩:=h.ex;refine⟨⟨F,b.same s,fun y z=>let ⟨xs,e⟩:=hF y z;⟨xs,s _ _ e⟩,fun y hy=>?_,fun a ha=>⟨(ho a ha).1,let ⟨o,e⟩:=(ho a ha).2;⟨o,s _ _ e⟩⟩⟩,CK h.sm s⟩;obtain⟨xs,e⟩:=hF y hy;unfold bD.mix;rw[e];exact h0 y hy
theorem oE.ins {own:List Addr}{H H':Hp}(k:oE own H H'){d C dd:Addr}{fs:List (Str×V)}(h:H d=some (.ins C dd fs)):H' d=some (.ins C dd fs):=k _ _ h (.inl fun _ z=>nomatch z)
noncomputable def jY (sl:Int)(fl:Bool):Str×Th:=("bo",.cn "dora" 3 sl fl)
theorem L6 {H:Hp}{n:Str}{v:V}{th:Th}{kvs:List (Key×V)}{vw:Vw}(h:Paired (zp H) kvs vw)(hs:(mw kvs (Sum.inr n)).isSome=true)(hv:Om H v th):Paired (zp H) (putK kvs (Sum.inr n) v) (fF vw n th):=by
 unfold putK;rw[oq,if_pos hs];clear hs;unfold fF
 induction h with
 |nil=>exact .nil
 | @cons kv q as qs r t ih =>
  refine .cons ?_ ih;show zp H (if kv.1=Sum.inr n then(kv.1,v) else kv) (if q.1=n then(n,th) else q)
  by_cases e:q.1=n
  ·rw[if_pos (r.1.trans (congrArg Sum.inr e)),if_pos e];exact⟨r.1.trans (congrArg Sum.inr e),hv⟩
  ·rw[if_neg (fun z=>e (Sum.inr.inj (r.1.symm.trans z))),if_neg e];exact r
inductive tM (C:Addr)(c:Cs)(vs:List V)(H:Hp)(Q:VK)(E:XK):Prop
 |mk (d dd x dv:Addr) (H0:Hp) (own:List Addr) (vw:Vw) (ps:List Vw) (fl:Bool) (ss:List Sg) (cH:vs=[.ref d,.ref dv,.bl fl]) (cI:H d=some (.ins C dd (Mj x))) (dh:Bw c H0 H x own (vw++[jY 2 fl]) ps []) (fJ:lG H0 dv (vw++[jY 2 fl])) (jh:(∀ q∈vw,nameB q.1=true/\q.1 ≠ "bo"/\∃ ss,q.2=.pl ss)) (zL:aZ vw "dora"=some (.pl ss)) (Jz:vw.length<12) (Nq:ps.length<=800) (Nr:∀ H' fs,Bw c H0 H' x own (vw++[jY 2 fl]) ps fs->fs.length<=2->oE own H H'->Q (.bl true) H'):tM C c vs H Q E
theorem CL (T:Txt K w mg t):aS P w K mg base fk (0+12) t.vH t.vI ["_law_desk","_law_voices","_law_flipped"] (tM t.ic (cs t)):=by
 have ED:=CH P base T;have ir:=kD P base T;have kG:=jf P base T;have gk:=mP P base T;have dS:=nK P base T;refine T.vV.ok rQ ?_ ?_
 x_go
 obtain⟨d,dd,x,dv,H0,own,vw,ps,fl,ss,rfl,hd,B,hv,nm,hdo,vl,hps,q⟩:=h;refine aG (af (aO (cz (a6 (pv 0) rfl) T.aJ T.iN.me ED (eR hr) T.iN.b .nil pT (aa ax ag))) (af (aO (cz (a6 (pv 0) rfl) T.aJ T.dP.me ir (eR hr) T.l8 .nil pT (aa ax (aa ax (aa ak (aa ak (aa (pv 2) ag))))))) (af (ed 3 rQ.nd (bT qz rfl T.wX wN (aa (pv 1) ag))) (af (Bx (n9 hr) (pv 3) ax (dr (aa ax (aa ak (aa ak (aa (pv 2) ag))))) rfl) (af (aM (dq (a8 (eC T.dN dS hr (aa (pv 0) (aa (pv 3) ag))))) (ah (ar eM)) aA) (af (aO (gq (a6 (pv 0) rfl) T.aJ T.cO.me gk (eR hr) T.cO.b .nil pT)) (af (aO (gq (a6 (pv 0) rfl) T.aJ T.cO.me gk (eR hr) T.cO.b .nil pT)) (ah (ar (eC T.dN dS hr (aa (pv 0) (aa (pv 1) ag)))))))))))) ?_;have Oz:∀ q∈vw,q.1 ≠ "bo":=fun q hq=>(nm q hq).2.1;have WG:aZ (vw++[jY 2 fl]) "bo"=some (.cn "dora" 3 2 fl):=by
  unfold aZ;rw[List.find?_append,List.find?_eq_none.mpr fun q hq=>by simpa using Oz q hq];rfl
 have YU:leans (vw++[jY 2 fl]) "bo"=false:=by
  unfold leans;rw[List.any_append,List.any_eq_false.mpr fun q hq=>by
   obtain⟨ss,e⟩:=(nm q hq).2.2;unfold uJ;rw[e];exact Bool.false_ne_true]
  cases fl <;> decide +kernel
 have YV:oF (vw++[jY 2 fl]) "bo"=vw:=by
  unfold oF;rw[List.filter_append,List.filter_eq_self.mpr fun q hq=>by simpa using Oz q hq];show vw++_=vw;rw[show List.filter (fun q=>!decide (q.1=("bo":Str))) [jY 2 fl]=[] from rfl,append_nil]
 have WH:nameB "bo"=true:=by lk
 have no:fY vw "bo"=none:=by
  unfold fY;rw[WH,if_neg (by decide)];have e:aZ vw "bo"=none:=by
   unfold aZ;rw[List.find?_eq_none.mpr fun q hq=>by simpa using Oz q hq];rfl
  rw[e,if_neg (by decide),if_neg (by omega)]
 obtain⟨F,b1,f1,z1,o1⟩:=B.ex;obtain⟨dx,L,D,U,hx⟩:=f6 b1;refine⟨_,rfl,d,_,dd,_,_,rfl,hd,T.cu,T.bE,eo _,?_⟩;refine⟨x,dx,_,rfl,hx,Dy _ _ _,x,F,_,ps,[],"bo",rfl,b1,by omega,?_⟩;rw[WG];refine⟨(fun z=>by rw[YU]at z;cases z),fun _ F2 H2 SN SO b2=>?_⟩;rw[YV]at b2;obtain⟨B2,k2⟩:=Bw.mk' b2 B.sm f1 z1 o1 SN SO;have hd2:=k2.ins hd;clear b1 f1 z1 o1 SN SO b2 hx;obtain⟨F,b1,f1,z1,o1⟩:=B2.ex;obtain⟨dx,L,D,U,hx⟩:=f6 b1;refine⟨_,rfl,d,_,dd,_,_,rfl,hd2,T.cu,T.bE,eo _,?_⟩;refine⟨x,dx,_,rfl,hx,lx _ _ _,_,rfl,?_⟩;refine⟨x,F,_,_,[],"bo","dora",3,4,fl,rfl,b1,by lk,by rw[length_append];show ps.length+1<=900;omega,?_⟩;rw[no,hdo];refine⟨fun z=>absurd ⟨by decide,by decide,by decide,by decide⟩ z,fun _ F3 H3 WI Q7 b3=>?_⟩;obtain⟨B3,k3⟩:=Bw.mk' b3 B2.sm f1 z1 o1 WI Q7;have we:=k3.ins hd2;have B3:Bw (cs t) H0 H3 x own (vw++[jY 4 fl]) (ps++[vw++[jY 2 fl]]++[vw]) []:=B3;clear b1 f1 z1 o1 WI Q7 b3 hx;obtain⟨kvs,hk,pk⟩:=id hv;have kl:=bF pk;rw[length_append]at kl;have kl:kvs.length=vw.length+1:=kl;refine⟨_,rfl,dv,kvs,rfl,.inl (B3.sm _ _ hk),fun l0 hl0=>?_⟩;have S4:=aq.upd (o:=.dK kvs) hl0;have k4:=ae (H:=H3) (a:=l0) (o:=.dK kvs);have fz:∀{X:Hp} {o:HO},aq H3 X->aq H3 (upd X l0 o):=fun s=>cZ s hl0;generalize upd H3 l0 (.dK kvs)=H4 at S4 k4;tm_up;refine⟨by show 4<=sizeLine;decide,fun c1 hc1=>?_⟩;have S5:=aq.upd (o:=.tup [V.str "dora",V.int 3,V.int 4,V.bl fl]) hc1;have k5:=ae (H:=H4) (a:=c1) (o:=.tup [V.str "dora",V.int 3,V.int 4,V.bl fl]);have n1:c1≠l0:=Ne.symm (ao k4 hc1);generalize upd H4 c1 (.tup [V.str "dora",V.int 3,V.int 4,V.bl fl])=H5 at S5 k5;refine⟨_,rfl,l0,_,rfl,Ff.k (k:=Sum.inr "bo") (S5 _ _ k4) (aF (by omega)),?_⟩;have S6:aq H3 (upd H5 l0 (.dK (putK kvs (Sum.inr "bo") (.ref c1)))):=fz (S4.trans S5);have k6:=ae (H:=H5) (a:=l0) (o:=.dK (putK kvs (Sum.inr "bo") (.ref c1)));have c6:(upd H5 l0 (.dK (putK kvs (Sum.inr "bo") (.ref c1)))) c1=some (.tup [V.str "dora",V.int 3,V.int 4,V.bl fl]):=by rw[ai n1];exact k5
 generalize upd H5 l0 (.dK (putK kvs (Sum.inr "bo") (.ref c1)))=H6 at S6 k6 c6;obtain⟨v2,e2,_⟩:=BP pk WG;have Vt:fF (vw++[jY 2 fl]) "bo" (.cn "dora" 3 4 fl)=vw++[jY 4 fl]:=by
  unfold fF;rw[map_append]
  congr 1
  exact(List.map_congr_left (g:=fun q=>q) fun q hq=>if_neg (Oz q hq)).trans (List.map_id' vw)
 have YW:lG H6 l0 (vw++[jY 4 fl]):=by
  refine⟨_,k6,?_⟩;rw[<-Vt];exact L6 (bR (fun _ _ z=>z.same (B3.sm.trans S6)) pk) (by rw[e2];rfl) ⟨c1,rfl,c6⟩
 have WJ:∀{sl:Int},∀ q∈vw++[jY sl fl],nameB q.1=true:=fun {sl} q hq=>by
  rcases mem_append.mp hq with hq|hq
  ·exact(nm q hq).1
  ·rw[mem_singleton.mp hq];exact WH
 have B6:=B3.same S6;have WK:=S6 _ _ we;obtain⟨F,b1,_⟩:=B6.ex;refine⟨_,rfl,_,rfl,d,dd,x,l0,F,_,_,[],rfl,WK,b1,YW,WJ,?_,fun H7 s7=>⟨_,rfl,ck ?_⟩⟩
 ·simp only [length_append,length_cons,List.length_nil];omega
 clear b1;have B7:=B6.same s7;have WL:=s7 _ _ WK;obtain⟨F,b1,f1,z1,o1⟩:=B7.ex;obtain⟨dx,L,D,U,hx⟩:=f6 b1;refine⟨_,rfl,d,_,dd,_,_,rfl,WL,T.cu,T.bE,eo _,?_⟩;refine⟨x,dx,_,rfl,hx,j6 _ _ _,x,F,_,_,[],rfl,b1,?_,(fun z=>by simp at z),fun IZ v0 e0 H8 WM b8=>?_⟩
 ·simp only [length_append,length_cons,List.length_nil];omega
 obtain⟨SQ,SR⟩:=rl e0;subst SQ SR;obtain⟨B8,k8⟩:=Bw.mk' b8 B7.sm f1 z1 o1 (Gr.refl _ _) WM;have WN:=k8.ins WL;clear b1 f1 z1 o1 b8 WM hx e0;obtain⟨F,b1,f1,z1,o1⟩:=B8.ex;obtain⟨dx,L,D,U,hx⟩:=f6 b1;refine⟨_,rfl,d,_,dd,_,_,rfl,WN,T.cu,T.bE,eo _,?_⟩;refine⟨x,dx,_,rfl,hx,j6 _ _ _,x,F,_,_,_,rfl,b1,?_,(fun z=>by simp at z),fun IZ v0 e0 H9 YX b9=>?_⟩
 ·simp only [length_append,length_cons,List.length_nil];omega
 obtain⟨SQ,SR⟩:=rl e0;subst SQ SR;obtain⟨B9,k9⟩:=Bw.mk' b9 B8.sm f1 z1 o1 (Gr.refl _ _) YX;have Vq:=k9.ins WN;have B9:Bw (cs t) H0 H9 x own (vw++[jY 2 fl]) ps [vw++[jY 4 fl],vw]:=B9;obtain⟨F9,b10,_⟩:=B9.ex;refine⟨_,rfl,_,rfl,d,dd,x,dv,F9,_,ps,_,rfl,Vq,b10,hv.same B9.sm,WJ,by show ps.length+2<=900;omega,fun HA sA=>?_⟩;exact q HA _ (B9.same sA) (Nat.le_refl _) (((((k2.trans k3).trans (.same S6)).trans (.same s7)).trans k8).trans (k9.trans (.same sA)))
noncomputable def nM (ns:List Int)(k:Nat):Int:=ns.getD k 0
inductive tN (K:Frag)(vs:List V)(H:Hp)(Q:VK)(E:XK):Prop
 |mk (a:Addr) (ns:List Int) (k:Nat) (cH:vs=[.ref a,.int (k:Int)]) (cI:aL K H a (ns.map V.int)) (dh:ns.length<=63) (fJ:Q (.int (nM ns k)) H):tN K vs H Q E
theorem tO (T:Txt K w mg t):aS P w K mg base fk (0+1) t.vJ t.vK ["_law_script","_law_k"] (tN K):=by
 refine T.eU.ok Cc (fun vs H Q E h=>?_) (fun cdv A outer s H vs Q E hr h=>?_)
 ·obtain⟨a,ns,k,rfl,_⟩:=h;rfl
 ·obtain⟨a,ns,k,rfl,hS,hl,q⟩:=h;refine aG (af (aM (au nY (pv 1) (aI (Iq rfl) rfl T.PR O8 (aa ak (aa (aI (aB.or aC) rfl T.bu br (aa (pv 0) ag)) ag))) (aD _)) (ah (ar (bp a7 (pv 0) (pv 1) (fun _ _=>rfl)))) aA) (ah (ar ak))) ?_;refine⟨_,rfl,_,rfl,.inl ⟨_,_,rfl,.inl hS,_,_,rfl,_,_,rfl,rfl,_,rfl,?_⟩⟩;rw[length_map];refine aP (fun h=>?_) (fun h=>?_)
  ·have hk:k<ns.length:=by
    have:=of_decide_eq_true h;split at this <;> omega
   have e:(ns.map V.int)[k]? = some (V.int (nM ns k)):=by
    rw[getElem?_map,getElem?_eq_getElem hk];unfold nM;rw[List.getD_eq_getElem?_getD,getElem?_eq_getElem hk];rfl
   exact⟨_,rfl,_,rfl,.inl ⟨_,_,_,_,rfl,rfl,hS,pE e,q⟩⟩
  ·have hk:ns.length<=k:=by
    have h':¬((k:Int)<if(ns.length:Int)<63 then(ns.length:Int) else 63):=fun z=>h (decide_eq_true z);split at h' <;> omega
   have e:nM ns k=0:=by
    unfold nM;rw[List.getD_eq_getElem?_getD,List.getElem?_eq_none hk];rfl
   rw[e]at q;exact q
inductive zd (vs:List V)(H:Hp)(Q:VK)(E:XK):Prop
 |mk (seed k:Int) (cH:vs=[.int seed,.int k]) (cI:∀ r:Int,0<=r->r<65521->Q (.int r) H):zd vs H Q E
theorem ze (T:Txt K w mg t):aS P w K mg base fk (0+1) t.AF t.AG ["_law_seed","_law_k"] zd:=by
 refine T.ij.ok qJ ?_ ?_
 x_go
 obtain⟨seed,k,rfl,q⟩:=h;refine aG (af (ed 2 qJ.nd (aH dE (aH (aV.or (ay.or aW)) (aH (aV.or (ay.or aW)) (aH (nW.or n6) (aH dE (pv 0) ak) ak) (aH (nW.or n6) (pv 1) ak)) ak) ak)) (af (ed 3 qJ.nd (aH dE (aH (aV.or (ay.or aW)) (aH (aV.or (ay.or aW)) (aH (nW.or n6) (pv 2) (pv 2)) (aH (nW.or n6) (pv 1) ak)) (aH dE (aH qX (pv 0) ak) ak)) ak)) (ah (ar (aH dE (aH (aV.or (ay.or aW)) (aH qX (aH (nW.or n6) (pv 3) (pv 3)) ak) (pv 3)) ak))))) ?_;have p2:(2:Int) ^ 64=18446744073709551616:=by decide
 refine⟨_,rfl,_,_,rfl,rfl,(by decide:(0:Int)<1000003),.inl ⟨_,_,rfl,rfl,.inr ⟨by decide,by decide⟩,_,rfl,.inl ⟨_,_,rfl,rfl,.inr ⟨by decide,by decide⟩,.inl ⟨_,_,rfl,rfl,.inl ⟨_,_,rfl,rfl,_,_,rfl,rfl,(by decide:(0:Int)<1000033),?_⟩⟩⟩⟩⟩;generalize hone:(seed % 1000003 * 48271+k * 30011+17) % 1000033=one;have b1:0<=one/\one<1000033:=by omega
 refine⟨_,rfl,_,rfl,.inl ⟨_,_,rfl,rfl,.inl ⟨by rw[p2];omega,by rw[p2];omega⟩,_,rfl,.inl ⟨_,_,rfl,rfl,.inr ⟨by decide,by decide⟩,.inl ⟨_,_,rfl,rfl,_,rfl,_,_,rfl,rfl,⟨by decide,by decide⟩,_,_,rfl,rfl,(by decide:(0:Int)<997),.inl ⟨_,_,rfl,rfl,_,_,rfl,rfl,(by decide:(0:Int)<999983),?_⟩⟩⟩⟩⟩;generalize YY:(one * one+k * 613+seed / 1000003 % 997) % 999983=two;have b2:0<=two/\two<999983:=by omega
 refine⟨_,rfl,_,rfl,.inl ⟨_,_,rfl,rfl,.inl ⟨by rw[p2];omega,by rw[p2];omega⟩,_,_,rfl,rfl,⟨by decide,by decide⟩,_,rfl,.inl ⟨_,_,rfl,rfl,_,_,rfl,rfl,(by decide:(0:Int)<65521),?_⟩⟩⟩;exact q _ (by omega) (by omega)
inductive tP (K:Frag)(vs:List V)(H:Hp)(Q:VK)(E:XK):Prop
 |mk (a:Addr) (ns:List Int) (k m:Nat) (cH:vs=[.ref a,.int (k:Int),.int (m:Int)]) (cI:aL K H a (ns.map V.int)) (dh:ns.length<=63) (fJ:m<=48) (jh:∀(l:Addr)(ms:List Int)(H':Hp),aq H H'->H' l=some (.lst (ms.map V.int))->ms.length<=60->(∀ x∈ms,0<=x)->Q (.ref l) H'):tP K vs H Q E
theorem CM (T:Txt K w mg t):aS P w K mg base fk (0+2) t.vL t.vM ["_law_script","_law_at","_law_many"] (tP K):=by
 have eX:=tO P base T;have iw:=ze P base T;refine T.vW.ok gI ?_ ?_
 x_go
 obtain⟨a,ns,k,m,rfl,hS,hl,hm,q⟩:=h;refine aG (af (qv (i:=3) gI.nd rfl (Or.inr rfl) (eC T.eU eX hr (aa (pv 0) (aa (pv 1) ag)))) (af (aM (au nY (pv 3) (aH J4 ak ak) (aD _)) (ah (ar (dz (cn:=["_law_k"]) rfl (bL.of rfl) (jg rfl T.gM (aa (pv 2) ag)) (fun _=>(bQ (i:=0) wu rfl (Or.inl rfl))) (fun _=>fh) (fun _=>(eC T.ij iw hr (aa (aH (aV.or (ay.or aW)) (pv 4) (aH (nW.or n6) ak (eC T.eU eX hr (aa (pv 1) (aa (aH (aV.or (ay.or aW)) (aH (aV.or (ay.or aW)) (pv 2) ak) (pv 0)) ag))))) (aa (pv 0) ag))))))) aA) (af (ed 4 gI.nd (aH dZ (pv 3) (aH J4 ak ak))) (af (ed 5 gI.nd (bq ag)) (af (xg PassesOwn.never (cv (PW.pt (cE (au C1 (pv 4) ak (aD _)) (dg (au nY (aI (aB.or aC) rfl T.bu br (aa (pv 5) ag)) ak (aD _)))))) (af (aO (ef plainAttrs_list slot_list_append type_list_append bB (pv 5) (aa (aH dE (pv 4) ak) ag))) (ah (ed 4 gI.nd (aH qX (pv 4) ak))))) (ah (ar (pv 5)))))))) ?_;refine⟨_,rfl,_,rfl,a,ns,k,rfl,hS,hl,?_⟩;refine⟨_,rfl,_,_,rfl,rfl,⟨by decide,by decide,by decide⟩,_,_,rfl,rfl,_,rfl,?_⟩;refine aP (fun _=>?_) (fun _=>?_)
 ·refine⟨_,rfl,(m:Int),rfl,(by omega),(by omega),fun D b hD=>?_⟩;refine qw (lo:=0) (n:=((m:Int)).toNat) (fun i ys σ H'=>∃(v:Option V)(ms:List Int),σ=[v,some (.ref a),some (.int (k:Int)),some (.int (m:Int)),some (.int (nM ns k)),none,none]/\H'=upd H D (.lst ys)/\ys=ms.map V.int/\ms.length=i/\∀ x∈ms,0<=x) ⟨none,[],rfl,rfl,rfl,rfl,fun _ h=>nomatch h⟩ ?_ ?_
  ·rintro i ys σ H' hi ⟨v,ms,rfl,rfl,rfl,hlen,hpos⟩ N hN;refine bZ ?_;refine⟨_,rfl,_,rfl,_,rfl,.inl ⟨_,_,rfl,rfl,_,rfl,.inl ⟨_,_,rfl,rfl,a,ns,k+1+i,?_,cY hS hD,hl,.inl ⟨_,_,rfl,rfl,.inl ⟨by decide,by decide⟩,?_⟩⟩⟩⟩
   ·show [V.ref a,V.int ((k:Int)+1+(0+(i:Int)))]=[V.ref a,V.int ((k+1+i:Nat):Int)];have e:(k:Int)+1+(0+(i:Int))=((k+1+i:Nat):Int):=by omega
    rw[e]
   ·refine .inl ⟨_,_,rfl,rfl,_,rfl,_,_,rfl,fun r h0 h1=>⟨ae,?_,?_⟩⟩
    ·rw[length_map];exact aF (by omega)
    ·refine hN _ _ _ ⟨some _,ms++[r],rfl,bH,by simp,by simp[hlen],fun x hx=>?_⟩;rcases mem_append.mp hx with z|z
     ·exact hpos x z
     ·have:x=r:=by simpa using z
      omega
  ·rintro ys σ H' ⟨v,ms,rfl,rfl,rfl,hlen,hpos⟩;exact q D ms _ (aq.upd hD) ae (by omega) hpos
 ·refine⟨_,rfl,_,_,rfl,rfl,⟨by decide,by decide,by decide⟩,_,_,rfl,rfl,(by decide),fun l hl0=>?_⟩;refine⟨fun mm σ H'=>∃(left:Int)(ms:List Int),σ=[some (.ref a),some (.int (k:Int)),some (.int (m:Int)),some (.int (nM ns k)),some (.int left),some (.ref l)]/\H'=upd H l (.lst (ms.map V.int))/\mm=60-ms.length/\ms.length<=60/\∀ x∈ms,0<=x,
   ⟨60,_,[],rfl,rfl,rfl,Nat.zero_le _,fun _ h=>nomatch h⟩,?_⟩
  rintro mm σ H' ⟨left,ms,rfl,rfl,rfl,hlen,hpos⟩;refine jW (decide (0<left)&&decide ((ms.length:Int)<60)) ?_ ?_
  ·refine⟨_,rfl,_,_,rfl,rfl,_,rfl,?_⟩;refine aP (fun h=>?_) (fun h=>?_)
   ·refine⟨_,rfl,.inl ⟨l,_,rfl,.inl (aL.of ae),_,_,rfl,rfl,_,rfl,?_⟩⟩;rw[length_map];exact⟨by rw[h,Bool.true_and],rfl⟩
   ·exact⟨by rw[Bool.eq_false_iff.mpr h];rfl,rfl⟩
  refine aP (fun YZ=>?_) (fun _=>?_)
  ·have Y0:ms.length<60:=by
    have:=of_decide_eq_true (Bool.and_eq_true_iff.mp YZ).2;omega
   refine⟨fun σ' H'=>∃ m',m'<60-ms.length/\∃(left:Int)(ms:List Int),σ'=[some (.ref a),some (.int (k:Int)),some (.int (m:Int)),some (.int (nM ns k)),some (.int left),some (.ref l)]/\H'=upd H l (.lst (ms.map V.int))/\m'=60-ms.length/\ms.length<=60/\∀ x∈ms,0<=x,fun _ _ h=>h,?_⟩;refine⟨_,rfl,.inl ⟨rfl,_,aL.of ae⟩,_,rfl,_,_,rfl,rfl,(by decide:(0:Int)<2400),l,_,_,rfl,rfl,ae,(by rw[length_map];exact aF (by omega)),_,rfl,_,_,rfl,rfl,⟨by decide,by decide⟩,60-(ms.length+1),by omega,_,ms++[left % 2400],rfl,?_,by simp,by simp;omega,fun x hx=>?_⟩
   ·rw[bH,map_append];rfl
   ·rcases mem_append.mp hx with z|z
    ·exact hpos x z
    ·have:x=left % 2400:=by simpa using z
     omega
  ·exact⟨_,rfl,q l ms _ (aq.upd hl0) ae (by omega) hpos⟩
theorem L7 (n:Str)(i:Nat)(s:Sg):(Cm.put n i s).text = "put " ++ n ++ " " ++ iY i ++ " " ++ bO s:=by
 show Str.join " " ["put",n,iY i,bO s]=_;rw[join_cons,join_cons,join_cons,show("put":Str) ++ " " = "put " from by lk];show "put " ++ (n ++ " " ++ (iY i ++ " " ++ bO s))=_;simp only [PySem.Str.append_assoc]
inductive wc (C:Addr)(c:Cs)(vs:List V)(H:Hp)(Q:VK)(E:XK):Prop
 |mk (d dd x p:Addr) (H0:Hp) (own:List Addr) (vw:Vw) (ps fs:List Vw) (n:Str) (i:Nat) (s:Sg) (b:Bool) (ss:List Sg) (cH:vs=[.ref d,.str n,.int i,.ref p,.bl b]) (cI:H d=some (.ins C dd (Mj x))) (dh:H p=some (.tup [.str s.1.str,.int s.2])) (fJ:gb s) (jh:nameB n=true) (zL:Bw c H0 H x own vw ps fs) (Jz:aZ vw n=some (.pl ss)) (Nq:i<=ss.length) (Nr:ss.length<200) (Tj:ps.length+fs.length<=900) (Sd:∀ H',Bw c H0 H' x own (fF vw n (.pl (putL ss i s))) (ps++[vw]) []->oE own H H'->Q (.str (Ja (putL ss i s) i (i+1) [s])) H'):wc C c vs H Q E
theorem EF (T:Txt K w mg t):aS P w K mg base fk (0+11) t.yk t.ym ["_law_desk","_law_name","_law_at","_law_sign","_law_by_hand"] (wc t.ic (cs t)):=by
 have cP:=mT P base T;have qR:=v8 P base T;have zc:=Bd P base T;refine T.yJ.ok vc ?_ ?_
 x_go
 obtain⟨d,dd,x,p,H0,own,vw,ps,fs,n,i,sg,b,ss,rfl,hd,hp,gd,nb,B,hf,hi,Nu,hlen,q⟩:=h;refine aG (af (aM (a8 (pv 4)) (af (ed 5 vc.nd (cz (a6 (pv 0) rfl) T.aJ T.d7.me qR (eR hr) T.d7.b .nil pT (aa (pv 1) (aa (pv 2) (aa (pv 3) ag))))) (ah (ar (q9 (bN gy (bN (jn (eD (pv 5))) (bN gy (bN (jn (eD (pv 5))) q8)))))))) aA) (ah (ar (cz (pv 0) T.cu T.bg.me cP (eR hr) T.bg.b .nil cC (aa (q9 (bN gy (bN (jn (pv 1)) (bN gy (bN (jn (pv 2)) (bN gy (bN (jn (eC T.yI zc hr (aa (pv 3) ag))) q8))))))) ag))))) ?_;obtain⟨F,b1,f1,z1,o1⟩:=B.ex;have big:∀{n:Nat},n<=3000->n<=sizeLine:=fun h=>Nat.le_trans h (by decide);have e1:(Str.ofString " ").length=1:=by lk
 have e0:Str.empty.length=0:=by lk
 refine⟨_,rfl,_,rfl,?_⟩;cases b with
 |true =>
  refine gx ?_;obtain⟨dx,L,D,U,hx⟩:=f6 b1;refine⟨_,rfl,d,_,dd,_,_,rfl,hd,T.cu,T.bE,eo _,?_⟩;refine⟨x,dx,_,rfl,hx,xK _ _ _,_,rfl,_,rfl,_,rfl,?_⟩;refine⟨x,F,vw,ps,fs,n,(i:Int),p,(sg.1.str,sg.2),rfl,b1,hp,by omega,?_⟩;rw[hf];have gg:=rB gd;refine⟨(fun z=>absurd ⟨by omega,by omega⟩ z),(fun _ z=>by rw[gg]at z;cases z),(fun _ _ z=>by omega),fun _ _ _ s9 w F9 H9 e1' e2 hw gr fr b9=>?_⟩;have es:s9=sg:=Prod.ext (str_inj.mp e1') e2;subst es;rw[Int.toNat_natCast]at hw b9;obtain⟨B9,k9⟩:=Bw.mk' b9 B.sm f1 z1 o1 gr fr;have q1:=q H9 B9 k9;have pl:(putL ss i s9).length=ss.length+1:=by unfold putL;simp;omega
  obtain⟨b1,b2⟩:=F6 (putL ss i s9) i (i+1) [s9] (by omega) (by omega);have hw:H9 w=some (.tup [.int (cD (aR (putL ss i s9)) i 0:Nat),.int (fG (aR (putL ss i s9)) (i+1) ([s9].any fun s=>s.1.meas):Nat)]):=hw;unfold Ja at q1;generalize cD (aR (putL ss i s9)) i 0=lo at b1 q1 hw;generalize fG (aR (putL ss i s9)) (i+1) ([s9].any fun s=>s.1.meas)=hi2 at b2 q1 hw;have f4:(Str.ofString (toString (lo:Int))).length<=3:=DD (by omega) (by omega);have f5:(Str.ofString (toString (hi2:Int))).length<=3:=DD (by omega) (by omega);have e6:(Str.ofString "ok ").length=3:=by lk
  refine⟨?_,_,rfl,xV (i:=0) hw rfl (.inr ⟨_,rfl,BR (by omega) (by omega),?_,?_,_,rfl,xV (i:=1) hw rfl (.inr ⟨_,rfl,BR (by omega) (by omega),?_,?_,?_⟩)⟩)⟩
  all_goals try (refine big ?_;(try simp only [PySem.Str.length_append]);omega)
  rw[PySem.Str.empty_append];exact q1
 |false =>
  refine ck ?_;have n8:=(jy nb).2;have f4:(Str.ofString (toString (i:Int))).length<=3:=DD (by omega) (by omega);have w3:=lH gd;have e4:(Str.ofString "put ").length=4:=by lk
  refine⟨_,rfl,d,dd,_,rfl,hd,dX _,?_⟩;refine⟨?_,_,rfl,.inl ⟨_,rfl,?_,?_,?_,_,rfl,.inr ⟨_,rfl,BR (by omega) (by omega),?_,?_,_,rfl,p,sg,rfl,hp,gd,.inl ⟨_,rfl,?_,?_,?_⟩⟩⟩⟩
  all_goals try (refine big ?_;(try simp only [PySem.Str.length_append]);omega)
  rw[PySem.Str.empty_append];rw[show Str.ofString "put " ++ n++Str.ofString " " ++ Str.ofString (toString (i:Int))++Str.ofString " " ++ bO sg=(Cm.put n i sg).text from(L7 n i sg).symm];have WO:(Cm.put n i sg).ok:=by
   intro a ha;have ha:a∈[Ar.nm n,Ar.nb i,Ar.sg sg]:=ha;rcases List.mem_cons.mp ha with rfl|ha
   ·exact nb
   rcases List.mem_cons.mp ha with rfl|ha
   ·exact⟨by omega,by omega⟩
   ·rw[mem_singleton.mp ha];exact gd
  refine⟨Nat.le_trans (Cm.text_len WO) (by decide),?_⟩;refine⟨d,dd,x,F,vw,ps,fs,.put n i sg,rfl,hd,WO,b1,⟨ss,hf,hi,Nu⟩,hlen,fun F' H' gr fr _ b9=>?_⟩;obtain⟨B9,k9⟩:=Bw.mk' b9 B.sm f1 z1 o1 gr fr;have el:=gF hf;have B9:Bw (cs t) H0 H' x own (fF vw n (.pl (putL (cR vw n) i sg))) (ps++[vw]) []:=B9;show Q (.str (Ja (putL (cR vw n) i sg) i (i+1) [sg])) H';rw[el]at B9 ⊢;exact q H' B9 k9
inductive tQ (c:Cs)(vs:List V)(H:Hp)(Q:VK)(E:XK):Prop
 |mk (x:Addr) (F:Addr->Prop) (vw:Vw) (ps fs:List Vw) (n:Str) (i:Int) (p:Addr) (sn:Sn) (cH:vs=[.ref x,.str n,.int i,.ref p]) (cI:pZ c H x F vw ps fs) (dh:H p=some (.tup [.str sn.1,.int sn.2])) (fJ:ps.length<=900) (jh:match aZ vw n with
 |none=>RX E c .gD H
 |some (.cn _ _ _ _)=>RX E c .ly H
 |some (.pl ss)=>(¬(0<=i/\i<=(ss.length:Int)-1)->RX E c .rA H)/\((0<=i/\i<=(ss.length:Int)-1)->iX sn=false->RX E c .rq H) /\
  ((0<=i/\i<=(ss.length:Int)-1)->iX sn=true->∀(s s0:Sg)(w:Addr) F' H',s.1.str=sn.1->s.2=sn.2->ss[i.toNat]? = some s0->H' w=some (.tup (Lg (ss.take i.toNat++[s]++ss.drop (i.toNat+1)) i.toNat (i.toNat+1) [s0,s]))->Gr F F' H->Fr F H H'->pZ c H' x F' (fF vw n (.pl (ss.take i.toNat++[s]++ss.drop (i.toNat+1)))) (ps++[vw]) []->Q (.ref w) H')):tQ c vs H Q E
theorem SU {α:Type}{xs:List α}{i:Nat}{y:α}(h:xs[i]? = some y):xs.drop i=y::xs.drop (i+1):=by
 obtain⟨h1,h2⟩:=List.getElem?_eq_some_iff.mp h;rw[List.drop_eq_getElem_cons h1,h2]
theorem CN (T:Txt K w mg t):aS P w K mg base (dU P w) (0+4) t.vN t.vO ["self","name","at","sign"] (tQ (cs t)):=by
 have eE:=gR P base T;have gS:=jS P base T;have cT:=fP P base T;have yT:=A2 P base T;have cU:=fi P base T;have cG:=fb P base T;refine T.gi.wO eY ?_ ?_
 x_go
 obtain⟨x,F,vw,ps,fs,n,iz,p,sn,rfl,B,hp,hps,q⟩:=h;refine aG (af (ed 4 eY.nd (a6 (bK (X:=(nQ T.gi.1 eY (dU P w) P w mg base cdv A outer s H E)) (pv 0) T.aJ T.bj.me cU (eR hr) T.bj.b .nil (fun _ _ z=>Or.inl z) (aa (pv 1) ag)) rfl)) (af (aO (oj (X:=(nQ T.gi.1 eY (dU P w) P w mg base cdv A outer s H E)) eE (eR hr) rfl T.ba.g T.ba.kp T.ba.b .nil (fun _ _ z=>Or.inl z) (aa (pv 2) (aa (aH dZ (aI (aB.or aC) rfl T.bu br (aa (pv 4) ag)) ak) ag)))) (af (aO (oj (X:=(nQ T.gi.1 eY (dU P w) P w mg base cdv A outer s H E)) gS (eR hr) rfl T.bI.g T.bI.kp T.bI.b .nil (fun _ _ z=>Or.inl z) (aa (pv 3) ag))) (af (ed 5 eY.nd (bp a7 (pv 4) (pv 2) (fun _ _=>rfl))) (af (aO (cz (pv 0) T.aJ T.bS.me cT (eR hr) T.bS.b .nil cC (aa (pC T.bM.Oq cG (eR hr) rfl T.wW T.bM.b .nil cC (aa (pv 4) (aa (pv 2) (aa (bq (aa (pv 5) ag)) (aa (bq (aa (pv 3) ag)) ag))))) ag))) (ah (ar (eC T.yE yT hr (aa (pv 4) (aa (pv 2) (aa (aH (aV.or (ay.or aW)) (pv 2) ak) (aa (bq (aa (pv 5) (aa (pv 3) ag))) ag)))))))))))) ?_;obtain⟨L,D,U,all,M,Ps,Fs,es,us,b,iM,pp,pf,f⟩:=B.ex;obtain⟨dx,hx⟩:=b.hx;obtain⟨vx,g,gv⟩:=b.oy iM;obtain⟨ds,hD,pD⟩:=b.hD;obtain⟨ux,hU,pU⟩:=b.hU;have dl:=bF pD;have pl:=bF pp;have pe:=b.past.len;refine⟨_,rfl,x,dx,_,rfl,hx,fW _ _ _,_,rfl,x,dx,L,D,U,M L,vx,n,rfl,hx,b.hL,g,?_⟩;rcases xP gv (fun _ _ r=>r.2.1) n with ⟨f1,f2⟩|⟨a,th,j,f1,f2,r,an,fj,fw⟩
 ·rw[f1];rw[f2]at q;exact q
 rw[f1];rw[f2]at q;subst an;cases th with
 |cn ld lt sl tn =>
  obtain⟨pt,Ov,_⟩:=r.2.2;refine⟨fun z=>?_,fun _ _=>q,.inr ⟨pt,Ov⟩⟩;rw[Ov]at z;cases z
 |pl ss =>
  obtain⟨Hl,hg⟩:=r.2.2;obtain⟨q1,q2,q4⟩:=q;have haa:=r.1;obtain⟨ha,hl⟩:=b.ha a haa;have yl:=bF hg;have hj:(M L)[j]? = some (.ref a.o):=by
   obtain⟨v,hv,e1,_⟩:=j2 g fj;rw[<-e1];exact hv
  refine⟨fun _=>?_,(fun pz z=>by rw[Hl]at z;cases z),.inl Hl⟩;refine⟨a.o,_,a.d,_,_,rfl,ha,T.dQ,T.eW,pK _ _ _,?_⟩;refine⟨_,rfl,_,rfl,.inl ⟨a.l,M a.l,rfl,.inl (aL.of hl),?_⟩⟩;refine⟨_,_,rfl,rfl,?_⟩;refine⟨iz,((M a.l).length:Int)-1,rfl,fun hi=>?_,fun hi=>?_⟩
  rotate_left
  ·have q:=q1 (by rw[<-yl];exact hi);exact q
  rw[yl]at hi;refine⟨_,rfl,p,sn,rfl,hp,fun hgd=>?_,fun hgd=>?_⟩
  rotate_left
  ·have q:=q2 hi hgd;exact q
  obtain⟨sg,e1,e2,gt⟩:=BO hgd;rw[<-e1,<-e2]at hp;obtain⟨i,rfl⟩:∃ i:Nat,iz=(i:Int):=⟨iz.toNat,by omega⟩;have hi:i<ss.length:=by omega
  have hlt:ss.length<=200:=((B.wv vw (.inr (.inl rfl))).gd _ _ (mem_of_getElem? fw)).1;have q4:=q4 (by omega) hgd sg;rw[Int.toNat_natCast]at q4;obtain⟨WQ,hsg⟩:∃ sg,ss[i]? = some sg:=⟨_,getElem?_eq_getElem hi⟩;obtain⟨vp,Tp,p0,rfl,hp0⟩:=j2 hg hsg;refine⟨_,rfl,_,rfl,EO (aL.of hl) (n:=i) rfl Tp ?_⟩;refine⟨_,rfl,x,dx,_,rfl,hx,gC _ _ _,?_⟩;refine⟨_,rfl,_,rfl,_,rfl,big (by show 1<=1000;omega),fun B' hB=>?_⟩;refine⟨_,rfl,big (by show 1<=1000;omega),fun A_ hA=>?_⟩;have JT:=wV hA;have sB:=(aq.upd (o:=.lst [V.ref p0]) hB).trans (aq.upd (o:=.lst [V.ref p]) hA);have hB2:=aq.upd (o:=.lst [V.ref p]) hA _ _ (ae (H:=H) (a:=B') (o:=.lst [V.ref p0]));have FX:=ae (H:=upd H B' (.lst [V.ref p0])) (a:=A_) (o:=.lst [V.ref p]);have lA:a.l≠A_:=ao hl JT;generalize upd (upd H B' (.lst [V.ref p0])) A_ (.lst [V.ref p])=H2 at sB hB2 FX;intro d dd nd Mm ne;refine⟨d,dd,a.l,(i:Int),B',A_,rfl,ae,rfl,?_⟩;rw[bH];have s3:aq H2 (upd (upd H2 dd (.own d)) d (.ins t.cg dd (xF a.l (i:Int) B' A_))):=fun y o hy=>by
   rw[ai (ao hy nd),ai (ao hy Mm)];exact hy
  have we:=ae (H:=upd H2 dd (.own d)) (a:=d) (o:=.ins t.cg dd (xF a.l (i:Int) B' A_));generalize upd (upd H2 dd (.own d)) d (.ins t.cg dd (xF a.l (i:Int) B' A_))=H3 at s3 we;have s4:=sB.trans s3;obtain⟨_,d1,d2⟩:=b.lists (.inr ⟨a,haa,rfl⟩);refine⟨x,dx,L,D,U,d,dd,a.l,B',A_,i,ds,ux,M a.l,[.ref p0],[.ref p],rfl,s4 _ _ hx,s4 _ _ hD,s4 _ _ hU,we,s4 _ _ hl,s3 _ _ hB2,s3 _ _ FX,lA,d1,d2,b.DU,by simp;omega,by simp;omega,by omega,?_⟩;have hM:ox ⟨d,dd,a.l,i,B',A_,[.ref p0],[.ref p]⟩ M a.l=(M a.l).take i++[.ref p]++(M a.l).drop (i+1):=eP;have keep:∀ y o,H3 y=some o->y≠a.l->y≠D->y≠U->(upd (upd (upd H3 a.l (.lst ((M a.l).take i++[.ref p]++(M a.l).drop (i+1)))) D (.lst (ds++[.ref d]))) U (.lst [])) y=some o:=fun y o hy y1 y2 y3=>by
   rw[ai y3,ai y2,ai y1];exact hy
  have k1:(upd (upd (upd H3 a.l (.lst ((M a.l).take i++[.ref p]++(M a.l).drop (i+1)))) D (.lst (ds++[.ref d]))) U (.lst [])) a.l=some (.lst ((M a.l).take i++[.ref p]++(M a.l).drop (i+1))):=by
   rw[ai d2,ai d1,ae]
  have k2:(upd (upd (upd H3 a.l (.lst ((M a.l).take i++[.ref p]++(M a.l).drop (i+1)))) D (.lst (ds++[.ref d]))) U (.lst [])) D=some (.lst (ds++[.ref d])):=by
   rw[ai b.DU,ae]
  have k3:(upd (upd (upd H3 a.l (.lst ((M a.l).take i++[.ref p]++(M a.l).drop (i+1)))) D (.lst (ds++[.ref d]))) U (.lst [])) U=some (.lst []):=ae;generalize (upd (upd (upd H3 a.l (.lst ((M a.l).take i++[.ref p]++(M a.l).drop (i+1)))) D (.lst (ds++[.ref d]))) U (.lst []))=H4 at keep k1 k2 k3;have g3:=hg.same s4;have Sf:gn H3 ((M a.l).take i++[.ref p]++(M a.l).drop (i+1)) (ss.take i++[sg]++ss.drop (i+1)):=rg (rg (rj i g3) (.cons ⟨p,rfl,s4 _ _ hp⟩ .nil)) (rh (i+1) g3);obtain⟨F',gr,fr,B4⟩:=Bk.Ol b iM pp f B.wv haa hj fw Hl (e:=⟨d,dd,a.l,i,B',A_,[.ref p0],[.ref p]⟩) rfl ⟨by show i+1<=(M a.l).length;omega,by rw[show([V.ref p0]:List V).length=1 from rfl,SU Tp];rfl⟩ (by simp) (by simp) s4 hB JT ⟨rfl,we,s3 _ _ hB2,s3 _ _ FX⟩ (by rw[hM];exact Sf) (by simp;omega) (fun s hs=>by
   have wg:=((B.wv vw (.inr (.inl rfl))).gd _ _ (mem_of_getElem? fw)).2;rcases mem_append.mp hs with hs|hs
   ·rcases mem_append.mp hs with hs|hs
    ·exact wg s (List.mem_of_mem_take hs)
    ·rw[mem_singleton.mp hs];exact gt
   ·exact wg s (List.mem_of_mem_drop hs)) hD pD keep (by rw[hM];exact k1) k2 k3
  have nT:∀{y us},H3 y=some (.tup us)->H4 y=some (.tup us):=fun {y us} hy=>keep y _ hy (fm hy (s4 _ _ hl) (by intro z;cases z)) (fm hy (s4 _ _ hD) (by intro z;cases z)) (fm hy (s4 _ _ hU) (by intro z;cases z));have Va:gn H4 ((M a.l).take i++[.ref p]++(M a.l).drop (i+1)) (ss.take i++[sg]++ss.drop (i+1)):=bR (fun _ _ ⟨z,e1,e2⟩=>⟨z,e1,nT e2⟩) Sf;refine⟨_,rfl,_,rfl,_,rfl,.inl ⟨_,_,rfl,rfl,_,rfl,_,rfl,big (by show 2<=1000;omega),fun lc Vb=>?_⟩⟩;have sc:=aq.upd (o:=.lst [V.ref p0,V.ref p]) Vb;refine⟨a.l,lc,_,[.ref p0,.ref p],ss.take i++[sg]++ss.drop (i+1),[WQ,sg],i,i+1,rfl,aL.of (sc _ _ k1),Va.same sc,by simp;omega,by simp;omega,by simp;omega,aL.of ae,.cons ⟨p0,rfl,sc _ _ (nT (s4 _ _ hp0))⟩ (.cons ⟨p,rfl,sc _ _ (nT (s4 _ _ hp))⟩ .nil),by simp,fun w H5 s5 Vc=>?_⟩;have s6:=sc.trans s5;exact q4 WQ w F' H5 e1 e2 hsg Vc gr (fun y o hy hn=>s6 _ _ (fr y o hy hn)) (B4.same s6)
inductive tR (C:Addr)(c:Cs)(vs:List V)(H:Hp)(Q:VK)(E:XK):Prop
 |mk (d dd x dv:Addr) (H0:Hp) (own:List Addr) (vw:Vw) (ps fs:List Vw) (n:Str) (i:Nat) (ss:List Sg) (s0:Sg) (cH:vs=[.ref d,.ref dv,.str n,.int i]) (cI:H d=some (.ins C dd (Mj x))) (dh:Bw c H0 H x own vw ps fs) (fJ:lG H0 dv vw) (jh:aZ vw n=some (.pl ss)) (zL:ss[i]? = some s0) (Jz:s0.1.cK=true) (Nq:ps.length+fs.length<=900) (Nr:∀(dv':Addr)(Tv H':Hp)(s':Sg),Bw c Tv H' x own (fF vw n (.pl (ss.take i++[s']++ss.drop (i+1)))) (ps++[vw]) []->oE own H H'->aq H0 Tv->(∀ a∈own,∀ zs,H a=some (.lst zs)->H0 a=none->Tv a=none)->lG Tv dv' (fF vw n (.pl (ss.take i++[s']++ss.drop (i+1))))->Q (.ref dv') H'):tR C c vs H Q E
theorem CO (T:Txt K w mg t):aS P w K mg base fk (0+5) t.vP t.vQ ["_law_desk","_law_voices","_law_name","_law_at"] (tR t.ic (cs t)):=by
 have EG:=CN P base T;refine T.vX.ok gJ ?_ ?_
 x_go
 obtain⟨d,dd,x,dv,H0,own,vw,ps,fs,n,i,ss,s0,rfl,hd,B,hv,hf,hs0,snd,hlen,q⟩:=h;refine aG (af (dD (bp a7 (jZ (n9 hr) (pv 1) (pv 2) (fun _ _=>rfl)) (pv 3) (fun _ _=>rfl)) (ff rfl (aK (i5 4 gJ.nd) (aK (i5 5 gJ.nd) cV)))) (af (ed 6 gJ.nd (dr (aa (pv 4) (aa (aH dE (aH (aV.or (ay.or aW)) (pv 5) ak) ak) ag)))) (af (aO (cz (a6 (pv 0) rfl) T.aJ T.gi.me EG (eR hr) T.gi.b .nil pT (aa (pv 2) (aa (pv 3) (aa (pv 6) ag))))) (af (ed 1 gJ.nd (bT qz rfl T.wX wN (aa (pv 1) ag))) (af (Bx (n9 hr) (pv 1) (pv 2) (aH (aV.or (ay.or aW)) (aH (aV.or (ay.or aW)) (di (eG.or (gs.or gA)) (jZ (n9 hr) (pv 1) (pv 2) (fun _ _=>rfl)) eF (cX (pv 3))) (bq (aa (pv 6) ag))) (di (eG.or (gs.or gA)) (jZ (n9 hr) (pv 1) (pv 2) (fun _ _=>rfl)) (cX (aH (aV.or (ay.or aW)) (pv 3) ak)) eF)) rfl) (ah (ar (pv 1)))))))) ?_;have wv:=B.wv;have gd:=wv.gd _ _ (cb hf);have g0:=gd.2 s0 (mem_of_getElem? hs0);have hi:i<ss.length:=(List.getElem?_eq_some_iff.mp hs0).1;obtain⟨v,hg,l,zs,rfl,hl,g⟩:=hv.get hf;obtain⟨y0,Y1,p,rfl,hp⟩:=j2 g hs0;refine⟨_,rfl,_,rfl,dv,_,rfl,hg.same B.sm,?_⟩;refine⟨_,rfl,EO (aL.of (B.sm _ _ hl)) (n:=i) rfl Y1 ?_⟩;refine⟨p,_,rfl,fc.of (B.sm _ _ hp),rfl,_,_,rfl,_,_,rfl,rfl,?_⟩;obtain⟨h0,h1⟩:=g0.1 snd;have gN:gb (s0.1,(s0.2+1) % 100):=⟨fun _=>⟨by show 0<=(s0.2+1) % 100;omega,by show(s0.2+1) % 100<100;omega⟩,fun z=>by have z:s0.1.cK=false:=z;rw[snd]at z;cases z⟩;refine⟨_,rfl,_,rfl,.inl ⟨_,_,rfl,rfl,_,_,rfl,rfl,(by decide:(0:Int)<100),by show 2<=sizeLine;decide,fun p2 hp2=>?_⟩⟩;generalize Y2:(s0.1,(s0.2+1) % 100)=sN at gN;have S1:=aq.upd (o:=.tup [V.str s0.1.str,V.int ((s0.2+1) % 100)]) hp2;have k1:=ae (H:=H) (a:=p2) (o:=.tup [V.str s0.1.str,V.int ((s0.2+1) % 100)]);generalize upd H p2 (.tup [V.str s0.1.str,V.int ((s0.2+1) % 100)])=H1 at S1 k1;have k1:H1 p2=some (.tup [.str sN.1.str,.int sN.2]):=by rw[<-Y2];exact k1
 have B1:=B.same S1;have hd1:=S1 _ _ hd;obtain⟨F,b1,f1,z1,o1⟩:=B1.ex;obtain⟨dx,L,D,U,hx⟩:=f6 b1;refine⟨_,rfl,d,_,dd,_,_,rfl,hd1,T.cu,T.bE,eo _,?_⟩;refine⟨x,dx,_,rfl,hx,Dz _ _ _,_,rfl,_,rfl,_,rfl,?_⟩;refine⟨x,F,vw,ps,fs,n,(i:Int),p2,(sN.1.str,sN.2),rfl,b1,k1,by omega,?_⟩;rw[hf];have gg:=rB gN;refine⟨(fun z=>absurd ⟨by omega,by omega⟩ z),(fun _ z=>by rw[gg]at z;cases z),fun _ _ s9 s8 w F2 H2 e1 e2 _ _ SN SO b2=>?_⟩;have es:s9=sN:=Prod.ext (str_inj.mp e1) e2;subst es;rw[Int.toNat_natCast]at b2;obtain⟨B2,k2⟩:=Bw.mk' b2 B1.sm f1 z1 o1 SN SO;clear b1 f1 z1 o1 SN SO b2 hx;have hp2':H2 p2=some (.tup [.str s9.1.str,.int s9.2]):=k2.tup k1;obtain⟨kvs,hk,pk⟩:=id hv;have kl:=bF pk;have wl:=wv.len;refine⟨_,rfl,dv,kvs,rfl,.inl (B2.sm _ _ hk),fun l0 hl0=>?_⟩;have S4:=aq.upd (o:=.dK kvs) hl0;have k4:=ae (H:=H2) (a:=l0) (o:=.dK kvs);have fz:∀{X:Hp} {o:HO},aq H2 X->aq H2 (upd X l0 o):=fun s=>cZ s hl0;generalize upd H2 l0 (.dK kvs)=H4 at S4 k4;have Y3:lG H4 l0 vw:=⟨kvs,k4,bR (fun _ _ z=>z.same (B2.sm.trans S4)) pk⟩;obtain⟨v',hg',l',wZ,rfl,hl',g'⟩:=Y3.get hf;have yl:=bF g';have Nu:=gd.1;refine⟨_,rfl,_,rfl,l0,_,rfl,hg',?_⟩;refine⟨_,rfl,i,rfl,.inl ⟨l',wZ,rfl,aL.of hl',fun c1 hc1=>?_⟩⟩;rw[zX];have T1:=aq.upd (o:=.lst (wZ.take i)) hc1;have m1:=ae (H:=H4) (a:=c1) (o:=.lst (wZ.take i));generalize upd H4 c1 (.lst (wZ.take i))=H5 at T1 m1;refine⟨_,rfl,big (by show 1<=1000;omega),fun c2 hc2=>?_⟩;have T2:=aq.upd (o:=.lst [V.ref p2]) hc2;have m2:=ae (H:=H5) (a:=c2) (o:=.lst [V.ref p2]);generalize upd H5 c2 (.lst [V.ref p2])=H6 at T2 m2;refine .inr (.inr ⟨c1,c2,_,_,rfl,rfl,T2 _ _ m1,m2,?_,fun c3 hc3=>?_⟩)
 ·exact big (by rw[length_take];show _+1<=1000;omega)
 have T3:=aq.upd (o:=.lst (wZ.take i++[V.ref p2])) hc3;have m3:=ae (H:=H6) (a:=c3) (o:=.lst (wZ.take i++[V.ref p2]));generalize upd H6 c3 (.lst (wZ.take i++[V.ref p2]))=H7 at T3 m3;have NG:=(T1.trans T2).trans T3;refine⟨_,rfl,_,rfl,l0,_,rfl,hg'.same NG,?_⟩;refine⟨_,rfl,.inl ⟨_,_,rfl,rfl,_,rfl,.inl ⟨l',wZ,rfl,aL.of (NG _ _ hl'),fun c4 hc4=>?_⟩⟩⟩;rw[show n0 wZ (some ((i:Int)+1)) none=wZ.drop (i+1) from wR wZ (i+1) (by omega)];have T4:=aq.upd (o:=.lst (wZ.drop (i+1))) hc4;have m4:=ae (H:=H7) (a:=c4) (o:=.lst (wZ.drop (i+1)));generalize upd H7 c4 (.lst (wZ.drop (i+1)))=H8 at T4 m4;refine .inr (.inr ⟨c3,c4,_,_,rfl,rfl,T4 _ _ m3,m4,?_,fun c5 hc5=>?_⟩)
 ·exact big (by simp only [length_take,length_drop,length_append,length_cons,List.length_nil];omega)
 have T5:=aq.upd (o:=.lst (wZ.take i++[V.ref p2]++wZ.drop (i+1))) hc5;have m5:=ae (H:=H8) (a:=c5) (o:=.lst (wZ.take i++[V.ref p2]++wZ.drop (i+1)));have CS:=(NG.trans T4).trans T5;have Tw:=((S4.trans NG).trans T4).free hc5;generalize upd H8 c5 (.lst (wZ.take i++[V.ref p2]++wZ.drop (i+1)))=H9 at T5 m5 CS;have n1:c5≠l0:=fm m5 (CS _ _ k4) (by intro z;cases z);refine⟨_,rfl,_,rfl,l0,_,rfl,Ff.k (k:=Sum.inr n) (CS _ _ k4) (aF (by omega)),?_⟩;have S9:aq H2 (upd H9 l0 (.dK (putK kvs (Sum.inr n) (.ref c5)))):=fz (S4.trans CS);have k9:=ae (H:=H9) (a:=l0) (o:=.dK (putK kvs (Sum.inr n) (.ref c5)));have c9:(upd H9 l0 (.dK (putK kvs (Sum.inr n) (.ref c5)))) c5=some (.lst (wZ.take i++[V.ref p2]++wZ.drop (i+1))):=by rw[ai n1];exact m5
 have t9:∀{y us},H9 y=some (.tup us)->(upd H9 l0 (.dK (putK kvs (Sum.inr n) (.ref c5)))) y=some (.tup us):=fun {y us} e=>by
  rw[ai (fm e (CS _ _ k4) (by intro z;cases z))];exact e
 have g9:gn (upd H9 l0 (.dK (putK kvs (Sum.inr n) (.ref c5)))) (wZ.take i++[V.ref p2]++wZ.drop (i+1)) (ss.take i++[s9]++ss.drop (i+1)):=by
  refine bR (fun _ _ z=>?_) (rg (rg (rj i (g'.same CS)) (.cons ⟨p2,rfl,CS _ _ (S4 _ _ hp2')⟩ .nil)) (rh (i+1) (g'.same CS)));obtain⟨a,e1,e2⟩:=z;exact⟨a,e1,t9 e2⟩
 generalize upd H9 l0 (.dK (putK kvs (Sum.inr n) (.ref c5)))=HA at S9 k9 c9 g9;obtain⟨v2,e2',_⟩:=BP pk hf;refine⟨_,rfl,?_⟩;refine q l0 (mix H0 H2 HA) HA s9 (B2.Qc S9) ((oE.same S1).trans (k2.trans (.same S9))) (mU B2.sm) (fun a ha zz e e0=>?_) ⟨_,kK hl0 k9,?_⟩
 ·have e2:H2 a=some (.lst zz):=k2 _ _ (S1 _ _ e) (.inr ha);show(match H2 a with|none=>HA a|some (.lst _)=>H0 a|some o=>some o)=none;rw[e2];exact e0
 ·refine L6 (bR (fun _ _ z=>z.same (mU B2.sm)) pk) (by rw[e2'];rfl) ⟨c5,_,rfl,kK Tw c9,?_⟩;exact gn.mixed S9 g9
noncomputable def L3:List Str:=["dora","ann","cy"]
noncomputable def eA (i:Nat):Vw:=(L3.take i).map fun n=>(n,Th.pl [])
theorem JQ:∀ i<3,fY (eA i) (L3.getD i "")=none/\nameB (L3.getD i "")=true:=by lk
theorem L8:∀ i<4,fY (eA i) "bo"=none:=by lk
theorem Gg:∀ i<4,1<=i->aZ (eA i) "dora"=some (.pl []):=by
 intro i h1 h2
 match i,h1,h2 with
 |1,_,_=>rfl
 |2,_,_=>rfl
 |3,_,_=>rfl
 |i+4,h1,_=>omega
theorem zf {i:Nat}{n:Str}(h:L3[i]? = some n):eA i++[(n,.pl [])]=eA (i+1):=by
 unfold eA;rw[take_succ,h,map_append];rfl
noncomputable def zg (i:Nat):List Vw:=(List.range i).map eA
theorem EH (i:Nat):zg i++[eA i]=zg (i+1):=by
 unfold zg;rw[List.range_succ,map_append];rfl
theorem L9 (n:Str):(Cm.add n).text = "add " ++ n:=by
 show Str.join " " ["add",n]=_;rw[join_cons,show("add":Str) ++ " " = "add " from by lk];rfl
theorem EI (fl:Bool):(Cm.follow "bo" "dora" 3 2 fl).text = "follow bo dora 3 2 " ++ Fx fl:=by cases fl <;> decide +kernel
theorem Ma:∀ n∈L3,nameB n=true/\n ≠ "bo":=by lk
theorem zh {vw:Vw}{q:Str×Th}{n:Str}{th:Th}(h:q.1≠n):fF (vw++[q]) n th=fF vw n th++[q]:=by
 unfold fF;rw[map_append,List.map_singleton,if_neg h]
theorem SV {vw:Vw}{n:Str}{ss':List Sg}{j:Nat}(hp:∀ q∈vw,∃ ss,q.2=.pl ss/\ss.length<=j)(hl:ss'.length<=j+1):∀ q∈fF vw n (.pl ss'),∃ ss,q.2=.pl ss/\ss.length<=j+1:=fun q hq=>by
 rcases rp hq with ⟨e,_⟩|⟨h1,_⟩
 ·rw[e];exact⟨ss',rfl,hl⟩
 ·obtain⟨ss,e1,e2⟩:=hp q h1;exact⟨ss,e1,Nat.le_succ_of_le e2⟩
theorem CP {H:Hp}{d y:Addr}{o o':HO}(h:upd H d o y=none):upd H d o' y=none:=by
 by_cases e:y=d
 ·rw[e,ae]at h;cases h
 ·rw[ai e]at h ⊢;exact h
noncomputable def NH (D:Addr)(H6 H:Hp)(y:V)(q:Str×Th):Prop:=∃ p e,y=.ref p/\H p=some (.tup [.str q.1,.ref e])/\e≠D/\H6 e=none/\H e=some (.lst [])/\q.2=.pl []
theorem NH.same {D:Addr}{H6 H H':Hp}(s:aq H H'){y:V}{q:Str×Th}(h:NH D H6 H y q):NH D H6 H' y q:=by
 obtain⟨p,e,e1,e2,e3,e0,e4,e5⟩:=h;exact⟨p,e,e1,s _ _ e2,e3,e0,s _ _ e4,e5⟩
theorem NH.write {D:Addr}{H6 H:Hp}{xs:List V}{o:HO}(hD:H D=some (.lst xs)){y:V}{q:Str×Th}(h:NH D H6 H y q):NH D H6 (upd H D o) y q:=by
 obtain⟨p,e,e1,e2,e3,e0,e4,e5⟩:=h;exact⟨p,e,e1,by rw[ai (fm e2 hD (by intro z;cases z))];exact e2,e3,e0,by rw[ai e3];exact e4,e5⟩
theorem NH.tv {D:Addr}{H3 H6 H:Hp}(s:aq H6 H){y:V}{q:Str×Th}(h:NH D H6 H y q):PB (mix H3 H6 H) y q:=by
 obtain⟨p,e,e1,e2,e3,e0,e4,e5⟩:=h;exact⟨p,.ref e,e1,wY s e2 (fun _ z=>nomatch z),by rw[e5];exact⟨e,[],rfl,kK e0 e4,.nil⟩⟩
set_option maxHeartbeats 8000000 in
theorem Qd (T:Txt K w mg t):aS P w K mg base fk (0+13) t.LB t.LC ["_law_script"] (xE K):=by
 have wI:=uy P base T;have cP:=mT P base T;have EJ:=CG P base T;have Gh:=Ey P base T;have EK:=CL P base T;have EL:=CM P base T;have iw:=ze P base T;have Gi:=EF P base T;have dS:=nK P base T;have EM:=CO P base T;have kG:=jf P base T;have gk:=mP P base T;have d8:=iF P base T;have eX:=tO P base T;refine T.LM.ok d6 (fun vs H Q E h=>?_) (fun cdv A outer s H vs Q E hr h=>?_)
 ·obtain⟨a,ns,rfl,_⟩:=h;rfl
 ·obtain⟨a,ns,rfl,hS,hl,q⟩:=h
  skip
  refine aG (af (ed 1 d6.nd (di (eG.or (gs.or gA)) (bq (aa ax (aa ax (aa ax ag)))) eF (cX (aH (aV.or (ay.or aW)) ak (aH dE (eC T.eU eX hr (aa (pv 0) (aa ak ag))) ak))))) (af (ed 2 d6.nd (C4 T.iV.Oq wI (eR hr) rfl T.Nm T.iV.b .nil cC)) (af (fg PassesOwn.never rfl (cW (pv 1)) (i5 3 d6.nd) (ah (aO (cz (pv 2) T.cu T.bg.me cP (eR hr) T.bg.b .nil cC (aa (aH (aV.or (ay.or aW)) ax (pv 3)) ag))))) (af (ed 4 d6.nd (a9 (bo.or (aU (aE hr))) (aH dE (aH qX (eC T.eU eX hr (aa (pv 0) (aa ak ag))) ak) ak) ak (aD _))) (af (aO (cz (pv 2) T.cu T.bg.me cP (eR hr) T.bg.b .nil cC (aa (aH (aV.or (ay.or aW)) ax (bX (dC (a8 (pv 4)) ax ax))) ag))) (af (IT 3 (ed 5 d6.nd (bT Fh rfl T.wX wN (aa (aH (aV.or (ay.or aW)) (MJ 3 ["_law_script","_law_names","_law_desk","","_law_flipped","_law_voices","_law_stands","_law_k","_law_number","_law_line","_law_at","_law_sign","_law_low","_law_high"] (dz (cn:=["_law_name"]) rfl (bL.of rfl) (cW (pv 1)) (fun _=>(bQ (i:=0) Jf rfl (Or.inl rfl))) (fun _=>fh) (fun _=>(dr (aa (pv 0) (aa (bq ag) ag)))))) (bq (aa (dr (aa ax (aa (dr (aa ax (aa ak (aa ak (aa (pv 4) ag))))) ag))) ag))) ag)))) (af (ed 6 d6.nd (bq (aa (pv 5) ag))) (af (fg PassesOwn.never rfl (GL rfl T.mL (di (eG.or (gs.or gA)) (eC T.vW EL hr (aa (pv 0) (aa ak (aa (aH dE (eC T.eU eX hr (aa (pv 0) (aa ak ag))) ak) ag)))) eF (cX ak))) (ff rfl (aK (i5 7 d6.nd) (aK (i5 8 d6.nd) cV))) (af (ed 3 d6.nd (bp a7 (pv 1) (aH dE (eC T.ij iw hr (aa (pv 8) (aa (pv 7) ag))) (aI (aB.or aC) rfl T.bu br (aa (pv 1) ag))) (fun _ _=>rfl))) (af (ed 9 d6.nd (jZ (n9 hr) (pv 5) (pv 3) (fun _ _=>rfl))) (af (ed 10 d6.nd (aH dE (eC T.ij iw hr (aa (pv 8) (aa (aH (aV.or (ay.or aW)) (pv 7) ak) ag))) (aH (aV.or (ay.or aW)) (aI (aB.or aC) rfl T.bu br (aa (pv 9) ag)) ak))) (af (ed 11 d6.nd (eC T.vT EJ hr (aa (pv 8) ag))) (af (dD (eC T.yG Gh hr (aa (pv 9) (aa (dr (aa ax (aa ax (aa ax (aa ak (aa (pv 11) ag)))))) (aa (pv 10) ag)))) (ff rfl (aK (i5 12 d6.nd) (aK (i5 13 d6.nd) cV)))) (af (aM (au (nX.or (jo (aE hr))) (eC T.yJ Gi hr (aa (pv 2) (aa (pv 3) (aa (pv 10) (aa (pv 11) (aa (a9 (bo.or (aU (aE hr))) (aH dE (eC T.ij iw hr (aa (pv 8) (aa (aH (aV.or (ay.or aW)) (pv 7) ak) ag))) ak) ak (aD _)) ag)))))) (q9 (bN gy (bN (jn (pv 12)) (bN gy (bN (jn (pv 13)) q8))))) (aD _)) (ah (ar eM)) aA) (af (ed 5 d6.nd (bT qz rfl T.wX wN (aa (pv 5) ag))) (af (Bx (n9 hr) (pv 5) (pv 3) (aH (aV.or (ay.or aW)) (aH (aV.or (ay.or aW)) (di (eG.or (gs.or gA)) (pv 9) eF (cX (pv 10))) (bq (aa (pv 11) ag))) (di (eG.or (gs.or gA)) (pv 9) (cX (pv 10)) eF)) rfl) (af (aO (ef plainAttrs_list slot_list_append type_list_append bB (pv 6) (aa (pv 5) ag))) (af (aM (dq (a8 (eC T.dN dS hr (aa (pv 2) (aa (pv 5) ag))))) (ah (ar eM)) aA) (ah (aM (cv (PW.pt (cE (au (bA.or bx) (eD (pv 11)) ax rfl) (dg (au (bo.or (aU (aE hr))) (aH dE (eC T.ij iw hr (aa (pv 8) (aa (aH (aV.or (ay.or aW)) (pv 7) ak) ag))) ak) ak (aD _)))))) (af (ed 5 d6.nd (eC T.vX EM hr (aa (pv 2) (aa (pv 5) (aa (pv 3) (aa (pv 10) ag)))))) (af (aO (ef plainAttrs_list slot_list_append type_list_append bB (pv 6) (aa (pv 5) ag))) (ah (aM (dq (a8 (eC T.dN dS hr (aa (pv 2) (aa (pv 5) ag))))) (ah (ar eM)) aA)))) aA))))))))))))) (af (aM (dq (a8 (eC T.vV EK hr (aa (pv 2) (aa (pv 5) (aa (pv 4) ag)))))) (ah (ar eM)) aA) (af (fg PassesOwn.never rfl (jg rfl T.gM (aa (aH dZ (aI (aB.or aC) rfl T.bu br (aa (pv 6) ag)) ak) ag)) (i5 7 d6.nd) (af (jq (aM (au (bo.or (aU (aE hr))) (aH dE (eC T.ij iw hr (aa (eC T.eU eX hr (aa (pv 0) (aa ak ag))) (aa (pv 7) ag))) ak) ak (aD _)) (ah (aO (gq (a6 (pv 2) rfl) T.aJ T.cO.me gk (eR hr) T.cO.b .nil pT))) (ah (aM (au (nX.or (jo (aE hr))) (cz (pv 2) T.cu T.bg.me cP (eR hr) T.bg.b .nil cC (aa ax ag)) ax (aD _)) (ah (ar eM)) aA)))) (ah (aM (cv (PW.pt (cE (au (bo.or (aU (aE hr))) (aH dE (pv 7) ak) ak (aD _)) (dg (dq (a8 (eC T.dN dS hr (aa (pv 2) (aa (bp a7 (pv 6) (aH dZ (aH dZ (aI (aB.or aC) rfl T.bu br (aa (pv 6) ag)) ak) (pv 7)) (fun _ _=>rfl)) ag))))))))) (ah (ar eM)) aA)))) (af (fg PassesOwn.never rfl (jg rfl T.gM (aa (aH (aV.or (ay.or aW)) (aI (aB.or aC) rfl T.bu br (aa (pv 1) ag)) ak) ag)) (i5 7 d6.nd) (ah (aO (cz (pv 2) T.cu T.bg.me cP (eR hr) T.bg.b .nil cC (aa ax ag))))) (ah (ar (bX (gp (a9 (bo.or (aU (aE hr))) (cz (pv 2) T.cu T.bg.me cP (eR hr) T.bg.b .nil cC (aa ax ag)) ax (aD _)) (fQ (a9 (KP (aE hr)) (gq (a6 (pv 2) rfl) T.aJ T.cM.me d8 (eR hr) T.cM.b .nil cC) (bq ag) (aD _)))))))))))))))))) ?_;have big:∀{n:Nat},n<=3000->n<=sizeLine:=fun h=>Nat.le_trans h (by decide);refine fX fun N hN=>?_;refine⟨by show 3<=sizeLine;decide,fun l1 hl1=>?_⟩;have s1:=aq.upd (o:=.lst [V.str "dora",V.str "ann",V.str "cy"]) hl1;have h1:=ae (H:=H) (a:=l1) (o:=.lst [V.str "dora",V.str "ann",V.str "cy"]);generalize upd H l1 (.lst [V.str "dora",V.str "ann",V.str "cy"])=H1 at s1 h1;tm_up;refine⟨a,ns,0,rfl,s1.seq hS,hl,?_⟩;tm_up;obtain⟨m0,hm0,Vu⟩:=M8 (nM ns 0) (k:=3) (by decide);obtain⟨m,hm,hm1,Wt⟩:∃ m:Nat,1+nM ns 0 % 3=(m:Int)/\1<=m/\m<=3:=⟨m0+1,by omega,by omega,by omega⟩;rw[hm];refine .inl ⟨l1,_,rfl,aL.of h1,fun l2 hl2=>?_⟩;rw[zX,show([V.str "dora",V.str "ann",V.str "cy"]).take m=(L3.take m).map V.str by rw[map_take];rfl];have s2:=aq.upd (o:=.lst ((L3.take m).map V.str)) hl2;have h2:=ae (H:=H1) (a:=l2) (o:=.lst ((L3.take m).map V.str));generalize upd H1 l2 (.lst ((L3.take m).map V.str))=H2 at s2 h2;have hS2:=(s1.trans s2).seq hS;refine hN _ _ ?_;clear hN N s1 h1 hl1 s2 hl2 hm0 Vu hm m0;refine fX fun N hN=>?_;intro d dd nd Mm Y4;refine⟨d,dd,rfl,ae,fun x dx L D U H4 kp nx nL nD nU LD LU DU QE WR WS Ou WT=>⟨rfl,?_⟩⟩;obtain⟨H3,e3⟩:∃ H3,H3=upd (upd H2 dd (.own d)) d (.ins t.ic dd (Mj x)):=⟨_,rfl⟩;have s3:aq H2 H3:=fun y o hy=>by
   rw[e3,ai (ao hy nd),ai (ao hy Mm)];exact hy
  have we:H3 d=some (.ins t.ic dd (Mj x)):=by rw[e3];exact ae
  have s4:aq H3 H4:=fun y o hy=>by
   by_cases e:y=d
   ·rw[e]at hy ⊢;rw[we]at hy;rw[<-hy];exact QE
   ·refine kp y o ?_ e;rw[e3,ai e]at hy;rw[ai e];exact hy
  have B4:Bw (cs t) H3 H4 x [] [] [] []:=Bw.new WR WS Ou WT LD LU DU s4 (by rw[e3];exact CP nL) (by rw[e3];exact CP nD) (by rw[e3];exact CP nU);have Vv:=s3.seq hS2;have h3:=s3 _ _ h2;clear kp nx nL nD nU LD LU DU QE WR WS Ou WT e3 s4 nd Mm Y4 s3 h2 hS2;refine hN _ _ ?_;clear hN N;refine fX fun N hN=>?_;refine⟨_,rfl,l2,rfl,⟨_,aL.of (B4.sm _ _ h3)⟩,jj (K:=K) (xs:=(L3.take m).map V.str) (fun i σ H'=>∃ u3,σ=[some (.ref a),some (.ref l2),some (.ref d),u3,none,none,none,none,none,none,none,none,none,none]/\Bw (cs t) H3 H' x [] (eA i) (zg i) []) ⟨none,rfl,B4⟩ ?_ ?_ ?_⟩
  ·rintro i σ H' _ ⟨_,rfl,B⟩;exact aL.of (B.sm _ _ h3)
  ·rintro i y σ H' hy ⟨u3,rfl,B⟩;obtain⟨n,hn,rfl,Y5⟩:∃ n,L3[i]? = some n/\y=.str n/\i<m:=by
    rw[getElem?_map]at hy;cases e:(L3.take m)[i]? with
    |none=>rw[e]at hy;cases hy
    |some z =>
     rw[e]at hy;have h1:=(List.getElem?_eq_some_iff.mp e).1;rw[length_take]at h1;rw[List.getElem?_take_of_lt (by omega)]at e;exact⟨z,e,(Option.some.inj hy).symm,by omega⟩
   obtain⟨no,nb⟩:=JQ i (by omega);have en:L3.getD i ""=n:=by rw[List.getD_eq_getElem?_getD,hn];rfl
   rw[en]at no nb;have n8:=(jy nb).2;obtain⟨F,b1,f1,z1,o1⟩:=B.ex;have hd':=B.sm _ _ we;have e4:(Str.ofString "add ").length=4:=by lk
   refine⟨_,rfl,d,dd,_,rfl,hd',dX _,_,rfl,.inr (.inl ⟨_,_,rfl,rfl,big (by show(Str.ofString "add ").length+n.length<=3000;omega),?_⟩)⟩;rw[show(Str.ofString "add ")++n=(Cm.add n).text from(L9 n).symm];have pl:(zg i).length=i:=by unfold zg;rw[length_map,List.length_range]
   refine⟨d,dd,x,F,eA i,zg i,[],.add n,rfl,hd',(fun z hz=>by rw[mem_singleton.mp hz];exact nb),b1,no,by show(zg i).length+0<=900;omega,fun F' H9 gr fr _ b9=>?_⟩;obtain⟨B9,k9⟩:=Bw.mk' b9 B.sm f1 z1 o1 gr fr;have B9:Bw (cs t) H3 H9 x [] (eA i++[(n,.pl [])]) (zg i++[eA i]) []:=B9;rw[zf hn,EH]at B9;exact⟨_,rfl,B9⟩
  rintro σ H5 ⟨u3,rfl,B5⟩;have ml:((L3.take m).map V.str).length=m:=by
   rw[length_map,length_take];show min m 3=m;omega
  rw[ml]at B5;refine hN _ _ ?_;clear hN N B4 H4;refine fX fun N hN=>?_;tm_up;refine⟨a,ns,0,rfl,B5.sm.seq Vv,hl,?_⟩;tm_up;refine hN _ _ ?_;clear hN N;generalize decide (V.int (nM ns 0 / 3 % 2)=V.int 1)=fl;refine fX fun N hN=>?_;obtain⟨F,b1,f1,z1,o1⟩:=B5.ex;have Mn:=B5.sm _ _ we;have SW:∀ i,(zg i).length=i:=fun i=>by unfold zg;rw[length_map,List.length_range]
  refine⟨_,rfl,d,dd,_,rfl,Mn,dX _,?_⟩;refine⟨fun v H'=>v=.str (Fx fl)/\H'=H5,?_,?_⟩
  ·refine⟨_,rfl,_,rfl,?_⟩;unfold Fx;cases fl
   ·exact ck ⟨rfl,rfl⟩
   ·exact gx ⟨rfl,rfl⟩
  rintro _ _ ⟨rfl,rfl⟩;have w8:(Fx fl).length<=8:=by cases fl <;> decide +kernel
  have ZP:(Str.ofString "follow bo dora 3 2 ").length=19:=by lk
  refine .inr (.inl ⟨_,_,rfl,rfl,big (by omega),?_⟩);rw[show(Str.ofString "follow bo dora 3 2 ")++Fx fl=(Cm.follow "bo" "dora" 3 2 fl).text from(EI fl).symm];refine⟨d,dd,x,F,eA m,zg m,[],.follow "bo" "dora" 3 2 fl,rfl,Mn,?_,b1,⟨L8 m (by omega),⟨[],Gg m (by omega) hm1⟩,by decide,by decide,by decide,by decide⟩,by rw[SW];show m+0<=900;omega,fun F' H6 gr fr _ b9=>?_⟩
  ·intro z hz;have hz:z∈[Ar.nm "bo",Ar.nm "dora",Ar.nb 3,Ar.nb 2,Ar.wy fl]:=hz;rcases List.mem_cons.mp hz with rfl|hz
   ·show nameB _=true;decide +kernel
   rcases List.mem_cons.mp hz with rfl|hz
   ·show nameB _=true;decide +kernel
   rcases List.mem_cons.mp hz with rfl|hz
   ·exact⟨by decide,by decide⟩
   rcases List.mem_cons.mp hz with rfl|hz
   ·exact⟨by decide,by decide⟩
   ·rw[mem_singleton.mp hz];exact trivial
  obtain⟨B6,_⟩:=Bw.mk' b9 B5.sm f1 z1 o1 gr fr;have B6:Bw (cs t) H3 H6 x [] (eA m++[jY 2 fl]) (zg m++[eA m]) []:=B6;rw[EH]at B6;clear b9 gr fr b1 f1 z1 o1 Mn B5;refine hN _ _ ?_;clear hN N;refine fX fun N hN=>?_;refine⟨rfl,_,rfl,l2,rfl,⟨_,aL.of (B6.sm _ _ h3)⟩,fun D b hD=>?_⟩;refine dG (K:=K) (xs:=(L3.take m).map V.str) (fun i ys σ H'=>∃ v,σ=[v,some (.ref a),some (.ref l2),some (.ref d),none,some (.bl fl),none,none,none,none,none,none,none,none,none]/\aq H6 H'/\H' D=some (.lst ys)/\Paired (NH D H6 H') ys (eA i)) ⟨none,rfl,aq.upd hD,ae,.nil⟩ ?_ ?_ ?_
  ·rintro i ys σ H' ⟨v,rfl,s7,_⟩;exact aL.of (s7 _ _ (B6.sm _ _ h3))
  ·rintro i ys y σ H' hy ⟨v,rfl,s7,yO,pt⟩ N2 Y6;obtain⟨n,hn,rfl,Y5⟩:∃ n,L3[i]? = some n/\y=.str n/\i<m:=by
    rw[getElem?_map]at hy;cases e:(L3.take m)[i]? with
    |none=>rw[e]at hy;cases hy
    |some z =>
     rw[e]at hy;have h1:=(List.getElem?_eq_some_iff.mp e).1;rw[length_take]at h1;rw[List.getElem?_take_of_lt (by omega)]at e;exact⟨z,e,(Option.some.inj hy).symm,by omega⟩
   have yl:=bF pt;have vl:(eA i).length<=3:=by
    unfold eA;rw[length_map,length_take];show min i 3<=3;omega
   refine bZ ?_;refine⟨_,rfl,big (by show 0<=3000;omega),fun e0 Ow=>?_⟩;have t0:=aq.upd (o:=.lst []) Ow;have k0:=ae (H:=H') (a:=e0) (o:=.lst []);generalize upd H' e0 (.lst [])=H8 at t0 k0;refine⟨by show 2<=sizeLine;decide,fun p0 hp0=>?_⟩;have t1:=aq.upd (o:=.tup [V.str n,V.ref e0]) hp0;have k1:=ae (H:=H8) (a:=p0) (o:=.tup [V.str n,V.ref e0]);generalize upd H8 p0 (.tup [V.str n,V.ref e0])=H9 at t1 k1;have Vy:=t1 _ _ (t0 _ _ yO);have ne0:e0≠D:=fun z=>by rw[z,yO]at Ow;cases Ow
   refine⟨Vy,aF (by omega),Y6 _ _ _ ⟨_,rfl,cZ ((s7.trans t0).trans t1) hD,ae,?_⟩⟩;rw[<-zf hn];exact gZ (bR (fun _ _ z=>((z.same t0).same t1).write Vy) pt) ⟨p0,e0,rfl,by rw[ai (fm k1 Vy (by intro z;cases z))];exact k1,ne0,s7.free Ow,by rw[ai ne0];exact t1 _ _ k0,rfl⟩
  rintro ys σ H7 ⟨v,rfl,s7,yO,pt⟩;rw[ml]at pt;have yl:=bF pt;have vl:(eA m).length<=3:=by
   unfold eA;rw[length_map,length_take];show min m 3<=3;omega
  tm_up;refine⟨by show 4<=sizeLine;decide,fun c1 hc1=>?_⟩;have t1:=aq.upd (o:=.tup [V.str "dora",V.int 3,V.int 2,V.bl fl]) hc1;have k1:=ae (H:=H7) (a:=c1) (o:=.tup [V.str "dora",V.int 3,V.int 2,V.bl fl]);generalize upd H7 c1 (.tup [V.str "dora",V.int 3,V.int 2,V.bl fl])=H8 at t1 k1;refine⟨by show 2<=sizeLine;decide,fun c2 hc2=>?_⟩;have t2:=aq.upd (o:=.tup [V.str "bo",V.ref c1]) hc2;have k2:=ae (H:=H8) (a:=c2) (o:=.tup [V.str "bo",V.ref c1]);generalize upd H8 c2 (.tup [V.str "bo",V.ref c1])=H9 at t2 k2;refine⟨by show 1<=sizeLine;decide,fun c3 hc3=>?_⟩;have t3:=aq.upd (o:=.lst [V.ref c2]) hc3;have k3:=ae (H:=H9) (a:=c3) (o:=.lst [V.ref c2]);generalize upd H9 c3 (.lst [V.ref c2])=HA at t3 k3;have Tx:=(t1.trans t2).trans t3;refine .inr (.inr ⟨D,c3,_,_,rfl,rfl,Tx _ _ yO,k3,big (by show _+1<=3000;omega),fun c4 hc4=>?_⟩);have t4:=aq.upd (o:=.lst (ys++[V.ref c2])) hc4;have k4:=ae (H:=HA) (a:=c4) (o:=.lst (ys++[V.ref c2]));generalize upd HA c4 (.lst (ys++[V.ref c2]))=HB at t4 k4;have Vz:=Tx.trans t4;have QF:=s7.trans Vz;have WU:Ft (mix H3 H6 HB) c4 (eA m++[jY 2 fl]):=⟨_,kK ((s7.trans Tx).free hc4) k4,gZ (bR (fun _ _ z=>(z.same Vz).tv QF) pt) ⟨c2,.ref c1,rfl,wY QF (t4 _ _ (t3 _ _ k2)) (fun _ z=>nomatch z),c1,rfl,wY QF (t4 _ _ (t3 _ _ (t2 _ _ k1))) (fun _ z=>nomatch z)⟩⟩;have JR:=CK (H0:=H3) B6.sm QF;obtain⟨zs,kvs,hz,pk,kl,dk⟩:=WU.dict B6.wv.nd;refine⟨rfl,c4,zs,kvs,rfl,aL.of (JR _ _ hz),bR (fun _ _ ⟨q,e1,e2⟩=>⟨q,e1,JR _ _ e2⟩) pk,?_,fun dv hdv=>?_⟩
  ·rw[kl,length_append];show _+1<=900;omega
  have BB:=B6.mix QF;obtain⟨_,WV⟩:=dk dv (JR.free hdv);have t5:=aq.upd (o:=.dK (fS [] kvs)) hdv;have BC:=BB.mix t5;have QG:lG (mix (mix H3 H6 HB) HB (upd HB dv (.dK (fS [] kvs)))) dv (eA m++[jY 2 fl]):=by
   refine WV.same fun y o e=>?_
   by_cases ey:y=dv
   ·subst ey;rw[ae]at e;exact kK hdv (by rw[ae];exact e)
   ·rw[ai ey]at e;exact mU JR _ _ e
  have SX:aq H3 (mix (mix H3 H6 HB) HB (upd HB dv (.dK (fS [] kvs)))):=(mU B6.sm).trans (mU JR);generalize mix (mix H3 H6 HB) HB (upd HB dv (.dK (fS [] kvs)))=Z0 at BC QG SX;generalize upd HB dv (.dK (fS [] kvs))=HC at t5 BC;have QH:=SX.seq Vv;have QI:=SX _ _ h3;have hdZ:=SX _ _ we;refine hN _ _ ?_;clear hN N t1 t2 t3 t4 Tx Vz k1 k2 k3 k4 hc1 hc2 hc3 hc4 WU hz pk kl dk hdv t5 pt yO s7 hD WV BB JR QF B6 Vv h3 we SX;refine fX fun N hN=>?_;refine⟨_,rfl,by show 1<=sizeLine;decide,fun l hl0=>?_⟩;have t6:=aq.upd (o:=.lst [V.ref dv]) hl0;have k6:=ae (H:=HC) (a:=l) (o:=.lst [V.ref dv]);generalize upd HC l (.lst [V.ref dv])=HD at t6 k6;have BD:=BC.add t6 hl0 k6;have lZ:Z0 l=none:=BC.sm.free hl0;refine hN _ _ ?_;clear hN N t6 hl0 BC;refine fX fun N hN=>?_;tm_up;refine⟨a,ns,1,rfl,BD.sm.seq QH,hl,?_⟩;tm_up;obtain⟨mm,hmm,Y7⟩:=M8 (nM ns 1) (k:=25) (by decide);rw[hmm];refine⟨a,ns,2,mm,rfl,BD.sm.seq QH,hl,by omega,fun ln ms HE sE hE ZQ Y8=>?_⟩;refine⟨30,rfl,.inl ⟨ln,_,rfl,aL.of hE,fun l3 hl3=>?_⟩⟩;rw[show n0 (ms.map V.int) none (some 30)=(ms.take 30).map V.int by rw[show(30:Int)=((30:Nat):Int) from rfl,zX,map_take]];have t7:=aq.upd (o:=.lst ((ms.take 30).map V.int)) hl3;have k7:=ae (H:=HE) (a:=l3) (o:=.lst ((ms.take 30).map V.int));generalize upd HE l3 (.lst ((ms.take 30).map V.int))=HF at t7 k7;have sF:=sE.trans t7;have BF:=BD.Qc sF;have mo:=mU (H':=HF) BD.sm;have kF:mix Z0 HD HF l3=some (.lst ((ms.take 30).map V.int)):=kK (sE.free hl3) k7;have lF:mix Z0 HD HF l=none:=by
   show(match HD l with|none=>HF l|some (.lst _)=>Z0 l|some o=>some o)=none;rw[k6];exact lZ
  have Y9:=sF _ _ k6
  replace QG:=QG.same mo
  replace QH:=mo.seq QH
  replace QI:=mo _ _ QI
  replace hdZ:=mo _ _ hdZ
  generalize mix Z0 HD HF=Z1 at BF kF lF QG QH QI hdZ;clear t7 k7 sF mo sE hE hl3 k6 BD lZ Z0;have NI:∀{vw:Vw},vw.map (·.1)=L3.take m->∀ q∈vw++[jY 2 fl],nameB q.1=true:=fun {vw} e q hq=>by
   rcases mem_append.mp hq with hq|hq
   ·have h1:q.1∈L3.take m:=by rw[<-e];exact List.mem_map_of_mem hq
    exact(Ma q.1 (List.mem_of_mem_take h1)).1
   ·rw[mem_singleton.mp hq];show nameB "bo"=true;decide +kernel
  have VA:(ms.take 30).length<=30:=by rw[length_take];omega
  generalize ms.take 30=nums at kF VA;refine⟨l3,rfl,⟨_,aL.of (BF.sm _ _ kF)⟩,Dg (K:=K) (xs:=nums.map V.int) (fun j σ H'=>∃(u3 u7 u8 u9 Qe Qf Qg Qh:Option V)(dv:Addr)(vw:Vw)(sv:List Vw)(zs:List V)(Z:Hp),σ=[some (.ref a),some (.ref l2),some (.ref d),u3,some (.bl fl),some (.ref dv),some (.ref l),u7,u8,u9,Qe,Qf,Qg,Qh]/\Bw (cs t) Z H' x [l] (vw++[jY 2 fl]) (zg (m+1)++sv) []/\aq Z1 Z/\Z l=none/\H' l=some (.lst zs)/\Paired (Qx Z) zs (sv++[vw++[jY 2 fl]])/\lG Z dv (vw++[jY 2 fl])/\vw.map (·.1)=L3.take m/\(∀ q∈vw,∃ ss,q.2=.pl ss/\ss.length<=j)/\sv.length<=2 * j/\j<=30/\∀ v∈sv,∀ q∈v,nameB q.1=true)
   ⟨none,none,none,none,none,none,none,none,dv,eA m,[],[.ref dv],Z1,rfl,by rw[append_nil];exact BF,aq.refl _,lF,Y9,.cons ⟨dv,rfl,QG⟩ .nil,QG,(by unfold eA;rw[List.map_map];exact List.map_id' _),(fun q hq=>by
    unfold eA at hq;obtain⟨n,_,rfl⟩:=mem_map.mp hq;exact⟨[],rfl,Nat.zero_le _⟩),Nat.zero_le _,Nat.zero_le _,fun v hv=>nomatch hv⟩ ?_ ?_ ?_⟩
  ·rintro j σ H' ⟨u3,u7,u8,u9,Qe,Qf,Qg,Qh,dv,vw,sv,zs,Z,rfl,B,sZ,_⟩;exact aL.of (B.sm _ _ (sZ _ _ kF))
  ·rintro j y τ σ H' hy ⟨u3,u7,u8,u9,Qe,Qf,Qg,Qh,dv,vw,sv,zs,Z,rfl,B,sZ,lz,Tz,pz,TB,vn,vp,WW,WY,VB⟩ Z7;obtain⟨num,rfl,hj⟩:∃ num:Int,y=.int num/\j<nums.length:=by
    rw[getElem?_map]at hy;cases e:nums[j]? with
    |none=>rw[e]at hy;cases hy
    |some z=>rw[e]at hy;exact⟨z,(Option.some.inj hy).symm,(List.getElem?_eq_some_iff.mp e).1⟩
   have t0:=aq.upd (o:=.tup [V.int (j:Int),V.int num]) Z7;have k0:=ae (H:=H') (a:=τ) (o:=.tup [V.int (j:Int),V.int num]);generalize upd H' τ (.tup [V.int (j:Int),V.int num])=G0 at t0 k0;refine⟨τ,_,rfl,fc.of k0,rfl,_,_,rfl,_,_,rfl,rfl,?_⟩;have B0:=B.same t0;have Za:=t0 _ _ Tz;tm_up;refine⟨num,(j:Int),rfl,fun r r0 r1=>?_⟩;tm_up;refine .inl ⟨l2,_,rfl,.inl (aL.of (B0.sm _ _ (sZ _ _ QI))),?_⟩;rw[ml];tm_up;refine⟨by omega,?_⟩;obtain⟨ni,hni,Zb⟩:=M8 r (k:=(m:Int)) (by omega);rw[hni];obtain⟨n,hn⟩:∃ n,(L3.take m)[ni]? = some n:=⟨_,getElem?_eq_getElem (by rw[length_take];show ni<min m 3;omega)⟩;refine EO (aL.of (B0.sm _ _ (sZ _ _ QI))) (n:=ni) rfl (by rw[getElem?_map,hn];rfl) ?_;tm_up;obtain⟨ss,hmem,hsl⟩:∃ ss,(n,Th.pl ss)∈vw/\ss.length<=j:=by
    have e1:(vw.map (·.1))[ni]? = some n:=by rw[vn];exact hn
    rw[getElem?_map]at e1;cases e2:vw[ni]? with
    |none=>rw[e2]at e1;cases e1
    |some q =>
     rw[e2]at e1;have e3:q.1=n:=Option.some.inj e1;obtain⟨ss,e4,e5⟩:=vp q (mem_of_getElem? e2);exact⟨ss,by rw[<-e3,<-e4];exact mem_of_getElem? e2,e5⟩
   obtain⟨Zc,Oz⟩:=Ma n (List.mem_of_mem_take (mem_of_getElem? hn));have hf:=B0.wv.find (mem_append_left _ hmem);have wl:=B0.wv.len;obtain⟨v,hg,lL,ys,rfl,hL,gL⟩:=TB.get hf;have yl:=bF gL;refine⟨dv,_,rfl,hg.same B0.sm,?_⟩;tm_up;refine⟨num,_,rfl,fun r2 _ _=>?_⟩;tm_up;refine .inl ⟨lL,_,rfl,.inl (aL.of (B0.sm _ _ hL)),?_⟩;tm_up;refine⟨by omega,?_⟩;obtain⟨i,hi,hi2⟩:=M8 r2 (k:=((ys.length:Int)+1)) (by omega);rw[hi];tm_up;intro p sg WZ hp;have t1:=aq.upd (o:=.tup [.str sg.1.str,.int sg.2]) hp;have k1:=ae (H:=G0) (a:=p) (o:=.tup [.str sg.1.str,.int sg.2]);generalize upd G0 p (.tup [.str sg.1.str,.int sg.2])=G1 at t1 k1;tm_up;refine⟨by show 5<=sizeLine;decide,fun tp htp=>?_⟩;have t2:=aq.upd (o:=.tup [V.str "put",V.str "",V.str "",V.int 0,V.ref p]) htp;have k2:=ae (H:=G1) (a:=tp) (o:=.tup [V.str "put",V.str "",V.str "",V.int 0,V.ref p]);generalize upd G1 tp (.tup [V.str "put",V.str "",V.str "",V.int 0,V.ref p])=G2 at t2 k2;have B2:=(B0.same t1).same t2;tm_up;refine⟨lL,.ref tp,ys,ss,⟨.put,"","",0,(sg.1.str,sg.2),0,0,false⟩,i,rfl,B2.sm _ _ hL,gL.same B2.sm,by omega,⟨tp,_,p,rfl,k2,rfl,rfl,t2 _ _ k1⟩,.inl rfl,fun _=>rB WZ,by omega,fun z=>absurd rfl z,fun pw ch G3 t3 hch _ MP=>?_⟩;obtain rfl:=hch rfl;have eS:jw (sg.1.str,sg.2)=sg:=Ho rfl rfl;have MP:G3 pw=some (.tup [.int (cD (aR (putL ss i sg)) i 0:Nat),.int (fG (aR (putL ss i sg)) (i+1) ([sg].any fun s=>s.1.meas):Nat)]):=by
    have MP:G3 pw=some (.tup [.int (cD (aR (ss.take i++[jw (sg.1.str,sg.2)]++ss.drop i)) i 0:Nat),.int (fG (aR (ss.take i++[jw (sg.1.str,sg.2)]++ss.drop i)) (i+1) ([jw (sg.1.str,sg.2)].any fun s=>s.1.meas):Nat)]):=MP;rw[eS]at MP;exact MP
   have B3:=B2.same t3;have Zd:=t3 _ _ (t2 _ _ (t1 _ _ Za));refine⟨pw,_,rfl,fc.of MP,rfl,_,_,rfl,_,_,rfl,rfl,?_⟩;tm_up;refine⟨num,_,rfl,fun r3 _ _=>?_⟩;tm_up;generalize decide (V.int (r3 % 2)=V.int 1)=bh;have p3:=t3 _ _ (t2 _ _ k1);refine⟨d,dd,x,p,Z,[l],_,_,[],n,i,sg,bh,ss,rfl,B3.sm _ _ (sZ _ _ hdZ),p3,WZ,Zc,B3,hf,by omega,by omega,by rw[length_append,SW];show _+0<=900;omega,fun G4 B4 k4=>?_⟩;have ZR:(putL ss i sg).length=ss.length+1:=by unfold putL;simp;omega
   obtain⟨b1,b2⟩:=F6 (putL ss i sg) i (i+1) [sg] (by omega) (by omega);have f4:(Str.ofString (toString ((cD (aR (putL ss i sg)) i 0:Nat):Int))).length<=3:=DD (by omega) (by omega);have f5:(Str.ofString (toString ((fG (aR (putL ss i sg)) (i+1) ([sg].any fun s=>s.1.meas):Nat):Int))).length<=3:=DD (by omega) (by omega);have e6:(Str.ofString "ok ").length=3:=by lk
   have e1:(Str.ofString " ").length=1:=by lk
   have e0:Str.empty.length=0:=by lk
   refine⟨?_,_,rfl,.inr ⟨_,rfl,BR (by omega) (by omega),?_,?_,_,rfl,.inr ⟨_,rfl,BR (by omega) (by omega),?_,?_,?_⟩⟩⟩
   all_goals try (refine big ?_;(try simp only [PySem.Str.length_append]);omega)
   rw[PySem.Str.empty_append];refine .inl ⟨rfl,_,rfl,?_⟩;rw[show decide (V.str (Ja (putL ss i sg) i (i+1) [sg])=V.str (Str.ofString "ok " ++ Str.ofString (toString ((cD (aR (putL ss i sg)) i 0:Nat):Int))++Str.ofString " " ++ Str.ofString (toString ((fG (aR (putL ss i sg)) (i+1) ([sg].any fun s=>s.1.meas):Nat):Int))))=true from decide_eq_true rfl];refine ck ?_;rw[zh (show(jY 2 fl).1≠n from Ne.symm Oz)]at B4;have QJ:G4 l=some (.lst zs):=k4.lst Zd (List.mem_singleton_self _);have p4:=k4.tup p3;obtain⟨kvs,hk,pk⟩:=id TB;have kl:=bF pk;refine⟨_,rfl,dv,kvs,rfl,.inl (B4.sm _ _ hk),fun l0 hl0=>?_⟩;have S4:=aq.upd (o:=.dK kvs) hl0;have m4:=ae (H:=G4) (a:=l0) (o:=.dK kvs);have fz:∀{X:Hp} {o:HO},aq G4 X->aq G4 (upd X l0 o):=fun s=>cZ s hl0;generalize upd G4 l0 (.dK kvs)=G5 at S4 m4;have VC:=S4 _ _ (B4.sm _ _ hL);have VD:=(gL.same B4.sm).same S4;refine⟨_,rfl,_,rfl,i,rfl,.inl ⟨lL,ys,rfl,aL.of VC,fun c1 hc1=>?_⟩⟩;rw[zX];have T1:=aq.upd (o:=.lst (ys.take i)) hc1;have m1:=ae (H:=G5) (a:=c1) (o:=.lst (ys.take i));generalize upd G5 c1 (.lst (ys.take i))=G6 at T1 m1;refine⟨_,rfl,big (by show 1<=3000;omega),fun c2 hc2=>?_⟩;have T2:=aq.upd (o:=.lst [V.ref p]) hc2;have m2:=ae (H:=G6) (a:=c2) (o:=.lst [V.ref p]);generalize upd G6 c2 (.lst [V.ref p])=G7 at T2 m2;refine .inr (.inr ⟨c1,c2,_,_,rfl,rfl,T2 _ _ m1,m2,?_,fun c3 hc3=>?_⟩)
   ·exact big (by rw[length_take];show _+1<=3000;omega)
   have T3:=aq.upd (o:=.lst (ys.take i++[V.ref p])) hc3;have m3:=ae (H:=G7) (a:=c3) (o:=.lst (ys.take i++[V.ref p]));generalize upd G7 c3 (.lst (ys.take i++[V.ref p]))=G8 at T3 m3;have NG:=(T1.trans T2).trans T3;refine⟨_,rfl,_,rfl,i,rfl,.inl ⟨lL,ys,rfl,aL.of (NG _ _ VC),fun c4 hc4=>?_⟩⟩;rw[wR ys i (by omega)];have T4:=aq.upd (o:=.lst (ys.drop i)) hc4;have m4':=ae (H:=G8) (a:=c4) (o:=.lst (ys.drop i));generalize upd G8 c4 (.lst (ys.drop i))=G9 at T4 m4';refine .inr (.inr ⟨c3,c4,_,_,rfl,rfl,T4 _ _ m3,m4',?_,fun c5 hc5=>?_⟩)
   ·exact big (by simp only [length_take,length_drop,length_append,length_cons,List.length_nil];omega)
   have T5:=aq.upd (o:=.lst (ys.take i++[V.ref p]++ys.drop i)) hc5;have m5:=ae (H:=G9) (a:=c5) (o:=.lst (ys.take i++[V.ref p]++ys.drop i));have CS:=(NG.trans T4).trans T5;have Tw:=((S4.trans NG).trans T4).free hc5;generalize upd G9 c5 (.lst (ys.take i++[V.ref p]++ys.drop i))=GA at T5 m5 CS;have n1:c5≠l0:=fm m5 (CS _ _ m4) (by intro z;cases z);refine⟨_,rfl,_,rfl,l0,_,rfl,Ff.k (k:=Sum.inr n) (CS _ _ m4) (aF (by omega)),?_⟩;have SB:aq G4 (upd GA l0 (.dK (putK kvs (Sum.inr n) (.ref c5)))):=fz (S4.trans CS);have mB:=ae (H:=GA) (a:=l0) (o:=.dK (putK kvs (Sum.inr n) (.ref c5)));have cB:(upd GA l0 (.dK (putK kvs (Sum.inr n) (.ref c5)))) c5=some (.lst (ys.take i++[V.ref p]++ys.drop i)):=by rw[ai n1];exact m5
   have gB:gn (upd GA l0 (.dK (putK kvs (Sum.inr n) (.ref c5)))) (ys.take i++[V.ref p]++ys.drop i) (putL ss i sg):=by
    refine bR (fun _ _ z=>?_) (rg (rg (rj i (VD.same CS)) (.cons ⟨p,rfl,CS _ _ (S4 _ _ p4)⟩ .nil)) (rh i (VD.same CS)));obtain⟨a,e1,e2⟩:=z;exact⟨a,e1,by rw[ai (fm e2 (CS _ _ m4) (by intro z;cases z))];exact e2⟩
   generalize upd GA l0 (.dK (putK kvs (Sum.inr n) (.ref c5)))=GB at SB mB cB gB;obtain⟨v2,e2',_⟩:=BP pk hf;have BB:=B4.Qc SB;have TC:=mU (H':=GB) B4.sm;have QK:lG (mix Z G4 GB) l0 (fF vw n (.pl (putL ss i sg))++[jY 2 fl]):=by
    rw[<-zh (show(jY 2 fl).1≠n from Ne.symm Oz)];exact⟨_,kK hl0 mB,L6 (bR (fun _ _ z=>z.same TC) pk) (by rw[e2'];rfl) ⟨c5,_,rfl,kK Tw cB,gn.mixed SB gB⟩⟩
   have lB:mix Z G4 GB l=none:=by
    show(match G4 l with|none=>GB l|some (.lst _)=>Z l|some o=>some o)=none;rw[QJ];exact lz
   have QL:=sZ.trans TC;have SY:=SB _ _ QJ;have QM:Paired (Qx (mix Z G4 GB)) (zs++[.ref l0]) (sv++[vw++[jY 2 fl]]++[fF vw n (.pl (putL ss i sg))++[jY 2 fl]]):=gZ (bR (fun _ _ z=>z.same TC) pz) ⟨l0,rfl,QK⟩;have pB:=SB _ _ p4;generalize mix Z G4 GB=ZB at BB QK lB QL QM TC;clear T1 T2 T3 T4 T5 NG CS m1 m2 m3 m4 m4' m5 S4 VC VD n1 Tw cB gB SB mB fz hc1 hc2 hc3 hc4 hc5 B0 B2 B3 B4 k4;have zl:=bF pz;rw[length_append]at zl;have zl:zs.length=sv.length+1:=zl;tm_up;refine⟨.inl ⟨rfl,_,aL.of SY⟩,_,rfl,l,_,_,rfl,rfl,SY,aF (by omega),?_⟩;have BW:=BB.wrote (o:=.lst (zs++[V.ref l0])) (List.mem_singleton_self _) SY lB;have kw:=ae (H:=GB) (a:=l) (o:=.lst (zs++[V.ref l0]));have pW:(upd GB l (.lst (zs++[V.ref l0]))) p=some (.tup [.str sg.1.str,.int sg.2]):=by rw[ai (fm pB SY (by intro z;cases z))];exact pB
   generalize upd GB l (.lst (zs++[V.ref l0]))=GW at BW kw pW;have S0:(fF vw n (.pl (putL ss i sg))).map (·.1)=L3.take m:=by rw[mC];exact vn
   have VE:=SV (n:=n) (ss':=putL ss i sg) vp (by omega);have S3:(n,Th.pl (putL ss i sg))∈fF vw n (.pl (putL ss i sg)):=DA hmem;have Qi:∀ v∈sv++[vw++[jY 2 fl]],∀ q∈v,nameB q.1=true:=fun v hv=>by
    rcases mem_append.mp hv with hv|hv
    ·exact VB v hv
    ·rw[mem_singleton.mp hv];exact NI vn
   have es:zg (m+1)++sv++[vw++[jY 2 fl]]=zg (m+1)++(sv++[vw++[jY 2 fl]]):=List.append_assoc ..;rw[es]at BW;have sl2:(sv++[vw++[jY 2 fl]]).length=sv.length+1:=by rw[length_append];rfl
   clear BB SY pB es;generalize fF vw n (.pl (putL ss i sg))=OA at BW QK QM S0 VE S3;generalize sv++[vw++[jY 2 fl]]=OB at BW QM Qi sl2;have Ze:(zs++[V.ref l0]).length=OB.length+1:=by rw[length_append];show zs.length+1=_;omega
   generalize zs++[V.ref l0]=Qj at kw QM Ze;have ZS:(zg (m+1)++OB).length<=64:=by rw[length_append,SW];omega
   obtain⟨FW,bW,_⟩:=BW.ex;refine⟨_,rfl,_,rfl,d,dd,x,l0,FW,_,_,[],rfl,BW.sm _ _ (QL _ _ hdZ),bW,QK.same BW.sm,NI S0,by show _+0<=900;omega,fun GX sX=>⟨_,rfl,ck ?_⟩⟩;have BX:=BW.same sX;have VF:=sX _ _ kw;have pX:=sX _ _ pW;clear BW kw pW sX bW;refine⟨fun bb H'=>H'=GX/\(bb=true->sg.1.cK=true),?_,?_⟩
   ·tm_up;refine aP (fun h=>?_) (fun _=>⟨rfl,fun z=>nomatch z⟩);have h':Bz sg.1.str "GDsd"=true:=h;have snd:=(Gf sg.1).symm.trans h';tm_up;refine⟨num,_,rfl,fun r4 _ _=>?_⟩;tm_up;exact⟨rfl,fun _=>snd⟩
   rintro bb H' ⟨rfl,hb⟩;refine aP (fun h=>?_) (fun _=>?_)
   ·have snd:=hb h;have hf2:=BX.wv.find (mem_append_left [jY 2 fl] S3);have g2:(putL ss i sg)[i]? = some sg:=by
     unfold putL;rw[List.append_assoc,getElem?_append_right (by rw[length_take];omega),length_take,Nat.min_eq_left (by omega),Nat.sub_self];rfl
    tm_up;refine⟨d,dd,x,l0,ZB,[l],_,_,[],n,i,putL ss i sg,sg,rfl,BX.sm _ _ (QL _ _ hdZ),BX,QK,hf2,g2,snd,by show _+0<=900;omega,fun Qk Z3 GY s3 BY kY sY zY Ta=>?_⟩;rw[zh (show(jY 2 fl).1≠n from Ne.symm Oz)]at BY Ta;have VG:GY l=some (.lst Qj):=kY.lst VF (List.mem_singleton_self _);have lY:=zY l (List.mem_singleton_self _) Qj VF lB;tm_up;refine⟨.inl ⟨rfl,_,aL.of VG⟩,_,rfl,l,_,_,rfl,rfl,VG,aF (by omega),?_⟩;have BV:=BY.wrote (o:=.lst (Qj++[V.ref Qk])) (List.mem_singleton_self _) VG lY;have kv:=ae (H:=GY) (a:=l) (o:=.lst (Qj++[V.ref Qk]));generalize upd GY l (.lst (Qj++[V.ref Qk]))=GV at BV kv;have ZT:((putL ss i sg).take i++[s3]++(putL ss i sg).drop (i+1)).length=ss.length+1:=by
     simp only [length_append,length_take,length_drop,length_cons,List.length_nil];omega
    have VH:(fF OA n (.pl ((putL ss i sg).take i++[s3]++(putL ss i sg).drop (i+1)))).map (·.1)=L3.take m:=by rw[mC];exact S0
    have W0:∀ q∈fF OA n (.pl ((putL ss i sg).take i++[s3]++(putL ss i sg).drop (i+1))),∃ ss,q.2=.pl ss/\ss.length<=j+1:=fun q hq=>by
     rcases rp hq with ⟨e,_⟩|⟨h1,_⟩
     ·rw[e];exact⟨_,rfl,by omega⟩
     ·exact VE q h1
    generalize fF OA n (.pl ((putL ss i sg).take i++[s3]++(putL ss i sg).drop (i+1)))=W2 at BV Ta VH W0;have es:zg (m+1)++OB++[OA++[jY 2 fl]]=zg (m+1)++(OB++[OA++[jY 2 fl]]):=List.append_assoc ..;rw[es]at BV;have Zf:Paired (Qx Z3) (Qj++[V.ref Qk]) (OB++[OA++[jY 2 fl]]++[W2++[jY 2 fl]]):=gZ (bR (fun _ _ z=>z.same sY) QM) ⟨Qk,rfl,Ta⟩;obtain⟨FV,bV,_⟩:=BV.ex;have ZU:(OB++[OA++[jY 2 fl]]).length=OB.length+1:=by rw[length_append];rfl
    refine⟨_,rfl,_,rfl,d,dd,x,Qk,FV,_,_,[],rfl,BV.sm _ _ (sY _ _ (QL _ _ hdZ)),bV,Ta.same BV.sm,NI VH,by rw[length_append,SW];show _+0<=900;omega,fun GT sT=>⟨_,rfl,ck ?_⟩⟩;refine⟨_,_,_,_,_,_,_,_,Qk,W2,_,_,Z3,rfl,BV.same sT,QL.trans sY,lY,sT _ _ kv,Zf,Ta,VH,W0,by omega,by omega,fun v hv=>?_⟩;rcases mem_append.mp hv with hv|hv
    ·exact Qi v hv
    ·rw[mem_singleton.mp hv];exact NI S0
   ·exact⟨_,_,_,_,_,_,_,_,l0,OA,OB,Qj,ZB,rfl,BX,QL,lB,VF,QM,QK,S0,VE,by omega,by omega,Qi⟩
  rintro σ H' ⟨u3,u7,u8,u9,Qe,Qf,Qg,Qh,dv,vw,sv,zs,Z,rfl,B,sZ,lz,Tz,pz,TB,vn,vp,WW,WY,VB⟩;refine hN _ _ ?_;clear hN N;rw[length_map]at vp WW WY;have vl:vw.length=m:=by
   have:=congrArg List.length vn;rw[length_map,length_take]at this;rw[this];show min m 3=m;omega
  have W3:∀ q∈vw,nameB q.1=true/\q.1 ≠ "bo"/\∃ ss,q.2=.pl ss:=fun q hq=>by
   have h1:q.1∈L3.take m:=by rw[<-vn];exact List.mem_map_of_mem hq
   obtain⟨h2,h3⟩:=Ma q.1 (List.mem_of_mem_take h1);obtain⟨ss,e,_⟩:=vp q hq;exact⟨h2,h3,ss,e⟩
  obtain⟨ss,hdo⟩:∃ ss,aZ vw "dora"=some (.pl ss):=by
   cases vw with
   |nil=>have vl:0=m:=vl;omega
   |cons q r =>
    obtain⟨n,th⟩:=q;obtain⟨m',rfl⟩:∃ m',m=m'+1:=⟨m-1,by omega⟩;have e1:n::r.map (·.1)=Str.ofString "dora" :: List.take m' [Str.ofString "ann",Str.ofString "cy"]:=vn
    injection e1 with e1 _
    obtain⟨ss,e2,_⟩:=vp _ (mem_cons_self ..);have e2:th=.pl ss:=e2;refine⟨ss,?_⟩;unfold aZ;rw[List.find?_cons_of_pos (by rw[e1];exact decide_eq_true rfl),e2];rfl
  have pl:=SW (m+1);have hdH:=B.sm _ _ (sZ _ _ hdZ);have Zg:∀ q∈vw++[jY 2 fl],nameB q.1=true:=fun q hq=>by
   rcases mem_append.mp hq with hq|hq
   ·exact(W3 q hq).1
   ·rw[mem_singleton.mp hq];show nameB "bo"=true;decide +kernel
  refine fX fun N hN=>?_;refine⟨_,rfl,_,rfl,_,rfl,d,dd,x,dv,Z,[l],vw,zg (m+1)++sv,fl,ss,rfl,hdH,B,TB,W3,hdo,by omega,by rw[length_append];omega,fun H2 fs B2 ZV k2=>⟨_,rfl,ck ?_⟩⟩;have VI:H2 l=some (.lst zs):=k2.lst Tz (List.mem_singleton_self _);refine hN _ _ ?_;clear hN N B Tz hdH k2;have zl:=bF pz;rw[length_append]at zl;have zl:zs.length=sv.length+1:=zl;have Zh:∀ v∈sv++[vw++[jY 2 fl]],∀ q∈v,nameB q.1=true:=fun v hv=>by
   rcases mem_append.mp hv with hv|hv
   ·exact VB v hv
   ·rw[mem_singleton.mp hv];exact Zg
  obtain⟨all,NJ⟩:∃ all,all=zg (m+1)++(sv++[vw++[jY 2 fl]]):=⟨_,rfl⟩;have al:all.length=m+1+sv.length+1:=by
   rw[NJ,length_append,length_append,pl];show m+1+(sv.length+1)=_;omega
  have W4:∀ i,i<=sv.length->all[m+1+i]? = (sv++[vw++[jY 2 fl]])[i]?:=fun i _=>by
   rw[NJ,getElem?_append_right (by omega),pl]
   congr 1
   omega
  have aN:all[m+1+sv.length]? = some (vw++[jY 2 fl]):=by
   rw[W4 _ (Nat.le_refl _),getElem?_append_right (Nat.le_refl _),Nat.sub_self];rfl
  have aT:all.take (m+1+sv.length)=zg (m+1)++sv:=by
   rw[NJ,<-List.append_assoc,List.take_left'];rw[length_append,pl]
  have a0:all[0]? = some []:=by
   rw[NJ,List.getElem?_append_left (by omega)];unfold zg;rw[getElem?_map,List.getElem?_range (by omega)];rfl
  have Mb:(Cm.undo).text = "undo":=by lk
  have Gj:(Cm.undo).ok:=fun _ hz=>nomatch hz
  have et:∀{j:Nat} {pv:Vw},all[j]? = some pv->all.take (j+1)=all.take j++[pv]:=fun {j pv} e=>by
   rw[take_succ,e];rfl
  rw[<-aT]at B2;refine fX fun N hN=>?_;refine⟨_,rfl,.inl ⟨l,_,rfl,.inl (aL.of VI),?_⟩⟩;tm_up;refine⟨by omega,by omega,?_⟩;refine lg (n:=((zs.length:Int)-1).toNat) (fun i σ H'=>∃(u7:Option V)(cur:Vw)(fs:List Vw),σ=[some (.ref a),some (.ref l2),some (.ref d),u3,some (.bl fl),some (.ref dv),some (.ref l),u7,u8,u9,Qe,Qf,Qg,Qh]/\all[m+1+sv.length-i]? = some cur/\Bw (cs t) Z H' x [l] cur (all.take (m+1+sv.length-i)) fs/\fs.length<=2+i/\H' l=some (.lst zs)/\i<=sv.length) ⟨u7,_,fs,rfl,aN,B2,by omega,VI,Nat.zero_le _⟩ ?_ ?_
  ·rintro i σ H4 hi ⟨TF,cur,fs',rfl,ec,B4,Zi,QJ,il⟩;have ZW:i<sv.length:=by omega
   obtain⟨j,ej⟩:∃ j,m+1+sv.length-i=j+1:=⟨m+1+sv.length-i-1,by omega⟩;have VJ:m+1+sv.length-(i+1)=j:=by omega
   rw[ej]at ec B4;rw[VJ];obtain⟨pv,QN⟩:∃ pv,all[j]? = some pv:=⟨_,getElem?_eq_getElem (show j<all.length by omega)⟩;rw[et QN]at B4;have Zj:(all.take j).length<=64:=by rw[length_take];omega
   have QE:=B4.sm _ _ (sZ _ _ hdZ);have Zk:=(sZ.trans B4.sm).seq QH;refine⟨fun σ H'=>σ=[some (.ref a),some (.ref l2),some (.ref d),u3,some (.bl fl),some (.ref dv),some (.ref l),some (.int (0+(i:Int))),u8,u9,Qe,Qf,Qg,Qh]/\H' l=some (.lst zs)/\∃ fs',Bw (cs t) Z H' x [l] pv (all.take j) fs'/\fs'.length<=2+(i+1),?_,?_⟩
   ·obtain⟨F,b1,f1,z1,o1⟩:=B4.ex;tm_up;refine⟨a,ns,0,rfl,Zk,hl,?_⟩;tm_up;refine⟨_,_,rfl,fun r _ _=>?_⟩;tm_up;refine aP (fun _=>?_) (fun _=>?_)
    ·obtain⟨dx,L,D,U,hx⟩:=f6 b1;refine⟨_,rfl,d,_,dd,_,_,rfl,QE,T.cu,T.bE,eo _,?_⟩;refine⟨x,dx,_,rfl,hx,j6 _ _ _,x,F,cur,_,fs',rfl,b1,?_,(fun z=>by simp at z),fun IZ v0 e0 H5 Q8 b5=>?_⟩
     ·rw[length_append];show _+1+_<=900;omega
     obtain⟨SQ,SR⟩:=rl e0;subst SQ SR;obtain⟨B5,k5⟩:=Bw.mk' b5 B4.sm f1 z1 o1 (Gr.refl _ _) Q8;exact⟨rfl,k5.lst QJ (List.mem_singleton_self _),_,B5,by rw[length_append];show _+1<=_;omega⟩
    ·refine⟨_,rfl,d,dd,_,rfl,QE,dX _,?_⟩;refine⟨d,dd,x,F,cur,_,fs',.undo,by rw[Mb];rfl,QE,Gj,b1,trivial,?_,?_⟩
     ·rw[length_append];show _+1+_<=900;omega
     have eb:Cm.PN cur (all.take j++[pv]) fs' .undo=some (Str.ofString "ok",pv,all.take j,fs'++[cur]):=by
      show Option.map _ (all.take j++[pv]).getLast? = _;rw[List.getLast?_concat,List.dropLast_concat];rfl
     rw[eb];intro F' H5 gr fr _ b5;obtain⟨B5,k5⟩:=Bw.mk' b5 B4.sm f1 z1 o1 gr fr;refine .inl ⟨rfl,_,rfl,?_⟩;rw[show decide (V.str "ok"=V.str (Str.ofString "ok"))=true from decide_eq_true rfl];exact ck ⟨rfl,k5.lst QJ (List.mem_singleton_self _),_,B5,by show(fs'++[cur]).length<=_;rw[length_append];show _+1<=_;omega⟩
   rintro _ H5 ⟨rfl,VL,W5,B5,Mh⟩;refine⟨fun bb H'=>bb=false/\aq H5 H',?_,?_⟩
   ·tm_up;refine aP (fun _=>?_) (fun _=>⟨rfl,aq.refl _⟩);have W6:(sv++[vw++[jY 2 fl]])[sv.length-1-i]? = some pv:=by
     rw[<-W4 _ (by omega),show m+1+(sv.length-1-i)=j by omega];exact QN
    obtain⟨zv,Zl,dl,rfl,hdl⟩:=j2 pz W6;have Zm:=Zh pv (mem_of_getElem? W6);tm_up;refine .inl ⟨l,_,rfl,.inl (aL.of VL),?_⟩;tm_up;refine EO (aL.of VL) (n:=sv.length-1-i) (by omega) Zl ?_;obtain⟨F5,b5,_⟩:=B5.ex;refine⟨d,dd,x,dl,F5,pv,_,W5,rfl,B5.sm _ _ (sZ _ _ hdZ),b5,hdl.same B5.sm,Zm,by omega,fun H6 s6=>⟨_,rfl,rfl,s6⟩⟩
   rintro _ H6 ⟨rfl,s6⟩;exact ck ⟨_,pv,W5,rfl,QN,B5.same s6,Mh,s6 _ _ VL,by omega⟩
  rintro σ H4 ⟨TF,cur,fs',rfl,ec,B4,Zi,QJ,il⟩;have ez:m+1+sv.length-((zs.length:Int)-1).toNat=m+1:=by omega
  rw[ez]at ec B4;refine hN _ _ ?_;clear hN N B2 VI;refine fX fun N hN=>?_;refine⟨_,rfl,.inl ⟨l2,_,rfl,.inl (aL.of (B4.sm _ _ (sZ _ _ QI))),?_⟩⟩;rw[ml];tm_up;refine⟨by omega,by omega,?_⟩;refine lg (n:=((m:Int)+1).toNat) (fun i σ H'=>∃(u7:Option V)(cur:Vw)(fs:List Vw),σ=[some (.ref a),some (.ref l2),some (.ref d),u3,some (.bl fl),some (.ref dv),some (.ref l),u7,u8,u9,Qe,Qf,Qg,Qh]/\all[m+1-i]? = some cur/\Bw (cs t) Z H' x [l] cur (all.take (m+1-i)) fs/\fs.length<=70+i) ⟨TF,cur,fs',rfl,ec,B4,by omega⟩ ?_ ?_
  ·rintro i σ H5 hi ⟨TF,cur,fs',rfl,ec,B5,Mh⟩;obtain⟨j,ej⟩:∃ j,m+1-i=j+1:=⟨m+1-i-1,by omega⟩;have VJ:m+1-(i+1)=j:=by omega
   rw[ej]at ec B5;rw[VJ];obtain⟨pv,QN⟩:∃ pv,all[j]? = some pv:=⟨_,getElem?_eq_getElem (show j<all.length by omega)⟩;rw[et QN]at B5;have Zj:(all.take j).length<=64:=by rw[length_take];omega
   have Mn:=B5.sm _ _ (sZ _ _ hdZ);obtain⟨F,b1,f1,z1,o1⟩:=B5.ex;refine⟨_,rfl,d,dd,_,rfl,Mn,dX _,?_⟩;refine⟨d,dd,x,F,cur,_,fs',.undo,by rw[Mb];rfl,Mn,Gj,b1,trivial,?_,?_⟩
   ·rw[length_append];show _+1+_<=900;omega
   have eb:Cm.PN cur (all.take j++[pv]) fs' .undo=some (Str.ofString "ok",pv,all.take j,fs'++[cur]):=by
    show Option.map _ (all.take j++[pv]).getLast? = _;rw[List.getLast?_concat,List.dropLast_concat];rfl
   rw[eb];intro F' H6 gr fr _ b6;obtain⟨B6,k6⟩:=Bw.mk' b6 B5.sm f1 z1 o1 gr fr;exact⟨_,pv,_,rfl,QN,B6,by show(fs'++[cur]).length<=_;rw[length_append];show _+1<=_;omega⟩
  rintro σ H5 ⟨TF,cur,fs',rfl,ec,B5,Mh⟩;have ez:m+1-((m:Int)+1).toNat=0:=by omega
  rw[ez]at ec B5;rw[a0]at ec;obtain rfl:[]=cur:=Option.some.inj ec;refine hN _ _ ?_;clear hN N;have Mn:=B5.sm _ _ (sZ _ _ hdZ);obtain⟨F,b1,f1,z1,o1⟩:=B5.ex;obtain⟨dx,L,D,U,hx⟩:=f6 b1;refine⟨fun v H'=>v=.bl true,?_,?_⟩
  ·refine⟨_,rfl,d,dd,_,rfl,Mn,dX _,?_⟩;refine⟨d,dd,x,F,[],_,fs',.undo,by rw[Mb];rfl,Mn,Gj,b1,trivial,?_,?_⟩
   ·show 0+_<=900;omega
   intro H6 s6;refine .inl ⟨rfl,_,rfl,?_⟩;rw[show decide (V.str (Str.ofString "no NoMore")=V.str (Str.ofString "no NoMore"))=true from decide_eq_true rfl];refine gx ?_;refine⟨_,rfl,d,_,dd,_,_,rfl,s6 _ _ Mn,T.cu,T.bE,eo _,?_⟩;refine⟨x,dx,_,rfl,s6 _ _ hx,ja _ _ _,x,F,[],_,fs',rfl,b1.same s6,fun ln Hn _ sn hn=>?_⟩;refine⟨by show 0<=sizeLine;decide,fun le hle=>?_⟩;exact⟨ln,le,[],rfl,rfl,aL.of (aq.upd hle _ _ hn),aL.of ae,rfl⟩
  rintro _ H6 rfl;exact q _
theorem qE {K:Frag}{T:Addr}{od:Option Addr}{osl:Array (Option Value)}{xs:List V}{its:Array Value}{n:Nat}(l:K.lookup T=some ⟨.type "tuple",od,.seq its n,osl⟩)(hz:decide (its.size<=1000)=true)(r:Vals xs its.toList):∀ H,fc K H T xs:=fun H=>.inr ⟨_,_,_,l,rfl,rfl,Nat.le_trans (of_decide_eq_true hz) (by decide),r⟩
theorem kE {K:Frag}{T:Addr}{w:World}{kvs:List (Str×V)}{es:Array DictEntry}{n:Nat}(l:K.lookup T=some ⟨.type "dict",none,.dict es n,#[]⟩)(e:Di w es.toList kvs)(y:(T==sysModules)=false)(nd:(kvs.map (·.1)).Nodup):KD K w T kvs:=⟨y,_,_,l,e,nd⟩
set_option maxHeartbeats 0 in
theorem all_mk {l:OpenLaw}{w:World}{K:Frag}{mg:Str->Option Value}{fa:Addr}{t:Ml}(hfa:mg "law"=some (.ref fa))(T:Txt K w mg t) :
  ∃ fd:FuncData,(∀(s:Shared)(v:Value),BindsTo s fd ⟨[v],[]⟩ [("_law_script",v)])/\∀ base:Heap,K.In base->base.Ns mainGlobals mg->aS l.prog w K mg base fk 13 fa fd ["_law_script"] (xE K):=by
 have e:=hfa.symm.trans T.LM.g;obtain rfl:fa=t.LB:=Value.ref.inj (Option.some.inj e);obtain⟨_,_,_,_,_,_,_,_,_,hd,_⟩:=T.LM.ex;exact⟨t.LC,fun s v=>hd ▸ .of_eq rfl,fun base _ _=>Qd _ _ T⟩
theorem walk {l:OpenLaw}{q:Program}{loose:List Str}{XP:(Str->Option Value)->Heap->Prop}{YP:World->Heap->Prop}{d:DefRec}{K:Params->Frag}(hn:l.most=some 63)(hdf:d.params.defaults=[])
  (hY:∀(w:World)(h:Heap),YP w h->(K w.params).In h)
  (F:∀(w:World)(mg:Str->Option Value)(fa:Addr)(h:Heap),(K w.params).In h->h.Ns mainGlobals mg->mg d.name=some (.ref fa) ->
   ∃ fd:FuncData,(∀(s:Shared)(u:Value),BindsTo s fd ⟨[u],[]⟩ [("_law_script",u)])/\∀ base:Heap,(K w.params).In base->base.Ns mainGlobals mg->aS l.prog w (K w.params) mg base fk 13 fa fd ["_law_script"] (xE (K w.params))) :
  WalkO q loose XP YP l.row.toRowW d [] (fun f vs=>PySem.call f vs) :=
 L2.MC (n:=63) (k:=13) (x:="_law_script") (CX:=fun _=>fk) (sp:=fun w=>xE (K w.params)) hn (by decide) hdf ⟨rfl,by decide,by decide⟩ hY F (fun _ H a ns hl hO hS=>IW hl hO hS) fun _ _ _ _ _ z=>z
end bD
namespace PySem.W.Fast
theorem tw17932150537244661372:True:=⟨⟩
theorem tw13009705608369415798:True:=⟨⟩
theorem tw7467325646912409144:True:=⟨⟩
theorem tw17509040570918093681:True:=⟨⟩
theorem tw9537294436306010320:True:=⟨⟩
theorem tw14561680118975206610:True:=⟨⟩
theorem tw8689624951656648950:True:=⟨⟩
theorem tw16382974085683748770:True:=⟨⟩
theorem tw17752682025173427449:True:=⟨⟩
theorem tw4578436277586413384:True:=⟨⟩
theorem tw6475194793626488017:True:=⟨⟩
theorem tw14830246118758903048:True:=⟨⟩
theorem tw10016181061982089805:True:=⟨⟩
theorem tw14613506540119874823:True:=⟨⟩
theorem tw5749243794041469177:True:=⟨⟩
theorem tw5997343334832798274:True:=⟨⟩
theorem tw17282019467580347172:True:=⟨⟩
theorem tw7960601168766802322:True:=⟨⟩
theorem tw17623927699306335669:True:=⟨⟩
theorem tw8217615098520451:True:=⟨⟩
theorem tw7148022867803609618:True:=⟨⟩
theorem tw6953918829456150068:True:=⟨⟩
theorem tw8311308877316000865:True:=⟨⟩
theorem tw6624496472670628103:True:=⟨⟩
theorem tw14699549503453455434:True:=⟨⟩
theorem tw4569289234693103756:True:=⟨⟩
theorem tw1494523137386500591:True:=⟨⟩
theorem tw10097960383653524821:True:=⟨⟩
theorem tw6303889851570662188:True:=⟨⟩
theorem tw10263234274246217464:True:=⟨⟩
theorem tw15620243113101860994:True:=⟨⟩
theorem tw11524638318844549087:True:=⟨⟩
theorem tw13569325240398331479:True:=⟨⟩
theorem tw13112599474716225688:True:=⟨⟩
theorem tw18167175553423317701:True:=⟨⟩
theorem tw16323576902781565265:True:=⟨⟩
theorem tw5018666174731380148:True:=⟨⟩
theorem tw16699649661765845457:True:=⟨⟩
theorem tw10127813685491910402:True:=⟨⟩
theorem tw3330534081112489624:True:=⟨⟩
theorem tw14273608701913711650:True:=⟨⟩
theorem tw473732402784224687:True:=⟨⟩
theorem tw4061381113604548956:True:=⟨⟩
theorem tw14010211274821318937:True:=⟨⟩
theorem tw12653733841177261175:True:=⟨⟩
theorem tw11525533429482358411:True:=⟨⟩
theorem tw4708903608184857628:True:=⟨⟩
theorem tw10915090198502078350:True:=⟨⟩
theorem tw16537399679980438209:True:=⟨⟩
theorem tw13309823252421260264:True:=⟨⟩
theorem tw5535810278059567820:True:=⟨⟩
theorem tw11113627208750373623:True:=⟨⟩
theorem tw17227150398741863337:True:=⟨⟩
theorem tw2521752834458222116:True:=⟨⟩
theorem tw15395531595474526157:True:=⟨⟩
theorem tw1673483772735085300:True:=⟨⟩
theorem tw6790785663078099365:True:=⟨⟩
theorem tw3299962004020989263:True:=⟨⟩
theorem tw9579769310397445858:True:=⟨⟩
theorem tw18301302335932819317:True:=⟨⟩
theorem tw1717650507328557967:True:=⟨⟩
theorem tw12652638505044804223:True:=⟨⟩
theorem tw2844958627357216322:True:=⟨⟩
theorem tw592279849102195560:True:=⟨⟩
theorem tw10005655082460673215:True:=⟨⟩
theorem tw6473736893888454697:True:=⟨⟩
theorem tw14614860245629521703:True:=⟨⟩
theorem tw17107653534267667083:True:=⟨⟩
theorem tw16131281279845370348:True:=⟨⟩
theorem tw6844234187610197350:True:=⟨⟩
theorem tw10411900326407956575:True:=⟨⟩
theorem tw16889798184496125312:True:=⟨⟩
theorem tw16632674684376067919:True:=⟨⟩
theorem tw13114707698095463660:True:=⟨⟩
theorem tw15051824535620566190:True:=⟨⟩
theorem tw7396567185545092892:True:=⟨⟩
theorem tw277364884702105538:True:=⟨⟩
theorem tw13181907220470976643:True:=⟨⟩
theorem tw17046189153914861254:True:=⟨⟩
theorem tw14432888034509845939:True:=⟨⟩
theorem tw9474847946111434428:True:=⟨⟩
theorem tw1240297564272884918:True:=⟨⟩
theorem tw11439075022637773697:True:=⟨⟩
theorem tw205020805748267216:True:=⟨⟩
theorem tw8513167420878642218:True:=⟨⟩
theorem tw5819687425766223531:True:=⟨⟩
theorem tw656190869090764514:True:=⟨⟩
theorem tw9594734722383754299:True:=⟨⟩
theorem tw9769292736873934621:True:=⟨⟩
theorem tw4151997075391658946:True:=⟨⟩
theorem tw10345979761817980394:True:=⟨⟩
theorem tw14358563314715596011:True:=⟨⟩
theorem tw9094171124346385280:True:=⟨⟩
theorem tw15975578534831367677:True:=⟨⟩
theorem tw5789421182155636445:True:=⟨⟩
theorem tw13985435548415186258:True:=⟨⟩
theorem tw10056113662796768022:True:=⟨⟩
theorem tw9946215812588657495:True:=⟨⟩
theorem tw17665332936602960830:True:=⟨⟩
theorem tw10154753002476096392:True:=⟨⟩
theorem tw13635280416842533757:True:=⟨⟩
theorem tw18340292213766887860:True:=⟨⟩
theorem tw7562432017189056711:True:=⟨⟩
theorem tw16504731959249929949:True:=⟨⟩
theorem tw4479477665430400635:True:=⟨⟩
theorem tw8109574568902901842:True:=⟨⟩
theorem tw11066539478793595662:True:=⟨⟩
theorem tw3231952427476779104:True:=⟨⟩
theorem tw8306299386331446374:True:=⟨⟩
theorem tw6732811221011708983:True:=⟨⟩
theorem tw15812944294144198169:True:=⟨⟩
theorem tw16804691819338200746:True:=⟨⟩
theorem tw8313584377425362266:True:=⟨⟩
theorem tw17449750368816096861:True:=⟨⟩
theorem tw14163306398401962764:True:=⟨⟩
theorem tw16621837107117958362:True:=⟨⟩
theorem tw12309938603781539194:True:=⟨⟩
theorem tw4247525057328829470:True:=⟨⟩
theorem tw16244887593160625837:True:=⟨⟩
theorem tw750211306744958962:True:=⟨⟩
theorem tw7498005708733349099:True:=⟨⟩
theorem tw10138921501050665751:True:=⟨⟩
theorem tw6719539820298422040:True:=⟨⟩
theorem tw6136733431475257947:True:=⟨⟩
theorem tw254015370785213159:True:=⟨⟩
theorem tw1209054875483214846:True:=⟨⟩
theorem tw14993479766809269291:True:=⟨⟩
theorem tw12497914347441232871:True:=⟨⟩
theorem tw11611568037759492994:True:=⟨⟩
theorem tw14078641190914493475:True:=⟨⟩
theorem tw4270341466949530816:True:=⟨⟩
theorem tw7130211969664718933:True:=⟨⟩
theorem tw4779630357086917788:True:=⟨⟩
theorem tw4242132827110452381:True:=⟨⟩
theorem tw7357484445350234923:True:=⟨⟩
theorem tw15467153471509854841:True:=⟨⟩
theorem tw7428587380825462349:True:=⟨⟩
theorem tw555137715289994518:True:=⟨⟩
theorem tw3402933618556175840:True:=⟨⟩
theorem tw12864466102920276219:True:=⟨⟩
theorem tw14875174076269681080:True:=⟨⟩
theorem tw9913400990354659697:True:=⟨⟩
theorem tw5647159323666379540:True:=⟨⟩
theorem tw684320684292040263:True:=⟨⟩
theorem tw15542946501718156986:True:=⟨⟩
theorem tw8366524359850133544:True:=⟨⟩
theorem tw1006402037203448873:True:=⟨⟩
theorem tw3113109137960055810:True:=⟨⟩
theorem tw15950589254947244910:True:=⟨⟩
theorem tw12193411856685812618:True:=⟨⟩
theorem tw5888054276378163839:True:=⟨⟩
theorem tw10206973747071041634:True:=⟨⟩
theorem tw11470716528321582157:True:=⟨⟩
theorem tw4793203662991827862:True:=⟨⟩
theorem tw4710109514685678100:True:=⟨⟩
theorem tw15682706130683678171:True:=⟨⟩
theorem tw4918612856682191575:True:=⟨⟩
theorem tw9774418907110496510:True:=⟨⟩
theorem tw11419106116921581535:True:=⟨⟩
theorem tw8585450941158307926:True:=⟨⟩
theorem tw11597622408562121518:True:=⟨⟩
theorem tw3154706748134226040:True:=⟨⟩
theorem tw9854010177687246751:True:=⟨⟩
theorem tw17482940744319459675:True:=⟨⟩
theorem tw15443968607888562883:True:=⟨⟩
theorem tw8503038790204268428:True:=⟨⟩
theorem tw68245477174610222:True:=⟨⟩
theorem tw8472082773248475100:True:=⟨⟩
theorem tw16462746168621711911:True:=⟨⟩
theorem tw5367787412803887476:True:=⟨⟩
theorem tw1708670544509541428:True:=⟨⟩
theorem tw14445634533112120902:True:=⟨⟩
theorem tw7886040771758894159:True:=⟨⟩
theorem tw7584061854885187108:True:=⟨⟩
theorem tw18214311810475265467:True:=⟨⟩
theorem tw17345767557516515939:True:=⟨⟩
theorem tw1273767808051344013:True:=⟨⟩
theorem tw8897643594378989946:True:=⟨⟩
theorem tw1220343046254118765:True:=⟨⟩
theorem tw10906395345071315808:True:=⟨⟩
theorem tw1524802547665614100:True:=⟨⟩
theorem tw18076706365509115739:True:=⟨⟩
theorem tw16299777733909069879:True:=⟨⟩
theorem tw17401498375018655126:True:=⟨⟩
theorem tw17204664010095719145:True:=⟨⟩
theorem tw4174313282024463018:True:=⟨⟩
theorem tw5346341136777205305:True:=⟨⟩
theorem tw15957464520030990478:True:=⟨⟩
theorem tw2153359233194697768:True:=⟨⟩
theorem tw15683995579123015585:True:=⟨⟩
theorem tw2571376827016242253:True:=⟨⟩
theorem tw16878667488985875520:True:=⟨⟩
theorem tw15654180756695309288:True:=⟨⟩
theorem tw9439153276664206055:True:=⟨⟩
theorem tw11094629381373368821:True:=⟨⟩
theorem tw18060953705858142458:True:=⟨⟩
theorem tw6137081439911396167:True:=⟨⟩
theorem tw7480695848550584505:True:=⟨⟩
theorem tw18213876943875510293:True:=⟨⟩
theorem tw9259447223334725100:True:=⟨⟩
theorem tw4265314483723321373:True:=⟨⟩
theorem tw9134471606860836363:True:=⟨⟩
theorem tw10573959355828049050:True:=⟨⟩
theorem tw1915737213010025046:True:=⟨⟩
theorem tw4001296689373613668:True:=⟨⟩
theorem tw2058725994071050515:True:=⟨⟩
theorem tw12168913026070045568:True:=⟨⟩
theorem tw15787419044378658616:True:=⟨⟩
theorem tw16022340114795263725:True:=⟨⟩
theorem tw4482197887877466595:True:=⟨⟩
theorem tw10110763719334812316:True:=⟨⟩
theorem tw2966282165732091499:True:=⟨⟩
theorem tw12258163414311582897:True:=⟨⟩
theorem tw15772512899474305137:True:=⟨⟩
theorem tw9334017894214027751:True:=⟨⟩
theorem tw452891612599757651:True:=⟨⟩
theorem tw18226776139996099889:True:=⟨⟩
theorem tw7681491071917999290:True:=⟨⟩
theorem tw7848585298035345321:True:=⟨⟩
theorem tw6402930590916229609:True:=⟨⟩
theorem tw14718232809823224308:True:=⟨⟩
theorem tw14761936052539816788:True:=⟨⟩
theorem tw12307155044187822304:True:=⟨⟩
theorem tw5411186052341596078:True:=⟨⟩
theorem tw17567218644575288654:True:=⟨⟩
theorem tw15136615802378759020:True:=⟨⟩
theorem tw11706873184926256329:True:=⟨⟩
theorem tw2700259070949314139:True:=⟨⟩
theorem tw8409738422248218129:True:=⟨⟩
theorem tw18349562618525775351:True:=⟨⟩
theorem tw9985334818301846833:True:=⟨⟩
theorem tw11320599492764425638:True:=⟨⟩
theorem tw8424812806964316412:True:=⟨⟩
theorem tw2512286861193995199:True:=⟨⟩
theorem tw11741067764534587501:True:=⟨⟩
theorem tw11347930626988726611:True:=⟨⟩
theorem tw4036177046865574988:True:=⟨⟩
theorem tw9789885585430418682:True:=⟨⟩
theorem tw3596682858258237501:True:=⟨⟩
theorem tw18288299498529020547:True:=⟨⟩
theorem tw6831223224929806776:True:=⟨⟩
theorem tw10168917976849129217:True:=⟨⟩
theorem tw15502237211053744954:True:=⟨⟩
theorem tw18430729413207305860:True:=⟨⟩
theorem tw12777525385600099048:True:=⟨⟩
theorem tw1577183821569035050:True:=⟨⟩
theorem tw8524380681370976464:True:=⟨⟩
theorem tw9550150212711434647:True:=⟨⟩
theorem tw5249348962546069686:True:=⟨⟩
theorem tw18060402178340765779:True:=⟨⟩
theorem tw15871631060046335209:True:=⟨⟩
theorem tw17106787284755330095:True:=⟨⟩
theorem tw12359746575718767302:True:=⟨⟩
theorem tw3204664143699990060:True:=⟨⟩
theorem tw14987089958454060891:True:=⟨⟩
theorem tw7615264035469674822:True:=⟨⟩
theorem tw3521570731687450521:True:=⟨⟩
theorem tw12263009575555596637:True:=⟨⟩
theorem tw16208741417551605795:True:=⟨⟩
theorem tw346852706421908982:True:=⟨⟩
theorem tw8814689503468190179:True:=⟨⟩
theorem tw9965801258973578230:True:=⟨⟩
theorem tw13903719840584566555:True:=⟨⟩
theorem tw4936281326958888473:True:=⟨⟩
theorem tw2471439978754894061:True:=⟨⟩
theorem tw12731170299903798821:True:=⟨⟩
theorem tw8267339797347484738:True:=⟨⟩
theorem tw12723503141958109992:True:=⟨⟩
theorem tw4684919485429178644:True:=⟨⟩
theorem tw3728290783957789521:True:=⟨⟩
theorem tw5975335824321599425:True:=⟨⟩
theorem tw10129544593749878584:True:=⟨⟩
theorem tw13575732534180962101:True:=⟨⟩
theorem tw2325827907949451726:True:=⟨⟩
theorem tw11180158046436695039:True:=⟨⟩
theorem tw1652533945974069546:True:=⟨⟩
theorem tw351935445173075379:True:=⟨⟩
theorem tw17605030051840803822:True:=⟨⟩
theorem tw11064969488793076695:True:=⟨⟩
theorem tw17161843510922187602:True:=⟨⟩
theorem tw11245540318102257991:True:=⟨⟩
theorem tw7698742939406161982:True:=⟨⟩
theorem tw13014559923839801128:True:=⟨⟩
theorem tw16597995067288890998:True:=⟨⟩
theorem tw7417785363774940212:True:=⟨⟩
theorem tw11846597456773630795:True:=⟨⟩
theorem tw11053032717824793918:True:=⟨⟩
theorem tw4197111227044272150:True:=⟨⟩
theorem tw16762133641942608436:True:=⟨⟩
theorem tw17733869924580149789:True:=⟨⟩
theorem tw4509035767050361128:True:=⟨⟩
theorem tw18331596316875948520:True:=⟨⟩
theorem tw18031878283418608230:True:=⟨⟩
theorem tw13536314756559498545:True:=⟨⟩
theorem tw16069110182244886251:True:=⟨⟩
theorem tw1732866979255147109:True:=⟨⟩
theorem tw14631284543325694324:True:=⟨⟩
theorem tw12745412665265280214:True:=⟨⟩
theorem tw12415485954118350508:True:=⟨⟩
theorem tw2452353020283777113:True:=⟨⟩
theorem tw8035910944369124819:True:=⟨⟩
theorem tw5300359090558681816:True:=⟨⟩
theorem tw17474043679783788824:True:=⟨⟩
theorem tw1190727476740767945:True:=⟨⟩
theorem tw17804199436392213261:True:=⟨⟩
theorem tw13256879617681664761:True:=⟨⟩
theorem tw256766570686885366:True:=⟨⟩
theorem tw2550180342540933047:True:=⟨⟩
theorem tw9547272158179523710:True:=⟨⟩
theorem tw3969566314865242997:True:=⟨⟩
theorem tw8781057614481158173:True:=⟨⟩
theorem tw4766133107503038748:True:=⟨⟩
theorem tw11328672772888403209:True:=⟨⟩
theorem tw9375593522249154250:True:=⟨⟩
theorem tw4245354911995271346:True:=⟨⟩
theorem tw13820814655622089208:True:=⟨⟩
theorem tw17577334881480051652:True:=⟨⟩
theorem tw11039859121455682919:True:=⟨⟩
theorem tw6452088616120900107:True:=⟨⟩
theorem tw9522732532351603383:True:=⟨⟩
theorem tw2358807488612181334:True:=⟨⟩
theorem tw13815325457298246340:True:=⟨⟩
theorem tw15756230547147784384:True:=⟨⟩
theorem tw18016969010272103739:True:=⟨⟩
theorem tw521655696521276630:True:=⟨⟩
theorem tw18425301100010374703:True:=⟨⟩
theorem tw6865295608080289027:True:=⟨⟩
theorem tw8483558137816149241:True:=⟨⟩
theorem tw4094446222475442928:True:=⟨⟩
theorem tw9532934074269517326:True:=⟨⟩
theorem tw13669282440741625664:True:=⟨⟩
theorem tw14354463116436350656:True:=⟨⟩
theorem tw7589617924515034541:True:=⟨⟩
theorem tw12453548629998257814:True:=⟨⟩
theorem tw6916854091968316768:True:=⟨⟩
theorem tw16764760635319473144:True:=⟨⟩
theorem tw14453186977645229975:True:=⟨⟩
theorem tw3997490687081787312:True:=⟨⟩
theorem tw2306147247083531301:True:=⟨⟩
theorem tw3447356655587709340:True:=⟨⟩
theorem tw16945495248978029980:True:=⟨⟩
theorem tw14475265322858465107:True:=⟨⟩
theorem tw14016059078652632580:True:=⟨⟩
theorem tw16000287573810013897:True:=⟨⟩
theorem tw11473500448088425749:True:=⟨⟩
theorem tw10046479590285088500:True:=⟨⟩
theorem tw7304234323938514893:True:=⟨⟩
theorem tw7452077982026865801:True:=⟨⟩
theorem tw10605659346778796080:True:=⟨⟩
theorem tw14990207010526223278:True:=⟨⟩
theorem tw5503691033441975956:True:=⟨⟩
theorem tw11881856923676127362:True:=⟨⟩
theorem tw9655287455911835695:True:=⟨⟩
theorem tw2396888358494735549:True:=⟨⟩
theorem tw1404730158603820636:True:=⟨⟩
theorem tw6492776208797767517:True:=⟨⟩
theorem tw6943642805659470537:True:=⟨⟩
theorem tw15387314700802528473:True:=⟨⟩
theorem tw15477344961453917569:True:=⟨⟩
theorem tw522516523777634614:True:=⟨⟩
theorem tw13564290093443008012:True:=⟨⟩
theorem tw10740383746569707158:True:=⟨⟩
theorem tw13381709758116783403:True:=⟨⟩
theorem tw16106085082738786877:True:=⟨⟩
theorem tw10302556563529467259:True:=⟨⟩
theorem tw5163464077450913304:True:=⟨⟩
theorem tw9391438373732318488:True:=⟨⟩
theorem tw5401366837327613496:True:=⟨⟩
theorem tw16072027212718886862:True:=⟨⟩
theorem tw5261296737592027212:True:=⟨⟩
theorem tw7580092623050253832:True:=⟨⟩
theorem tw17386037003757744003:True:=⟨⟩
theorem tw14849640788863406465:True:=⟨⟩
theorem tw16290870417172532673:True:=⟨⟩
theorem tw12083599067266656686:True:=⟨⟩
theorem tw9998736393375200966:True:=⟨⟩
theorem tw9069210890712621454:True:=⟨⟩
theorem tw17178992962951904132:True:=⟨⟩
theorem tw7535657112027602806:True:=⟨⟩
theorem tw17481269677655661610:True:=⟨⟩
theorem tw5511644838765384295:True:=⟨⟩
theorem tw11487426577773581912:True:=⟨⟩
theorem tw8232374568572713229:True:=⟨⟩
theorem tw6023305742071009419:True:=⟨⟩
theorem tw7373849823330098655:True:=⟨⟩
theorem tw18188614689393121503:True:=⟨⟩
theorem tw8913122629080602645:True:=⟨⟩
theorem tw13780363957489808386:True:=⟨⟩
theorem tw9182999593296527847:True:=⟨⟩
theorem tw3957857420769809047:True:=⟨⟩
theorem tw13376885793626979886:True:=⟨⟩
theorem tw15474171653862637580:True:=⟨⟩
theorem tw3495456425366790425:True:=⟨⟩
theorem tw12448511024167845991:True:=⟨⟩
theorem tw17804461193084242158:True:=⟨⟩
theorem tw12487519749239484604:True:=⟨⟩
theorem tw13886050179960924743:True:=⟨⟩
theorem tw12106380457911613083:True:=⟨⟩
theorem tw7071602652002674356:True:=⟨⟩
theorem tw9134776502290031667:True:=⟨⟩
theorem tw8681994131567875572:True:=⟨⟩
theorem tw14351322138245184809:True:=⟨⟩
theorem tw7383610063326511824:True:=⟨⟩
theorem tw4890638195078886522:True:=⟨⟩
theorem tw12342109195658822868:True:=⟨⟩
theorem tw5150099447452709758:True:=⟨⟩
theorem tw2643788709235792731:True:=⟨⟩
theorem tw14215695292863066614:True:=⟨⟩
theorem tw16273984103032944850:True:=⟨⟩
theorem tw17765595699950268536:True:=⟨⟩
theorem tw809915415217302802:True:=⟨⟩
theorem tw11998525214930762725:True:=⟨⟩
theorem tw2379403818101898254:True:=⟨⟩
theorem tw8019412326034809753:True:=⟨⟩
theorem tw6159620418274538157:True:=⟨⟩
theorem tw11434801982222630313:True:=⟨⟩
theorem tw14823440295470313858:True:=⟨⟩
theorem tw8387901533180876304:True:=⟨⟩
theorem tw12367273591418226342:True:=⟨⟩
theorem tw10603877966641990350:True:=⟨⟩
theorem tw3359271446292019791:True:=⟨⟩
theorem tw11369442964270674902:True:=⟨⟩
theorem tw15971201222452735747:True:=⟨⟩
theorem tw3209413308103579833:True:=⟨⟩
theorem tw5400575385934369055:True:=⟨⟩
theorem tw15839076676603521644:True:=⟨⟩
theorem tw7689543735630332162:True:=⟨⟩
theorem tw6948316893743182935:True:=⟨⟩
theorem tw16882171836182443574:True:=⟨⟩
theorem tw9871798534796253654:True:=⟨⟩
theorem tw6705163494256251803:True:=⟨⟩
theorem tw282652248941746538:True:=⟨⟩
theorem tw15160898055939866883:True:=⟨⟩
theorem tw4848167362333215873:True:=⟨⟩
theorem tw6533269267784243731:True:=⟨⟩
theorem tw16567591283601833008:True:=⟨⟩
theorem tw4586164046163710129:True:=⟨⟩
theorem tw3455414294590097956:True:=⟨⟩
theorem tw18034049333910714698:True:=⟨⟩
theorem tw428662574867973339:True:=⟨⟩
theorem tw4704595663607802209:True:=⟨⟩
theorem tw4334599940807937520:True:=⟨⟩
theorem tw13167875443701687404:True:=⟨⟩
theorem tw18180577649666419310:True:=⟨⟩
theorem tw5232157014917088025:True:=⟨⟩
theorem tw2887922093925861351:True:=⟨⟩
theorem tw6955764424765796265:True:=⟨⟩
theorem tw17365547849070494346:True:=⟨⟩
theorem tw18071804612359867147:True:=⟨⟩
theorem tw10563407102505628425:True:=⟨⟩
theorem tw9624842659219320720:True:=⟨⟩
theorem tw1724423694492904667:True:=⟨⟩
theorem tw10772533282614927104:True:=⟨⟩
theorem tw8878120142825886528:True:=⟨⟩
theorem tw2541989728526456429:True:=⟨⟩
theorem tw214311552323581847:True:=⟨⟩
theorem tw9233581245354920025:True:=⟨⟩
theorem tw10787324185680784211:True:=⟨⟩
theorem tw16498134435016465657:True:=⟨⟩
theorem tw2061551477379683173:True:=⟨⟩
theorem tw9905954521572010085:True:=⟨⟩
theorem tw6669329545001085620:True:=⟨⟩
theorem tw17421126249435370156:True:=⟨⟩
theorem tw5572134302261975550:True:=⟨⟩
theorem tw203036488881594717:True:=⟨⟩
theorem tw4306291837998891779:True:=⟨⟩
theorem tw2763912033695122998:True:=⟨⟩
theorem tw2962504200384962786:True:=⟨⟩
theorem tw10147216063695695915:True:=⟨⟩
theorem tw2168328352969433239:True:=⟨⟩
theorem tw14578140697360093596:True:=⟨⟩
theorem tw7257967872393724749:True:=⟨⟩
theorem tw3905162699262638535:True:=⟨⟩
theorem tw17188413658655379377:True:=⟨⟩
theorem tw13743962991799737113:True:=⟨⟩
theorem tw1331798769089809717:True:=⟨⟩
theorem tw5484190819909556841:True:=⟨⟩
theorem tw7853656624695657091:True:=⟨⟩
theorem tw6485035311090685102:True:=⟨⟩
theorem tw15541256597036943062:True:=⟨⟩
theorem tw10319109818893306846:True:=⟨⟩
theorem tw10068097119564601622:True:=⟨⟩
theorem tw260132662564134929:True:=⟨⟩
theorem tw12301126179646938974:True:=⟨⟩
theorem tw8932998676606780305:True:=⟨⟩
theorem tw5386074784135918839:True:=⟨⟩
theorem tw14093482279977883727:True:=⟨⟩
theorem tw14113538046200440024:True:=⟨⟩
theorem tw18070814453015782142:True:=⟨⟩
theorem tw4390931706444881913:True:=⟨⟩
theorem tw17328574971076162877:True:=⟨⟩
theorem tw16166578285665827065:True:=⟨⟩
theorem tw1428724474162838249:True:=⟨⟩
theorem tw5541825417665022960:True:=⟨⟩
theorem tw11995269303549882466:True:=⟨⟩
theorem tw14372117635162528702:True:=⟨⟩
theorem tw6559771459337911727:True:=⟨⟩
theorem tw14456723218851418743:True:=⟨⟩
theorem tw14956259425303543387:True:=⟨⟩
theorem tw9263019797169839443:True:=⟨⟩
theorem tw4178245984104813020:True:=⟨⟩
theorem tw15353036645308986110:True:=⟨⟩
theorem tw15933728374975437984:True:=⟨⟩
theorem tw14362516190399037449:True:=⟨⟩
theorem tw7945805461513041865:True:=⟨⟩
theorem tw13783548600013518957:True:=⟨⟩
theorem tw6366970838819334848:True:=⟨⟩
theorem tw3430155032337390461:True:=⟨⟩
theorem tw16901735931119598437:True:=⟨⟩
theorem tw6794204030436710518:True:=⟨⟩
theorem tw3666056440697504653:True:=⟨⟩
theorem tw15698451747845951478:True:=⟨⟩
theorem tw4861230563796879434:True:=⟨⟩
theorem tw2731310866403981834:True:=⟨⟩
theorem tw4887589144164756295:True:=⟨⟩
theorem tw15262884897386633896:True:=⟨⟩
theorem tw16335904766930429819:True:=⟨⟩
theorem tw682837885083623426:True:=⟨⟩
theorem tw11183828085210671438:True:=⟨⟩
theorem tw8457499323406419721:True:=⟨⟩
theorem tw15868537286648655881:True:=⟨⟩
theorem tw6471808128423077582:True:=⟨⟩
theorem tw2686940600746435078:True:=⟨⟩
theorem tw12884090377126357153:True:=⟨⟩
theorem tw10215548835228060159:True:=⟨⟩
theorem tw2879141194268428054:True:=⟨⟩
theorem tw1723524267493714644:True:=⟨⟩
theorem tw7241672953072986929:True:=⟨⟩
theorem tw3613630242064944039:True:=⟨⟩
theorem tw5841953135607610372:True:=⟨⟩
theorem tw3785979600392747960:True:=⟨⟩
theorem tw3894361089506764415:True:=⟨⟩
theorem tw15599665627760928382:True:=⟨⟩
theorem tw10221751246587224162:True:=⟨⟩
theorem tw3870671424337540392:True:=⟨⟩
theorem tw16092423305270267781:True:=⟨⟩
theorem tw3861781147084351862:True:=⟨⟩
theorem tw1801528144570199183:True:=⟨⟩
theorem tw7694120428838649741:True:=⟨⟩
theorem tw17315912595611315379:True:=⟨⟩
theorem tw2069714431658376287:True:=⟨⟩
theorem tw4188618770352450093:True:=⟨⟩
theorem tw16848245213193164706:True:=⟨⟩
theorem tw15717755153727013639:True:=⟨⟩
theorem tw6856766775653473742:True:=⟨⟩
theorem tw14738245427895256996:True:=⟨⟩
theorem tw14270780340466919321:True:=⟨⟩
theorem tw13696702453522975319:True:=⟨⟩
theorem tw17357067603110427708:True:=⟨⟩
theorem tw1149414703867175083:True:=⟨⟩
theorem tw4323766669015787162:True:=⟨⟩
theorem tw15171684638438504611:True:=⟨⟩
theorem tw7802102329911808538:True:=⟨⟩
theorem tw6424581428229586623:True:=⟨⟩
theorem tw8636452284096985783:True:=⟨⟩
theorem tw15874032263070928174:True:=⟨⟩
theorem tw13748923933311536360:True:=⟨⟩
theorem tw12409562590917181793:True:=⟨⟩
theorem tw4726341745302745267:True:=⟨⟩
theorem tw16922533707892483920:True:=⟨⟩
theorem tw11022801747097418609:True:=⟨⟩
theorem tw8628000769036060767:True:=⟨⟩
theorem tw17302574077152628417:True:=⟨⟩
theorem tw2658977149901068346:True:=⟨⟩
theorem tw7973804264251948554:True:=⟨⟩
theorem tw11046972217031964092:True:=⟨⟩
theorem tw16239874984915656107:True:=⟨⟩
end PySem.W.Fast
open PySem PySem.W PyProof.Rows
set_option maxRecDepth 100000 in
set_option maxHeartbeats 0 in
theorem PySem.Challenge.cw_noteworth_k52_whole_desk_and_its_book_holds : PySem.Challenge.rw_noteworth_k52_whole_desk_and_its_book.Holds := by
 w_on;o_law;k_head;(case hw=>w_witness2)
 k_fill
 refine bD.walk (l:=PySem.Challenge.rw_noteworth_k52_whole_desk_and_its_book) rfl rfl (fun w h Y=>PySem.W.kIn_of Y) ?F
 case F =>
  intro w mg fa h KX G hmg;refine bD.all_mk (t:=?t) hmg ?T
  case' t=>apply bD.Ml.mk
  case T =>
   constructor
   iterate 41 ((try dsimp only);refine' PySem.W.mg_of KX G ?_;k_is)
   iterate 14 (refine' PySem.W.mg_none_of KX G ?_;k_is)
   iterate 53 ((try dsimp only);apply bD.gE KX G;(iterate 4 k_is);(intro us e;first|(obtain rfl:=bD.HJ e;rfl)|(obtain⟨_,rfl⟩:=bD.HK e;rfl)|(obtain⟨_,_,rfl⟩:=bD.Ee e;rfl)|(obtain⟨_,_,_,rfl⟩:=bD.HL e;rfl)|(obtain⟨_,_,_,_,rfl⟩:=bD.HM e;rfl)|(obtain⟨_,_,_,_,_,rfl⟩:=bD.HN e;rfl)|(obtain⟨_,_,_,_,_,_,rfl⟩:=bD.HP e;rfl)|(obtain⟨_,_,_,_,_,_,_,rfl⟩:=bD.OC e;rfl)|(obtain⟨_,_,_,_,_,_,_,_,rfl⟩:=bD.OD e;rfl)))
   iterate 3 ((try dsimp only);apply bD.Yk KX G;(iterate 5 k_is))
   iterate 4 ((try dsimp only);apply bD.iE;(iterate 7 k_is);(intro us e;first|(obtain rfl:=bD.HJ e;rfl)|(obtain⟨_,rfl⟩:=bD.HK e;rfl)|(obtain⟨_,_,rfl⟩:=bD.Ee e;rfl)|(obtain⟨_,_,_,rfl⟩:=bD.HL e;rfl)|(obtain⟨_,_,_,_,rfl⟩:=bD.HM e;rfl)|(obtain⟨_,_,_,_,_,rfl⟩:=bD.HN e;rfl)|(obtain⟨_,_,_,_,_,_,rfl⟩:=bD.HP e;rfl)|(obtain⟨_,_,_,_,_,_,_,rfl⟩:=bD.OC e;rfl)|(obtain⟨_,_,_,_,_,_,_,_,rfl⟩:=bD.OD e;rfl)))
   iterate 17 ((try dsimp only);apply bD.mE;(iterate 5 k_is);(intro us e;first|(obtain rfl:=bD.HJ e;rfl)|(obtain⟨_,rfl⟩:=bD.HK e;rfl)|(obtain⟨_,_,rfl⟩:=bD.Ee e;rfl)|(obtain⟨_,_,_,rfl⟩:=bD.HL e;rfl)|(obtain⟨_,_,_,_,rfl⟩:=bD.HM e;rfl)|(obtain⟨_,_,_,_,_,rfl⟩:=bD.HN e;rfl)|(obtain⟨_,_,_,_,_,_,rfl⟩:=bD.HP e;rfl)|(obtain⟨_,_,_,_,_,_,_,rfl⟩:=bD.OC e;rfl)|(obtain⟨_,_,_,_,_,_,_,_,rfl⟩:=bD.OD e;rfl)))
   ((try dsimp only);apply bD.Yl;(iterate 6 k_is))
   iterate 3 ((try dsimp only);apply bD.qE;k_is;exact rfl;exact(.cons ⟨_,rfl⟩ (.cons ⟨_,rfl⟩ (.cons ⟨_,rfl⟩ .nil))))
   ((try dsimp only);apply bD.qE;k_is;exact rfl;exact(.cons ⟨_,rfl⟩ (.cons ⟨_,rfl⟩ .nil)))
   ((try dsimp only);apply bD.qE;k_is;exact rfl;exact(.cons ⟨_,rfl⟩ (.cons ⟨_,rfl⟩ (.cons ⟨_,rfl⟩ (.cons ⟨_,rfl⟩ .nil)))))
   ((try dsimp only);apply bD.qE;k_is;exact rfl;exact(.cons ⟨_,rfl⟩ (.cons ⟨_,rfl⟩ (.cons ⟨_,rfl⟩ (.cons ⟨_,rfl⟩ (.cons ⟨_,rfl⟩ .nil))))))
   ((try dsimp only);apply bD.kE;k_is;exact(.cons ⟨_,rfl⟩ (.cons ⟨_,rfl⟩ .nil));exact rfl;decide +kernel)
   ((try dsimp only);apply bD.kE;k_is;exact(.cons ⟨_,rfl⟩ (.cons ⟨_,rfl⟩ (.cons ⟨_,rfl⟩ (.cons ⟨_,rfl⟩ (.cons ⟨_,rfl⟩ (.cons ⟨_,rfl⟩ (.cons ⟨_,rfl⟩ (.cons ⟨_,rfl⟩ (.cons ⟨_,rfl⟩ .nil)))))))));exact rfl;decide +kernel)
   ((try dsimp only);apply bD.kE;k_is;exact(.cons ⟨_,rfl⟩ (.cons ⟨_,rfl⟩ .nil));exact rfl;decide +kernel)
   ((try dsimp only);apply bD.qE;k_is;exact rfl;exact(.cons ⟨_,rfl⟩ (.cons ⟨_,rfl⟩ (.cons ⟨_,rfl⟩ (.cons ⟨_,rfl⟩ (.cons ⟨_,rfl⟩ (.cons ⟨_,rfl⟩ (.cons ⟨_,rfl⟩ (.cons ⟨_,rfl⟩ (.cons ⟨_,rfl⟩ (.cons ⟨_,rfl⟩ .nil)))))))))))
   ((try dsimp only);apply bD.kE;k_is;exact(.cons rfl (.cons rfl .nil));exact rfl;decide +kernel)
   ((try dsimp only);apply bD.kE;k_is;exact(.cons rfl (.cons rfl (.cons rfl (.cons rfl (.cons rfl (.cons rfl (.cons rfl (.cons rfl (.cons rfl (.cons rfl .nil))))))))));exact rfl;decide +kernel)
   ((try dsimp only);apply bD.qE;k_is;exact rfl;exact(.cons ⟨_,rfl⟩ .nil))
   ((try dsimp only);apply bD.qE;k_is;exact rfl;exact(.cons ⟨_,rfl⟩ (.cons ⟨_,rfl⟩ (.cons ⟨_,rfl⟩ (.cons ⟨_,rfl⟩ (.cons ⟨_,rfl⟩ .nil))))))
   ((try dsimp only);apply bD.qE;k_is;exact rfl;exact(.cons ⟨_,rfl⟩ .nil))
   ((try dsimp only);apply bD.qE;k_is;exact rfl;exact(.cons ⟨_,rfl⟩ (.cons ⟨_,rfl⟩ (.cons ⟨_,rfl⟩ .nil))))
   ((try dsimp only);apply bD.qE;k_is;exact rfl;exact(.cons ⟨_,rfl⟩ (.cons ⟨_,rfl⟩ .nil)))
   ((try dsimp only);apply bD.qE;k_is;exact rfl;exact(.cons ⟨_,rfl⟩ (.cons ⟨_,rfl⟩ (.cons ⟨_,rfl⟩ .nil))))
   iterate 2 ((try dsimp only);apply bD.qE;k_is;exact rfl;exact .nil)
   iterate 2 ((try dsimp only);apply bD.qE;k_is;exact rfl;exact(.cons ⟨_,rfl⟩ .nil))
   ((try dsimp only);apply bD.kE;k_is;exact(.cons rfl (.cons rfl (.cons rfl (.cons rfl (.cons rfl (.cons rfl (.cons rfl (.cons rfl (.cons rfl (.cons rfl .nil))))))))));exact rfl;decide +kernel)
   iterate 4 ((try dsimp only);constructor;(iterate 4 k_is))
   iterate 11 ((try dsimp only);show _=some none;k_is)
   iterate 10 ((try dsimp only);constructor;(apply L2.Qq.mk;k_is;kernel_rfl;k_is;kernel_rfl);(iterate 3 k_is))
   iterate 10 ((try dsimp only);kts_exm)
