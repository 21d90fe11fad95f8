import PyProof.Rows.All
import Wide.All
import OpenK.AllK
import Wide.FinOn
import Lean
import PyProof.EqAt
import PyProof.EqKinds
import PyProof.TupleCall
import PySem.Challenge.RW_noteworth_k34_whole_way_back
set_option Elab.async false
set_option linter.all false
set_option maxRecDepth 100000
open PySem.W (Frag OpenLaw WalkO callWith_K callWith_K0 codeIn emptyDict excIn exmOne exm_one findIn fnOf handedIn hasDictIn hideAll hideAll_get hideAll_none instObj isFn keepIn kia_one kitOne kitx_dict kitx_list lookIn makesIn methodCall_KW methodObj mg_none_of mg_of mroIn nsIn of_hideAll plainGet plainGet_of plainOver specialIn takerIn)
open List (length_map length_append length_take length_drop mem_append mem_singleton mem_cons_self mem_cons_of_mem mem_append_left mem_append_right mem_of_getElem? size_toArray take_length getElem?_map map_append map_cons length_cons take_succ getElem?_eq_getElem mem_map any_eq_true all_eq_true length_reverse getElem?_drop append_nil nil_append getElem?_of_mem)
open PySem.F (args_dict_get_3 entry_dict_get entry_zip_next plainAttrs_dict plainAttrs_list slot_dict_get slot_dict_pop slot_enumerate_next slot_list_pop slot_zip_next type_dict_get type_list_pop)
local macro_rules | `(tactic| lk) => `(tactic| decide +kernel)
local macro_rules | `(tactic| z_go) => `(tactic| first | (exact fun _ _ _ _ _ _ us hl => match us, hl with | [_], _ => rfl) | (exact fun _ _ _ _ _ _ us hl => match us, hl with | [_, _], _ => rfl) | (exact fun _ _ _ _ _ _ us hl => match us, hl with | [_, _, _], _ => rfl) | (exact fun _ _ _ _ _ _ us hl => match us, hl with | [_, _, _, _], _ => rfl) | (exact fun _ _ _ _ _ _ us hl => match us, hl with | [_, _, _, _, _], _ => rfl) | (exact fun _ _ _ _ _ _ us hl => match us, hl with | [_, _, _, _, _, _], _ => rfl))
namespace L2
open PySem PySem.Spec PyProof.Rows
abbrev Key:=Sum Int Str
def Mn:Key->Value->Bool
 |.inl k,v=>Value.isInt k v
 |.inr x,v=>Value.isStrOf x v
def alK (w:World):Key->Int
 |.inl k=>hashInt k
 |.inr x=>hashStr w x
theorem eK:∀{k:Key} {v:Value},Mn k v=true->(∃ i t,k=Sum.inl i/\v=Value.int i t)\/(∃ x t,k=Sum.inr x/\v=Value.str x t)
 |.inl i,v,h=>by
  obtain⟨t,e⟩:=Value.isInt_shape (k:=i) (v:=v) h;exact .inl ⟨i,t,rfl,e⟩
 |.inr x,v,h=>by
  obtain⟨t,e⟩:=Value.isStrOf_shape (x:=x) (v:=v) h;exact .inr ⟨x,t,rfl,e⟩
theorem abm (i:Int)(t:Tok):Mn (.inl i) (.int i t)=true:=by simp[Mn,Value.isInt]
theorem abn (x:Str)(t:Tok):Mn (.inr x) (.str x t)=true:=by simp[Mn,Value.isStrOf]
theorem ahG (a b:Int):decide ((Sum.inl a:Key)=Sum.inl b)=(a==b):=by
 by_cases e:a=b
 ·subst e;simp
 ·have h:¬(Sum.inl a:Key)=Sum.inl b:=fun q=>e (Sum.inl.inj q);rw[decide_eq_false h];exact(beq_eq_false_iff_ne.mpr e).symm
theorem ahH (a b:Str):decide ((Sum.inr a:Key)=Sum.inr b)=decide (a=b):=by
 by_cases e:a=b
 ·subst e;simp
 ·have h:¬(Sum.inr a:Key)=Sum.inr b:=fun q=>e (Sum.inr.inj q);rw[decide_eq_false h,decide_eq_false e]
theorem ahI (a:Int)(b:Str):decide ((Sum.inl a:Key)=Sum.inr b)=false:=decide_eq_false (fun q=>nomatch q)
theorem ahJ (a:Str)(b:Int):decide ((Sum.inr a:Key)=Sum.inl b)=false:=decide_eq_false (fun q=>nomatch q)
def cD (prog:Program)(w:World):PySem.KeyKind prog w Key where
 is:=Mn
 hash:=alK w
 inj:=fun v a b ha hb=>by
  rcases eK ha with ⟨i,t,rfl,rfl⟩|⟨x,t,rfl,rfl⟩
  ·rcases eK hb with ⟨j,u,rfl,e⟩|⟨y,u,rfl,e⟩
   ·injection e with e1 _;rw[e1]
   ·exact nomatch e
  ·rcases eK hb with ⟨j,u,rfl,e⟩|⟨y,u,rfl,e⟩
   ·exact nomatch e
   ·injection e with e1 _;rw[e1]
 byValue:=fun k v h=>by
  rcases eK h with ⟨i,t,rfl,rfl⟩|⟨x,t,rfl,rfl⟩ <;> rfl
 pyHash:=fun hv h=>by
  rcases eK hv with ⟨i,t,rfl,rfl⟩|⟨x,t,rfl,rfl⟩
  ·exact wpAny_pyHash_int h
  ·exact wpAny_pyHash_str h
 eqBool:=fun hu hv h=>by
  rcases eK hu with ⟨i,t,rfl,rfl⟩|⟨x,t,rfl,rfl⟩
  ·rcases eK hv with ⟨j,u,rfl,rfl⟩|⟨y,u,rfl,rfl⟩
   ·rw[ahG]at h;exact wpAny_eqBool_int h
   ·rw[ahI]at h;exact SeqAt.EqAt.int_str i t y u _ _ _ _ h
  ·rcases eK hv with ⟨j,u,rfl,rfl⟩|⟨y,u,rfl,rfl⟩
   ·rw[ahJ]at h;exact SeqAt.EqAt.str_int x t j u _ _ _ _ h
   ·rw[ahH]at h;exact wpAny_eqBool_str h
 «strs»:=fun k x t v h=>by
  rcases eK h with ⟨i,u,rfl,e⟩|⟨y,u,rfl,e⟩
  ·exact nomatch e
  ·injection e with e1 _
   subst e1;cases v <;> rfl
theorem UX (prog:Program)(w:World)(i:Int)(t:Tok):(cD prog w).is (.inl i) (.int i t)=true:=abm i t
theorem kY (prog:Program)(w:World)(x:Str)(t:Tok):(cD prog w).is (.inr x) (.str x t)=true:=abn x t
end L2
namespace L2
open PySem PySem.Spec PyProof.Rows
inductive V where
 |non|bl (b:Bool)|int (i:Int)|str (x:Str)|byt (b:Array UInt8)|flt (b:UInt64)|ref (a:Addr)|ty (n:String)
 deriving DecidableEq
def RelV:V->Value->Prop
 |.non,u=>u=Value.none
 |.bl b,u=>u=Value.bool b
 |.int i,u=>∃ t,u=Value.int i t
 |.str x,u=>∃ t,u=Value.str x t
 |.byt b,u=>∃ t,u=Value.bytes b t
 |.flt b,u=>∃ t,u=Value.float b t
 |.ref a,u=>u=Value.ref a
 |.ty n,u=>u=Value.type n
abbrev Vals:List V->List Value->Prop:=Paired RelV
theorem Vals.length {xs:List V}{us:List Value}(r:Vals xs us):xs.length=us.length:=Paired.length r
theorem Vals.get:∀{xs:List V} {us:List Value} {i:Nat} {x:V},Vals xs us->xs[i]? = some x->∃ u,us[i]? = some u/\RelV x u
 |_,_,_,_,.nil,e=>by simp at e
 |_,_,0,_,.cons r _,e=>by simp at e;subst e;exact⟨_,rfl,r⟩
 |_,_,i+1,x,.cons _ t,e=>by
  obtain⟨u,h1,h2⟩:=Vals.get (i:=i) (x:=x) t (by simpa using e);exact⟨u,by simpa using h1,h2⟩
theorem Vals.set {x:V}{u:Value}(r:RelV x u):∀{xs:List V} {us:List Value} (i:Nat),Vals xs us->Vals (xs.set i x) (us.set i u)
 |_,_,_,.nil=>.nil
 |_,_,0,.cons _ t=>.cons r t
 |_,_,i+1,.cons q t=>.cons q (Vals.set r i t)
theorem Vals.append:∀{xs ys:List V} {us ws:List Value},Vals xs us->Vals ys ws->Vals (xs++ys) (us++ws)
 |_,_,_,_,.nil,s=>s
 |_,_,_,_,.cons r t,s=>.cons r (Vals.append t s)
theorem Vals.take:∀{xs:List V} {us:List Value} (n:Nat),Vals xs us->Vals (xs.take n) (us.take n)
 |_,_,0,_=>.nil
 |_,_,_+1,.nil=>.nil
 |_,_,n+1,.cons r t=>.cons r (Vals.take n t)
theorem Vals.drop:∀{xs:List V} {us:List Value} (n:Nat),Vals xs us->Vals (xs.drop n) (us.drop n)
 |_,_,0,r=>r
 |_,_,_+1,.nil=>.nil
 |_,_,n+1,.cons _ t=>Vals.drop n t
def pR:Option V->Option Value->Prop
 |some v,some u=>RelV v u
 |none,none=>True
 |_,_=>False
def KV {κ:Type}:List (κ×V)->List (κ×Value)->Prop:=Paired fun(p:κ×V)(q:κ×Value)=>p.1=q.1/\RelV p.2 q.2
def kV:Key->V
 |.inl i=>.int i
 |.inr x=>.str x
inductive HO where
 /-- a list -/
 |lst (xs:List V)
 /-- a tuple (never changes) -/
 |tup (xs:List V)
 /-- a dict whose keys are ints and texts;one whose keys are tuples of ints and texts (the empty one is both) -/
 |dK (kvs:List (Key×V))|dT (kvs:List (List Key×V))
 /-- a set of ints: its members,its size -/
 |set (S:Int->Bool) (n:Nat)
 /-- an instance of the class at C,its dict at dx,its attributes -/
 |ins (C dx:Addr) (fs:List (Str×V))
 /-- the dict of the instance at x -/
 |own (x:Addr)
 /-- the dict of an exception -/
 |xd (fs:List (Str×V))
 /-- a bound method,f of x -/
 |met (f x:Addr)
 /-- a range object lo,lo+1,.. below hi -/
 |rng (lo hi:Int)
 /-- a thing that is known to the object (the script;a dict while a loop walks it): read,never written while it is so -/
 |frz (o:Obj) (u:HO)
 /-- a code object's table -/
 |tbl (ps:Array Value)
 /-- any other thing,by what is true of its one object (a def of one's own: aoH a S n:=HO.ext fun h=>..) -/
 |ext (φ:Heap->Prop)
abbrev Hp:=Addr->Option HO
def upd (H:Hp)(a:Addr)(o:HO):Hp:=fun b=>if b=a then some o else H b
theorem ae {H:Hp}{a:Addr}{o:HO}:upd H a o a=some o:=by unfold upd;rw[if_pos rfl]
theorem ak {H:Hp}{a b:Addr}{o:HO}(h:b≠a):upd H a o b=H b:=by unfold upd;rw[if_neg h]
theorem dS {H:Hp}{a:Addr}{o u:HO}:upd (upd H a o) a u=upd H a u:=by
 funext b;unfold upd;split <;> rfl
theorem j3 {H:Hp}{a b:Addr}{o u:HO}(h:H a=some o)(h':H b=some u)(d:o≠u):a≠b:=by
 intro e;subst e;rw[h]at h';exact d (Option.some.inj h')
theorem ao {H:Hp}{a b:Addr}{o:HO}(h:H a=some o)(h':H b=none):a≠b:=by
 intro e;subst e;rw[h]at h';cases h'
section
variable (P:Program) (w:World)
def gQ (H:Hp)(h:Heap)(a:Addr):HO->Prop
 |.lst xs=>xs.length<=sizeLine/\∃(its:List Value)(n:Nat),Vals xs its/\h.get? a=some { cls:=.type "list",data:=.seq its.toArray n }
 |.tup xs=>xs.length<=sizeLine/\∃ its:List Value,Vals xs its/\IsTup h a its.toArray
 |.dK kvs=>kvs.length<=sizeLine/\(a==sysModules)=false/\∃ vs,KV kvs vs/\h.DictOf (cD P w) a vs
 |.dT kvs=>kvs.length<=sizeLine/\(a==sysModules)=false/\∃ xs:List (List Key×Addr×Value),
   Paired (fun(p:List Key×V)(q:List Key×Addr×Value)=>p.1=q.1/\H q.2.1=some (.tup (p.1.map kV))/\RelV p.2 q.2.2) kvs xs /\
   ∃ o es ep,h.get? a=some o/\o.ExactDict/\o.data=.dict es ep/\es.toList=xs.map (entryOfKey (tupleKind (cD P w)))/\(xs.map (·.1)).Nodup
 |.set S n=>h.SetOf (intKind P w) a S n
 |.ins C dx fs=>H dx=some (.own a)/\fs.length<=1000/\dx≠a/\h.get? a=some (instObj C dx) /\
   ∃ mA,h.Ns1 dx mA/\(∀ f,pR (fs.lookup f) (mA f))/\PySem.Within mA (fs.map (·.1))
 |.own _=>∃ o,h.get? a=some o
 |.xd fs=>∃ mA,h.Ns1 a mA/\∀ f,pR (fs.lookup f) (mA f)
 |.rng lo hi=>∃ t u v,h.get? a=some { cls:=.type "range",data:=.fields #[.int lo t,.int hi u,.int 1 v] }
 |.frz o u=>h.get? a=some o/\gQ H h a u
 |.tbl ps=>h.get? a=some { cls:=.none,data:=.fields ps }
 |.met f x=>h.get? a=some (methodObj (.ref f) (.ref x))
 |.ext φ=>φ h/\(∃ o,h.get? a=some o)/\∀ h1 h2:Heap,φ h1->(∀ o,h1.get? a=some o->h2.get? a=some o)->φ h2
def yk (H:Hp)(h:Heap):Prop:=∀ a o,H a=some o->gQ P w H h a o
end
section
variable {P:Program} {w:World} {H H':Hp} {h h':Heap} {a:Addr} {o:HO}
theorem gQ.lt (x:gQ P w H h a o):a<h.objs.size:=by
 cases o with
 |lst xs=>obtain⟨_,_,_,_,e⟩:=x;exact Heap.lt_size e
 |tup xs=>obtain⟨_,_,_,p⟩:=x;exact p.lt
 |dK kvs=>obtain⟨_,_,_,_,o,_,_,e,_⟩:=x;exact Heap.lt_size e
 |dT kvs=>obtain⟨_,_,_,_,o,_,_,e,_⟩:=x;exact Heap.lt_size e
 |set S n=>obtain⟨o,_,_,_,e,_⟩:=x;exact Heap.lt_size e
 |ins C dx fs=>obtain⟨_,_,_,e,_⟩:=x;exact Heap.lt_size e
 |own y=>obtain⟨_,e⟩:=x;exact Heap.lt_size e
 |xd fs=>obtain⟨_,⟨_,_,_,e,_⟩,_⟩:=x;exact Heap.lt_size e
 |rng lo hi=>obtain⟨_,_,_,e⟩:=x;exact Heap.lt_size e
 |frz ob u=>obtain⟨e,_⟩:=x;exact Heap.lt_size e
 |tbl ps=>exact Heap.lt_size (show h.get? a=some _ from x)
 |met f y=>exact Heap.lt_size (show h.get? a=some _ from x)
 |ext φ=>obtain⟨_,⟨_,e⟩,_⟩:=x;exact Heap.lt_size e
theorem Paired.ahL {α β:Type}{F G:α->β->Prop}:∀{l₁:List α} {l₂:List β},Paired F l₁ l₂->(∀ a b,F a b->G a b)->Paired G l₁ l₂
 |_,_,.nil,_=>.nil
 |_,_,.cons r t,f=>.cons (f _ _ r) (Paired.ahL t f)
theorem gQ.stay (x:gQ P w H h a o)(k:∀ b u,(b=a\/H b=some (.own a))->h.get? b=some u->h'.get? b=some u)
  (ho:∀ b,H b=some (.own a)->H' b=some (.own a)) (ht:∀ b xs,H b=some (.tup xs)->H' b=some (.tup xs)):gQ P w H' h' a o:=by
 induction o with
 |lst xs=>obtain⟨z,its,n,r,e⟩:=x;exact⟨z,its,n,r,k _ _ (.inl rfl) e⟩
 |tup xs=>obtain⟨z,its,r,ob,e,c⟩:=x;exact⟨z,its,r,ob,k _ _ (.inl rfl) e,c⟩
 |dK kvs=>obtain⟨z,y,vs,r,ob,es,ep,e,c⟩:=x;exact⟨z,y,vs,r,ob,es,ep,k _ _ (.inl rfl) e,c⟩
 |dT kvs =>
  obtain⟨z,y,xs,r,ob,es,ep,e,c⟩:=x;exact⟨z,y,xs,Paired.ahL r fun p q z=>⟨z.1,ht _ _ z.2.1,z.2.2⟩,ob,es,ep,k _ _ (.inl rfl) e,c⟩
 |set S n=>obtain⟨ob,es,ep,t,e,c⟩:=x;exact⟨ob,es,ep,t,k _ _ (.inl rfl) e,c⟩
 |ins C dx fs =>
  obtain⟨d,z,ne,e,mA,⟨od,es,ep,e2,c⟩,r⟩:=x;exact⟨ho _ d,z,ne,k _ _ (.inl rfl) e,mA,⟨od,es,ep,k _ _ (.inr d) e2,c⟩,r⟩
 |own y=>obtain⟨ob,e⟩:=x;exact⟨ob,k _ _ (.inl rfl) e⟩
 |xd fs=>obtain⟨mA,⟨od,es,ep,e,c⟩,r⟩:=x;exact⟨mA,⟨od,es,ep,k _ _ (.inl rfl) e,c⟩,r⟩
 |rng lo hi=>obtain⟨t,u,v,e⟩:=x;exact⟨t,u,v,k _ _ (.inl rfl) e⟩
 |frz ob u ih=>obtain⟨e,q⟩:=x;exact⟨k _ _ (.inl rfl) e,ih q⟩
 |tbl ps =>
  have e:h.get? a=some { cls:=.none,data:=.fields ps }:=x;show h'.get? a=some { cls:=.none,data:=.fields ps };exact k a _ (.inl rfl) e
 |met f y =>
  have e:h.get? a=some (methodObj (.ref f) (.ref y)):=x;show h'.get? a=some (methodObj (.ref f) (.ref y));exact k a _ (.inl rfl) e
 |ext φ=>obtain⟨p,⟨o,e⟩,st⟩:=x;exact⟨st _ _ p fun o q=>k _ _ (.inl rfl) q,⟨o,k _ _ (.inl rfl) e⟩,st⟩
theorem yk.lt (x:yk P w H h)(e:H a=some o):a<h.objs.size:=(x a o e).lt
theorem yk.fresh (x:yk P w H h)(e:h.objs.size<=a):H a=none:=by
 cases q:H a with
 |none=>rfl
 |some u=>exact absurd (Nat.lt_of_lt_of_le (x.lt q) e) (Nat.lt_irrefl _)
theorem yk.kept (x:yk P w H h)(k:∀ b u,h.get? b=some u->h'.get? b=some u):yk P w H h':=fun a o e =>
 (x a o e).stay (fun b u _ q=>k b u q) (fun _ q=>q) fun _ _ q=>q
theorem yk.laid (x:yk P w H h)(k:∀ b u,h.get? b=some u->h'.get? b=some u)(hp:h.objs.size<=a)(new:gQ P w (upd H a o) h' a o):yk P w (upd H a o) h':=fun b u e=>by
 have hn:=x.fresh hp
 by_cases hb:b=a
 ·subst hb;rw[ae]at e;cases e;exact new
 ·rw[ak hb]at e;exact(x b u e).stay (fun c v _ q=>k c v q) (fun c q=>by rw[ak (ao q hn)];exact q) fun c xs q=>by rw[ak (ao q hn)];exact q
end
def Rd (H:Hp)(a:Addr)(u:HO):Prop:=H a=some u\/∃ o,H a=some (.frz o u)
theorem Rd.ok {P:Program}{w:World}{H:Hp}{h:Heap}{a:Addr}{u:HO}(r:Rd H a u)(x:yk P w H h):gQ P w H h a u:=by
 rcases r with r|⟨o,r⟩
 ·exact x a u r
 ·obtain⟨_,q⟩:=x a _ r;exact q
def Mut:Option HO->Prop
 |some (.lst _)=>True
 |some (.dK _)=>True
 |some (.dT _)=>True
 |some (.set _ _)=>True
 |some (.ins _ _ _)=>True
 |some (.ext _)=>True
 |_=>False
section
variable {P:Program} {w:World} {H:Hp} {h h':Heap} {x e:Addr} {o':HO}
theorem yk.write (ok:yk P w H h)(mu:Mut (H x))(he:e=x\/H e=some (.own x))(k:∀ b u,b≠e->h.get? b=some u->h'.get? b=some u)(heo:∃ u,h'.get? e=some u)
  (new:gQ P w (upd H x o') h' x o'):yk P w (upd H x o') h':=fun b u q=>by
 have ajy:∀ c y,H c=some (.own y)->c≠x:=fun c y r z=>by subst z;rw[r]at mu;exact mu
 have alM:∀ c xs,H c=some (.tup xs)->c≠x:=fun c xs r z=>by subst z;rw[r]at mu;exact mu
 by_cases hb:b=x
 ·subst hb;rw[ae]at q;cases q;exact new
 ·rw[ak hb]at q
  by_cases hbe:b=e
  ·have q':H b=some (.own x):=by
    rcases he with z|z
    ·exact absurd (hbe.trans z) hb
    ·rw[hbe];exact z
   rw[q]at q';cases q';obtain⟨v,hv⟩:=heo;exact⟨v,by rw[hbe];exact hv⟩
  ·refine(ok b u q).stay (fun c v hc r=>k c v ?_ r) (fun c r=>by rw[ak (ajy c b r)];exact r) fun c xs r=>by rw[ak (alM c xs r)];exact r
   rcases hc with rfl|hc
   ·exact hbe
   ·rintro rfl;rcases he with z|z
    ·exact ajy c b hc z
    ·rw[hc]at z;cases z;exact hb rfl
end
structure Un (fs ex:List Addr)(H H':Hp)(h h':Heap):Prop where
 keep:∀ b o,h.get? b=some o->H b=none->b ∉ fs->b ∉ ex->h'.get? b=some o
 slot:∀ b o,h.get? b=some o->H b=none->b∈fs->b ∉ ex->∃ sl,h'.get? b=some { o with slots:=sl }
 free:∀ b o,h.get? b=some o->H b=none->b ∉ ex->H' b=none
 there:∀ b o,h.get? b=some o->b ∉ ex->∃ o',h'.get? b=some o'
 tups:∀ b xs,H b=some (.tup xs)->H' b=some (.tup xs)
 Mo:∀ b o u,H b=some (.frz o u)->H' b=some (.frz o u)
 Pd:∀ b ps,H b=some (.tbl ps)->∃ more,H' b=some (.tbl (ps++more))
section
variable {fs fs' ex ex':List Addr} {H H1 H2:Hp} {h h1 h2 h':Heap} {a x e:Addr} {o:HO}
theorem Un.any (u:Un fs ex H H1 h h1){b:Addr}{ob:Obj}(q:h.get? b=some ob)(n:H b=none)(hx:b ∉ ex):∃ sl,h1.get? b=some { ob with slots:=sl }:=by
 by_cases hb:b∈fs
 ·exact u.slot b ob q n hb hx
 ·exact⟨ob.slots,u.keep b ob q n hb hx⟩
theorem Un.kept (k:∀ b u,h.get? b=some u->h'.get? b=some u):Un fs ex H H h h' :=
 ⟨fun b ob q _ _ _=>k b ob q,fun b ob q _ _ _=>⟨ob.slots,k b ob q⟩,fun _ _ _ n _=>n,fun b ob q _=>⟨ob,k b ob q⟩,fun _ _ q=>q,fun _ _ _ q=>q,fun _ ps q=>⟨#[],by rw[q];simp⟩⟩
theorem Un.refl:Un fs ex H H h h:=Un.kept fun _ _ q=>q
theorem Un.laid (k:∀ b u,h.get? b=some u->h'.get? b=some u)(hp:h.objs.size<=a)(hn:H a=none):Un fs ex H (upd H a o) h h' where
 keep:=fun b u q _ _ _=>k b u q
 slot:=fun b u q _ _ _=>⟨u.slots,k b u q⟩
 free:=fun b u q n _=>by rw[ak (Nat.ne_of_lt (Nat.lt_of_lt_of_le (Heap.lt_size q) hp))];exact n
 there:=fun b u q _=>⟨u,k b u q⟩
 tups:=fun b xs q=>by rw[ak (ao q hn)];exact q
 Mo:=fun b u xs q=>by rw[ak (ao q hn)];exact q
 Pd:=fun b ps q=>⟨#[],by rw[ak (ao q hn),q];simp⟩
theorem Un.write (mu:Mut (H x))(he:e=x\/H e=some (.own x))(k:∀ b u,b≠e->h.get? b=some u->h'.get? b=some u)(heo:∃ u,h'.get? e=some u):Un fs ex H (upd H x o) h h':=by
 have hx:∀ b,H b=none->b≠x:=fun b n z=>by subst z;rw[n]at mu;exact mu
 have hb:∀ b,H b=none->b≠e:=fun b n z=>by
  subst z;rcases he with r|r
  ·exact hx b n r
  ·rw[n]at r;cases r
 have hm:∀ b u,H b=some u->¬ Mut (some u)->b≠x:=fun b u q nm z=>by subst z;rw[q]at mu;exact nm mu
 refine⟨fun b u q n _ _=>k b u (hb b n) q,fun b u q n _ _=>⟨u.slots,k b u (hb b n) q⟩,fun b u q n _=>by rw[ak (hx b n)];exact n,fun b u q _=>?_,
  fun b xs q=>by rw[ak (hm b _ q fun z=>z)];exact q,fun b u xs q=>by rw[ak (hm b _ q fun z=>z)];exact q,fun b ps q=>⟨#[],by rw[ak (hm b _ q fun z=>z),q];simp⟩⟩
 by_cases hbe:b=e
 ·subst hbe;exact heo
 ·exact⟨u,k b u hbe q⟩
end
def trk (h:Heap)(H:Hp):List Addr:=(List.range h.objs.size).filter fun a=>(H a).isSome
def QS (h:Heap)(H:Hp):Heap:=hideAll h (trk h H)
theorem abo (h:Heap)(H:Hp):(QS h H).objs.size=h.objs.size:=PySem.W.hideAll_size _ _
theorem adi {h:Heap}{H:Hp}{b:Addr}{o:Obj}(e:h.get? b=some o)(n:H b=none):(QS h H).get? b=some o :=
 hideAll_get _ e fun hm=>by
  have q:(H b).isSome=true:=(List.mem_filter.mp hm).2;rw[n]at q;simp at q
theorem afH {h:Heap}{H:Hp}{b:Addr}{o:Obj}(e:(QS h H).get? b=some o):h.get? b=some o/\H b=none:=by
 have e':h.get? b=some o:=of_hideAll (trk h H) e;refine⟨e',?_⟩;cases q:H b with
 |none=>rfl
 |some x =>
  have hm:b∈trk h H:=List.mem_filter.mpr ⟨List.mem_range.mpr (Heap.lt_size e'),by simp[q]⟩;have z:(QS h H).get? b=none:=hideAll_none (trk h H) hm;rw[z]at e;cases e
def afI (g h:Heap)(L:Addr):List (Addr×Obj):=(List.range h.objs.size).filterMap fun a=>if a=L\/(g.get? a).isSome=true then none else(h.get? a).map fun o=>(a,o)
def rest (g h:Heap)(L d:Addr):List (Addr×Obj):=(afI g h L).filter fun p=>decide (p.1≠d)
end L2
namespace L2
open PySem PySem.Spec PyProof.Rows
structure Mod (K:Frag)(mg:Str->Option Value)(base:Heap):Prop where
 kin:K.In base
 glob:base.Ns mainGlobals mg
 blt:∃ mb,base.Ns builtinsNs mb/\∀ x:Str,x ≠ "__name__"->mb x=bootBuiltins x
 nolimit:base.NoLimit
structure Cx where
 prog:Program
 w:World
 K:Frag
 mg:Str->Option Value
 base:Heap
 A:Around
 N:List Str
 s₀:Shared
 H₀:Hp
 env:Env
 outer:List Env
 stack:List Env
 ex:List Addr
 fn:Str->Bool
 calm:Bool
 pn:List (Addr×Obj)
 xe:Value->Shared->Prop
def frs (l:List Env):List Addr:=l.filterMap (·.frame)
abbrev Cx.fs (X:Cx):List Addr:=frs X.outer
def Vis (sc:Scope)(x:Str):Prop:=sc.names.lookup x=some .local\/sc.names.lookup x=some .cell\/sc.names.lookup x=some .free
def Loc (sc:Scope)(x:Str):Prop:=sc.names.lookup x=some .local\/sc.names.lookup x=some .cell
def Look (env:Env)(h:Heap)(m:Str->Option Value)(x:Str)(u:Value):Prop :=
 (env.kindOf x=some .local/\m x=some u)\/((env.kindOf x=some .cell\/env.kindOf x=some .free)/\∃ c,env.cells.lookup x=some c/\h.IsCell c (some u))
structure Cx.Ok (X:Cx):Prop where
 mod:Mod X.K X.mg X.base
 kind:X.env.scope.kind=.function
 glob:X.env.globals=mainGlobals
 blt:X.env.builtins=builtinsNs
 above:X.s₀.heap.objs.size<=X.env.locals
 inj:∀ x y c,X.env.cells.lookup x=some c->X.env.cells.lookup y=some c->x=y
 has:∀ x,(X.env.kindOf x=some .cell\/X.env.kindOf x=some .free)->∃ c,X.env.cells.lookup x=some c
 cab:∀ x c,X.fn x=true->X.env.cells.lookup x=some c->X.s₀.heap.objs.size<=c
 hd:X.calm=true->X.A.handled=none
 frames:X.A.frames=some X.stack
 stk:X.stack=X.outer\/(X.stack=X.env::X.outer/\X.env.frame=some X.env.locals)
 exf:∀ b∈X.ex,b≠X.env.locals/\∀ x c,X.env.cells.lookup x=some c->c≠b
 bs:∀ b o,X.base.get? b=some o->X.s₀.heap.get? b=some o/\X.H₀ b=none
 bsz:X.base.objs.size<=X.s₀.heap.objs.size
 W0:∀ b o,X.base.get? b=some o->b ∉ X.ex
 W2:∀ b∈X.ex,b ∉ X.fs
 DZ:X.s₀.heap.FunFrames X.base X.outer
 frf:∀ b∈X.fs,X.H₀ b=none
structure Inv (X:Cx)(pins:List (Addr×Obj))(σ:List (Option V))(H:Hp)(s:Shared):Prop where
 ok:X.Ok
 os:s.os=X.s₀.os
 bare:AllBare s.gens
 base:Un X.fs X.ex X.H₀ H X.s₀.heap s.heap
 loc:∃ m,s.heap.Ns X.env.locals m/\∀(i:Nat)(x:Str)(v:V),X.N[i]? = some x->σ[i]? = some (some v)->Vis X.env.scope x->∃ u,RelV v u/\Look X.env s.heap m x u
 cell:∀ x c,X.env.cells.lookup x=some c->∃ v,s.heap.IsCell c v
 free:H X.env.locals=none
 sX:∀ x c,X.env.cells.lookup x=some c->H c=none
 pin:∀ p∈X.pn++pins,s.heap.get? p.1=some p.2/\H p.1=none/\p.1≠X.env.locals/\p.1 ∉ X.fs/\∀ v,p.2.data≠.cell v
 hok:yk X.prog X.w H s.heap
 len:σ.length=X.N.length
section
variable {X:Cx} {pins:List (Addr×Obj)} {σ:List (Option V)} {H H':Hp} {s:Shared} {h':Heap}
theorem Cx.Ok.alN (ok:X.Ok){b:Addr}{o:Obj}(e:X.base.get? b=some o):b ∉ X.fs:=fun hb=>by
 have:=(ok.DZ.mem hb).1;rw[e]at this;cases this
theorem Inv.bs (I:Inv X pins σ H s):∀ b o,X.base.get? b=some o->s.heap.get? b=some o/\H b=none:=fun b o e =>
 ⟨I.base.keep b o (I.ok.bs b o e).1 (I.ok.bs b o e).2 (I.ok.alN e) (I.ok.W0 b o e),I.base.free b o (I.ok.bs b o e).1 (I.ok.bs b o e).2 (I.ok.W0 b o e)⟩
theorem Inv.bk (I:Inv X pins σ H s):∀ b o,X.base.get? b=some o->s.heap.get? b=some o:=fun b o e=>(I.bs b o e).1
theorem Inv.mod (I:Inv X pins σ H s):Mod X.K X.mg X.base:=I.ok.mod
theorem Inv.yi (I:Inv X pins σ H s):X.K.In s.heap:=I.ok.mod.kin.keeps I.bk
theorem Inv.lt (I:Inv X pins σ H s):X.env.locals<s.heap.objs.size:=let ⟨_,hn,_⟩:=I.loc;hn.lt
theorem Inv.sz (I:Inv X pins σ H s):X.s₀.heap.objs.size<=s.heap.objs.size:=Nat.le_trans I.ok.above (Nat.le_of_lt I.lt)
theorem Inv.alO (I:Inv X pins σ H s){a:Addr}(h:s.heap.objs.size<=a):a ∉ X.fs:=fun hb=>by
 obtain⟨_,o,ho,_⟩:=I.ok.DZ.mem hb;exact absurd (Nat.lt_of_lt_of_le (Heap.lt_size ho) (Nat.le_trans I.sz h)) (Nat.lt_irrefl _)
theorem Inv.cne (I:Inv X pins σ H s):∀ x c,X.env.cells.lookup x=some c->c≠X.env.locals:=fun x c e z=>by
 obtain⟨v,o,ho,hd⟩:=I.cell x c e;obtain⟨m,⟨o',es,ep,ho',hd',_⟩,_⟩:=I.loc;rw[z,ho']at ho;cases ho;rw[hd']at hd;cases hd
theorem Inv.DZ (I:Inv X pins σ H s):s.heap.FunFrames X.base X.outer:=by
 have all:∀(l:List Env),(∀ b∈frs l,b∈X.fs)->X.s₀.heap.FunFrames X.base l->s.heap.FunFrames X.base l:=by
  intro l
  induction l with
  |nil=>intro _ _;trivial
  |cons env r ih =>
   intro hs hl;obtain⟨hk,⟨L,o,hf,hn,ho,hd⟩,hr⟩:=hl;have hL:L∈X.fs:=hs L (by unfold frs;rw[List.filterMap_cons,hf];exact mem_cons_self);obtain⟨sl,e⟩:=I.base.slot L o ho (I.ok.frf L hL) hL fun z=>I.ok.W2 L z hL;exact⟨hk,⟨L,_,hf,hn,e,hd⟩,ih (fun b hb=>hs b (by unfold frs;rw[List.filterMap_cons,hf];exact mem_cons_of_mem _ hb)) hr⟩
 exact all X.outer (fun _ hb=>hb) I.ok.DZ
theorem Inv.stack (I:Inv X pins σ H s):s.heap.FunFrames X.base X.stack:=by
 rcases I.ok.stk with e|⟨e,hf⟩
 ·rw[e];exact I.DZ
 ·rw[e];obtain⟨m,hn,_⟩:=I.loc;refine .cons (by rw[I.ok.kind];decide) hf hn ?_ I.DZ;exact Heap.get?_none_of_le (Nat.le_trans I.ok.bsz I.ok.above)
theorem Inv.W3 (I:Inv X pins σ H s):∀ b∈frs X.stack,b∈X.env.locals::X.fs:=fun b hb=>by
 rcases I.ok.stk with e|⟨e,hf⟩
 ·rw[e]at hb;exact mem_cons_of_mem _ hb
 ·rw[e]at hb;unfold frs at hb;rw[List.filterMap_cons,hf]at hb;exact hb
theorem Inv.QT (I:Inv X pins σ H s):∀ b∈frs X.stack,H b=none:=fun b hb=>by
 rcases List.mem_cons.mp (I.W3 b hb) with e|hb
 ·rw[e];exact I.free
 ·obtain⟨_,o,ho,_⟩:=I.ok.DZ.mem hb;exact I.base.free b o ho (I.ok.frf b hb) fun z=>I.ok.W2 b z hb
theorem Inv.step {g':Array GenState}{t':Nat}{d':Drawn}{ch:List Addr}(I:Inv X pins σ H s)
  (hch:∀ b∈ch,(b∈X.ex\/X.s₀.heap.objs.size<=b)/\b≠X.env.locals/\(∀ x c,X.env.cells.lookup x=some c->c≠b)/\∀ p∈X.pn++pins,p.1≠b)
  (keep:∀ b o,b≠X.env.locals->b ∉ X.fs->b ∉ ch->s.heap.get? b=some o->H b=none->h'.get? b=some o)
  (slot:∀ b o,b≠X.env.locals->b∈X.fs->b ∉ ch->s.heap.get? b=some o->H b=none->∃ sl,h'.get? b=some { o with slots:=sl }) (free:∀ b o,b ∉ ch->s.heap.get? b=some o->H b=none->H' b=none)
  (there:∀ b o,b ∉ ch->s.heap.get? b=some o->∃ o',h'.get? b=some o')
  (tups:∀ b xs,H b=some (.tup xs)->H' b=some (.tup xs)) (Mo:∀ b o u,H b=some (.frz o u)->H' b=some (.frz o u)) (Pd:∀ b ps,H b=some (.tbl ps)->∃ more,H' b=some (.tbl (ps++more)))
  (ns:∀ m,s.heap.Ns X.env.locals m->h'.Ns X.env.locals m) (hok:yk X.prog X.w H' h') (hg:AllBare g') :
  Inv X pins σ H' { s with heap:=h',gens:=g',drawn:=d',toks:=t' }:=by
 have neL:∀ b o,X.s₀.heap.get? b=some o->b≠X.env.locals:=fun b o e=>Nat.ne_of_lt (Nat.lt_of_lt_of_le (Heap.lt_size e) I.ok.above);have neC:∀ b o,X.s₀.heap.get? b=some o->b ∉ X.ex->b ∉ ch:=fun b o e hx hb=>by
  rcases (hch b hb).1 with z|z
  ·exact hx z
  ·exact absurd (Nat.lt_of_lt_of_le (Heap.lt_size e) z) (Nat.lt_irrefl _)
 have cellK:∀ x c,X.env.cells.lookup x=some c->∀ v,s.heap.IsCell c v->h'.IsCell c v:=fun x c e v ⟨o,ho,hd⟩=>by
  have nch:c ∉ ch:=fun z=>(hch c z).2.2.1 x c e rfl
  by_cases hc:c∈X.fs
  ·obtain⟨sl,q⟩:=slot c o (I.cne x c e) hc nch ho (I.sX x c e);exact⟨_,q,hd⟩
  ·exact⟨o,keep c o (I.cne x c e) hc nch ho (I.sX x c e),hd⟩
 refine⟨I.ok,I.os,hg,⟨fun b o e n hb hx=>?_,fun b o e n hb hx=>?_,fun b o e n hx=>?_,fun b o e hx=>?_,fun b xs e=>tups b xs (I.base.tups b xs e),fun b o xs e=>Mo b o xs (I.base.Mo b o xs e),fun b ps e=>?_⟩,?_,fun x c e=>?_,?_,fun x c e=>?_,fun p hp=>?_,hok,I.len⟩
 ·exact keep b o (neL b o e) hb (neC b o e hx) (I.base.keep b o e n hb hx) (I.base.free b o e n hx)
 ·obtain⟨sl,e1⟩:=I.base.slot b o e n hb hx;obtain⟨sl',e2⟩:=slot b _ (neL b o e) hb (neC b o e hx) e1 (I.base.free b o e n hx);exact⟨sl',e2⟩
 ·obtain⟨o',e1⟩:=I.base.there b o e hx;exact free b o' (neC b o e hx) e1 (I.base.free b o e n hx)
 ·obtain⟨o',e1⟩:=I.base.there b o e hx;exact there b o' (neC b o e hx) e1
 ·obtain⟨m1,e1⟩:=I.base.Pd b ps e;obtain⟨m2,e2⟩:=Pd b _ e1;exact⟨m1++m2,by rw[e2,Array.append_assoc]⟩
 ·obtain⟨m,hn,hl⟩:=I.loc;refine⟨m,ns m hn,fun i x v e1 e2 e3=>?_⟩;obtain⟨u,r,l⟩:=hl i x v e1 e2 e3;refine⟨u,r,?_⟩;rcases l with l|⟨k,c,e,z⟩
  ·exact .inl l
  ·exact .inr ⟨k,c,e,cellK x c e _ z⟩
 ·obtain⟨v,z⟩:=I.cell x c e;exact⟨v,cellK x c e v z⟩
 ·obtain⟨m,⟨o,_,_,ho,_⟩,_⟩:=I.loc;exact free _ o (fun z=>(hch _ z).2.1 rfl) ho I.free
 ·obtain⟨v,o,ho,hd⟩:=I.cell x c e;exact free c o (fun z=>(hch c z).2.2.1 x c e rfl) ho (I.sX x c e)
 ·obtain⟨e,n,ne,nf,d⟩:=I.pin p hp;have nch:p.1 ∉ ch:=fun z=>(hch p.1 z).2.2.2 p hp rfl;exact⟨keep p.1 p.2 ne nf nch e n,free p.1 p.2 nch e n,ne,nf,d⟩
theorem Inv.un {t':Nat}(I:Inv X pins σ H s)(u:Un X.fs [] H H' s.heap h')(hok:yk X.prog X.w H' h'):Inv X pins σ H' { s with heap:=h',toks:=t' }:=by
 obtain⟨m,⟨o,es,ep,ho,r⟩,_⟩:=id I.loc;obtain⟨sl,hL⟩:=u.any ho I.free (by simp);exact I.step (g':=s.gens) (d':=s.drawn) (ch:=[]) (fun _ z=>nomatch z) (fun b o _ hb _ e n=>u.keep b o e n hb (by simp)) (fun b o _ hb _ e n=>u.slot b o e n hb (by simp)) (fun b o _ e n=>u.free b o e n (by simp)) (fun b o _ e=>u.there b o e (by simp)) u.tups u.Mo u.Pd (fun m' hm=>by
  obtain⟨o',es',ep',ho',r'⟩:=hm;rw[ho]at ho';cases ho';exact⟨_,es',ep',hL,r'⟩) hok I.bare
theorem Inv.call {g':Array GenState}{t':Nat}{d':Drawn}{ch:List Addr}(I:Inv X pins σ H s)(u:Un (frs X.stack) ch H H' s.heap h')(hok:yk X.prog X.w H' h')(hg:AllBare g')
  (hch:∀ b∈ch,(b∈X.ex\/X.s₀.heap.objs.size<=b)/\b≠X.env.locals/\(∀ x c,X.env.cells.lookup x=some c->c≠b)/\∀ p∈X.pn++pins,p.1≠b) :
  Inv X pins σ H' { s with heap:=h',gens:=g',drawn:=d',toks:=t' }:=by
 obtain⟨m,⟨o,es,ep,ho,r⟩,_⟩:=id I.loc;obtain⟨sl,hL⟩:=u.any ho I.free fun z=>(hch _ z).2.1 rfl;exact I.step (ch:=ch) hch (fun b o hL hb hc e n=>u.keep b o e n (fun z=>(List.mem_cons.mp (I.W3 b z)).elim hL hb) hc) (fun b o _ _ hc e n=>u.any e n hc) (fun b o hc e n=>u.free b o e n hc) (fun b o hc e=>u.there b o e hc) u.tups u.Mo u.Pd (fun m' hm=>by
  obtain⟨o',es',ep',ho',r'⟩:=hm;rw[ho]at ho';cases ho';exact⟨_,es',ep',hL,r'⟩) hok hg
theorem Inv.turned {t':Nat}{it:Addr}(I:Inv X pins σ H s)(k:∀ b o,b≠it->s.heap.get? b=some o->h'.get? b=some o)(hn:H it=none)(hL:it≠X.env.locals)
  (h1:it∈X.ex\/X.s₀.heap.objs.size<=it) (h2:∀ x c,X.env.cells.lookup x=some c->c≠it) (h3:∀ p∈X.pn++pins,p.1≠it):Inv X pins σ H { s with heap:=h',toks:=t' }:=by
 have nit:∀ b u,H b=some u->b≠it:=fun b u e z=>by rw[z,hn]at e;cases e
 refine I.step (g':=s.gens) (d':=s.drawn) (ch:=[it]) (fun b hb=>?_) (fun b o _ _ hc e _=>k b o (fun z=>hc (by simp[z])) e) (fun b o _ _ hc e _=>⟨o.slots,k b o (fun z=>hc (by simp[z])) e⟩) (fun _ _ _ _ n=>n)
  (fun b o hc e=>⟨o,k b o (fun z=>hc (by simp[z])) e⟩) (fun _ _ e=>e) (fun _ _ _ e=>e) (fun b ps e=>⟨#[],by rw[e];simp⟩) (fun m hm=>?_) (fun b u e=>?_) I.bare
 ·have e:b=it:=by simpa using hb
  subst e;exact⟨h1,hL,h2,h3⟩
 ·obtain⟨o,es,ep,ho,r⟩:=hm;exact⟨o,es,ep,k _ o (Ne.symm hL) ho,r⟩
 ·refine(I.hok b u e).stay (fun c v hc q=>k c v ?_ q) (fun _ q=>q) fun _ _ q=>q;rcases hc with z|z
  ·rw[z];exact nit b u e
  ·exact nit c _ z
theorem Inv.tok (I:Inv X pins σ H s)(t:Nat):Inv X pins σ H { s with toks:=t }:=I.un (h':=s.heap) (t':=t) Un.refl I.hok
theorem Inv.kept {t':Nat}(I:Inv X pins σ H s)(k:∀ b u,s.heap.get? b=some u->h'.get? b=some u):Inv X pins σ H { s with heap:=h',toks:=t' }:=I.un (Un.kept k) (I.hok.kept k)
theorem Inv.laid {a:Addr}{o:HO}{t':Nat}(I:Inv X pins σ H s)(k:∀ b u,s.heap.get? b=some u->h'.get? b=some u)(hp:s.heap.objs.size<=a)(new:gQ X.prog X.w (upd H a o) h' a o) :
  Inv X pins σ (upd H a o) { s with heap:=h',toks:=t' }:=I.un (Un.laid k hp (I.hok.fresh hp)) (I.hok.laid k hp new)
theorem Inv.write {x e:Addr}{o:HO}{t':Nat}(I:Inv X pins σ H s)(mu:Mut (H x))(he:e=x\/H e=some (.own x))(k:∀ b u,b≠e->s.heap.get? b=some u->h'.get? b=some u)(heo:∃ u,h'.get? e=some u)
  (new:gQ X.prog X.w (upd H x o) h' x o):Inv X pins σ (upd H x o) { s with heap:=h',toks:=t' }:=I.un (Un.write mu he k heo) (I.hok.write mu he k heo new)
theorem Inv.aax {UY:List (Addr×Obj)}(I:Inv X pins σ H s)(h:∀ p∈UY,s.heap.get? p.1=some p.2/\H p.1=none/\p.1≠X.env.locals/\p.1 ∉ X.fs/\∀ v,p.2.data≠.cell v):Inv X UY σ H s :=
 ⟨I.ok,I.os,I.bare,I.base,I.loc,I.cell,I.free,I.sX,fun p hp=>(mem_append.mp hp).elim (fun z=>I.pin p (mem_append_left _ z)) (h p),I.hok,I.len⟩
theorem UZ {N:List Str}(hN:N.Nodup){i j:Nat}{x:Str}(a:N[i]? = some x)(b:N[j]? = some x):i=j:=by
 obtain⟨h1,e1⟩:=List.getElem?_eq_some_iff.mp a;obtain⟨h2,e2⟩:=List.getElem?_eq_some_iff.mp b;exact(List.getElem_inj hN).mp (e1.trans e2.symm)
theorem Qa {M:Model}{A:Around}{E:Value->Shared->Prop}{i:Nat}{x:Str}{v:V}{u:Value}{Q:Unit->Shared->Prop}(I:Inv X pins σ H s)(hN:X.N.Nodup)(hi:X.N[i]? = some x)(hx:Loc X.env.scope x)(r:RelV v u)
  (h:∀ s',Inv X pins (σ.set i (some v)) H s'->(∃ a,Heap.SameBut a s.heap s'.heap/\(a=X.env.locals\/X.env.cells.lookup x=some a))->Q () s') (hf:X.fn x=true\/X.env.scope.names.lookup x=some .local:=by first|exact .inl rfl|exact .inr rfl|assumption):wpAny M A (storeName X.env x u) Q E s:=by
 obtain⟨m,hn,hl⟩:=id I.loc;have hcls:(X.env.scope.kind == .class||(X.env.scope.kind == .module&&X.env.locals != X.env.globals))=false:=by rw[I.ok.kind];rfl
 have anN:i<σ.length:=by rw[I.len];exact(List.getElem?_eq_some_iff.mp hi).1
 have cne:=I.cne;have tracked:∀{a:Addr} {h':Heap},(∃ o,s.heap.get? a=some o/\H a=none)->Heap.SameBut a s.heap h'->yk X.prog X.w H h':=fun {a h'} ha hs b ob e=>by
  obtain⟨_,_,hfree⟩:=ha;refine(I.hok b ob e).stay (fun c w' hc q=>(hs.2 c ?_).trans q) (fun _ q=>q) fun _ _ q=>q;rintro rfl;rcases hc with rfl|hc
  ·rw[hfree]at e;cases e
  ·rw[hfree]at hc;cases hc
 rcases hx with hk|hk
 ·refine wpAny_storeName_local hk hn (fun h' hn' hs=>?_) hcls;obtain⟨oL,_,_,hoL,_⟩:=id hn;refine h _ ⟨I.ok,I.os,I.bare,⟨fun b o e n hb hx=>?_,fun b o e n hb hx=>?_,I.base.free,fun b o e hx=>?_,I.base.tups,I.base.Mo,I.base.Pd⟩,⟨_,hn',fun j y v' e1 e2 e3=>?_⟩,fun y c e=>?_,I.free,I.sX,fun p hp=>?_,tracked ⟨oL,hoL,I.free⟩ hs,by simpa using I.len⟩ ⟨_,hs,.inl rfl⟩
  ·exact(hs.2 b (Nat.ne_of_lt (Nat.lt_of_lt_of_le (Heap.lt_size e) I.ok.above))).trans (I.base.keep b o e n hb hx)
  ·obtain⟨sl,e1⟩:=I.base.slot b o e n hb hx;exact⟨sl,(hs.2 b (Nat.ne_of_lt (Nat.lt_of_lt_of_le (Heap.lt_size e) I.ok.above))).trans e1⟩
  ·obtain⟨o',e1⟩:=I.base.there b o e hx;exact⟨o',(hs.2 b (Nat.ne_of_lt (Nat.lt_of_lt_of_le (Heap.lt_size e) I.ok.above))).trans e1⟩
  ·by_cases hj:j=i
   ·subst hj;rw[hi]at e1;cases e1;rw[List.getElem?_set_self anN]at e2;cases e2;exact⟨u,r,.inl ⟨hk,by simp⟩⟩
   ·rw[List.getElem?_set_ne (Ne.symm hj)]at e2;obtain⟨u',r',q⟩:=hl j y v' e1 e2 e3;refine⟨u',r',?_⟩;rcases q with ⟨k,e⟩|⟨k,c,e,z⟩
    ·refine .inl ⟨k,?_⟩;have:y≠x:=fun e=>hj (UZ hN e1 (e ▸ hi));simp[this,e]
    ·exact .inr ⟨k,c,e,z.sameBut hs (cne y c e)⟩
  ·obtain⟨w',z⟩:=I.cell y c e;exact⟨w',z.sameBut hs (cne y c e)⟩
  ·obtain⟨e,n,ne,nf,d⟩:=I.pin p hp;exact⟨(hs.2 p.1 ne).trans e,n,ne,nf,d⟩
 ·have hfn:X.fn x=true:=by
   rcases hf with z|z
   ·exact z
   ·rw[z]at hk;cases hk
  obtain⟨c,hc⟩:=I.ok.has x (.inl hk);obtain⟨w',z⟩:=I.cell x c hc;refine wpAny_storeName_cell I.ok.kind hk hc z (fun h' hc' hs=>?_);obtain⟨oc,hoc,alP⟩:=id z;refine h { s with heap:=h' } ⟨I.ok,I.os,I.bare,⟨fun b o e n hb hx=>?_,fun b o e n hb hx=>?_,I.base.free,fun b o e hx=>?_,I.base.tups,I.base.Mo,I.base.Pd⟩,⟨m,hn.sameBut hs (Ne.symm (cne x c hc)),fun j y v' e1 e2 e3=>?_⟩,fun y c' e=>?_,I.free,I.sX,fun p hp=>?_,tracked ⟨oc,hoc,I.sX x c hc⟩ hs,by simpa using I.len⟩ ⟨c,hs,.inr hc⟩
  ·exact(hs.2 b (Nat.ne_of_lt (Nat.lt_of_lt_of_le (Heap.lt_size e) (I.ok.cab x c hfn hc)))).trans (I.base.keep b o e n hb hx)
  ·obtain⟨sl,e1⟩:=I.base.slot b o e n hb hx;exact⟨sl,(hs.2 b (Nat.ne_of_lt (Nat.lt_of_lt_of_le (Heap.lt_size e) (I.ok.cab x c hfn hc)))).trans e1⟩
  ·obtain⟨o',e1⟩:=I.base.there b o e hx;exact⟨o',(hs.2 b (Nat.ne_of_lt (Nat.lt_of_lt_of_le (Heap.lt_size e) (I.ok.cab x c hfn hc)))).trans e1⟩
  ·by_cases hj:j=i
   ·subst hj;rw[hi]at e1;cases e1;rw[List.getElem?_set_self anN]at e2;cases e2;exact⟨u,r,.inr ⟨.inl hk,c,hc,hc'⟩⟩
   ·rw[List.getElem?_set_ne (Ne.symm hj)]at e2;obtain⟨u',r',q⟩:=hl j y v' e1 e2 e3;refine⟨u',r',?_⟩;rcases q with q|⟨k,c',e,z'⟩
    ·exact .inl q
    ·refine .inr ⟨k,c',e,z'.sameBut hs ?_⟩;rintro rfl;exact hj (UZ hN e1 (I.ok.inj _ _ _ e hc ▸ hi))
  ·by_cases hcc:c'=c
   ·subst hcc;exact⟨_,hc'⟩
   ·obtain⟨w2,z2⟩:=I.cell y c' e;exact⟨w2,z2.sameBut hs hcc⟩
  ·obtain⟨e,n,ne,nf,d⟩:=I.pin p hp;refine⟨(hs.2 p.1 ?_).trans e,n,ne,nf,d⟩;intro q;rw[q,hoc]at e;have q':oc=p.2:=Option.some.inj e;exact d w' (by rw[<-q'];exact alP)
theorem pj {M:Model}{A:Around}{E:Value->Shared->Prop}{i:Nat}{x:Str}{v:V}{u:Value}{Q:Unit->Shared->Prop}(I:Inv X pins σ H s)(hN:X.N.Nodup)(hi:X.N[i]? = some x)(hx:Loc X.env.scope x)(r:RelV v u)
  (h:∀ s',Inv X pins (σ.set i (some v)) H s'->Q () s') (hf:X.fn x=true\/X.env.scope.names.lookup x=some .local:=by first|exact .inl rfl|exact .inr rfl|assumption):wpAny M A (storeName X.env x u) Q E s :=
 Qa I hN hi hx r (fun s' I' _=>h s' I') hf
theorem Inv.call' {s':Shared}{ch:List Addr}(I:Inv X pins σ H s)(ho:s'.os=s.os)(u:Un (frs X.stack) ch H H' s.heap s'.heap)(hok:yk X.prog X.w H' s'.heap)(hg:AllBare s'.gens)
  (hch:∀ b∈ch,(b∈X.ex\/X.s₀.heap.objs.size<=b)/\b≠X.env.locals/\(∀ x c,X.env.cells.lookup x=some c->c≠b)/\∀ p∈X.pn++pins,p.1≠b):Inv X pins σ H' s':=by
 obtain⟨h',g',d',t',o'⟩:=s';have e:o'=s.os:=ho;subst e;exact I.call (g':=g') (t':=t') (d':=d') u hok hg hch
end
abbrev XK:=Value->Option Addr->Hp->Prop
abbrev St:=List (Option V)
abbrev VK:=V->Hp->Prop
abbrev TE:=St->Hp->VK->Prop
abbrev TT:=St->Hp->(Bool->Hp->Prop)->Prop
abbrev TA:=St->Hp->(List V->Hp->Prop)->Prop
structure Ends where
 nx:St->Hp->Prop
 rt:VK
 bk:St->Hp->Prop:=fun _ _=>False
 ct:St->Hp->Prop:=fun _ _=>False
abbrev TS:=Ends->St->Hp->Prop
def EP (X:Cx)(pins:List (Addr×Obj))(σ:St)(Q:VK)(u:Value)(s':Shared):Prop:=∃ v H',Inv X pins σ H' s'/\RelV v u/\Q v H'
def TP (X:Cx)(pins:List (Addr×Obj))(σ:St)(Q:Bool->Hp->Prop)(b:Bool)(s':Shared):Prop:=∃ H',Inv X pins σ H' s'/\Q b H'
def AP (X:Cx)(pins:List (Addr×Obj))(σ:St)(Q:List V->Hp->Prop)(us:List Value)(s':Shared):Prop:=∃ vs H',Inv X pins σ H' s'/\Vals vs us/\Q vs H'
def SP (X:Cx)(pins:List (Addr×Obj))(D:Ends)(f:Flow)(s':Shared):Prop :=
 match f with
 |.next=>∃ σ' H',Inv X pins σ' H' s'/\D.nx σ' H'
 |.brk=>∃ σ' H',Inv X pins σ' H' s'/\D.bk σ' H'
 |.cont=>∃ σ' H',Inv X pins σ' H' s'/\D.ct σ' H'
 |.ret u=>∃ v σ' H',Inv X pins σ' H' s'/\RelV v u/\D.rt v H'
def PE (X:Cx)(e:Expr)(t:TE):Prop :=
 ∀(pins:List (Addr×Obj)) (s:Shared) (σ:St) (H:Hp) (Q:VK),Inv X pins σ H s->t σ H Q->wpAny (model X.prog X.w) X.A (eval e X.env) (EP X pins σ Q) X.xe s
def PT (X:Cx)(e:Expr)(t:TT):Prop :=
 ∀(pins:List (Addr×Obj)) (s:Shared) (σ:St) (H:Hp) (Q:Bool->Hp->Prop),Inv X pins σ H s->t σ H Q->wpAny (model X.prog X.w) X.A (isTrue e X.env (eval e X.env)) (TP X pins σ Q) X.xe s
def PW (X:Cx)(e:Expr)(t:TT):Prop :=
 ∀(whole:Sem Value)(pins:List (Addr×Obj)) (s:Shared) (σ:St) (H:Hp) (Q:Bool->Hp->Prop),Inv X pins σ H s->t σ H Q->wpAny (model X.prog X.w) X.A (isTrue e X.env whole) (TP X pins σ Q) X.xe s
theorem PW.pt {X:Cx}{e:Expr}{t:TT}(h:PW X e t):PT X e t:=h _
def PA (X:Cx)(es:List Expr)(t:TA):Prop :=
 ∀(pos:Pos)(pins:List (Addr×Obj)) (s:Shared) (σ:St) (H:Hp) (Q:List V->Hp->Prop),Inv X pins σ H s->t σ H Q->wpAny (model X.prog X.w) X.A (spliced (backTo pos (starEach es X.env))) (AP X pins σ Q) X.xe s
def PS (X:Cx)(st:Stmt)(t:TS):Prop :=
 ∀(pins:List (Addr×Obj)) (s:Shared) (σ:St) (H:Hp) (D:Ends),Inv X pins σ H s->t D σ H->wpAny (model X.prog X.w) X.A (exec st X.env) (SP X pins D) X.xe s
def Me (X:Cx)(st:List Stmt)(t:TS):Prop :=
 ∀(pins:List (Addr×Obj)) (s:Shared) (σ:St) (H:Hp) (D:Ends),Inv X pins σ H s->t D σ H->wpAny (model X.prog X.w) X.A (execs st X.env) (SP X pins D) X.xe s
theorem cH {α:Type}{t:Sem α}{Q Q':α->Shared->Prop}{M:Model}{A:Around}{E:Value->Shared->Prop}{s:Shared}(h:wpAny M A t Q E s)(hQ:∀ a s,Q a s->Q' a s):wpAny M A t Q' E s:=wpAny_mono h hQ fun _ _ x=>x
end L2
namespace L2
open PySem PySem.Spec PyProof.Rows
section
variable {X:Cx}
inductive ag2 (i:Nat)(σ:St)(H:Hp)(Q:VK):Prop
 |mk (v:_) (eO:σ[i]? = some (some v)) (eP:Q v H):ag2 i σ H Q
def ajB (i:Nat):TE:=fun σ H Q=>ag2 i σ H Q
def tC (v:V):TE:=fun _ H Q=>Q v H
theorem ahN {i:Nat}{x:Str}{pos:Pos}(hN:X.N[i]? = some x)(hv:Vis X.env.scope x)(hd:(x==("__debug__":Str))=false:=by decide)(hcd:(x==("__classdict__":Str))=false:=by decide):PE X (.Name x pos) (ajB i):=by
 intro pins s σ H Q I h;obtain⟨v,e,h⟩:=h;obtain⟨m,hn,hl⟩:=I.loc;obtain⟨u,r,l⟩:=hl i x v hN e hv;have fin:EP X pins σ Q u s:=⟨v,H,I,r,h⟩;rcases l with ⟨hk,hm⟩|⟨hk,c,hc,hcell⟩
 ·exact wpAny_Name (wpAny_loadName_local I.ok.kind hk hn hm fin) hd
 ·rcases hk with hk|hk
  ·exact wpAny_Name (wpAny_loadName_cell I.ok.kind hk hc hcell fin) hd
  ·exact wpAny_Name (wpAny_loadName_free I.ok.kind hk hc hcell fin hcd) hd
theorem ai {i j pos}:PE X (.Constant (.int i) j pos) (tC (.int i)):=fun _ _ _ H _ I h=>wpAny_Constant_int ⟨.int i,H,I.tok _,⟨_,rfl⟩,h⟩
theorem fK {b j pos}:PE X (.Constant (.bool b) j pos) (tC (.bl b)):=fun _ _ _ H _ I h=>Constant_bool ⟨.bl b,H,I,rfl,h⟩
theorem jq {j pos}:PE X (.Constant .none j pos) (tC .non):=fun _ _ _ H _ I h=>Constant_none ⟨.non,H,I,rfl,h⟩
theorem ax {x j pos}:PE X (.Constant (.str x) j pos) (tC (.str x)):=fun _ _ _ H _ I h=>Calls.Constant_str ⟨.str x,H,I.tok _,⟨_,rfl⟩,h⟩
def Gl (X:Cx)(x:Str):Prop:=X.env.kindOf x=some .globalImplicit
theorem wb {E:Value->Shared->Prop}{pins:List (Addr×Obj)}{s:Shared}{σ:St}{H:Hp}{x:Str}{u:Value}{pos:Pos}{Q:Value->Shared->Prop}(I:Inv X pins σ H s)(hg:Gl X x)(hm:X.mg x=some u)(h:Q u s)
  (hd:(x==("__debug__":Str))=false:=by decide):wpAny (model X.prog X.w) X.A (eval (.Name x pos) X.env) Q E s :=
 Calls.Name_function_global I.ok.kind hg (Calls.loadGlobal_global (by rw[I.ok.glob];exact I.mod.glob.keeps I.bk) hm h) hd
theorem uF {E:Value->Shared->Prop}{pins:List (Addr×Obj)}{s:Shared}{σ:St}{H:Hp}{x:Str}{u:Value}{pos:Pos}{Q:Value->Shared->Prop}(I:Inv X pins σ H s)(hg:Gl X x)(hm:X.mg x=none)(hv:bootBuiltins x=some u)(h:Q u s)
  (hn:x ≠ "__name__":=by decide) (hd:(x==("__debug__":Str))=false:=by decide):wpAny (model X.prog X.w) X.A (eval (.Name x pos) X.env) Q E s:=by
 obtain⟨mb,h1,h2⟩:=I.mod.blt;exact Calls.Name_function_global I.ok.kind hg (Calls.loadGlobal_builtin (by rw[I.ok.glob];exact I.mod.glob.keeps I.bk) hm (by rw[I.ok.blt];exact h1.keeps I.bk) ((h2 x hn).trans hv) h) hd
theorem cy {x:Str}{v:V}{u:Value}{pos:Pos}(hg:Gl X x)(hm:X.mg x=some u)(r:RelV v u)(hd:(x==("__debug__":Str))=false:=by decide):PE X (.Name x pos) (tC v) :=
 fun _ _ _ H _ I h=>wb I hg hm ⟨v,H,I,r,h⟩ hd
theorem gK {x:Str}{v:V}{u:Value}{pos:Pos}(hg:Gl X x)(hm:X.mg x=none)(hv:bootBuiltins x=some u)(r:RelV v u)(hn:x ≠ "__name__":=by decide)(hd:(x==("__debug__":Str))=false:=by decide):PE X (.Name x pos) (tC v) :=
 fun _ _ _ H _ I h=>uF I hg hm hv ⟨v,H,I,r,h⟩ hn hd
def t2I (ta tb:TE)(k:Int->Int->Hp->Prop):St->Hp->Prop:=fun σ H=>ta σ H fun x H1=>tb σ H1 fun y H2=>∃ i j,x=.int i/\y=.int j/\k i j H2
variable {a b:Expr} {ta tb:TE} {pos:Pos}
def PC (X:Cx)(op:CmpOp)(a b:Expr)(t:TE):Prop :=
 ∀(pins:List (Addr×Obj)) (s:Shared) (σ:St) (H:Hp) (Q:VK),Inv X pins σ H s->t σ H Q ->
  wpAny (model X.prog X.w) X.A (eval a X.env) (fun v s₁=>wpAny (model X.prog X.w) X.A (eval b X.env) (fun u s₂=>wpAny (model X.prog X.w) X.A (compareOp op v u) (EP X pins σ Q) X.xe s₂) X.xe s₁) X.xe s
def abp (p:Int->Int->Bool)(ta tb:TE):TE:=fun σ H Q=>t2I ta tb (fun i j H2=>Q (.bl (p i j)) H2) σ H
abbrev tLt:TE->TE->TE:=abp fun i j=>decide (i<j)
abbrev tLe:TE->TE->TE:=abp fun i j=>decide (i<=j)
abbrev tGt:TE->TE->TE:=abp fun i j=>decide (j<i)
abbrev tGe:TE->TE->TE:=abp fun i j=>decide (j<=i)
abbrev aoJ:TE->TE->TE:=abp fun i j=>decide (i=j)
abbrev aoK:TE->TE->TE:=abp fun i j=>!decide (i=j)
def tB (t:TE):TT:=fun σ H Q=>t σ H fun x H1=>∃ c,x=.bl c/\Q c H1
theorem QU {op:CmpOp}{t:TE}(h:PC X op a b t)(h1:behindInMarks op b=false:=by first|exact ajC _ (by decide) (by decide)|rfl):PT X (.Compare a [op] [b] pos) (tB t):=by
 intro pins s σ H Q I hw;refine wpAny_isTrue_Compare1 (cH (h pins s σ H _ I hw) fun v s1 h1=>cH h1 fun u s2 h2=>cH h2 fun c s3 ⟨x,H1,I1,r1,q1⟩=>?_) h1;obtain⟨d,rfl,q⟩:=q1;cases r1;exact wpAny_truthy_bool ⟨H1,I1,q⟩
theorem bh {e:Expr}{t:TE}(h:PE X e t)(he:∀ whole,isTrue e X.env whole=(do let v <-whole;standAt e.pos;holding [v] (truthy v)):=by intro _;rfl):PT X e (tB t):=by
 intro pins s σ H Q I hw;refine isTrue_plain (cH (h pins s σ H _ I hw) fun v s1 ⟨x,H1,I1,r1,q1⟩=>?_) (he _);obtain⟨d,rfl,q⟩:=q1;cases r1;exact wpAny_truthy_bool ⟨H1,I1,q⟩
variable {tA tB':TT} {rest:List Expr}
def alQ (t u:TT):TT:=fun σ H Q=>t σ H fun c H1=>if c=true then u σ H1 Q else Q false H1
def tOr (t u:TT):TT:=fun σ H Q=>t σ H fun c H1=>if c=true then Q true H1 else u σ H1 Q
def alR (t:TT):TT:=fun σ H Q=>t σ H fun c H1=>Q (!c) H1
theorem dy (ha:PT X a tA):PW X (.BoolOp .And [a] pos) tA:=by
 intro wh pins s σ H Q I h;refine isTrue_and (cH (ha pins s σ H Q I h) fun c s1 e=>?_);cases c with
 |true=>exact isTrue_and_nil e
 |false=>exact e
theorem h9 (ha:PT X a tA):PW X (.BoolOp .Or [a] pos) tA:=by
 intro wh pins s σ H Q I h;refine isTrue_or (cH (ha pins s σ H Q I h) fun c s1 e=>?_);cases c with
 |false=>exact isTrue_or_nil e
 |true=>exact e
theorem cJ (ha:PT X a tA)(hb:PW X (.BoolOp .And (b::rest) pos) tB'):PW X (.BoolOp .And (a::b::rest) pos) (alQ tA tB'):=by
 intro wh pins s σ H Q I h;refine isTrue_and (cH (ha pins s σ H _ I h) fun c s1 ⟨H1,I1,q1⟩=>?_);cases c with
 |true=>exact hb wh pins s1 σ H1 Q I1 q1
 |false=>exact⟨H1,I1,q1⟩
theorem j4 (ha:PT X a tA)(hb:PW X (.BoolOp .Or (b::rest) pos) tB'):PW X (.BoolOp .Or (a::b::rest) pos) (tOr tA tB'):=by
 intro wh pins s σ H Q I h;refine isTrue_or (cH (ha pins s σ H _ I h) fun c s1 ⟨H1,I1,q1⟩=>?_);cases c with
 |true=>exact⟨H1,I1,q1⟩
 |false=>exact hb wh pins s1 σ H1 Q I1 q1
theorem cF (ha:PT X a tA):PT X (.UnaryOp .Not a pos) (alR tA):=by
 intro pins s σ H Q I h;exact isTrue_not (ha pins s σ H (fun c H1=>Q (!c) H1) I h)
def ajD (ta tb:TE):TE:=fun σ H Q=>ta σ H fun x H1=>∃ c,x=.bl c/\if c=true then tb σ H1 Q else Q (.bl false) H1
def alS (ta tb:TE):TE:=fun σ H Q=>ta σ H fun x H1=>∃ c,x=.bl c/\if c=true then Q (.bl true) H1 else tb σ H1 Q
def ajE (ta:TE):TE:=fun σ H Q=>ta σ H fun x H1=>∃ c,x=.bl c/\Q (.bl (!c)) H1
theorem lF {op}{t:TE}(h:PE X a t):PE X (.BoolOp op [a] pos) t:=fun pins s σ H Q I hw=>BoolOp_one (h pins s σ H Q I hw)
theorem iU (ha:PE X a ta)(hb:PE X (.BoolOp .And (b::rest) pos) tb):PE X (.BoolOp .And (a::b::rest) pos) (ajD ta tb):=by
 intro pins s σ H Q I h;refine BoolOp_and (cH (ha pins s σ H _ I h) fun v s1 ⟨x,H1,I1,r1,q1⟩=>?_);obtain⟨c,rfl,q1⟩:=q1;cases r1;refine wpAny_truthy_bool ?_;cases c with
 |true=>exact hb pins s1 σ H1 Q I1 q1
 |false=>exact⟨.bl false,H1,I1,rfl,q1⟩
theorem adj (ha:PE X a ta)(hb:PE X (.BoolOp .Or (b::rest) pos) tb):PE X (.BoolOp .Or (a::b::rest) pos) (alS ta tb):=by
 intro pins s σ H Q I h;refine BoolOp_or (cH (ha pins s σ H _ I h) fun v s1 ⟨x,H1,I1,r1,q1⟩=>?_);obtain⟨c,rfl,q1⟩:=q1;cases r1;refine wpAny_truthy_bool ?_;cases c with
 |false=>exact hb pins s1 σ H1 Q I1 q1
 |true=>exact⟨.bl true,H1,I1,rfl,q1⟩
theorem ahO (ha:PE X a ta):PE X (.UnaryOp .Not a pos) (ajE ta):=by
 intro pins s σ H Q I h;refine UnaryOp_ (cH (ha pins s σ H _ I h) fun v s1 ⟨x,H1,I1,r1,q1⟩=>?_);obtain⟨c,rfl,q1⟩:=q1;cases r1;exact not_of (wpAny_truthy_bool ⟨.bl (!c),H1,I1,rfl,q1⟩)
def tIf (t:TT)(ta tb:TE):TE:=fun σ H Q=>t σ H fun c H1=>if c=true then ta σ H1 Q else tb σ H1 Q
theorem d8 {c:Expr}(hc:PT X c tA)(ha:PE X a ta)(hb:PE X b tb):PE X (.IfExp c a b pos) (tIf tA ta tb):=by
 intro pins s σ H Q I h;refine wpAny_IfExp (cH (hc pins s σ H _ I h) fun d s1 ⟨H1,I1,q1⟩=>?_);cases d with
 |true=>exact ha pins s1 σ H1 Q I1 q1
 |false=>exact hb pins s1 σ H1 Q I1 q1
end
end L2
namespace L2
open PySem PySem.Spec PyProof.Rows
def aX (K:Frag)(H:Hp)(a:Addr)(xs:List V):Prop :=
 Rd H a (.lst xs) \/
  ∃(o:Obj)(its:Array Value)(n:Nat),K.lookup a=some o/\o.cls=.type "list"/\o.dict=none/\o.data=.seq its n/\its.size<=sizeLine/\Vals xs its.toList
def uG (K:Frag)(H:Hp)(a:Addr)(xs:List V):Prop :=
 Rd H a (.tup xs) \/
  ∃(o:Obj)(its:Array Value)(n:Nat),K.lookup a=some o/\o.cls=.type "tuple"/\o.data=.seq its n/\its.size<=sizeLine/\Vals xs its.toList
def alT:Value->Option V
 |.none=>some .non
 |.bool b=>some (.bl b)
 |.int i _=>some (.int i)
 |.str x _=>some (.str x)
 |.bytes b _=>some (.byt b)
 |.float b _=>some (.flt b)
 |.ref a=>some (.ref a)
 |.type n=>some (.ty n)
 |_=>none
theorem RelV.abs {x:V}{u:Value}(r:RelV x u):alT u=some x:=by
 cases x with
 |non=>cases r;rfl
 |bl _=>cases r;rfl
 |int _=>obtain⟨t,rfl⟩:=r;rfl
 |str _=>obtain⟨t,rfl⟩:=r;rfl
 |byt _=>obtain⟨t,rfl⟩:=r;rfl
 |flt _=>obtain⟨t,rfl⟩:=r;rfl
 |ref _=>cases r;rfl
 |ty _=>cases r;rfl
theorem RelV.inj {x y:V}{u:Value}(r:RelV x u)(q:RelV y u):x=y:=Option.some.inj (r.abs.symm.trans q.abs)
theorem Vals.inj:∀{xs ys:List V} {us:List Value},Vals xs us->Vals ys us->xs=ys
 |_,_,_,.nil,.nil=>rfl
 |_,_,_,.cons r t,.cons r' t'=>by rw[r.inj r',Vals.inj t t']
section
variable {X:Cx} {pins:List (Addr×Obj)} {σ:St} {H:Hp} {s:Shared} {a:Addr} {xs ys:List V}
theorem aX.of {K:Frag}(h:H a=some (.lst xs)):aX K H a xs:=.inl (.inl h)
theorem uG.of {K:Frag}(h:H a=some (.tup xs)):uG K H a xs:=.inl (.inl h)
theorem Inv.list (I:Inv X pins σ H s)(h:aX X.K H a xs):∃ its:List Value,Vals xs its/\PlainL s.heap a its.toArray/\xs.length<=sizeLine:=by
 rcases h with h|⟨o,its,n,hk,hc,hd,hs,hz,r⟩
 ·obtain⟨z,its,n,r,e⟩:=h.ok I.hok;exact⟨its,r,⟨_,n,e,rfl,rfl,rfl⟩,z⟩
 ·refine⟨its.toList,r,⟨o,n,I.yi a o hk,hc,hd,by simpa using hs⟩,?_⟩;have e:=r.length;simp only [Array.length_toList]at e;omega
theorem Inv.tuple (I:Inv X pins σ H s)(h:uG X.K H a xs):∃ its:List Value,Vals xs its/\IsTup s.heap a its.toArray/\xs.length<=sizeLine:=by
 rcases h with h|⟨o,its,n,hk,hc,hs,hz,r⟩
 ·obtain⟨z,its,r,p⟩:=h.ok I.hok;exact⟨its,r,p,z⟩
 ·refine⟨its.toList,r,⟨o,I.yi a o hk,hc,n,by simpa using hs⟩,?_⟩;have e:=r.length;simp only [Array.length_toList]at e;omega
theorem Inv.U0 (I:Inv X pins σ H s)(h:aX X.K H a xs)(h':aX X.K H a ys):xs=ys:=by
 obtain⟨its,r,⟨o,n,e,_,_,d⟩,_⟩:=I.list h;obtain⟨its',r',⟨o',n',e',_,_,d'⟩,_⟩:=I.list h';rw[e]at e';cases e';rw[d]at d'
 injection d' with d1 _
 have:its=its':=by simpa using congrArg Array.toList d1
 subst this;exact r.inj r'
end
abbrev Cx.wish (X:Cx)(E:Value->Shared->Prop):Cx:={ X with xe:=E }
abbrev Cx.nox (X:Cx):Cx:=X.wish fun _ _=>False
theorem Cx.Ok.wish {X:Cx}(ok:X.Ok)(E:Value->Shared->Prop):(X.wish E).Ok :=
 ⟨ok.mod,ok.kind,ok.glob,ok.blt,ok.above,ok.inj,ok.has,ok.cab,ok.hd,ok.frames,ok.stk,ok.exf,ok.bs,ok.bsz,ok.W0,ok.W2,ok.DZ,ok.frf⟩
theorem Cx.Ok.m8 {X:Cx}{E:Value->Shared->Prop}(ok:(X.wish E).Ok):X.Ok :=
 ⟨ok.mod,ok.kind,ok.glob,ok.blt,ok.above,ok.inj,ok.has,ok.cab,ok.hd,ok.frames,ok.stk,ok.exf,ok.bs,ok.bsz,ok.W0,ok.W2,ok.DZ,ok.frf⟩
section
variable {X:Cx} {pins:List (Addr×Obj)} {σ:St} {H:Hp} {s:Shared} {E:Value->Shared->Prop}
theorem Inv.wish (I:Inv X pins σ H s)(E:Value->Shared->Prop):Inv (X.wish E) pins σ H s:=⟨I.ok.wish E,I.os,I.bare,I.base,I.loc,I.cell,I.free,I.sX,I.pin,I.hok,I.len⟩
theorem Inv.m8 (I:Inv (X.wish E) pins σ H s):Inv X pins σ H s:=⟨I.ok.m8,I.os,I.bare,I.base,I.loc,I.cell,I.free,I.sX,I.pin,I.hok,I.len⟩
theorem SP.m8 {D:Ends}{f:Flow}{s':Shared}(h:SP (X.wish E) pins D f s'):SP X pins D f s':=by
 cases f with
 |next=>obtain⟨σ',H',I,q⟩:=h;exact⟨σ',H',I.m8,q⟩
 |brk=>obtain⟨σ',H',I,q⟩:=h;exact⟨σ',H',I.m8,q⟩
 |cont=>obtain⟨σ',H',I,q⟩:=h;exact⟨σ',H',I.m8,q⟩
 |ret u=>obtain⟨v,σ',H',I,r,q⟩:=h;exact⟨v,σ',H',I.m8,r,q⟩
theorem Me.nox {st:List Stmt}{t:TS}(h:Me X.nox st t):Me X st t:=fun pins s σ H D I hw =>
 wpAny_mono (h pins s σ H D (I.wish _) hw) (fun _ _ q=>q.m8) fun _ _ z=>False.elim z
end
section
variable {X:Cx} {st:Stmt} {rest:List Stmt} {t u:TS} {e:Expr} {te:TE} {pos:Pos}
def ajF:TS:=fun D σ H=>D.nx σ H
def afK (t u:TS):TS:=fun D σ H=>t { D with nx:=u D } σ H
theorem aB:Me X [] ajF:=fun _ _ σ H _ I h=>wpAny_execs_nil ⟨σ,H,I,h⟩
theorem af (h1:PS X st t)(h2:Me X rest u):Me X (st::rest) (afK t u):=by
 intro pins s σ H D I h;refine wpAny_execs_cons (cH (h1 pins s σ H { D with nx:=u D } I h) fun f s1 q=>?_);cases f with
 |next =>
  obtain⟨σ',H',I',q⟩:=q;exact h2 pins s1 σ' H' D I' q
 |ret v=>exact q
 |brk=>exact q
 |cont=>exact q
theorem aj (h1:PS X st t):Me X [st] t:=by
 intro pins s σ H D I h;refine wpAny_execs_cons (cH (h1 pins s σ H D I h) fun f s1 q=>?_);cases f with
 |next=>exact wpAny_execs_nil q
 |ret v=>exact q
 |brk=>exact q
 |cont=>exact q
theorem Inv.quiet {pins:List (Addr×Obj)}{σ:St}{H:Hp}{s:Shared}(I:Inv X pins σ H s):interactive X.env=false:=by simp[interactive,I.ok.kind]
def ajG (te:TE):TS:=fun D σ H=>te σ H fun _ H1=>D.nx σ H1
theorem bc (he:PE X e te)(hs:swapsWith e none pos.line X.env=pure false:=by rfl):PS X (.Expr e pos) (ajG te):=by
 intro pins s σ H D I h;exact wpAny_Expr_any (cH (he pins s σ H _ I h) fun v s1 ⟨x,H1,I1,r1,q1⟩=>⟨σ,H1,I1,q1⟩) I.quiet hs
def alU (te:TE):TS:=fun D σ H=>te σ H D.rt
theorem aw (he:PE X e te):PS X (.Return (some e) pos) (alU te):=by
 intro pins s σ H D I h;exact wpAny_Return_some (cH (he pins s σ H _ I h) fun v s1 ⟨x,H1,I1,r1,q1⟩=>⟨x,σ,H1,I1,r1,q1⟩)
def alV (c:TT)(t u:TS):TS:=fun D σ H=>c σ H fun b H1=>if b=true then t D σ H1 else u D σ H1
theorem aO {c:Expr}{a b:List Stmt}{tc:TT}(hc:PT X c tc)(ha:Me X a t)(hb:Me X b u):PS X (.If c a b pos) (alV tc t u):=by
 intro pins s σ H D I h;refine wpAny_If (cH (hc pins s σ H _ I h) fun d s1 ⟨H1,I1,q1⟩=>?_);cases d with
 |true=>exact ha pins s1 σ H1 D I1 q1
 |false=>exact hb pins s1 σ H1 D I1 q1
end
abbrev TG:=V->St->Hp->(St->Hp->Prop)->Prop
abbrev TGs:=List V->St->Hp->(St->Hp->Prop)->Prop
def PG (X:Cx)(target:Expr)(t:TG):Prop :=
 ∀(pins:List (Addr×Obj)) (s:Shared) (σ:St) (H:Hp) (v:V) (u:Value) (Q:St->Hp->Prop),Inv X pins σ H s->RelV v u->t v σ H Q ->
  wpAny (model X.prog X.w) X.A (assign target X.env u) (fun _ s'=>∃ σ' H',Inv X pins σ' H' s'/\Q σ' H') X.xe s
def PGs (X:Cx)(ts:List Expr)(t:TGs):Prop :=
 ∀(pins:List (Addr×Obj)) (s:Shared) (σ:St) (H:Hp) (vs:List V) (us:List Value) (Q:St->Hp->Prop),Inv X pins σ H s->Vals vs us->t vs σ H Q ->
  wpAny (model X.prog X.w) X.A (assignInOrder ((assignEach ts X.env).map (·.2)) us) (fun _ s'=>∃ σ' H',Inv X pins σ' H' s'/\Q σ' H') X.xe s
abbrev ahP:=V->V->V->Hp->(Hp->Prop)->Prop
def ajH (X:Cx)(t:ahP):Prop :=
 ∀(pins:List (Addr×Obj)) (s:Shared) (σ:St) (H:Hp) (o i v:V) (ov iv u:Value) (Q:Hp->Prop),Inv X pins σ H s->RelV o ov->RelV i iv->RelV v u->t o i v H Q ->
  wpAny (model X.prog X.w) X.A (setItem ov iv u) (fun _ s'=>∃ H',Inv X pins σ H' s'/\Q H') X.xe s
abbrev TIp:=V->V->Hp->VK->Prop
def PIp (X:Cx)(op:Operator)(t:TIp):Prop :=
 ∀(pins:List (Addr×Obj)) (s:Shared) (σ:St) (H:Hp) (x y:V) (v u:Value) (Q:VK),Inv X pins σ H s->RelV x v->RelV y u->t x y H Q ->
  wpAny (model X.prog X.w) X.A (inplaceOp op v u) (EP X pins σ Q) X.xe s
section
variable {X:Cx} {pos:Pos}
def Qb (i:Nat):TG:=fun v σ H Q=>Q (σ.set i (some v)) H
theorem aU {i:Nat}{x:Str}(hN:X.N.Nodup)(hi:X.N[i]? = some x)(hx:Loc X.env.scope x)(hf:X.fn x=true\/X.env.scope.names.lookup x=some .local:=by first|exact .inl rfl|exact .inr rfl|assumption):PG X (.Name x pos) (Qb i):=by
 intro pins s σ H v u Q I r h;exact wpAny_assign_Name (pj I hN hi hx r (fun s' I'=>⟨_,H,I',h⟩) hf)
def alW:TGs:=fun vs σ H Q=>vs=[]/\Q σ H
inductive adk (t:TG)(u:TGs)(vs:List V)(σ:St)(H:Hp)(Q:(St->Hp->Prop)):Prop
 |mk (v:_) (r:_) (eO:vs=v::r) (eP:t v σ H fun σ' H'=>u r σ' H' Q):adk t u vs σ H Q
def ajI (t:TG)(u:TGs):TGs:=fun vs σ H Q=>adk t u vs σ H Q
theorem lG:PGs X [] alW:=by
 intro pins s σ H vs us Q I r h;obtain⟨e,h⟩:=h;subst e;cases r;exact assignInOrder_nil ⟨σ,H,I,h⟩
theorem bC {e:Expr}{es:List Expr}{t:TG}{u:TGs}(h1:PG X e t)(h2:PGs X es u)
  (hs:(assignEach (e::es) X.env).map (·.2)=assign e X.env::(assignEach es X.env).map (·.2):=by rfl):PGs X (e::es) (ajI t u):=by
 intro pins s σ H vs us Q I r h;obtain⟨v,vr,e1,h⟩:=h;subst e1;cases r with
 |cons r rr =>
  rw[hs];refine assignInOrder_cons (cH (h1 pins s σ H _ _ _ I r h) fun _ s1 ⟨σ1,H1,I1,q1⟩=>?_);exact h2 pins s1 σ1 H1 _ _ Q I1 rr q1
inductive ag4 (K:Frag)(n:Nat)(t:TGs)(v:V)(σ:St)(H:Hp)(Q:(St->Hp->Prop)):Prop
 |mk (a:_) (xs:_) (eO:v=.ref a) (eP:uG K H a xs) (hX:xs.length=n) (kC:t xs σ H Q):ag4 K n t v σ H Q
def alX (K:Frag)(n:Nat)(t:TGs):TG:=fun v σ H Q=>ag4 K n t v σ H Q
theorem rl {es:List Expr}{k:Nat}{t:TGs}{n:Nat}(hc:X.calm=true)(h:PGs X es t)
  (hn:(assignEach es X.env).length=n:=by rfl) (hst:(assignEach es X.env).findIdx? (·.1)=none:=by rfl):PG X (.Tuple es k pos) (alX X.K n t):=by
 intro pins s σ H v u Q I r hw;obtain⟨a,xs,e1,hq,hl,hw⟩:=hw;subst e1;cases r;obtain⟨its,rv,ht,hz⟩:=I.tuple hq;refine assign_Tuple_tuple (I.ok.hd hc) ht (by simp[hn,<-hl,rv.length]) hst fun h' hx=>?_;have I1:Inv X pins σ H { s with heap:=h' }:=I.kept (t':=s.toks) fun b o e=>hx b o (Nat.ne_of_lt (Heap.lt_size e)) e;exact h pins _ σ H xs _ Q I1 (by simpa using rv) hw
def alY (to ti:TE)(t:ahP):TG:=fun v σ H Q=>to σ H fun o H1=>ti σ H1 fun i H2=>t o i v H2 fun H3=>Q σ H3
theorem ym {o i:Expr}{to ti:TE}{t:ahP}(ho:PE X o to)(hi:PE X i ti)(hs:ajH X t)
  (ha:∀ v,assign (.Subscript o i pos) X.env v=(do
   let ov <-holding [v] (eval o X.env)
   let iv <-holding [v,ov] (eval i X.env)
   standAt pos
   holding [v,ov,iv] (setItem ov iv v)
   release [v,ov,iv] []):=by intro _;rfl):PG X (.Subscript o i pos) (alY to ti t):=by
 intro pins s σ H v u Q I r h;rw[ha];refine wpAny_bind (wpAny_holding (cH (ho pins s σ H _ I h) fun ov s1 ⟨x,H1,I1,r1,q1⟩=>?_));refine wpAny_bind (wpAny_holding (cH (hi pins s1 σ H1 _ I1 q1) fun iv s2 ⟨y,H2,I2,r2,q2⟩=>?_));refine wpAny_bind (wpAny_standAt (wpAny_bind (wpAny_holding (cH (hs pins s2 σ H2 x y v ov iv u _ I2 r1 r2 r q2) fun _ s3 ⟨H3,I3,q3⟩=>?_))));exact wpAny_release ⟨σ,H3,I3,q3⟩
def afM (te:TE)(g:TG):TS:=fun D σ H=>te σ H fun x H1=>g x σ H1 D.nx
theorem kD {tg e:Expr}{te:TE}{g:TG}(he:PE X e te)(hg:PG X tg g)(hs:swapsWithSole [tg] e pos.line X.env=pure false:=by rfl)(hw:swappedStores [tg] e X.env=pure none:=by rfl)
  (h1:(assignEach [tg] X.env).map (·.2)=[assign tg X.env]:=by rfl):PS X (.Assign [tg] e pos) (afM te g):=by
 intro pins s σ H D I h;refine wpAny_Assign_stores (cH (he pins s σ H _ I h) fun v s1 ⟨x,H1,I1,r1,q1⟩=>?_) hs hw;rw[h1];exact cH (hg pins s1 σ H1 x v _ I1 r1 q1) fun _ s2 q=>q
theorem aK {i:Nat}{x:Str}{e:Expr}{te:TE}{pos':Pos}(hN:X.N.Nodup)(hi:X.N[i]? = some x)(hx:Loc X.env.scope x)(he:PE X e te)(hs:swapsWith e (some (.Name x pos')) pos.line X.env=pure false:=by rfl)(hf:X.fn x=true\/X.env.scope.names.lookup x=some .local:=by first|exact .inl rfl|exact .inr rfl|assumption) :
  PS X (.Assign [.Name x pos'] e pos) (afM te (Qb i)):=by
 intro pins s σ H D I h;refine wpAny_Assign_Name (cH (he pins s σ H _ I h) fun v s1 ⟨y,H1,I1,r1,q1⟩=>?_) hs;exact pj I1 hN hi hx r1 (fun s2 I2=>⟨_,H1,I2,q1⟩) hf
def alZ (i j:Nat)(ta:TA):TS:=fun D σ H=>ta σ H fun vs H1=>∃ v w,vs=[v,w]/\D.nx ((σ.set i (some v)).set j (some w)) H1
theorem ahQ {i j:Nat}{x y:Str}{a b:Expr}{ta:TA}{px py pt:Pos}{kt k2 pt2}(hc:X.calm=true)(hN:X.N.Nodup)(hi:X.N[i]? = some x)(hj:X.N[j]? = some y)(hij:i≠j)
  (hx:X.env.scope.names.lookup x=some .local) (hy:X.env.scope.names.lookup y=some .local) (ha:PA X [a,b] ta)
  (hw:swappedStores [.Tuple [.Name x px,.Name y py] kt pt] (.Tuple [a,b] k2 pt2) X.env=pure (some [x,y]))
  (hs:swapsWithSole [.Tuple [.Name x px,.Name y py] kt pt] (.Tuple [a,b] k2 pt2) pos.line X.env=pure false:=by rfl) :
  PS X (.Assign [.Tuple [.Name x px,.Name y py] kt pt] (.Tuple [a,b] k2 pt2) pos) (alZ i j ta):=by
 intro pins s σ H D I h;rw[exec_Assign_arm];refine wpAny_bind (wpAny_standAt ?_);rw[hs];refine wpAny_bind (wpAny_pure ?_);rw[if_neg (by decide)];refine wpAny_bind (Tuple_ (cH (ha _ pins s σ H _ I h) fun us s1 ⟨vs,H1,I1,r1,q1⟩=>?_));obtain⟨v,w,e1,q1⟩:=q1;subst e1;obtain⟨u1,u2,rfl,rv,U1⟩:∃ u1 u2,us=[u1,u2]/\RelV v u1/\RelV w u2:=by
  cases r1 with
  |cons p q =>
   cases q with
   |cons p' q' =>
    cases q';exact⟨_,_,rfl,p,p'⟩
 refine wpAny_newObj_type ?_ (by show 2<=sizeLine;decide);have I2:Inv X pins σ H1 { s1 with heap:=s1.heap.push { cls:=.type "tuple",data:=.seq [u1,u2].toArray } }:=I1.kept (t':=s1.toks) fun b o e=>Heap.get?_push_of_some _ e;rw[hw];refine wpAny_bind (wpAny_pure ?_);show wpAny (model X.prog X.w) X.A (do rule "assign.swapped-stores";let items <-unpackItems (.ref s1.heap.objs.size) 2 none;assignInOrder [fun v=>bindName X.env y v,fun v=>bindName X.env x v] items.reverse;pure Flow.next) _ _ _;refine wpAny_bind (wpAny_rule (wpAny_bind (unpackItems_tuple (items:=#[u1,u2]) (I.ok.hd hc) (IsTup.new s1.heap _) fun h' hx'=>?_)));have I3:=I2.kept (h':=h') (t':=s1.toks) fun b o e=>hx' b o (Nat.ne_of_lt (Heap.lt_size e)) e;show wpAny _ _ (assignInOrder [fun v=>bindName X.env y v,fun v=>bindName X.env x v] [u2,u1] >>= fun _=>pure Flow.next) _ _ _;refine wpAny_bind (assignInOrder_cons (wpAny_bindName (pj I3 hN hj (.inl hy) U1 (fun s2 I4=>?_) (.inr hy))));refine assignInOrder_cons (wpAny_bindName (pj I4 hN hi (.inl hx) rv (fun s3 I5=>assignInOrder_nil (wpAny_pure ?_)) (.inr hx)));rw[List.set_comm _ _ (Ne.symm hij)]at I5;exact⟨_,H1,I5,q1⟩
def al0 (i:Nat)(te:TE)(ti:TIp):TS:=fun D σ H=>∃ x,σ[i]? = some (some x)/\te σ H fun y H1=>ti x y H1 fun z H2=>D.nx (σ.set i (some z)) H2
theorem ahS {i:Nat}{x:Str}{e:Expr}{te:TE}{op:Operator}{ti:TIp}{pos':Pos}(hN:X.N.Nodup)(hi:X.N[i]? = some x)(hx:Loc X.env.scope x)(he:PE X e te)(ho:PIp X op ti)(hf:X.fn x=true\/X.env.scope.names.lookup x=some .local:=by first|exact .inl rfl|exact .inr rfl|assumption) :
  PS X (.AugAssign (.Name x pos') op e pos) (al0 i te ti):=by
 intro pins s σ H D I h;obtain⟨v,e1,h⟩:=h;obtain⟨m,hn,hl⟩:=I.loc;have vis:Vis X.env.scope x:=by rcases hx with k|k;exact .inl k;exact .inr (.inl k)
 obtain⟨u,r,l⟩:=hl i x v hi e1 vis;refine wpAny_AugAssign_Name ?_;have go:wpAny (model X.prog X.w) X.A (eval e X.env) (fun w s₂=>wpAny (model X.prog X.w) X.A (inplaceOp op u w) (fun r s₃=>wpAny (model X.prog X.w) X.A (storeName X.env x r) (fun _=>SP X pins D .next) X.xe s₃) X.xe s₂) X.xe s:=by
  refine cH (he pins s σ H _ I h) fun w s1 ⟨y,H1,I1,r1,q1⟩=>?_;refine cH (ho pins s1 σ H1 v y u w _ I1 r r1 q1) fun z s2 ⟨zv,H2,I2,r2,q2⟩=>?_;exact pj I2 hN hi hx r2 (fun s3 I3=>⟨_,H2,I3,q2⟩) hf
 rcases l with ⟨hk,hm⟩|⟨hk,c,hc,hcell⟩
 ·exact wpAny_loadName_local I.ok.kind hk hn hm go
 ·rcases hk with hk|hk
  ·exact wpAny_loadName_cell I.ok.kind hk hc hcell go
  ·rcases hx with k|k
   ·have:X.env.scope.names.lookup x=some .free:=hk;rw[k]at this;cases this
   ·have:X.env.scope.names.lookup x=some .free:=hk;rw[k]at this;cases this
def ipI (f:Int->Int->Int):TIp:=fun x y H Q=>∃ i j,x=.int i/\y=.int j/\Q (.int (f i j)) H
theorem ahT:PIp X .Add (ipI fun i j=>i+j):=by
 intro pins s σ H x y v u Q I r1 r2 h;obtain⟨i,j,e1,e2,q⟩:=h;subst e1;subst e2;obtain⟨t,rfl⟩:=r1;obtain⟨t',rfl⟩:=r2;exact iadd_int ⟨.int _,H,I.tok _,⟨_,rfl⟩,q⟩
end
section
variable {X:Cx} {pos:Pos}
def ahU (c:TT)(tb:TS):TS:=fun D σ H=>∃ W:Nat->St->Hp->Prop,(∃ m,W m σ H)/\∀ m σ H,W m σ H ->
 c σ H fun b H1=>if b=true then ∃ N:St->Hp->Prop,(∀ σ' H',N σ' H'->∃ m',m'<m/\W m' σ' H')/\tb { D with nx:=N,ct:=N,bk:=D.nx } σ H1 else D.nx σ H1
theorem Mp {c:Expr}{body:List Stmt}{tc:TT}{tb:TS}(hp:PassesOwn (model X.prog X.w) X.A X.env X.xe)(hc:PT X c tc)(hb:Me X body tb):PS X (.While c body [] pos) (ahU tc tb):=by
 intro pins s σ H D I h;obtain⟨W,⟨m0,w0⟩,turn⟩:=h;refine wpAny_While (codeAny_whileLoop (fun n s'=>∃ σ' H',Inv X pins σ' H' s'/\W n σ' H') ?_ m0 ⟨σ,H,I,w0⟩);rintro n s1 ⟨σ1,H1,I1,w1⟩;refine wpAny_passesOwn hp (cH (hc pins s1 σ1 H1 _ I1 (turn n σ1 H1 w1)) fun b s2 ⟨H2,I2,q2⟩=>?_);cases b with
 |true =>
  obtain⟨N,hN,q2⟩:=q2;rw[if_pos rfl];refine wpAny_passesOwn hp (cH (hb pins s2 σ1 H2 _ I2 q2) fun f s3 q3=>?_);cases f with
  |next =>
   obtain⟨σ3,H3,I3,n3⟩:=q3;obtain⟨m',hm,w3⟩:=hN σ3 H3 n3;exact⟨m',hm,σ3,H3,I3,w3⟩
  |cont =>
   obtain⟨σ3,H3,I3,n3⟩:=q3;obtain⟨m',hm,w3⟩:=hN σ3 H3 n3;exact⟨m',hm,σ3,H3,I3,w3⟩
  |brk=>exact q3
  |ret v=>exact q3
 |false =>
  rw[if_neg Bool.false_ne_true];exact wpAny_execs_nil ⟨σ1,H2,I2,q2⟩
end
structure It where
 go:Nat->Hp->Prop
 yld:Nat->Hp->V->Hp->Prop
 stop:Nat->Hp->Prop
def pS (X:Cx)(pins:List (Addr×Obj))(H:Hp)(b:Addr):Prop :=
 H b=none/\b≠X.env.locals/\b ∉ X.fs/\(b∈X.ex\/X.s₀.heap.objs.size<=b)/\(∀ x c,X.env.cells.lookup x=some c->c≠b)/\∀ p∈X.pn++pins,p.1≠b
theorem Inv.QV {X:Cx}{pins:List (Addr×Obj)}{σ:St}{H H':Hp}{s:Shared}{b:Addr}(I:Inv X pins σ H s)(hb:s.heap.objs.size<=b)(hn:H' b=none):pS X pins H' b:=by
 refine⟨hn,Nat.ne_of_gt (Nat.lt_of_lt_of_le I.lt hb),I.alO hb,.inr (Nat.le_trans I.sz hb),fun x c e z=>?_,fun p hp z=>?_⟩
 ·obtain⟨v,q⟩:=I.cell x c e;exact absurd (Nat.lt_of_lt_of_le q.lt (by rw[z];exact hb)) (Nat.lt_irrefl _)
 ·exact absurd (Nat.lt_of_lt_of_le (Heap.lt_size (I.pin p hp).1) (by rw[z];exact hb)) (Nat.lt_irrefl _)
structure Turn (P:Program)(w:World)(K:Frag)(tg:Expr)(J:It)(fp:List Addr)(it:Addr)(tn:Nat->Heap->Prop):Prop where
 mem:it∈fp
 obj:∀ i h,tn i h->∀ b∈fp,∃ o,h.get? b=some o/\∀ v,o.data≠.cell v
 keep:∀ i h h',tn i h->(∀ b∈fp,∀ o,h.get? b=some o->h'.get? b=some o)->tn i h'
 item:∀(X:Cx),X.prog=P->X.w=w->X.K=K->X.calm=true->∀(i:Nat)(pins:List (Addr×Obj)) (s:Shared) (σ:St) (H:Hp) (E:Value->Shared->Prop),Inv X pins σ H s->(∀ b∈fp,pS X pins H b)->tn i s.heap->J.go i H ->
  wpAny (model P w) X.A (pyNext (.ref it)) (fun r s1=>∃ u,r=some u /\
   wpAny (model P w) X.A (letOwnedTupleGo tg (.ref it) u) (fun _ s2=>∃ x H',Inv X pins σ H' s2/\RelV x u/\J.yld i H x H'/\tn (i+1) s2.heap/\∀ b∈fp,H' b=none) E s1) E s
 done:∀(X:Cx),X.prog=P->X.w=w->X.K=K->X.calm=true->∀(i:Nat)(pins:List (Addr×Obj)) (s:Shared) (σ:St) (H:Hp) (E:Value->Shared->Prop),Inv X pins σ H s->(∀ b∈fp,pS X pins H b)->tn i s.heap->J.stop i H ->
  wpAny (model P w) X.A (pyNext (.ref it)) (fun r s1=>r=none/\Inv X pins σ H s1) E s
 self:∀(A:Around)(i:Nat)(s:Shared)(Q:Value->Shared->Prop)(E:Value->Shared->Prop),tn i s.heap->Q (.ref it) s->wpAny (model P w) A (pyIter (.ref it)) Q E s
abbrev TI:=St->Hp->(It->Hp->Prop)->Prop
def PIE (X:Cx)(pins:List (Addr×Obj))(σ:St)(tg:Expr)(R:It->Hp->Prop)(itv:Value)(s2:Shared):Prop :=
 ∃(it:Addr)(fp:List Addr)(tn:Nat->Heap->Prop)(J:It)(H':Hp),itv=.ref it/\Inv X pins σ H' s2/\Turn X.prog X.w X.K tg J fp it tn/\tn 0 s2.heap/\(∀ b∈fp,pS X pins H' b)/\R J H'
def PI (X:Cx)(tg iter:Expr)(wi:TI):Prop :=
 ∀(pins:List (Addr×Obj)) (s:Shared) (σ:St) (H:Hp) (R:It->Hp->Prop),Inv X pins σ H s->wi σ H R ->
  wpAny (model X.prog X.w) X.A (eval iter X.env) (fun v s1=>wpAny (model X.prog X.w) X.A (pyIter v) (PIE X pins σ tg R) X.xe s1) X.xe s
theorem aay {M:Model}{A:Around}{E:Value->Shared->Prop}{s:Shared}{tg:Expr}{it:Addr}{u:Value}{o:Obj}{n:String}{vs:Array Value}{Q:Unit->Shared->Prop}(ho:s.heap.get? it=some o)(hc:o.cls=.type n)(hd:o.data=.fields vs)
  (hn:["enumerate","zip","dict_itemiterator","dict_reverseitemiterator","odict_iterator","itertools.zip_longest","itertools.pairwise"].contains n=false) (hQ:Q () s):wpAny M A (letOwnedTupleGo tg (.ref it) u) Q E s:=by
 unfold letOwnedTupleGo;cases tg <;> first
  |exact wpAny_pure hQ
  |(cases u <;> first
    |exact wpAny_pure hQ
    |(refine wpAny_bind (wpAny_load ho ?_);rw[hc,hd];show wpAny M A (if(["enumerate","zip","dict_itemiterator","dict_reverseitemiterator","odict_iterator","itertools.zip_longest","itertools.pairwise"].contains n&&vs[0]? == some (rawInt _))=true then _ else _) Q E s;rw[if_neg (by intro h;rw[hn,Bool.false_and]at h;cases h)];exact wpAny_pure hQ))
def Itl (K:Frag)(a:Addr):It :=
 ⟨fun i H=>∃ xs x,aX K H a xs/\xs[i]? = some x,fun i H x H'=>H'=H/\∀ xs,aX K H a xs->xs[i]? = some x,fun i H=>∃ xs,aX K H a xs/\xs.length<=i⟩
def Itt (K:Frag)(a:Addr):It :=
 ⟨fun i H=>∃ xs x,uG K H a xs/\xs[i]? = some x,fun i H x H'=>H'=H/\∀ xs,uG K H a xs->xs[i]? = some x,fun i H=>∃ xs,uG K H a xs/\xs.length<=i⟩
def Itr (lo:Int)(n:Nat):It:=⟨fun i _=>i<n,fun i H x H'=>H'=H/\x=.int (lo+i),fun i _=>n<=i⟩
theorem abr {P:Program}{w:World}{K:Frag}{tg:Expr}(a it:Addr):Turn P w K tg (Itl K a) [it] it (fun i h=>h.IsListIter it a i) where
 mem:=by simp
 obj:=fun i h st b hb=>by
  have e:b=it:=by simpa using hb
  subst e;obtain⟨o,e,c,d⟩:=st;exact⟨o,e,fun v z=>by rw[d]at z;cases z⟩
 keep:=fun i h h' st k=>st.at fun o e=>k it (by simp) o e
 item:=by
  intro X hP hw hK hc i pins s σ H E I hf st hg;subst hP hw hK;obtain⟨xs,x,hq,hx⟩:=hg;obtain⟨its,rv,p,hz⟩:=I.list hq;obtain⟨u,hu,ru⟩:=rv.get hx;obtain⟨f0,f1,f2,f3,f4,f5⟩:=hf it (by simp);refine wpAny_pyNext_list_item st p.isList (x:=u) (by simpa using hu) fun h' st' sb=>?_;have I1:Inv X pins σ H { s with heap:=h' }:=I.turned (t':=s.toks) (fun b o hb e=>(sb.2 b hb).trans e) f0 f1 f3 f4 f5;obtain⟨o,e,c,d⟩:=id st';exact⟨u,rfl,aay (s:={ s with heap:=h' }) e c d (by decide) ⟨x,H,I1,ru,⟨rfl,fun ys hy=>by rw[I.U0 hy hq];exact hx⟩,st',fun b hb=>(hf b hb).1⟩⟩
 done:=by
  intro X hP hw hK hc i pins s σ H E I hf st hg;subst hP hw hK;obtain⟨xs,hq,hx⟩:=hg;obtain⟨its,rv,p,hz⟩:=I.list hq;obtain⟨f0,f1,f2,f3,f4,f5⟩:=hf it (by simp);have hl:=rv.length;exact wpAny_pyNext_list_end (I.ok.hd hc) st p.isList (by simp;omega) fun h' eb=>⟨rfl,I.turned (t':=s.toks) (fun b o hb e=>eb b o hb e) f0 f1 f3 f4 f5⟩
 self:=fun _ _ _ _ _ st h=>wpAny_pyIter_listiter st h
theorem W4 {P:Program}{w:World}{K:Frag}{tg:Expr}(it:Addr)(lo:Int)(n:Nat):Turn P w K tg (Itr lo n) [it] it (fun i h=>IsRangeIter h it (lo+(i:Nat) * 1) ((n:Int)-(i:Nat)) 1) where
 mem:=by simp
 obj:=fun i h st b hb=>by
  have e:b=it:=by simpa using hb
  subst e;exact⟨_,st,fun v z=>by
   have z':Data.fields _=Data.cell v:=z;cases z'⟩
 keep:=fun i h h' st k=>k it (by simp) _ st
 item:=by
  intro X hP hw hK hc i pins s σ H E I hf st hg;subst hP hw hK;obtain⟨f0,f1,f2,f3,f4,f5⟩:=hf it (by simp);have W:=Walks.range (prog:=X.prog) (w:=X.w) (I.ok.hd hc) it lo 1 n;refine W.item i s _ _ hg st fun v h' tk hv st' kk=>?_;obtain⟨t,rfl⟩:=hv;have I1:Inv X pins σ H { s with heap:=h',toks:=tk }:=I.turned (fun b o hb e=>kk b o (by simpa using hb) e) f0 f1 f3 f4 f5;refine⟨_,rfl,aay (s:={ s with heap:=h',toks:=tk }) (n:="range_iterator") st' rfl rfl (by decide) ⟨.int (lo+i),H,I1,⟨t,?_⟩,⟨rfl,rfl⟩,st',fun b hb=>(hf b hb).1⟩⟩;rw[Int.mul_one]
 done:=by
  intro X hP hw hK hc i pins s σ H E I hf st hg;subst hP hw hK;obtain⟨f0,f1,f2,f3,f4,f5⟩:=hf it (by simp);exact wpAny_pyNext_range_end (I.ok.hd hc) st (by have:n<=i:=hg;omega) fun h' eb=>⟨rfl,I.turned (t':=s.toks) (fun b o hb e=>eb b o hb e) f0 f1 f3 f4 f5⟩
 self:=fun _ _ _ _ _ st h=>wpAny_pyIter_rangeiter st h
end L2
namespace L2
open PySem PySem.Spec PyProof.Rows
section
variable {X:Cx} {tg:Expr}
inductive adl (K:Frag)(R:(It->Hp->Prop))(x:V)(H1:Hp):Prop
 |mk (a:_) (eO:x=.ref a) (eP:(∃ xs,aX K H1 a xs)/\R (Itl K a) H1):adl K R x H1
def ajJ (K:Frag)(tl:TE):TI:=fun σ H R=>tl σ H fun x H1=>adl K R x H1
inductive ajK (K:Frag)(R:(It->Hp->Prop))(x:V)(H1:Hp):Prop
 |mk (a:_) (eO:x=.ref a) (eP:(∃ xs,uG K H1 a xs)/\R (Itt K a) H1):ajK K R x H1
theorem gL {l:Expr}{tl:TE}(hl:PE X l tl):PI X tg l (ajJ X.K tl):=by
 intro pins s σ H R I h;refine cH (hl pins s σ H _ I h) fun v s1 ⟨x,H1,I1,r1,q1⟩=>?_;obtain⟨a,e,⟨xs,hq⟩,q⟩:=q1;subst e;cases r1;obtain⟨its,rv,p,hz⟩:=I1.list hq;refine wpAny_pyIter_list p.isList ?_;refine⟨s1.heap.objs.size,[s1.heap.objs.size],_,_,H1,rfl,I1.kept (t':=s1.toks) fun b o e=>Heap.get?_push_of_some _ e,abr a _,⟨_,Heap.get?_push_size _ rfl,rfl,rfl⟩,fun b hb=>?_,q⟩;have e:b=s1.heap.objs.size:=by simpa using hb
 subst e;exact I1.QV (Nat.le_refl _) (I1.hok.fresh (Nat.le_refl _))
theorem U2 {pins:List (Addr×Obj)}{σ:St}{H:Hp}{s:Shared}{R:It->Hp->Prop}{E:Value->Shared->Prop}{lo hi:Int}{t u v:Tok}{tk:Nat}(I:Inv X pins σ H s)(h1:-(2 ^ 62)<=lo)(h2:lo<2 ^ 62)(h3:-(2 ^ 62)<=hi)(h4:hi<2 ^ 62)
  (q:R (Itr lo (hi-lo).toNat) H):wpAny (model X.prog X.w) X.A (pyIter (.ref s.heap.objs.size)) (PIE X pins σ tg R) E { s with heap:=s.heap.push { cls:=.type "range",data:=.fields #[.int lo t,.int hi u,.int 1 v] },toks:=tk }:=by
 refine wpAny_pyIter_range (IsRange.new ..) (small_one h1 h2 h3 h4) ?_;have I1:Inv X pins σ H { s with heap:=s.heap.push { cls:=.type "range",data:=.fields #[.int lo t,.int hi u,.int 1 v] },toks:=tk }:=I.kept fun b o e=>Heap.get?_push_of_some _ e;refine⟨(s.heap.push { cls:=.type "range",data:=.fields #[.int lo t,.int hi u,.int 1 v] }).objs.size,[(s.heap.push { cls:=.type "range",data:=.fields #[.int lo t,.int hi u,.int 1 v] }).objs.size],_,_,H,rfl,
  I1.kept (t':=tk) fun b o e=>Heap.get?_push_of_some _ e,W4 _ lo (hi-lo).toNat,?_,fun b hb=>?_,q⟩
 ·have e1:lo+((0:Nat):Int) * 1=lo:=by simp
  have e2:(((hi-lo).toNat:Nat):Int)-((0:Nat):Int)=Builtin.Range.rangeSize lo hi 1:=by rw[rangeSize_one];split <;> omega
  show IsRangeIter _ _ (lo+((0:Nat):Int) * 1) ((((hi-lo).toNat:Nat):Int)-((0:Nat):Int)) 1;rw[e1,e2];exact Heap.get?_push_size _ rfl
 ·have e:b=(s.heap.push { cls:=.type "range",data:=.fields #[.int lo t,.int hi u,.int 1 v] }).objs.size:=by simpa using hb
  subst e;exact I1.QV (Nat.le_refl _) (I1.hok.fresh (Nat.le_refl _))
inductive adm (R:(It->Hp->Prop))(vs:List V)(H1:Hp):Prop
 |mk (j:Int) (eO:vs=[.int j]) (eP:-(2 ^ 62)<=j/\j<2 ^ 62/\R (Itr 0 j.toNat) H1):adm R vs H1
def ajL (ta:TA):TI:=fun σ H R=>ta σ H fun vs H1=>adm R vs H1
inductive adn (R:(It->Hp->Prop))(vs:List V)(H1:Hp):Prop
 |mk (i j:Int) (eO:vs=[.int i,.int j]) (eP:(-(2 ^ 62)<=i/\i<2 ^ 62/\-(2 ^ 62)<=j/\j<2 ^ 62)) (hX:R (Itr i (j-i).toNat) H1):adn R vs H1
def ajM (ta:TA):TI:=fun σ H R=>ta σ H fun vs H1=>adn R vs H1
theorem m9 {a:Expr}{ta:TA}{p pos:Pos}(hg:Gl X "range")(hm:X.mg "range"=none)(ha:PA X [a] ta)(hs:starEach [a] X.env=[(false,eval a X.env)]:=by rfl):PI X tg (.Call (.Name "range" p) [a] [] pos) (ajL ta):=by
 intro pins s σ H R I h;refine Call_ (uF I hg hm boot_range (PyProof.Rows.callWith_type1 (cH (ha pos pins s σ H _ I h) fun us s1 ⟨vs,H1,I1,r1,q1⟩=>?_) hs rfl));obtain⟨j,e,q1,q2,q⟩:=q1;subst e;cases r1 with
 |cons r rr =>
  cases rr;obtain⟨t,rfl⟩:=r;exact call_range_1 (U2 I1 (by omega) (by omega) q1 q2 (by simpa using q))
theorem abt {a b:Expr}{ta:TA}{p pos:Pos}(hg:Gl X "range")(hm:X.mg "range"=none)(ha:PA X [a,b] ta)(hs:starEach [a,b] X.env=[(false,eval a X.env),(false,eval b X.env)]:=by rfl)(hs2:starEach [b] X.env=[(false,eval b X.env)]:=by rfl) :
  PI X tg (.Call (.Name "range" p) [a,b] [] pos) (ajM ta):=by
 intro pins s σ H R I h;refine Call_ (uF I hg hm boot_range (PyProof.Rows.callWith_type1 (cH (ha pos pins s σ H _ I h) fun us s1 ⟨vs,H1,I1,r1,q1⟩=>?_) (by rw[hs,hs2]) (by rw[hs2];rfl)));obtain⟨i,j,e,⟨q1,q2,q3,q4⟩,q⟩:=q1;subst e;cases r1 with
 |cons r rr =>
  cases rr with
  |cons r' rr =>
   cases rr;obtain⟨t,rfl⟩:=r;obtain⟨t',rfl⟩:=r';exact call_range_2 (U2 I1 q1 q2 q3 q4 q)
def al2 (wi:TI)(g:TG)(tb:TS):TS:=fun D σ H=>wi σ H fun J H1=>∃ W:Nat->Nat->St->Hp->Prop,(∃ m,W 0 m σ H1)/\∀ i m σ H,W i m σ H ->
 (J.stop i H/\D.nx σ H)\/(J.go i H/\∃ N:St->Hp->Prop,(∀ σ' H',N σ' H'->∃ m',m'<m/\W (i+1) m' σ' H')/\∀ x H',J.yld i H x H'->g x σ H' fun σ2 H2=>tb { D with nx:=N,ct:=N,bk:=D.nx } σ2 H2)
def Mq (fp:List Addr)(h:Heap):List (Addr×Obj):=fp.filterMap fun b=>(h.get? b).map fun o=>(b,o)
theorem wc {fp:List Addr}{h:Heap}{b:Addr}{o:Obj}(hb:b∈fp)(e:h.get? b=some o):(b,o)∈Mq fp h:=List.mem_filterMap.mpr ⟨b,hb,by rw[e];rfl⟩
theorem abu {fp:List Addr}{h:Heap}{p:Addr×Obj}(hp:p∈Mq fp h):p.1∈fp/\h.get? p.1=some p.2:=by
 obtain⟨b,hb,e⟩:=List.mem_filterMap.mp hp;cases q:h.get? b with
 |none=>rw[q]at e;cases e
 |some o =>
  rw[q]at e;have e':(b,o)=p:=Option.some.inj e;subst e';exact⟨hb,q⟩
theorem Inv.pinned {pins:List (Addr×Obj)}{σ:St}{H:Hp}{s:Shared}{fp:List Addr}(I:Inv X pins σ H s)(hf:∀ b∈fp,pS X pins H b)(ho:∀ b∈fp,∃ o,s.heap.get? b=some o/\∀ v,o.data≠.cell v):Inv X (pins++Mq fp s.heap) σ H s :=
 I.aax fun p hp=>(mem_append.mp hp).elim (fun z=>I.pin p (mem_append_right _ z)) fun z=>by
  obtain⟨hb,e⟩:=abu z;obtain⟨f0,f1,f2,_⟩:=hf p.1 hb;obtain⟨o,e',d⟩:=ho p.1 hb;rw[e]at e';cases e';exact⟨e,f0,f1,f2,d⟩
theorem Inv.yn {pins pl:List (Addr×Obj)}{σ:St}{H:Hp}{s:Shared}(I:Inv X (pins++pl) σ H s):Inv X pins σ H s:=I.aax fun p hp=>I.pin p (mem_append_right _ (mem_append_left _ hp))
theorem gR {iter:Expr}{body:List Stmt}{wi:TI}{g:TG}{tb:TS}{pos:Pos}(hp:PassesOwn (model X.prog X.w) X.A X.env X.xe)(hc:X.calm=true)(hi:PI X tg iter wi)(hg:PG X tg g)(hb:Me X body tb)
  (hs:∀ x,foldedSetIterable iter X.env x=pure x:=by intro _;rfl):PS X (.For tg iter body [] pos) (al2 wi g tb):=by
 intro pins s σ H D I h;refine wpAny_For (cH (hi pins s σ H _ I h) fun v s1 h1=>cH h1 fun itv s2 h2=>?_) hs;obtain⟨it,fp,tn,J,H2,e,I2,T,st2,f2,W,⟨m0,w0⟩,turn⟩:=h2;subst e;have stat:∀{H':Hp},(∀ b∈fp,H' b=none)->∀ b∈fp,pS X pins H' b:=fun hn b hb=>⟨hn b hb,(f2 b hb).2⟩;refine codeAny_forLoop_any (fun n s'=>∃ i σ' H',Inv X pins σ' H' s'/\tn i s'.heap/\(∀ b∈fp,H' b=none)/\W i n σ' H') ?_ m0 ⟨0,σ,H2,I2,st2,fun b hb=>(f2 b hb).1,w0⟩;rintro n s3 ⟨i,σ3,H3,I3,st3,fr3,w3⟩;rcases turn i n σ3 H3 w3 with ⟨stop,qn⟩|⟨go,N,hN,step⟩
 ·refine wpAny_passesOwn hp (cH (T.done X rfl rfl rfl hc i pins s3 σ3 H3 X.xe I3 (stat fr3) st3 stop) fun r s4 ⟨hr,I4⟩=>?_);subst hr;exact wpAny_execs_nil ⟨σ3,H3,I4,qn⟩
 ·refine wpAny_passesOwn hp (cH (T.item X rfl rfl rfl hc i pins s3 σ3 H3 X.xe I3 (stat fr3) st3 go) fun r s4 ⟨u,hr,h4⟩=>?_);subst hr;refine wpAny_passesOwn hp (cH h4 fun _ s5 ⟨x,H5,I5,r5,y5,st5,fr5⟩=>?_);have I5':=I5.pinned (stat fr5) (T.obj _ _ st5);refine wpAny_passesOwn hp (cH (hg _ s5 σ3 H5 x u _ I5' r5 (step x H5 y5)) fun _ s6 ⟨σ6,H6,I6,q6⟩=>?_);refine wpAny_passesOwn hp (cH (hb _ s6 σ6 H6 _ I6 q6) fun f s7 q7=>?_);have again:∀{σ7:St} {H7:Hp},Inv X (pins++Mq fp s5.heap) σ7 H7 s7->N σ7 H7->∃ m,m<n/\∃ i σ' H',Inv X pins σ' H' s7/\tn i s7.heap/\(∀ b∈fp,H' b=none)/\W i m σ' H':=fun {σ7 H7} I7 n7=>by
   obtain⟨m',hm,w7⟩:=hN σ7 H7 n7;refine⟨m',hm,i+1,σ7,H7,I7.yn,T.keep _ _ _ st5 fun b hb o e=>(I7.pin (b,o) (mem_append_right _ (mem_append_right _ (wc hb e)))).1,fun b hb=>?_,w7⟩;obtain⟨o,e,d⟩:=T.obj _ _ st5 b hb;exact(I7.pin (b,o) (mem_append_right _ (mem_append_right _ (wc hb e)))).2.1
  cases f with
  |next=>obtain⟨σ7,H7,I7,n7⟩:=q7;exact again I7 n7
  |cont=>obtain⟨σ7,H7,I7,n7⟩:=q7;exact again I7 n7
  |brk=>obtain⟨σ7,H7,I7,q7⟩:=q7;exact⟨σ7,H7,I7.yn,q7⟩
  |ret v=>obtain⟨x7,σ7,H7,I7,r7,q7⟩:=q7;exact⟨x7,σ7,H7,I7.yn,r7,q7⟩
end
theorem rm {K:Frag}{a:Addr}{xs:List V}{g:TG}{tb:TS}{D:Ends}{σ:St}{H:Hp}(Pv:Nat->St->Hp->Prop)(h0:Pv 0 σ H)(hl:∀ i σ H,i<=xs.length->Pv i σ H->aX K H a xs)
  (hs:∀ i x σ H,xs[i]? = some x->Pv i σ H->g x σ H fun σ2 H2=>tb { D with nx:=Pv (i+1),ct:=Pv (i+1),bk:=D.nx } σ2 H2) (hd:∀ σ H,Pv xs.length σ H->D.nx σ H) :
  ∃ W:Nat->Nat->St->Hp->Prop,(∃ m,W 0 m σ H)/\∀ i m σ H,W i m σ H ->
   ((Itl K a).stop i H/\D.nx σ H)\/((Itl K a).go i H/\∃ N:St->Hp->Prop,(∀ σ' H',N σ' H'->∃ m',m'<m/\W (i+1) m' σ' H')/\∀ x H',(Itl K a).yld i H x H'->g x σ H' fun σ2 H2=>tb { D with nx:=N,ct:=N,bk:=D.nx } σ2 H2):=by
 refine⟨fun i m σ H=>m=xs.length-i/\i<=xs.length/\Pv i σ H,⟨xs.length,by simp,Nat.zero_le _,h0⟩,?_⟩;rintro i m σ H ⟨rfl,hi,p⟩;have q:=hl i σ H hi p
 by_cases hlt:i<xs.length
 ·refine .inr ⟨⟨xs,xs[i],q,by simp[hlt]⟩,Pv (i+1),fun σ' H' p'=>⟨xs.length-(i+1),by omega,rfl,hlt,p'⟩,fun x H' y=>?_⟩;obtain⟨e,y⟩:=y;subst e;exact hs i x σ _ (y xs q) p
 ·have e:i=xs.length:=by omega
  subst e;exact .inl ⟨⟨xs,q,Nat.le_refl _⟩,hd σ H p⟩
theorem kZ {lo:Int}{n:Nat}{g:TG}{tb:TS}{D:Ends}{σ:St}{H:Hp}(Pv:Nat->St->Hp->Prop)(h0:Pv 0 σ H)
  (hs:∀ i σ H,i<n->Pv i σ H->g (.int (lo+i)) σ H fun σ2 H2=>tb { D with nx:=Pv (i+1),ct:=Pv (i+1),bk:=D.nx } σ2 H2) (hd:∀ σ H,Pv n σ H->D.nx σ H) :
  ∃ W:Nat->Nat->St->Hp->Prop,(∃ m,W 0 m σ H)/\∀ i m σ H,W i m σ H ->
   ((Itr lo n).stop i H/\D.nx σ H)\/((Itr lo n).go i H/\∃ N:St->Hp->Prop,(∀ σ' H',N σ' H'->∃ m',m'<m/\W (i+1) m' σ' H')/\∀ x H',(Itr lo n).yld i H x H'->g x σ H' fun σ2 H2=>tb { D with nx:=N,ct:=N,bk:=D.nx } σ2 H2):=by
 refine⟨fun i m σ H=>m=n-i/\i<=n/\Pv i σ H,⟨n,by simp,Nat.zero_le _,h0⟩,?_⟩;rintro i m σ H ⟨rfl,hi,p⟩
 by_cases hlt:i<n
 ·refine .inr ⟨hlt,Pv (i+1),fun σ' H' p'=>⟨n-(i+1),by omega,rfl,hlt,p'⟩,fun x H' y=>?_⟩;obtain⟨e,y⟩:=y;subst e y;exact hs i σ _ hlt p
 ·have e:i=n:=by omega
  subst e;exact .inl ⟨Nat.le_refl _,hd σ H p⟩
end L2
namespace L2
open PySem PySem.Spec PyProof.Rows
abbrev R2:=V->V->Hp->VK->Prop
def v9 (X:Cx)(f:Value->Value->Sem Value)(r:R2):Prop :=
 ∀(pins:List (Addr×Obj)) (s:Shared) (σ:St) (H:Hp) (x y:V) (v u:Value) (Q:VK),Inv X pins σ H s->RelV x v->RelV y u->r x y H Q ->
  wpAny (model X.prog X.w) X.A (f v u) (EP X pins σ Q) X.xe s
def UnR (X:Cx)(f:Value->Sem Value)(r:V->Hp->VK->Prop):Prop :=
 ∀(pins:List (Addr×Obj)) (s:Shared) (σ:St) (H:Hp) (x:V) (v:Value) (Q:VK),Inv X pins σ H s->RelV x v->r x H Q ->
  wpAny (model X.prog X.w) X.A (f v) (EP X pins σ Q) X.xe s
def lH (X:Cx)(f:Value)(r:List V->Hp->VK->Prop):Prop :=
 ∀(pins:List (Addr×Obj)) (s:Shared) (σ:St) (H:Hp) (xs:List V) (us:List Value) (Q:VK),Inv X pins σ H s->Vals xs us->r xs H Q ->
  wpAny (model X.prog X.w) X.A (call f us) (EP X pins σ Q) X.xe s
def tOp (r:R2)(ta tb:TE):TE:=fun σ H Q=>ta σ H fun x H1=>tb σ H1 fun y H2=>r x y H2 Q
def tUn (r:V->Hp->VK->Prop)(ta:TE):TE:=fun σ H Q=>ta σ H fun x H1=>r x H1 Q
inductive rII (C:Int->Int->Prop)(g:Int->Int->V)(x:V)(y:V)(H:Hp)(Q:VK):Prop
 |mk (i:_) (j:_) (eO:x=.int i) (eP:y=.int j) (hX:C i j/\Q (g i j) H):rII C g x y H Q
def rI (C:Int->Int->Prop)(g:Int->Int->V):R2:=fun x y H Q=>rII C g x y H Q
inductive ajN (g:Int->Int->V)(x:V)(y:V)(H:Hp)(Q:VK):Prop
 |mk (i:_) (j:_) (eO:x=.int i) (eP:y=.int j) (hX:Q (g i j) H):ajN g x y H Q
def rI0 (g:Int->Int->V):R2:=fun x y H Q=>ajN g x y H Q
def rU (g:Int->V):V->Hp->VK->Prop:=fun x H Q=>∃ i,x=.int i/\Q (g i) H
section
variable {X:Cx} {a b c:Expr} {ta tb tc:TE} {pos:Pos}
theorem ahW (ha:PE X a ta)(hb:PE X b tb){pins:List (Addr×Obj)}{s:Shared}{σ:St}{H:Hp}{R:V->V->Hp->Prop}(I:Inv X pins σ H s)
  (h:ta σ H fun x H1=>tb σ H1 fun y H2=>R x y H2) {Q:Value->Shared->Prop} {f:Value->Value->Sem Value}
  (hf:∀ v u s2 x y H2,Inv X pins σ H2 s2->RelV x v->RelV y u->R x y H2->wpAny (model X.prog X.w) X.A (f v u) Q X.xe s2) :
  wpAny (model X.prog X.w) X.A (eval a X.env) (fun v s₁=>wpAny (model X.prog X.w) X.A (eval b X.env) (fun u s₂=>wpAny (model X.prog X.w) X.A (f v u) Q X.xe s₂) X.xe s₁) X.xe s:=by
 refine cH (ha pins s σ H _ I h) fun v s1 ⟨x,H1,I1,r1,q1⟩=>?_;refine cH (hb pins s1 σ H1 _ I1 q1) fun u s2 ⟨y,H2,I2,r2,q2⟩=>?_;exact hf v u s2 x y H2 I2 r1 r2 q2
theorem aI {op:Operator}{r:R2}(ho:v9 X (binaryOp op) r)(ha:PE X a ta)(hb:PE X b tb):PE X (.BinOp a op b pos) (tOp r ta tb):=by
 intro pins s σ H Q I h;exact wpAny_BinOp (ahW ha hb I h fun v u s2 x y H2 I2 rx ry q=>ho pins s2 σ H2 x y v u Q I2 rx ry q)
theorem A0 {op:UnaryOp}{r:V->Hp->VK->Prop}(ho:UnR X (unaryOp op) r)(ha:PE X a ta):PE X (.UnaryOp op a pos) (tUn r ta):=by
 intro pins s σ H Q I h;exact UnaryOp_ (cH (ha pins s σ H _ I h) fun v s1 ⟨x,H1,I1,r1,q1⟩=>ho pins s1 σ H1 x v Q I1 r1 q1)
theorem opI {f:Value->Value->Sem Value}{C:Int->Int->Prop}{g:Int->Int->Int}
  (rule:∀(i j:Int)(t u:Tok)(s:Shared)(Q:Value->Shared->Prop)(E:Value->Shared->Prop),C i j->Q (.int (g i j) s.toks) { s with toks:=s.toks+1 }->wpAny (model X.prog X.w) X.A (f (.int i t) (.int j u)) Q E s) :
  v9 X f (rI C fun i j=>.int (g i j)):=by
 intro pins s σ H x y v u Q I rx ry h;obtain⟨i,j,rfl,rfl,hc,q⟩:=h;obtain⟨t,rfl⟩:=rx;obtain⟨t',rfl⟩:=ry;exact rule i j t t' s _ _ hc ⟨.int (g i j),H,I.tok _,⟨_,rfl⟩,q⟩
theorem ajP {f:Value->Value->Sem Value}{g:Int->Int->Int}
  (rule:∀(i j:Int)(t u:Tok)(s:Shared)(Q:Value->Shared->Prop)(E:Value->Shared->Prop),Q (.int (g i j) s.toks) { s with toks:=s.toks+1 }->wpAny (model X.prog X.w) X.A (f (.int i t) (.int j u)) Q E s) :
  v9 X f (rI0 fun i j=>.int (g i j)):=by
 intro pins s σ H x y v u Q I rx ry h;obtain⟨i,j,rfl,rfl,q⟩:=h;obtain⟨t,rfl⟩:=rx;obtain⟨t',rfl⟩:=ry;exact rule i j t t' s _ _ ⟨.int (g i j),H,I.tok _,⟨_,rfl⟩,q⟩
theorem afN {f:Value->Value->Sem Value}{g:Int->Int->Bool}
  (rule:∀(i j:Int)(t u:Tok)(s:Shared)(Q:Value->Shared->Prop)(E:Value->Shared->Prop),Q (.bool (g i j)) s->wpAny (model X.prog X.w) X.A (f (.int i t) (.int j u)) Q E s) :
  v9 X f (rI0 fun i j=>.bl (g i j)):=by
 intro pins s σ H x y v u Q I rx ry h;obtain⟨i,j,rfl,rfl,q⟩:=h;obtain⟨t,rfl⟩:=rx;obtain⟨t',rfl⟩:=ry;exact rule i j t t' s _ _ ⟨.bl (g i j),H,I,rfl,q⟩
def al6 (i j:Int):Prop:=0<j/\j<1073741824
def al7 (i j:Int):Prop:=0<=j/\j<=1000000/\i.natAbs<2 ^ 64
def ahX (i j:Int):Prop:=(-(2 ^ 64)<i/\i<2 ^ 64)\/(-(2 ^ 64)<j/\j<2 ^ 64)
theorem ahX.ok {i j:Int}(h:ahX i j):IntMulOk i j:=by
 rcases h with ⟨h1,h2⟩|⟨h1,h2⟩
 ·exact .of_left (intBits_le_64 h1 h2)
 ·exact .of_right (intBits_le_64 h1 h2)
theorem bP:v9 X (binaryOp .Add) (rI0 fun i j=>.int (i+j)):=ajP fun _ _ _ _ _ _ _ q=>add_int q
theorem eW:v9 X (binaryOp .Sub) (rI0 fun i j=>.int (i-j)):=ajP fun _ _ _ _ _ _ _ q=>sub_int q
theorem nc:v9 X (binaryOp .Mult) (rI ahX fun i j=>.int (i * j)):=opI fun _ _ _ _ _ _ _ hc q=>mul_int q hc.ok
theorem fU:v9 X (binaryOp .FloorDiv) (rI al6 fun i j=>.int (i / j)):=opI fun i j _ _ _ _ _ hc q=>by
 have h1:(0:Int)<j:=hc.1;have h2:j<1073741824:=hc.2;exact floordiv_int (by omega) (by rw[Int.fdiv_eq_ediv_of_nonneg i (by omega)];exact q) (.inl (PyProof.noPylong_small (by omega)))
theorem c7:v9 X (binaryOp .Mod) (rI (fun _ j=>0<j) fun i j=>.int (i % j)):=opI fun i j _ _ _ _ _ hc q=>by
 have h1:(0:Int)<j:=hc;exact mod_int' (by omega) (by rw[Int.fmod_eq_emod_of_nonneg i (by omega)];exact q)
theorem W5:v9 X (binaryOp .Pow) (rI al7 fun i j=>.int (i ^ j.toNat)):=opI fun _ _ _ _ _ _ _ hc q=>pow_int_small hc.1 hc.2.1 hc.2.2 q
theorem unI {f:Value->Sem Value}{g:Int->Int}
  (rule:∀(i:Int)(t:Tok)(s:Shared)(Q:Value->Shared->Prop)(E:Value->Shared->Prop),Q (.int (g i) s.toks) { s with toks:=s.toks+1 }->wpAny (model X.prog X.w) X.A (f (.int i t)) Q E s) :
  UnR X f (rU fun i=>.int (g i)):=by
 intro pins s σ H x v Q I rx h;obtain⟨i,rfl,q⟩:=h;obtain⟨t,rfl⟩:=rx;exact rule i t s _ _ ⟨.int (g i),H,I.tok _,⟨_,rfl⟩,q⟩
theorem uH:UnR X (unaryOp .USub) (rU fun i=>.int (-i)):=unI fun _ _ _ _ _ q=>neg_int q
end
def ajQ:V->V->Bool
 |.non,.non=>true|.non,.int _=>true|.int _,.non=>true|.non,.bl _=>true|.bl _,.non=>true|.non,.str _=>true|.str _,.non=>true
 |.int _,.int _=>true|.bl _,.bl _=>true|.str _,.str _=>true|.byt _,.byt _=>true
 |.int _,.str _=>true|.str _,.int _=>true|.bl _,.str _=>true|.str _,.bl _=>true
 |_,_=>false
def rEq:R2:=fun x y H Q=>ajQ x y=true/\Q (.bl (decide (x=y))) H
def rNe:R2:=fun x y H Q=>ajQ x y=true/\Q (.bl (!decide (x=y))) H
theorem aaz {i j:Int}:decide (V.int i=V.int j)=(i==j):=by
 rw[Bool.eq_iff_iff];simp
theorem ado {i j:Bool}:decide (V.bl i=V.bl j)=(i==j):=by
 rw[Bool.eq_iff_iff];simp
theorem aaA {i j:Str}:decide (V.str i=V.str j)=(i==j):=by
 rw[Bool.eq_iff_iff];simp
theorem aaB {i j:Array UInt8}:decide (V.byt i=V.byt j)=(i.toList==j.toList):=by
 rw[Bool.eq_iff_iff];cases i;cases j;simp
section
variable {X:Cx} {a b c:Expr} {ta tb tc:TE} {pos:Pos}
theorem cq {pins:List (Addr×Obj)}{σ:St}{H:Hp}{s:Shared}{Q:VK}{k k':Bool}(I:Inv X pins σ H s)(q:Q (.bl k) H)(e:k=k'):EP X pins σ Q (.bool k') s:=by
 subst e;exact⟨.bl k,H,I,rfl,q⟩
theorem bg:v9 X (compareOp .Eq) rEq:=by
 intro pins s σ H x y v u Q I rx ry h;obtain⟨hs,q⟩:=h;cases x with
 |non =>
  cases rx;cases y with
  |non=>cases ry;exact PySem.EqNone.eq_none_none (cq I q (by simp))
  |bl j=>cases ry;exact PySem.EqNone.eq_none_bool (cq I q (by simp))
  |int j=>obtain⟨t',rfl⟩:=ry;exact PySem.EqNone.eq_none_int (cq I q (by simp))
  |str j=>obtain⟨t',rfl⟩:=ry;exact PySem.EqNone.eq_none_str (cq I q (by simp))
  |_=>exact absurd (show false=true from hs) Bool.false_ne_true
 |bl i =>
  cases rx;cases y with
  |non=>cases ry;exact PySem.EqNone.eq_bool_none (cq I q (by simp))
  |bl j=>cases ry;exact eq_bool (cq I q ado)
  |str j=>obtain⟨t',rfl⟩:=ry;exact PySem.EqMixed.eq_bool_str (cq I q (by simp))
  |_=>exact absurd (show false=true from hs) Bool.false_ne_true
 |int i =>
  obtain⟨t,rfl⟩:=rx;cases y with
  |non=>cases ry;exact PySem.EqNone.eq_int_none (cq I q (by simp))
  |int j=>obtain⟨t',rfl⟩:=ry;exact eq_int (cq I q aaz)
  |str j=>obtain⟨t',rfl⟩:=ry;exact PySem.EqMixed.eq_int_str (cq I q (by simp))
  |_=>exact absurd (show false=true from hs) Bool.false_ne_true
 |str i =>
  obtain⟨t,rfl⟩:=rx;cases y with
  |non=>cases ry;exact PySem.EqNone.eq_str_none (cq I q (by simp))
  |bl j=>cases ry;exact PySem.EqMixed.eq_str_bool (cq I q (by simp))
  |int j=>obtain⟨t',rfl⟩:=ry;exact PySem.EqMixed.eq_str_int (cq I q (by simp))
  |str j=>obtain⟨t',rfl⟩:=ry;exact eq_str (cq I q aaA)
  |_=>exact absurd (show false=true from hs) Bool.false_ne_true
 |byt i =>
  obtain⟨t,rfl⟩:=rx;cases y with
  |byt j=>obtain⟨t',rfl⟩:=ry;exact PySem.W.eq_bytes (cq I q aaB)
  |_=>exact absurd (show false=true from hs) Bool.false_ne_true
 |_=>cases y <;> exact absurd (show false=true from hs) Bool.false_ne_true
theorem rp:v9 X (compareOp .NotEq) rNe:=by
 intro pins s σ H x y v u Q I rx ry h;obtain⟨hs,q⟩:=h;cases x with
 |non =>
  cases rx;cases y with
  |non=>cases ry;exact PySem.EqNone.ne_none_none (cq I q (by simp))
  |bl j=>cases ry;exact PySem.EqNone.ne_none_bool (cq I q (by simp))
  |int j=>obtain⟨t',rfl⟩:=ry;exact PySem.EqNone.ne_none_int (cq I q (by simp))
  |str j=>obtain⟨t',rfl⟩:=ry;exact PySem.EqNone.ne_none_str (cq I q (by simp))
  |_=>exact absurd (show false=true from hs) Bool.false_ne_true
 |bl i =>
  cases rx;cases y with
  |non=>cases ry;exact PySem.EqNone.ne_bool_none (cq I q (by simp))
  |bl j=>cases ry;exact ne_bool (cq I q (congrArg not ado))
  |str j=>obtain⟨t',rfl⟩:=ry;exact PySem.EqMixed.ne_bool_str (cq I q (by simp))
  |_=>exact absurd (show false=true from hs) Bool.false_ne_true
 |int i =>
  obtain⟨t,rfl⟩:=rx;cases y with
  |non=>cases ry;exact PySem.EqNone.ne_int_none (cq I q (by simp))
  |int j=>obtain⟨t',rfl⟩:=ry;exact ne_int (cq I q (congrArg not aaz))
  |str j=>obtain⟨t',rfl⟩:=ry;exact PySem.EqMixed.ne_int_str (cq I q (by simp))
  |_=>exact absurd (show false=true from hs) Bool.false_ne_true
 |str i =>
  obtain⟨t,rfl⟩:=rx;cases y with
  |non=>cases ry;exact PySem.EqNone.ne_str_none (cq I q (by simp))
  |bl j=>cases ry;exact PySem.EqMixed.ne_str_bool (cq I q (by simp))
  |int j=>obtain⟨t',rfl⟩:=ry;exact PySem.EqMixed.ne_str_int (cq I q (by simp))
  |str j=>obtain⟨t',rfl⟩:=ry;exact ne_str (cq I q (congrArg not aaA))
  |_=>exact absurd (show false=true from hs) Bool.false_ne_true
 |byt i =>
  obtain⟨t,rfl⟩:=rx;cases y with
  |byt j=>obtain⟨t',rfl⟩:=ry;exact PySem.W.ne_bytes (cq I q (congrArg not aaB))
  |_=>exact absurd (show false=true from hs) Bool.false_ne_true
 |_=>cases y <;> exact absurd (show false=true from hs) Bool.false_ne_true
theorem qz:v9 X (compareOp .Lt) (rI0 fun i j=>.bl (decide (i<j))):=afN fun _ _ _ _ _ _ _ q=>lt_int q
theorem vf:v9 X (compareOp .LtE) (rI0 fun i j=>.bl (decide (i<=j))):=afN fun _ _ _ _ _ _ _ q=>le_int q
theorem aaC:v9 X (compareOp .Gt) (rI0 fun i j=>.bl (decide (j<i))):=afN fun _ _ _ _ _ _ _ q=>gt_int q
theorem aaD:v9 X (compareOp .GtE) (rI0 fun i j=>.bl (decide (j<=i))):=afN fun _ _ _ _ _ _ _ q=>ge_int q
theorem cV:v9 X (compareOp .In) (fun x y H Q=>∃ i j,x=.str i/\y=.str j/\Q (.bl (!(Builtin.Str.occurrences j i 0 j.length 1).isEmpty)) H):=by
 intro pins s σ H x y v u Q I rx ry h;obtain⟨i,j,rfl,rfl,q⟩:=h;obtain⟨t,rfl⟩:=rx;obtain⟨t',rfl⟩:=ry;exact in_str (cq I q rfl)
theorem W6:v9 X (compareOp .Is) (fun x y H Q=>y=.non/\Q (.bl (decide (x=.non))) H):=by
 intro pins s σ H x y v u Q I rx ry h;obtain⟨rfl,q⟩:=h;cases ry;refine is_none_gen (cq I q ?_);cases x <;> first
  |(cases rx;rfl)
  |(obtain⟨t,rfl⟩:=rx;rfl)
theorem QW:v9 X (compareOp .IsNot) (fun x y H Q=>y=.non/\Q (.bl (!decide (x=.non))) H):=by
 intro pins s σ H x y v u Q I rx ry h;obtain⟨rfl,q⟩:=h;cases ry;refine isnot_none_gen (cq I q ?_);cases x <;> first
  |(cases rx;rfl)
  |(obtain⟨t,rfl⟩:=rx;rfl)
theorem v9.or {f:Value->Value->Sem Value}{r r':R2}(h:v9 X f r)(h':v9 X f r'):v9 X f (fun x y H Q=>r x y H Q\/r' x y H Q):=by
 intro pins s σ H x y v u Q I rx ry q;rcases q with q|q
 ·exact h pins s σ H x y v u Q I rx ry q
 ·exact h' pins s σ H x y v u Q I rx ry q
theorem az (b:Expr){op:CmpOp}(h:op≠.In:=by decide)(h2:op≠.NotIn:=by decide):behindInMarks op b=false:=by
 have e1:(op==CmpOp.In)=false:=by cases op <;> first|rfl|exact absurd rfl h
 have e2:(op==CmpOp.NotIn)=false:=by cases op <;> first|rfl|exact absurd rfl h2
 cases b <;> simp[behindInMarks,e1,e2]
theorem bQ {op:CmpOp}{r:R2}(ho:v9 X (compareOp op) r)(ha:PE X a ta)(hb:PE X b tb)(hm:behindInMarks op b=false):PE X (.Compare a [op] [b] pos) (tOp r ta tb):=by
 intro pins s σ H Q I h;exact wpAny_Compare1 (ahW ha hb I h fun v u s2 x y H2 I2 rx ry q=>ho pins s2 σ H2 x y v u Q I2 rx ry q) hm
inductive adp (Q:(Bool->Hp->Prop))(x:V)(H':Hp):Prop
 |mk (k:_) (eO:x=.bl k) (eP:Q k H'):adp Q x H'
def ag6 (t:TE):TT:=fun σ H Q=>t σ H fun x H'=>adp Q x H'
theorem ar {op:CmpOp}{r:R2}(ho:v9 X (compareOp op) r)(ha:PE X a ta)(hb:PE X b tb)(hm:behindInMarks op b=false):PT X (.Compare a [op] [b] pos) (ag6 (tOp r ta tb)):=by
 intro pins s σ H Q I h;refine wpAny_isTrue_Compare1 (cH (ha pins s σ H _ I h) fun v s1 ⟨x,H1,I1,r1,q1⟩=>cH (hb pins s1 σ H1 _ I1 q1) fun u s2 ⟨y,H2,I2,r2,q2⟩ =>
  cH (ho pins s2 σ H2 x y v u _ I2 r1 r2 q2) fun c s3 ⟨z,H3,I3,r3,k,e,q3⟩=>?_) hm
 subst e;cases r3;exact wpAny_truthy_bool ⟨H3,I3,q3⟩
def adq (r r':R2)(ta tb tc:TE):TE:=fun σ H Q=>ta σ H fun x H1=>tb σ H1 fun y H2=>r x y H2 fun z H3=>∃ k,z=.bl k /\
 (if k=true then tc σ H3 fun w' H4=>r' y w' H4 Q else Q (.bl false) H3)
theorem U3 {op op':CmpOp}{r r':R2}(ho:v9 X (compareOp op) r)(ho':v9 X (compareOp op') r')(ha:PE X a ta)(hb:PE X b tb)(hc:PE X c tc)
  (hm:lastMarks [op,op'] [b,c]=false:=by with_unfolding_all rfl):PE X (.Compare a [op,op'] [b,c] pos) (adq r r' ta tb tc):=by
 intro pins s σ H Q I h;refine Compare_chain (cH (ha pins s σ H _ I h) fun v s1 ⟨x,H1,I1,r1,q1⟩=>chain_link (cH (hb pins s1 σ H1 _ I1 q1) fun u s2 ⟨y,H2,I2,r2,q2⟩ =>
  cH (ho pins s2 σ H2 x y v u _ I2 r1 r2 q2) fun d s3 ⟨z,H3,I3,r3,k,e,q3⟩=>?_)) hm
 subst e;cases r3;refine wpAny_truthy_bool ?_;cases k with
 |false=>exact ite_ff ⟨.bl false,H3,I3,rfl,q3⟩
 |true=>exact ite_tt (chain_last (cH (hc pins s3 σ H3 _ I3 q3) fun w' s4 ⟨z',H4,I4,r4,q4⟩=>ho' pins s4 σ H4 y z' u w' Q I4 r2 r4 q4))
theorem D0 {op op':CmpOp}{r r':R2}(ho:v9 X (compareOp op) r)(ho':v9 X (compareOp op') r')(ha:PE X a ta)(hb:PE X b tb)(hc:PE X c tc)
  (hm:lastMarks [op,op'] [b,c]=false:=by with_unfolding_all rfl):PT X (.Compare a [op,op'] [b,c] pos) (ag6 (adq r r' ta tb tc)):=by
 intro pins s σ H Q I h;refine isTrue_chain (cH (ha pins s σ H _ I h) fun v s1 ⟨x,H1,I1,r1,q1⟩=>test_link (cH (hb pins s1 σ H1 _ I1 q1) fun u s2 ⟨y,H2,I2,r2,q2⟩ =>
  cH (ho pins s2 σ H2 x y v u _ I2 r1 r2 q2) fun d s3 ⟨z,H3,I3,r3,k,e,q3⟩=>?_)) hm
 subst e;cases r3;refine wpAny_truthy_bool ?_;cases k with
 |false =>
  obtain⟨k',e',q'⟩:=q3;cases e';exact ite_ff ⟨H3,I3,q'⟩
 |true =>
  refine ite_tt (test_last (cH (hc pins s3 σ H3 _ I3 q3) fun w' s4 ⟨z',H4,I4,r4,q4⟩=>cH (ho' pins s4 σ H4 y z' u w' _ I4 r2 r4 q4) fun d' s5 ⟨z2,H5,I5,r5,k2,e2,q5⟩=>?_));subst e2;cases r5;exact wpAny_truthy_bool ⟨H5,I5,q5⟩
theorem GX:(sizeLine:Nat)<2 ^ 63:=by rw[sizeLine_eq];decide
theorem aM:v9 X (binaryOp .Add) (fun x y H Q=>∃ i j,x=.str i/\y=.str j/\i.length+j.length<=sizeLine/\Q (.str (i++j)) H):=by
 intro pins s σ H x y v u Q I rx ry h;obtain⟨i,j,rfl,rfl,hz,q⟩:=h;obtain⟨t,rfl⟩:=rx;obtain⟨t',rfl⟩:=ry;exact add_str (fun t' tk=>⟨.str (i++j),H,I.tok _,⟨_,rfl⟩,q⟩) hz
theorem vals1 {x:V}{us:List Value}(r:Vals [x] us):∃ u,us=[u]/\RelV x u:=by
 cases r with
 |cons r1 r2=>cases r2;exact⟨_,rfl,r1⟩
theorem vals2 {x y:V}{us:List Value}(r:Vals [x,y] us):∃ u w',us=[u,w']/\RelV x u/\RelV y w':=by
 cases r with
 |cons r1 r2 =>
  cases r2 with
  |cons r3 r4=>cases r4;exact⟨_,_,rfl,r1,r3⟩
theorem abw (hc:X.calm=true):lH X (.builtin "max") (fun xs H Q=>∃ i j,xs=[.int i,.int j]/\Q (.int (if j > i then j else i)) H):=by
 intro pins s σ H xs us Q I r h;obtain⟨i,j,rfl,q⟩:=h;obtain⟨u,w',rfl,⟨t,rfl⟩,⟨t',rfl⟩⟩:=vals2 r;refine max_two_ints (I.ok.hd hc) fun h' tk k=>⟨_,H,I.kept k,?_,q⟩
 by_cases hj:j > i
 ·rw[if_pos hj,if_pos hj];exact⟨_,rfl⟩
 ·rw[if_neg hj,if_neg hj];exact⟨_,rfl⟩
theorem abx (hc:X.calm=true):lH X (.builtin "min") (fun xs H Q=>∃ i j,xs=[.int i,.int j]/\Q (.int (if j<i then j else i)) H):=by
 intro pins s σ H xs us Q I r h;obtain⟨i,j,rfl,q⟩:=h;obtain⟨u,w',rfl,⟨t,rfl⟩,⟨t',rfl⟩⟩:=vals2 r;refine min_two_ints (I.ok.hd hc) fun h' tk k=>⟨_,H,I.kept k,?_,q⟩
 by_cases hj:j<i
 ·rw[if_pos hj,if_pos hj];exact⟨_,rfl⟩
 ·rw[if_neg hj,if_neg hj];exact⟨_,rfl⟩
theorem vg:lH X (.type "int") (fun xs H Q=>(∃ i,xs=[.int i]/\Q (.int i) H)\/∃ k,xs=[.bl k]/\Q (.int (if k then 1 else 0)) H):=by
 intro pins s σ H xs us Q I r h;rcases h with ⟨i,rfl,q⟩|⟨k,rfl,q⟩
 ·obtain⟨u,rfl,t,rfl⟩:=vals1 r;exact call_int_int ⟨.int i,H,I,⟨_,rfl⟩,q⟩
 ·obtain⟨u,rfl,r1⟩:=vals1 r;cases r1;exact call_int_bool ⟨.int (if k then 1 else 0),H,I.tok _,⟨_,rfl⟩,q⟩
end
end L2
namespace L2
open PySem PySem.Spec PyProof.Rows
structure W7 (h:Heap)(x dx C:Addr)(mA:Str->Option Value):Prop where
 obj:h.get? x=some (instObj C dx)
 ns:h.Ns1 dx mA
 ne:dx≠x
theorem aby {h:Heap}{dx:Addr}{mA:Str->Option Value}(n:h.Ns1 dx mA):∃ od,h.get? dx=some od/\∀ name,lookIn name od=some (mA name):=by
 obtain⟨o,es,ep,ho,hd,hk,_,hm⟩:=n;refine⟨o,ho,fun name=>?_⟩;have e:=hm name;unfold nsFind findBy at e;rw[<-Array.find?_toList]at e;unfold lookIn;rw[hd];dsimp only;split
 ·rename_i y q
  rw[q]at e;exact congrArg some e
 ·rename_i q
  rw[q]at e;have a:es.toList.any (·.refKey)=false:=by
   rw[List.any_eq_false];intro y hy;obtain⟨z,t,hkey⟩:=hk y (Array.mem_toList_iff.mp hy);simp[DictEntry.refKey,hkey]
  have a':¬ es.toList.any (·.refKey)=true:=by rw[a];exact Bool.false_ne_true
  rw[if_neg a'];exact congrArg some e
theorem W7.look {h:Heap}{x dx C:Addr}{mA:Str->Option Value}(I:W7 h x dx C mA):∃ od,PySem.W.InstAt h x (instObj C dx) C (some od)/\∀ name,lookIn name od=some (mA name) :=
 let ⟨od,ho,hl⟩:=aby I.ns
 ⟨od,⟨I.obj,rfl,rfl,ho⟩,hl⟩
section
variable {prog:Program} {w:World} {A:Around} {E:Value->Shared->Prop} {s:Shared} {K:Frag} {x dx C f:Addr} {mA:Str->Option Value} {name:Str} {v:Value}
theorem get_map {expr:Bool}{Q:Value->Shared->Prop}(X:K.In s.heap)(I:W7 s.heap x dx C mA)(hg:plainGet K C name=true)(hh:hasDictIn K C=true)
  (ha:findIn K (.ref C) name=some none) (hv:mA name=some v) (hv':handedIn v=true) (h:Q v { s with toks:=s.toks+1 }) :
  wpAny (model prog w) A (getAttr (.ref x) name expr) Q E s:=by
 obtain⟨od,J,hl⟩:=I.look;exact PySem.W.get_value X J (plainGet_of hg).1 (PySem.W.findObj_own hh ha rfl (by rw[hl,hv])) hv' h
theorem ads {pl:Sem Bool}{Q:Value×List Value->Shared->Prop}(X:K.In s.heap)(I:W7 s.heap x dx C mA)(hg:plainGet K C name=true)
  (hf:findIn K (.ref C) name=some (some (.ref f))) (ht:isFn K (.ref f)=true) (hv:mA name=none) (h:Q (.ref f,[.ref x]) s) :
  wpAny (model prog w) A (getMethod (.ref x) name pl) Q E s:=by
 obtain⟨od,J,hl⟩:=I.look;exact PySem.W.method_fn X J (plainGet_of hg).1 (plainGet_of hg).2 hf (beq_iff_eq.mp ht) (by show(lookIn name od).map (·.isSome)=some false;rw[hl,hv];rfl) h
theorem oX {ns:List Str}{Q:Unit->Shared->Prop}(X:K.In s.heap)(I:W7 s.heap x dx C mA)
  (hs:findIn K (.ref C) "__setattr__"=some (some (.builtin "object.__setattr__"))) (hp:plainOver K C=true) (ht:takerIn K C name=some none) (hh:hasDictIn K C=true)
  (hw:PySem.Within mA ns) (hsz:ns.length<=sizeLine)
  (h:∀ h',W7 h' x dx C (fun y=>if y=name then some v else mA y)->Heap.SameBut dx s.heap h'->Q () { s with heap:=h',toks:=s.toks+2 }) :
  wpAny (model prog w) A (setAttr (.ref x) name v) Q E s:=by
 obtain⟨od,J,hl⟩:=I.look;refine PySem.W.set_plain X J hs (PySem.W.osa_open (s:={ s with toks:=s.toks+1 }) (r:=none) X J hp ht fun b=>?_);obtain⟨cd,hc,hd'⟩:=PySem.W.any_some hh;have hx:s.heap.get? x=some ⟨.ref C,some dx,.plain,#[]⟩:=I.obj;refine wpAny_bind (wpAny_pure (wpAny_bind (wpAny_bind (wpAny_loadPart hx (wpAny_bind (PySem.W.Looks.here (s:={ s with toks:=s.toks+1 }) (PySem.W.looks_clsIn X hc) ?_))))));rw[hd'];refine wpAny_pure (a:=some dx) (wpAny_bind (wpAny_pure (wpAny_bind ?_)));refine wpAny_nsSet1 (s:={ s with toks:=s.toks+1 }) I.ns fun h' hn2 hs2=>?_;obtain⟨oD,esD,epD,hoD,hdD,hcD⟩:=hn2.count (PySem.Within.cons name v hw);refine wpAny_bind (wpAny_lookBehind hoD (by rw[hdD];exact pastItsLine_dict (Nat.le_trans hcD (by rw[length_cons];omega))) ?_);exact wpAny_pure (h _ ⟨(hs2.2 _ (Ne.symm I.ne)).trans I.obj,hn2,I.ne⟩ hs2)
theorem adt {R:Result->Shared->Prop}{vs:List Value}{kw:List (Str×Value)}(X:K.In s.heap)(hm:makesIn K C=true)
  (hi:findIn K (.ref C) "__init__"=some (some (.ref f))) (hf:PySem.W.typeIn K (.ref f)=some (.type "function"))
  (h:codeAny (model prog w) (A.under (.builtin "type.__call__" ⟨.ref C::vs,kw⟩)) (.call (.ref f) ⟨.ref (s.heap.objs.size+1)::vs,kw⟩) (PySem.W.InitBack (s.heap.objs.size+1) R)
   { s with heap:=(s.heap.push emptyDict).push (instObj C s.heap.objs.size) }) :
  codeAny (model prog w) A (.call (.ref C) ⟨vs,kw⟩) R s:=by
 obtain⟨hh,g,d,t,os⟩:=s;exact PySem.W.make_core (PySem.W.makes_of X hm) (PySem.W.looks_findIn X hi) (fun self=>PySem.W.bind_fn X self hf) (.inl rfl) h
end
def m7 (f:Str)(v:V):List (Str×V)->List (Str×V)
 |[]=>[(f,v)]
 |(g,x)::r=>if g=f then(g,v)::r else(g,x)::m7 f v r
theorem KR (f g:Str)(v:V):∀ fs:List (Str×V),(m7 f v fs).lookup g=if g=f then some v else fs.lookup g
 |[]=>by
  show List.lookup g [(f,v)]=_
  by_cases h:g=f
  ·have hb:(g==f)=true:=beq_iff_eq.mpr h;simp only [List.lookup,hb,if_pos h]
  ·have hb:(g==f)=false:=beq_eq_false_iff_ne.mpr h;simp only [List.lookup,hb,if_neg h]
 |(k,x)::r=>by
  have ih:=KR f g v r;rw[show m7 f v ((k,x)::r)=(if k=f then(k,v)::r else(k,x)::m7 f v r) from rfl]
  by_cases hk:k=f
  ·rw[if_pos hk]
   by_cases h:g=k
   ·have hb:(g==k)=true:=beq_iff_eq.mpr h;simp only [List.lookup,hb,if_pos (h.trans hk)]
   ·have hb:(g==k)=false:=beq_eq_false_iff_ne.mpr h;simp only [List.lookup,hb,if_neg (fun e:g=f=>h (e.trans hk.symm))]
  ·rw[if_neg hk]
   by_cases h:g=k
   ·have hb:(g==k)=true:=beq_iff_eq.mpr h;simp only [List.lookup,hb,if_neg (fun e:g=f=>hk (h.symm.trans e))]
   ·have hb:(g==k)=false:=beq_eq_false_iff_ne.mpr h;simp only [List.lookup,hb];exact ih
theorem GY (f:Str)(v:V):∀ fs:List (Str×V),f∈(m7 f v fs).map (·.1)/\∀ g,g∈fs.map (·.1)->g∈(m7 f v fs).map (·.1)
 |[]=>⟨by simp[m7],fun g h=>by simp at h⟩
 |(k,x)::r=>by
  obtain⟨i1,i2⟩:=GY f v r;rw[show m7 f v ((k,x)::r)=(if k=f then(k,v)::r else(k,x)::m7 f v r) from rfl]
  by_cases hk:k=f
  ·rw[if_pos hk];subst hk;exact⟨by simp,fun g h=>by simpa using h⟩
  ·rw[if_neg hk];refine⟨?_,fun g h=>?_⟩
   ·rw[map_cons];exact mem_cons_of_mem _ i1
   ·rw[map_cons]at h ⊢;rcases List.mem_cons.mp h with e|e
    ·exact List.mem_cons.mpr (.inl e)
    ·exact mem_cons_of_mem _ (i2 g e)
theorem KS (f:Str)(v:V):∀ fs:List (Str×V),(m7 f v fs).length<=fs.length+1
 |[]=>by simp[m7]
 |(k,x)::r=>by
  have ih:=KS f v r;rw[show m7 f v ((k,x)::r)=(if k=f then(k,v)::r else(k,x)::m7 f v r) from rfl]
  by_cases hk:k=f
  ·rw[if_pos hk,length_cons,length_cons];omega
  ·rw[if_neg hk,length_cons,length_cons];omega
theorem pR.some_of {v:V}{o:Option Value}(r:pR (some v) o):∃ u,o=some u/\RelV v u:=by
 cases o with
 |none=>exact(show False from r).elim
 |some u=>exact⟨u,rfl,r⟩
theorem pR.none_of {o:Option Value}(r:pR none o):o=none:=by
 cases o with
 |none=>rfl
 |some u=>exact(show False from r).elim
theorem abz {v:V}{u:Value}(r:RelV v u):handedIn u=true:=by
 cases v with
 |non=>cases (show u=Value.none from r);rfl
 |bl b=>cases (show u=Value.bool b from r);rfl
 |int i=>obtain⟨t,e⟩:=(show ∃ t,u=Value.int i t from r);cases e;rfl
 |str x=>obtain⟨t,e⟩:=(show ∃ t,u=Value.str x t from r);cases e;rfl
 |byt b=>obtain⟨t,e⟩:=(show ∃ t,u=Value.bytes b t from r);cases e;rfl
 |flt b=>obtain⟨t,e⟩:=(show ∃ t,u=Value.float b t from r);cases e;rfl
 |ref a=>cases (show u=Value.ref a from r);rfl
 |ty n=>cases (show u=Value.type n from r);rfl
section
variable {P:Program} {w:World} {H H':Hp} {h h':Heap} {a C dx:Addr} {fs fs':List (Str×V)}
theorem Mf (hok:yk P w H h)(e:H a=some (.ins C dx fs)):∃ mA,W7 h a dx C mA/\(∀ f,pR (fs.lookup f) (mA f))/\PySem.Within mA (fs.map (·.1))/\fs.length<=1000/\H dx=some (.own a):=by
 obtain⟨d,z,ne,ob,mA,n,r,q⟩:=(show gQ P w H h a (.ins C dx fs) from hok a _ e);exact⟨mA,⟨ob,n,ne⟩,r,q,z,d⟩
end
structure W8 (K:Frag)(C:Addr):Prop where
 pg:plainGet K C Str.empty=true
 hd:hasDictIn K C=true
 po:plainOver K C=true
 sa:findIn K (.ref C) "__setattr__"=some (some (.builtin "object.__setattr__"))
theorem W8.get {K:Frag}{C:Addr}(c:W8 K C)(f:Str):plainGet K C f=true:=c.pg
def j7 (K:Frag)(C:Addr)(f:Str):Prop:=findIn K (.ref C) f=some none
theorem j7.taker {K:Frag}{C:Addr}{f:Str}(n:j7 K C f):takerIn K C f=some none:=by
 unfold takerIn;rw[show findIn K (.ref C) f=some none from n];rfl
structure Con (K:Frag)(C:Addr)(f:Str)(v:V)(u:Value):Prop where
 at_:findIn K (.ref C) f=some (some u)
 rel:RelV v u
 get:specialIn K u "__get__"=some none
 cp:PySem.W.copiedNames.contains f=false
structure Meth (K:Frag)(C:Addr)(m:Str)(f:Addr):Prop where
 at_:findIn K (.ref C) m=some (some (.ref f))
 fn:isFn K (.ref f)=true
 kp:keepIn K (.ref f)=true
section
variable {X:Cx} {pins:List (Addr×Obj)} {σ:St} {H:Hp} {s:Shared} {a C dx:Addr} {fs:List (Str×V)} {f:Str} {v:V} {A:Around} {E:Value->Shared->Prop}
theorem W9 {b:Bool}{Q:Value->Shared->Prop}(I:Inv X pins σ H s)(e:H a=some (.ins C dx fs))(c:W8 X.K C)(n:j7 X.K C f)(l:fs.lookup f=some v)
  (h:∀ u s',Inv X pins σ H s'->RelV v u->Q u s'):wpAny (model X.prog X.w) A (getAttr (.ref a) f b) Q E s:=by
 obtain⟨mA,O,r,_,_,_⟩:=Mf I.hok e;obtain⟨u,hu,ru⟩:=pR.some_of (v:=v) (o:=mA f) (by rw[<-l];exact r f);exact get_map I.yi O (c.get f) c.hd n hu (abz ru) (h u _ (I.tok _) ru)
theorem wd {m:Str}{g:Addr}{pl:Sem Bool}{Q:Value×List Value->Shared->Prop}(I:Inv X pins σ H s)(e:H a=some (.ins C dx fs))(c:W8 X.K C)(k:Meth X.K C m g)(l:fs.lookup m=none)
  (h:Q (.ref g,[.ref a]) s):wpAny (model X.prog X.w) A (getMethod (.ref a) m pl) Q E s:=by
 obtain⟨mA,O,r,_,_,_⟩:=Mf I.hok e;have hn:mA m=none:=pR.none_of (by rw[<-l];exact r m);exact ads I.yi O (c.get m) k.at_ k.fn hn h
theorem Xa {y:V}{u:Value}{Q:Unit->Shared->Prop}(I:Inv X pins σ H s)(e:H a=some (.ins C dx fs))(c:W8 X.K C)(n:j7 X.K C f)(hl:fs.length<1000)(ry:RelV y u)
  (h:∀ s',Inv X pins σ (upd H a (.ins C dx (m7 f y fs))) s'->Q () s'):wpAny (model X.prog X.w) A (setAttr (.ref a) f u) Q E s:=by
 obtain⟨mA,O,r,wi,_,ho⟩:=Mf I.hok e;have hz:(fs.map (·.1)).length<=sizeLine:=by rw[length_map,sizeLine_eq];omega
 refine oX I.yi O c.sa c.po n.taker c.hd wi hz fun h' O' sb=>h _ ?_;have hd:∃ o,h'.get? dx=some o:=let ⟨o,_,_,e',_⟩:=O'.ns;⟨o,e'⟩;refine I.write (x:=a) (e:=dx) (by rw[e];exact True.intro) (.inr ho) (fun b q hb z=>(sb.2 b hb).trans z) hd ?_;refine⟨by rw[ak O.ne];exact ho,?_,O.ne,O'.obj,_,O'.ns,fun g=>?_,fun g hg=>?_⟩
 ·have:=KS f y fs;omega
 ·show pR ((m7 f y fs).lookup g) (if g=f then some u else mA g);rw[KR]
  by_cases q:g=f
  ·rw[if_pos q,if_pos q];exact ry
  ·rw[if_neg q,if_neg q];exact r g
 ·by_cases q:g=f
  ·rw[q];exact(GY f y fs).1
  ·refine(GY f y fs).2 g (wi g fun z=>hg ?_);show(if g=f then some u else mA g)=none;rw[if_neg q];exact z
theorem Inv.made (I:Inv X pins σ H s):Inv X pins σ (upd (upd H s.heap.objs.size (.own (s.heap.objs.size+1))) (s.heap.objs.size+1) (.ins C s.heap.objs.size []))
  { s with heap:=(s.heap.push emptyDict).push (instObj C s.heap.objs.size) }:=by
 have e1:(s.heap.push emptyDict).get? s.heap.objs.size=some emptyDict:=Heap.get?_push_size s.heap rfl;have e2:((s.heap.push emptyDict).push (instObj C s.heap.objs.size)).get? (s.heap.objs.size+1)=some (instObj C s.heap.objs.size):=by
  have:=Heap.get?_push_size (s.heap.push emptyDict) (o:=instObj C s.heap.objs.size) rfl
  rwa [Heap.size_push]at this
 have e3:(s.heap.push emptyDict).Ns s.heap.objs.size (fun _=>none):=⟨emptyDict,#[],_,e1,rfl,(fun e he=>absurd he (by simp)),fun _=>rfl⟩;have I1:=I.laid (a:=s.heap.objs.size) (o:=.own (s.heap.objs.size+1)) (h':=s.heap.push emptyDict) (t':=s.toks) (fun b u q=>Heap.get?_push_of_some _ q) (Nat.le_refl _) ⟨_,e1⟩;refine I1.laid (a:=s.heap.objs.size+1) (o:=.ins C s.heap.objs.size []) (t':=s.toks) (fun b u q=>Heap.get?_push_of_some _ q) (Nat.le_of_eq (Heap.size_push _ _)) ?_;have ne:s.heap.objs.size≠s.heap.objs.size+1:=Nat.ne_of_lt (Nat.lt_succ_self _);refine⟨by rw[ak ne,ae],Nat.zero_le _,ne,e2,fun _=>none,(Heap.Ns1.of_empty e3).at fun o q=>Heap.get?_push_of_some _ q,fun _=>True.intro,fun y hy=>absurd rfl hy⟩
theorem afO {prog:Program}{w:World}{env:Env}{e:Expr}{f:Str}{pos:Pos}{s:Shared}{Q:Value->Shared->Prop}(hb:attributeBase e f env (eval e env)=eval e env)
  (h:wpAny (model prog w) A (eval e env) (fun o s₁=>wpAny (model prog w) A (getAttr o f true) Q E s₁) E s):wpAny (model prog w) A (eval (.Attribute e f pos) env) Q E s :=
 Attribute_any_ h (by rw[arm_eval_Attribute,hb])
end
inductive ag7 (K:Frag)(f:Str)(Q:VK)(x:V)(H1:Hp):Prop
 |mk (a:_) (C:_) (dx:_) (fs:_) (v:_) (eO:x=.ref a) (eP:H1 a=some (.ins C dx fs)) (hX:W8 K C) (kC:j7 K C f) (rq:fs.lookup f=some v) (QX:Q v H1):ag7 K f Q x H1
def al8 (K:Frag)(ta:TE)(f:Str):TE:=fun σ H Q=>ta σ H fun x H1=>ag7 K f Q x H1
inductive ag8 (K:Frag)(f:Str)(D:Ends)(σ:St)(y:V)(x:V)(H2:Hp):Prop
 |mk (a:_) (C:_) (dx:_) (fs:_) (eO:x=.ref a) (eP:H2 a=some (.ins C dx fs)) (hX:W8 K C) (kC:j7 K C f) (rq:fs.length<1000) (QX:D.nx σ (upd H2 a (.ins C dx (m7 f y fs)))):ag8 K f D σ y x H2
def al9 (K:Frag)(ta tv:TE)(f:Str):TS:=fun D σ H=>tv σ H fun y H1=>ta σ H1 fun x H2=>ag8 K f D σ y x H2
section
variable {X:Cx} {o e value:Expr} {f:Str} {pos pos' tpos:Pos} {ta tv:TE}
theorem b7 (he:PE X e ta)(hb:attributeBase e f X.env (eval e X.env)=eval e X.env):PE X (.Attribute e f pos) (al8 X.K ta f):=by
 intro pins s σ H Q I h;refine afO hb (cH (he pins s σ H _ I h) fun u s1 ⟨x,H1,I1,rx,a,C,dx,fs,v,ex,ea,c,n,l,q⟩=>?_);subst ex;obtain rfl:u=Value.ref a:=rx;exact W9 I1 ea c n l fun u' s2 I2 ru=>⟨v,H1,I2,ru,q⟩
theorem uI (ha:PE X o ta)(hv:PE X value tv)(hs:swapsWith value (some (.Attribute o f pos')) pos.line X.env=pure false):PS X (.Assign [.Attribute o f pos'] value pos) (al9 X.K ta tv f):=by
 intro pins s σ H D I h;refine plainObj_wpAny_Assign_Attribute (cH (hv pins s σ H _ I h) fun u s1 ⟨y,H1,I1,ry,q⟩=>cH (ha pins s1 σ H1 _ I1 q) fun ov s2 ⟨x,H2,I2,rx,a,C,dx,fs,ex,ea,c,n,l,q2⟩=>?_) hs;subst ex;obtain rfl:ov=Value.ref a:=rx;exact Xa I2 ea c n l ry fun s3 I3=>⟨σ,_,I3,q2⟩
end
section
variable {X:Cx} {pins:List (Addr×Obj)} {σ:St} {H:Hp} {s:Shared} {A:Around} {E:Value->Shared->Prop} {Q:Value->Shared->Prop} {c:Value} {b:Bool}
inductive iV (K:Frag)(H:Hp):V->Value->Prop where
 |non:iV K H .non (.type "NoneType")
 |bl (x:Bool):iV K H (.bl x) (.type "bool")
 |int (i:Int):iV K H (.int i) (.type "int")
 |str (x:Str):iV K H (.str x) (.type "str")
 |flt (x:UInt64):iV K H (.flt x) (.type "float")
 |lst {a:Addr} {xs:List V} (e:H a=some (.lst xs)):iV K H (.ref a) (.type "list")
 |frz {a:Addr} {o:Obj} {xs:List V} (e:H a=some (.frz o (.lst xs))):iV K H (.ref a) (.type "list")
 |tup {a:Addr} {xs:List V} (e:H a=some (.tup xs)):iV K H (.ref a) (.type "tuple")
 |dK {a:Addr} {kvs:List (Key×V)} (e:H a=some (.dK kvs)):iV K H (.ref a) (.type "dict")
 |dT {a:Addr} {kvs:List (List Key×V)} (e:H a=some (.dT kvs)):iV K H (.ref a) (.type "dict")
 |ins {a C dx:Addr} {fs:List (Str×V)} (e:H a=some (.ins C dx fs)) (cl:W8 K C) (ha:findIn K (.ref C) "__class__"=some (some (.builtin "object.__class__")))
   (hn:specialIn K (.builtin "object.__class__") "__get__"=some (some (.builtin "getset_descriptor.__get__"))) (htk:PySem.W.takesIn K (.builtin "object.__class__")=some true)
   (hm:mroIn K C (.type "object")=some true):iV K H (.ref a) (.ref C)
theorem abA {x:V}{u t:Value}(I:Inv X pins σ H s)(rx:RelV x u)(ty:iV X.K H x t)(e:kitOne X.K t c=some b)(h:∀ tk,Q (.bool b) { s with toks:=tk }) :
  wpAny (model X.prog X.w) A (call (.builtin "isinstance") [u,c]) Q E s:=by
 cases ty with
 |non=>cases (show u=Value.none from rx);exact kia_one PySem.W.kitx_none I.yi True.intro e (fun z=>nomatch z) h
 |bl y=>cases (show u=Value.bool y from rx);exact kia_one PySem.W.kitx_bool I.yi True.intro e (fun z=>nomatch z) h
 |int i=>obtain⟨t,q⟩:=(show ∃ t,u=Value.int i t from rx);cases q;exact kia_one PySem.W.kitx_int I.yi True.intro e (fun z=>nomatch z) h
 |str y=>obtain⟨t,q⟩:=(show ∃ t,u=Value.str y t from rx);cases q;exact kia_one PySem.W.kitx_str I.yi True.intro e (fun z=>nomatch z) h
 |flt y=>obtain⟨t,q⟩:=(show ∃ t,u=Value.float y t from rx);cases q;exact kia_one PySem.W.kitx_float I.yi True.intro e (fun z=>nomatch z) h
 | @lst a xs ea =>
  cases (show u=Value.ref a from rx);obtain⟨_,_,n,_,h1⟩:=(show gQ X.prog X.w H s.heap a (.lst xs) from I.hok a _ ea);exact kia_one kitx_list I.yi ⟨_,h1,rfl⟩ e (fun z=>nomatch z) h
 | @frz a ob xs ea =>
  cases (show u=Value.ref a from rx);obtain⟨_,_,_,n,_,h1⟩:=(show gQ X.prog X.w H s.heap a (.frz ob (.lst xs)) from I.hok a _ ea);exact kia_one kitx_list I.yi ⟨_,h1,rfl⟩ e (fun z=>nomatch z) h
 | @tup a xs ea =>
  cases (show u=Value.ref a from rx);obtain⟨_,_,_,p⟩:=(show gQ X.prog X.w H s.heap a (.tup xs) from I.hok a _ ea);obtain⟨o,h1,h2,_⟩:=p;exact kia_one PySem.W.kitx_tuple I.yi ⟨o,h1,h2⟩ e (fun z=>nomatch z) h
 | @dK a kvs ea =>
  cases (show u=Value.ref a from rx);obtain⟨_,_,vs,_,p⟩:=(show gQ X.prog X.w H s.heap a (.dK kvs) from I.hok a _ ea);obtain⟨o,es,ep,h1,h2,_⟩:=p;exact kia_one kitx_dict I.yi ⟨o,h1,h2.1⟩ e (fun z=>nomatch z) h
 | @dT a kvs ea =>
  cases (show u=Value.ref a from rx);obtain⟨_,_,xs,_,o,es,ep,h1,h2,_⟩:=(show gQ X.prog X.w H s.heap a (.dT kvs) from I.hok a _ ea);exact kia_one kitx_dict I.yi ⟨o,h1,h2.1⟩ e (fun z=>nomatch z) h
 | @ins a C dx fs ea cl ha hn htk hm =>
  cases (show u=Value.ref a from rx);obtain⟨mA,O,_⟩:=Mf I.hok ea;obtain⟨od,J,_⟩:=O.look;exact kia_one (PySem.W.kitx_own (cl.get _) cl.hd ha hn htk hm) I.yi J e (fun z=>nomatch z) h
end
end L2
namespace L2
open PySem PySem.Spec PyProof.Rows
structure jN (k:Nat)(A:Around):Prop where
 hd:A.handled=none
 dp:A.depth+3 * k+5<recursionLimit
 un:A.units+16 * k+200<cLine
theorem jN.mono {j k:Nat}{A:Around}(r:jN k A)(h:j<=k):jN j A:=⟨r.hd,by have:=r.dp;omega,by have:=r.un;omega⟩
theorem jN.deeper {k:Nat}{A:Around}(r:jN (k+1) A)(env:Env):jN k (A.deeper env) :=
 ⟨r.hd,by have:=r.dp;show A.depth+1+3 * k+5<_;omega,by have:=r.un;show A.units+3+16 * k+200<_;omega⟩
theorem Xb {A:Around}{C:Addr}{us:List Value}{kw:List (Str×Value)}:(A.under (.builtin "type.__call__" ⟨.ref C::us,kw⟩)).depth=A.depth+1:=by
 first|rfl|simp[Around.under,Code.weight,Code.isCreation,Code.isGuard,Code.isCaller,Code.frames,Code.isFrame,guardIds]
theorem Xc {A:Around}{C:Addr}{us:List Value}{kw:List (Str×Value)}:(A.under (.builtin "type.__call__" ⟨.ref C::us,kw⟩)).units=A.units+1:=by
 first|rfl|simp[Around.under,Code.cUnits,Code.frames,Code.isFrame]
theorem jN.make {k:Nat}{A:Around}(r:jN (k+1) A)(C:Addr)(us:List Value)(kw:List (Str×Value)):jN k (A.under (.builtin "type.__call__" ⟨.ref C::us,kw⟩)) :=
 ⟨r.hd,by have:=r.dp;rw[Xb];omega,by have:=r.un;rw[Xc];omega⟩
theorem jN.depth {k:Nat}{A:Around}(r:jN k A):A.depth<recursionLimit:=by have:=r.dp;omega
theorem jN.units {k:Nat}{A:Around}(r:jN k A):A.units+64<cLine:=by have:=r.un;omega
def bp:TA:=fun _ H Q=>Q [] H
def au (ta:TE)(tr:TA):TA:=fun σ H Q=>ta σ H fun x H1=>tr σ H1 fun xs H2=>Q (x::xs) H2
section
variable {X:Cx} {e:Expr} {es:List Expr} {te:TE} {t:TA} {pos:Pos}
theorem ag:PA X [] bp:=fun _ _ _ _ H Q I h=>Calls.spliced_nil ⟨[],H,I,.nil,h⟩
theorem aa (ha:PE X e te)(hr:PA X es t)(hs:starEach (e::es) X.env=(false,eval e X.env)::starEach es X.env:=by rfl):PA X (e::es) (au te t):=by
 intro pos pins s σ H Q I h;rw[hs];show wpAny _ _ (spliced ((false,eval e X.env)::backTo pos (starEach es X.env))) _ _ s;refine Calls.spliced_cons (cH (ha pins s σ H _ I h) fun u s1 ⟨x,H1,I1,r1,q1⟩=>?_);exact cH (hr pos pins s1 σ H1 _ I1 q1) fun us s2 ⟨xs,H2,I2,r2,q2⟩=>⟨x::xs,H2,I2,.cons r1 r2,q2⟩
def c8 (t:TA):TE:=fun σ H Q=>t σ H fun xs H1=>xs.length<=sizeLine/\∀ p,H1 p=none->Q (.ref p) (upd H1 p (.tup xs))
def sS (t:TA):TE:=fun σ H Q=>t σ H fun xs H1=>xs.length<=sizeLine/\∀ p,H1 p=none->Q (.ref p) (upd H1 p (.lst xs))
theorem b8 {x1}(h:PA X es t):PE X (.Tuple es x1 pos) (c8 t):=by
 intro pins s σ H Q I hq;refine wpAny_Tuple_spliced (cH (h pos pins s σ H _ I hq) fun us s1 ⟨xs,H1,I1,r,z,q⟩=>⟨by rw[<-r.length];exact z,?_⟩);have hf:H1 s1.heap.objs.size=none:=I1.hok.fresh (Nat.le_refl _);refine⟨.ref s1.heap.objs.size,upd H1 s1.heap.objs.size (.tup xs),I1.laid (t':=s1.toks) (fun b u e=>Heap.get?_push_of_some _ e) (Nat.le_refl _) ?_,rfl,q _ hf⟩;exact⟨z,us,r,⟨_,Heap.get?_push_size _ rfl,rfl,_,rfl⟩⟩
theorem bx (h:PA X es t):PE X (.List es pos) (sS t):=by
 intro pins s σ H Q I hq;refine wpAny_List_spliced (cH (h pos pins s σ H _ I hq) fun us s1 ⟨xs,H1,I1,r,z,q⟩=>⟨by rw[<-r.length];exact z,?_⟩);have hf:H1 s1.heap.objs.size=none:=I1.hok.fresh (Nat.le_refl _);refine⟨.ref s1.heap.objs.size,upd H1 s1.heap.objs.size (.lst xs),I1.laid (t':=s1.toks) (fun b u e=>Heap.get?_push_of_some _ e) (Nat.le_refl _) ?_,rfl,q _ hf⟩;exact⟨z,us,0,r,Heap.get?_push_size _ rfl⟩
end
abbrev Sp:=List V->Hp->VK->XK->Prop
abbrev CXT:=List Env->Hp->Shared->XK->Value->Shared->Prop
structure Xd (P:Program)(w:World)(K:Frag)(mg:Str->Option Value)(base:Heap)(A:Around)(outer:List Env)(s:Shared)(H:Hp):Prop where
 frames:A.frames=some outer
 mod:Mod K mg base
 bs:∀ b o,base.get? b=some o->s.heap.get? b=some o/\H b=none
 bsz:base.objs.size<=s.heap.objs.size
 DZ:s.heap.FunFrames base outer
 frf:∀ b∈frs outer,H b=none
 hok:yk P w H s.heap
 bare:AllBare s.gens
def CE (outer:List Env)(P:Program)(w:World)(H:Hp)(s:Shared)(Q:VK)(u:Value)(s':Shared):Prop :=
 ∃ v H',s'.os=s.os/\AllBare s'.gens/\Un (frs outer) [] H H' s.heap s'.heap/\yk P w H' s'.heap/\RelV v u/\Q v H'
def CR (CX:CXT)(outer:List Env)(P:Program)(w:World)(H:Hp)(s:Shared)(Q:VK)(E:XK)(r:Result)(s':Shared):Prop :=
 match r with
 |.ok (.ret u)=>CE outer P w H s Q u s'
 |.ok _=>False
 |.error e=>CX outer H s E e s'
structure bA (P:Program)(w:World)(K:Frag)(mg:Str->Option Value)(base:Heap)(CX:CXT)(k:Nat)(f:Addr)(fd:FuncData)(ps:List Str)(sp:Sp):Prop where
 len:∀ vs H Q E,sp vs H Q E->vs.length=ps.length
 run:∀(A:Around)(outer:List Env)(s:Shared)(H:Hp)(args:Args)(us:List Value)(vs:List V)(Q:VK)(E:XK),jN k A->Xd P w K mg base A outer s H->BindsTo s fd args (ps.zip us)->Vals vs us->sp vs H Q E ->
  codeAny (model P w) A (.call (.ref f) args) (CR CX outer P w H s Q E) s
theorem Xd.make {P:Program}{w:World}{K:Frag}{mg:Str->Option Value}{base:Heap}{A:Around}{outer:List Env}{s:Shared}{H:Hp}(e:Xd P w K mg base A outer s H)(C:Addr)(us:List Value)(kw:List (Str×Value)) :
  Xd P w K mg base (A.under (.builtin "type.__call__" ⟨.ref C::us,kw⟩)) outer s H:=⟨by first|exact e.frames|(simpa [Around.under,Code.envs,Code.isFrame,pushEnvs] using e.frames),e.mod,e.bs,e.bsz,e.DZ,e.frf,e.hok,e.bare⟩
section
variable {X:Cx} {pins:List (Addr×Obj)} {σ:St} {H:Hp} {s s':Shared}
theorem Inv.env0 (I:Inv X pins σ H s):Xd X.prog X.w X.K X.mg X.base X.A X.stack s H :=
 ⟨I.ok.frames,I.ok.mod,I.bs,Nat.le_trans I.ok.bsz I.sz,I.stack,I.QT,I.hok,I.bare⟩
theorem Inv.after {Q:VK}{u:Value}(I:Inv X pins σ H s)(h:CE X.stack X.prog X.w H s Q u s'):EP X pins σ Q u s':=by
 obtain⟨v,H',os,bare,un,hok,r,q⟩:=h;obtain⟨hh,g,d,t,os'⟩:=s';obtain rfl:os'=s.os:=os;exact⟨v,H',I.call (h':=hh) (g':=g) (d':=d) (t':=t) (ch:=[]) un hok bare (fun b z=>absurd z (by simp)),r,q⟩
end
def ajR (sp:Sp)(sU:List V)(E:XK)(t:TA):TE:=fun σ H Q=>t σ H fun vs H1=>sp (vs++sU) H1 Q E
inductive adu (C:Addr)(m:Str)(sp:Sp)(sU:List V)(E:XK)(t:TA)(σ:St)(Q:VK)(x:V)(H1:Hp):Prop
 |mk (a:_) (dx:_) (fs:_) (eO:x=.ref a) (eP:H1 a=some (.ins C dx fs)) (hX:fs.lookup m=none) (kC:t σ H1 fun vs H2=>sp (x::(vs++sU)) H2 Q E):adu C m sp sU E t σ Q x H1
def ag9 (C:Addr)(m:Str)(sp:Sp)(sU:List V)(E:XK)(ta:TE)(t:TA):TE:=fun σ H Q=>ta σ H fun x H1=>adu C m sp sU E t σ Q x H1
def aha (C:Addr)(sp:Sp)(sU:List V)(E:XK)(t:TA):TE:=fun σ H Q=>t σ H fun vs H1=>∀ x dx,H1 x=none->H1 dx=none->dx≠x ->
 sp (.ref x::(vs++sU)) (upd (upd H1 dx (.own x)) x (.ins C dx [])) (fun v H2=>v=.non/\Q (.ref x) H2) E
def Binds (K:Frag)(fd:FuncData)(ps:List Str)(ds:List Value):Prop :=
 ∀(s:Shared)(us:List Value),K.In s.heap->(us++ds).length=ps.length->BindsTo s fd ⟨us,[]⟩ (ps.zip (us++ds))
theorem Binds.all {K:Frag}{fd:FuncData}{ps:List Str}(h:∀ us:List Value,us.length=ps.length->bindArgs fd ⟨us,[]⟩=pure (ps.zip us)):Binds K fd ps []:=fun s us _ hl=>by
 rw[append_nil]at hl ⊢;exact .of_eq (h us hl)
def Passes (CX:CXT)(X:Cx)(E:XK):Prop:=∀(pins:List (Addr×Obj)) (σ:St) (H:Hp) (s:Shared) (e:Value) (s':Shared),Inv X pins σ H s->CX X.stack H s E e s'->X.xe e s'
section
variable {X:Cx} {CX:CXT} {k:Nat} {f C:Addr} {fd:FuncData} {ps:List Str} {sp:Sp} {sU:List V} {ds:List Value} {E:XK} {x m:Str} {p pos apos:Pos} {e o:Expr} {es:List Expr} {ta:TE} {t:TA}
theorem Xe {pins:List (Addr×Obj)}{σ:St}{H:Hp}{s:Shared}{Q:VK}{us:List Value}{vs:List V}(F:bA X.prog X.w X.K X.mg X.base CX k f fd ps sp)(hr:jN k X.A)(hb:Binds X.K fd ps ds)(hd:Vals sU ds)(hx:Passes CX X E)
  (I:Inv X pins σ H s) (r:Vals vs us) (h:sp (vs++sU) H Q E):wpAny (model X.prog X.w) X.A (call (.ref f) us) (EP X pins σ Q) X.xe s:=by
 have r2:Vals (vs++sU) (us++ds):=r.append hd;have hl:(us++ds).length=ps.length:=by rw[<-r2.length];exact F.len _ _ _ _ h
 refine wpAny_call (codeAny_mono (F.run X.A X.stack s H ⟨us,[]⟩ (us++ds) (vs++sU) Q E hr I.env0 (hb s us I.yi hl) r2 h) fun r s' hq=>?_);cases r with
 |error e=>exact hx pins σ H s e s' I hq
 |ok fl =>
  cases fl with
  |ret u=>exact I.after hq
  |next=>exact False.elim hq
  |brk=>exact False.elim hq
  |cont=>exact False.elim hq
theorem aD (F:bA X.prog X.w X.K X.mg X.base CX k f fd ps sp)(hr:jN k X.A)(hg:Gl X x)(hm:X.mg x=some (.ref f))(hk:keepIn X.K (.ref f)=true)(hb:Binds X.K fd ps ds)(hd:Vals sU ds)(hx:Passes CX X E)
  (ha:PA X (e::es) t) (hdb:(x==("__debug__":Str))=false:=by decide) (he:starEach (e::es) X.env=(false,eval e X.env)::starEach es X.env:=by rfl) (hpl:(backTo pos (starEach es X.env)).any (·.1)=false:=by rfl) :
  PE X (.Call (.Name x p) (e::es) [] pos) (ajR sp sU E t):=by
 intro pins s σ H Q I h;refine wpAny_Call_Name_kw (wb I hg hm ?_ hdb);refine callWith_K (h₀:=X.base) I.ok.mod.kin hk (cH (ha pos pins s σ H _ I h) fun us s1 ⟨vs,H1,I1,r,q⟩=>⟨I1.yi,?_⟩) he hpl;exact Xe F hr hb hd hx I1 r q
theorem kq {pl:Sem Bool}(he:PE X o ta)(c:W8 X.K C)(hm:Meth X.K C m f)(F:bA X.prog X.w X.K X.mg X.base CX k f fd ps sp)(hr:jN k X.A)(hb:Binds X.K fd ps ds)(hd:Vals sU ds)(hx:Passes CX X E)(ha:PA X (e::es) t)
  (hst:starEach (e::es) X.env=(false,eval e X.env)::starEach es X.env:=by rfl) (hpl:(backTo pos (starEach es X.env)).any (·.1)=false:=by rfl)
  (ht:eval (.Call (.Attribute o m apos) (e::es) [] pos) X.env=(do
   let ov <-eval o X.env
   standAt apos.atName
   let (f,first) <-holding [ov] (getMethod ov m pl)
   callWith pos f first (backTo pos (starEach (e::es) X.env)) (backToKw pos (keywordEach [] X.env))):=by rfl) :
  PE X (.Call (.Attribute o m apos) (e::es) [] pos) (ag9 C m sp sU E ta t):=by
 intro pins s σ H Q I h;refine methodCall_KW (pl:=pl) (cH (he pins s σ H _ I h) fun u s1 ⟨x,H1,I1,rx,a,dx,fs,ex,ea,l,q⟩=>?_) ht;subst ex;obtain rfl:u=Value.ref a:=rx;refine wd I1 ea c hm l ?_;refine callWith_K (first:=[.ref a]) (h₀:=X.base) I.ok.mod.kin hm.kp (cH (ha pos pins s1 σ H1 _ I1 q) fun us s2 ⟨vs,H2,I2,r,q2⟩=>⟨I2.yi,?_⟩) hst hpl;exact Xe (us:=.ref a::us) (vs:=.ref a::vs) F hr hb hd hx I2 (.cons rfl r) q2
theorem lI {pl:Sem Bool}(he:PE X o ta)(c:W8 X.K C)(hm:Meth X.K C m f)(F:bA X.prog X.w X.K X.mg X.base CX k f fd ps sp)(hr:jN k X.A)(hb:Binds X.K fd ps ds)(hd:Vals sU ds)(hx:Passes CX X E)
  (ht:eval (.Call (.Attribute o m apos) [] [] pos) X.env=(do
   let ov <-eval o X.env
   standAt apos.atName
   let (f,first) <-holding [ov] (getMethod ov m pl)
   callWith pos f first (backTo pos (starEach [] X.env)) (backToKw pos (keywordEach [] X.env))):=by rfl) :
  PE X (.Call (.Attribute o m apos) [] [] pos) (ag9 C m sp sU E ta bp):=by
 intro pins s σ H Q I h;refine methodCall_KW (pl:=pl) (cH (he pins s σ H _ I h) fun u s1 ⟨x,H1,I1,rx,a,dx,fs,ex,ea,l,q⟩=>?_) ht;subst ex;obtain rfl:u=Value.ref a:=rx;refine wd I1 ea c hm l ?_;exact callWith_K0 (first:=[.ref a]) I1.yi hm.kp (Xe (us:=[.ref a]) (vs:=[.ref a]) F hr hb hd hx I1 (.cons rfl .nil) q)
structure Mk (K:Frag)(C f:Addr):Prop where
 makes:makesIn K C=true
 init:findIn K (.ref C) "__init__"=some (some (.ref f))
 fn:isFn K (.ref f)=true
 kp:keepIn K (.ref C)=true
theorem U4 {pins:List (Addr×Obj)}{σ:St}{H:Hp}{s:Shared}{Q:VK}{us:List Value}{vs:List V}(M:Mk X.K C f)(F:bA X.prog X.w X.K X.mg X.base CX k f fd ps sp)(hr:jN (k+1) X.A)(hb:Binds X.K fd ps ds)(hd:Vals sU ds)
  (hx:Passes CX X E) (I:Inv X pins σ H s) (r:Vals vs us)
  (h:∀ x dx,H x=none->H dx=none->dx≠x->sp (.ref x::(vs++sU)) (upd (upd H dx (.own x)) x (.ins C dx [])) (fun v H2=>v=.non/\Q (.ref x) H2) E) :
  wpAny (model X.prog X.w) X.A (call (.ref C) us) (EP X pins σ Q) X.xe s:=by
 have hq:=h (s.heap.objs.size+1) s.heap.objs.size (I.hok.fresh (Nat.le_succ _)) (I.hok.fresh (Nat.le_refl _)) (Nat.ne_of_lt (Nat.lt_succ_self _));have I2:=Inv.made (C:=C) I;have r2:Vals (V.ref (s.heap.objs.size+1)::(vs++sU)) (Value.ref (s.heap.objs.size+1)::(us++ds)):=.cons rfl (r.append hd);have hl:(Value.ref (s.heap.objs.size+1)::us++ds).length=ps.length:=by
  have e:=r2.length;rw[F.len _ _ _ _ hq]at e;exact e.symm
 refine wpAny_call (adt (f:=f) I.yi M.makes M.init (beq_iff_eq.mp M.fn) (codeAny_mono (F.run _ X.stack _ _ ⟨Value.ref (s.heap.objs.size+1)::us,[]⟩ (Value.ref (s.heap.objs.size+1)::(us++ds)) _ _ E (hr.make C us [])
  (I2.env0.make C us []) (hb _ (Value.ref (s.heap.objs.size+1)::us) I2.yi hl) r2 hq) fun r s' hq'=>?_))
 cases r with
 |error e=>exact hx pins σ _ _ e s' I2 hq'
 |ok fl =>
  cases fl with
  |ret u =>
   obtain⟨v,H',I3,rv,ev,q3⟩:=I2.after hq';subst ev;exact⟨rv,⟨V.ref (s.heap.objs.size+1),H',I3,rfl,q3⟩⟩
  |next=>exact False.elim hq'
  |brk=>exact False.elim hq'
  |cont=>exact False.elim hq'
theorem we (M:Mk X.K C f)(F:bA X.prog X.w X.K X.mg X.base CX k f fd ps sp)(hr:jN (k+1) X.A)(hg:Gl X x)(hm:X.mg x=some (.ref C))(hb:Binds X.K fd ps ds)(hd:Vals sU ds)(hx:Passes CX X E)
  (ha:PA X (e::es) t) (hdb:(x==("__debug__":Str))=false:=by decide) (he:starEach (e::es) X.env=(false,eval e X.env)::starEach es X.env:=by rfl) (hpl:(backTo pos (starEach es X.env)).any (·.1)=false:=by rfl) :
  PE X (.Call (.Name x p) (e::es) [] pos) (aha C sp sU E t):=by
 intro pins s σ H Q I h;refine wpAny_Call_Name_kw (wb I hg hm ?_ hdb);refine callWith_K (h₀:=X.base) I.ok.mod.kin M.kp (cH (ha pos pins s σ H _ I h) fun us s1 ⟨vs,H1,I1,r,q⟩=>⟨I1.yi,?_⟩) he hpl;exact U4 M F hr hb hd hx I1 r q
theorem adv (M:Mk X.K C f)(F:bA X.prog X.w X.K X.mg X.base CX k f fd ps sp)(hr:jN (k+1) X.A)(hg:Gl X x)(hm:X.mg x=some (.ref C))(hb:Binds X.K fd ps ds)(hd:Vals sU ds)(hx:Passes CX X E)
  (hdb:(x==("__debug__":Str))=false:=by decide):PE X (.Call (.Name x p) [] [] pos) (aha C sp sU E bp):=by
 intro pins s σ H Q I h;refine wpAny_Call_Name_kw (wb I hg hm ?_ hdb);exact callWith_K0 I.yi M.kp (U4 (us:=[]) M F hr hb hd hx I .nil h)
end
section
variable {X:Cx} {CX:CXT} {k:Nat} {f C:Addr} {fd:FuncData} {ps ks:List Str} {sp:Sp} {E:XK} {x m:Str} {p pos apos aoS:Pos} {e o:Expr} {es:List Expr} {kws:List Keyword} {te ta:TE} {t tk:TA} {nm:Option Str}
structure ama (K:Frag)(fd:FuncData)(ps ks:List Str)(g:List Value->List Value->List Value)(gV:List V->List V->List V):Prop where
 to:∀(s:Shared)(us ws:List Value),K.In s.heap->(g us ws).length=ps.length->BindsTo s fd ⟨us,ks.zip ws⟩ (ps.zip (g us ws))
 rel:∀{vs:List V} {us:List Value} {zs:List V} {ws:List Value},Vals vs us->Vals zs ws->Vals (gV vs zs) (g us ws)
variable {g:List Value->List Value->List Value} {gV:List V->List V->List V}
end
structure aH (N P:List Str)(sc:Scope):Prop where
 kind:sc.kind=.function
 co:sc.isCoroutine=false
 gen:sc.isGenerator=false
 nd:N.Nodup
 pre:N.take P.length=P
 par:∀ x∈P,sc.names.lookup x=some .local\/sc.names.lookup x=some .cell
 ahY:∀ y∈sc.names,y.2≠.free
theorem Qc {kindOf:Str->Option NameKind}{x:Str}:∀{binds:List (Str×Value)} {m:Str->Option Value},(∀ v,(x,v) ∉ binds)->bindL kindOf binds m x=m x
 |[],_,_=>rfl
 |(n,v)::r,m,h=>by
  unfold bindL;rw[Qc fun w hw=>h w (mem_cons_of_mem _ hw)];split
  ·have:x≠n:=by rintro rfl;exact h v mem_cons_self
   simp[this]
  ·rfl
theorem Qd {kindOf:Str->Option NameKind}{x:Str}:∀{binds:List (Str×Value)} {m:Str->Option Value},(∀ v,(x,v) ∉ binds)->bindC kindOf binds m x=m x
 |[],_,_=>rfl
 |(n,v)::r,m,h=>by
  unfold bindC;rw[Qd fun w hw=>h w (mem_cons_of_mem _ hw)];split
  ·rfl
  ·have:x≠n:=by rintro rfl;exact h v mem_cons_self
   simp[this]
theorem Qe {kindOf:Str->Option NameKind}{x:Str}{v:Value}:∀{P:List Str} {vs:List Value} {i:Nat} {m:Str->Option Value},P.Nodup->P[i]? = some x->vs[i]? = some v->kindOf x=some .local ->
  bindL kindOf (P.zip vs) m x=some v
 |[],_,_,_,_,h,_,_=>by simp at h
 |_::_,[],_,_,_,_,h,_=>by simp at h
 |p::P,w::vs,0,m,nd,h1,h2,hk=>by
  simp at h1 h2;subst h1;subst h2;show bindL kindOf ((p,w)::P.zip vs) m p=_;unfold bindL;rw[Qc fun v hv=>(List.nodup_cons.mp nd).1 (List.of_mem_zip hv).1,if_pos hk];simp
 |p::P,w::vs,i+1,m,nd,h1,h2,hk=>by
  show bindL kindOf ((p,w)::P.zip vs) m x=_;unfold bindL;exact Qe (i:=i) (List.nodup_cons.mp nd).2 (by simpa using h1) (by simpa using h2) hk
theorem Qf {kindOf:Str->Option NameKind}{x:Str}{v:Value}:∀{P:List Str} {vs:List Value} {i:Nat} {m:Str->Option Value},P.Nodup->P[i]? = some x->vs[i]? = some v->kindOf x≠some .local ->
  bindC kindOf (P.zip vs) m x=some v
 |[],_,_,_,_,h,_,_=>by simp at h
 |_::_,[],_,_,_,_,h,_=>by simp at h
 |p::P,w::vs,0,m,nd,h1,h2,hk=>by
  simp at h1 h2;subst h1;subst h2;show bindC kindOf ((p,w)::P.zip vs) m p=_;unfold bindC;rw[Qd fun v hv=>(List.nodup_cons.mp nd).1 (List.of_mem_zip hv).1,if_neg hk];simp
 |p::P,w::vs,i+1,m,nd,h1,h2,hk=>by
  show bindC kindOf ((p,w)::P.zip vs) m x=_;unfold bindC;exact Qf (i:=i) (List.nodup_cons.mp nd).2 (by simpa using h1) (by simpa using h2) hk
def start (N:List Str)(vs:List V):St:=vs.map some++List.replicate (N.length-vs.length) none
def cL (CX:CXT)(P:Program)(w:World)(K:Frag)(mg:Str->Option Value)(base:Heap)(N:List Str)(qual:Str)(scope:Scope)(f:Addr)(cd:Value)(A:Around)(outer:List Env)(s:Shared)(H:Hp)(E:XK):Cx where
 prog:=P
 w:=w
 K:=K
 mg:=mg
 base:=base
 A:=A.deeper (envOfC qual scope s.heap.objs.size f cd)
 N:=N
 s₀:=s
 H₀:=H
 env:=envOfC qual scope s.heap.objs.size f cd
 outer:=outer
 stack:=envOfC qual scope s.heap.objs.size f cd::outer
 ex:=[]
 calm:=true
 fn:=fun _=>true
 pn:=[]
 xe:=fun e s'=>wpAny (model P w) (A.deeper (envOfC qual scope s.heap.objs.size f cd)) (leaving (envOfC qual scope s.heap.objs.size f cd) e) (fun _ s''=>CX outer H s E e s'') (fun e' s''=>CX outer H s E e' s'') s'
theorem U7 {sc:Scope}{n:Nat}{x:Str}(h:sc.names.lookup x=some .cell):∃ c,(cellsFrom n sc.names []).lookup x=some c:=by
 have q:=PySem.W.cellsFrom_some sc.names n [] (.inl h);exact Option.isSome_iff_exists.mp q
theorem abB {CX:CXT}{P:Program}{w:World}{K:Frag}{mg:Str->Option Value}{base:Heap}{N ps:List Str}{qual:Str}{scope:Scope}{f:Addr}{cd:Value}{A:Around}{outer:List Env}{s s1:Shared}{H:Hp}{E:XK}{us:List Value}{vs:List V}
  (S:aH N ps scope) (hd:A.handled=none) (e0:Xd P w K mg base A outer s H) (hl:vs.length=ps.length) (r:Vals vs us)
  (x:InCallC s s.heap.objs.size (bindL (envOfC qual scope s.heap.objs.size f cd).kindOf (ps.zip us) fun _=>none) (cellsFrom (s.heap.objs.size+1) scope.names []) (bindC (envOfC qual scope s.heap.objs.size f cd).kindOf (ps.zip us) fun _=>none) s1) :
  Inv (cL CX P w K mg base N qual scope f cd A outer s H E) [] (start N vs) H s1:=by
 have hpl:ps.length<=N.length:=by have:=congrArg List.length S.pre;rw[length_take]at this;omega
 obtain⟨h1,tk,rfl,hk⟩:=x.done;have noA:∀ b:Addr,b ∉ (cL CX P w K mg base N qual scope f cd A outer s H E).ex:=fun b z=>absurd (show b∈([]:List Addr) from z) (by simp);refine⟨⟨e0.mod,S.kind,rfl,rfl,Nat.le_refl _,fun y z c h1 h2=>?_,fun y hy=>?_,fun y c _ h=>?_,fun _=>hd,Around.frames_deeper e0.frames,.inr ⟨rfl,rfl⟩,fun b z=>absurd z (noA b),e0.bs,e0.bsz,fun b _ _=>noA b,fun b z=>absurd z (noA b),e0.DZ,e0.frf⟩,
  rfl,e0.bare,Un.kept hk,⟨_,x.toInCall.ns,fun i y v h1 h2 h3=>?_⟩,fun y c h=>⟨_,x.cell y c h⟩,e0.hok.fresh (Nat.le_refl _),fun y c h=>?_,fun p hp=>absurd (show p∈([]:List (Addr×Obj)) from hp) (by simp),e0.hok.kept hk,?_⟩
 ·exact name_of_addr x.apart (PySem.mem_of_lookup h1) (PySem.mem_of_lookup h2)
 ·have hy:scope.names.lookup y=some .cell\/scope.names.lookup y=some .free:=hy;rcases hy with hy|hy
  ·exact U7 hy
  ·exact absurd rfl (S.ahY _ (PySem.mem_of_lookup hy))
 ·exact Nat.le_of_lt (x.above y c (PySem.mem_of_lookup h))
 ·have hi:i<vs.length:=by
   unfold start at h2
   by_cases hi:i<vs.length
   ·exact hi
   ·rw[List.getElem?_append_right (by simpa using hi)]at h2;rw[List.getElem?_replicate]at h2;split at h2 <;> cases h2
  have ha:vs[i]? = some v:=by
   unfold start at h2;rw[List.getElem?_append_left (by simpa using hi),getElem?_map]at h2;cases e:vs[i]? with
   |none=>rw[e]at h2;cases h2
   |some a=>rw[e]at h2;cases h2;rfl
  obtain⟨u,hu,rv⟩:=r.get ha;have hp:ps[i]? = some y:=by
   rw[<-S.pre,List.getElem?_take_of_lt (by omega)];exact h1
  have ndP:ps.Nodup:=by rw[<-S.pre];exact S.nd.sublist (List.take_sublist _ _)
  refine⟨u,rv,?_⟩;rcases S.par y (mem_of_getElem? hp) with k|k
  ·exact .inl ⟨k,Qe ndP hp hu k⟩
  ·obtain⟨c,e⟩:=U7 (n:=s.heap.objs.size+1) k;refine .inr ⟨.inl k,c,e,?_⟩;have q:=x.cell y c e;rw[Qf ndP hp hu (by show scope.names.lookup y≠_;rw[k];decide)]at q;exact q
 ·exact e0.hok.fresh (Nat.le_of_lt (x.above y c (PySem.mem_of_lookup h)))
 ·unfold start;show _=N.length;rw[length_append,length_map,List.length_replicate];omega
theorem aaE {CX:CXT}{P:Program}{w:World}{K:Frag}{mg:Str->Option Value}{base:Heap}{k:Nat}{f:Addr}{name qual:Str}{params:Arguments}{body:List Stmt}{scope:Scope}{dV kV doc pm cdv ct oc:Value}{an od:Option Addr}
  {osl:Array (Option Value)} {N ps:List Str} {sp:Sp} (lk:K.lookup f=some ⟨oc,od,.func (fnOf name qual params body scope dV kV doc pm an cdv ct),osl⟩) (hcd:codeIn K cdv qual=true) (S:aH N ps scope)
  (len:∀ vs H Q E,sp vs H Q E->vs.length=ps.length)
  (hbody:∀(A:Around)(outer:List Env)(s:Shared)(H:Hp)(vs:List V)(Q:VK)(E:XK),jN k (A.deeper (envOfC qual scope s.heap.objs.size f cdv))->sp vs H Q E ->
   ∃ t,Me (cL CX P w K mg base N qual scope f cdv A outer s H E) body t/\t { nx:=fun _ H'=>Q .non H',rt:=Q } (start N vs) H) :
  bA P w K mg base CX (k+1) f (fnOf name qual params body scope dV kV doc pm an cdv ct) ps sp:=by
 refine⟨len,fun A outer s H args us vs Q E hr e0 hb r hsp=>?_⟩;have hl:=len _ _ _ _ hsp;have KX:K.In s.heap:=e0.mod.kin.keeps fun b o e=>(e0.bs b o e).1;have lim:s.heap.NoLimit:=e0.mod.nolimit.keeps fun b o e=>(e0.bs b o e).1;have hkind:∀ y∈ps.zip us,scope.names.lookup y.1=some .local\/(scope.names.lookup y.1=some .cell/\((cellsFrom (s.heap.objs.size+1) scope.names []).lookup y.1).isSome=true):=fun⟨n,v⟩ hy=>by
  rcases S.par n (List.of_mem_zip hy).1 with q|q
  ·exact .inl q
  ·exact .inr ⟨q,PySem.W.cellsFrom_some _ _ _ (.inl q)⟩
 refine codeAny_call_function hr.depth (KX _ _ lk) rfl S.co S.gen rfl (PySem.W.codeRec_of KX hcd) (hb _ _ _ _ ?_);refine wpAny_newFunctionEnv_cells S.kind hkind fun env he s1 x=>?_;subst he;refine⟨lim.keeps x.toInCall.keep,codeAny_func ?_⟩;obtain⟨t,ht,hq⟩:=hbody A outer s H vs Q E (hr.deeper _) hsp;have I:Inv (cL CX P w K mg base N qual scope f cdv A outer s H E) [] (start N vs) H s1:=abB S hr.hd e0 hl r x;refine wpAny_mono (ht [] s1 (start N vs) H _ I hq) (fun fl s' hs=>?_) fun e s' hs=>hs;have fin:∀{σ':St} {H':Hp} {v:V} {u:Value},Inv (cL CX P w K mg base N qual scope f cdv A outer s H E) [] σ' H' s'->RelV v u->Q v H'->CE outer P w H s Q u s' :=
  fun {σ' H' v u} J rv q=>⟨v,H',J.os,J.bare,J.base,J.hok,rv,q⟩
 cases fl with
 |ret u =>
  obtain⟨v,σ',H',J,rv,q⟩:=hs;exact fin J rv q
 |next =>
  obtain⟨σ',H',J,q⟩:=hs;exact fin (v:=V.non) (u:=Value.none) J rfl q
 |brk =>
  obtain⟨_,_,_,q⟩:=hs;exact False.elim q
 |cont =>
  obtain⟨_,_,_,q⟩:=hs;exact False.elim q
end L2
namespace L2
open PySem PySem.Spec PyProof.Rows
section
variable {X:Cx} {x:Str} {p pos:Pos} {e:Expr} {es:List Expr} {t:TA} {id T:String} {r:List V->Hp->VK->Prop}
def tCB (r:List V->Hp->VK->Prop)(t:TA):TE:=fun σ H Q=>t σ H fun vs H1=>r vs H1 Q
theorem aJ (hc:lH X (.builtin id) r)(hg:Gl X x)(hm:X.mg x=none)(hv:bootBuiltins x=some (.builtin id))(ha:PA X (e::es) t)(hn:x ≠ "__name__":=by decide)(hdb:(x==("__debug__":Str))=false:=by decide)
  (he:starEach (e::es) X.env=(false,eval e X.env)::starEach es X.env:=by rfl) (hpl:(backTo pos (starEach es X.env)).any (·.1)=false:=by rfl):PE X (.Call (.Name x p) (e::es) [] pos) (tCB r t):=by
 intro pins s σ H Q I h;refine wpAny_Call_Name_kw (uF I hg hm hv ?_ hn hdb);exact PyProof.Rows.callWith_builtin1 (cH (ha pos pins s σ H _ I h) fun us s1 ⟨vs,H1,I1,r1,q1⟩=>hc pins s1 σ H1 vs us Q I1 r1 q1) he hpl
theorem fM (hc:lH X (.type T) r)(hg:Gl X x)(hm:X.mg x=none)(hv:bootBuiltins x=some (.type T))(ha:PA X (e::es) t)(hn:x ≠ "__name__":=by decide)(hdb:(x==("__debug__":Str))=false:=by decide)
  (he:starEach (e::es) X.env=(false,eval e X.env)::starEach es X.env:=by rfl) (hpl:(backTo pos (starEach es X.env)).any (·.1)=false:=by rfl):PE X (.Call (.Name x p) (e::es) [] pos) (tCB r t):=by
 intro pins s σ H Q I h;refine wpAny_Call_Name_kw (uF I hg hm hv ?_ hn hdb);exact PyProof.Rows.callWith_type1 (cH (ha pos pins s σ H _ I h) fun us s1 ⟨vs,H1,I1,r1,q1⟩=>hc pins s1 σ H1 vs us Q I1 r1 q1) he hpl
end
end L2
namespace HT
open PySem PyProof.Rows
section
open PySem.SeqAt
open PySem.AutoSeq1 (wpAny_loadPart')
open PySem.MeetsSeq PySem.MeetsSeq2 PySem.MeetsSeq3
end
section
variable {prog:Program} {w:World} {A:Around} {E:Value->Shared->Prop} {s:Shared}
def m6 (n d:Nat):Option Int->Nat
 |none=>d
 |some v=>if v<0 then(v+(n:Int)).toNat else min v.toNat n
theorem Mr (n d:Nat):m6 n d none=d:=rfl
theorem aaF (n d k:Nat):m6 n d (some (k:Int))=min k n:=by
 show(if(k:Int)<0 then((k:Int)+(n:Int)).toNat else min (k:Int).toNat n)=min k n;rw[if_neg (by omega),Int.toNat_natCast]
theorem ahZ (n d:Nat)(hd:d<=n)(o:Option Int):m6 n d o<=n:=by
 cases o with
 |none=>exact hd
 |some v =>
  show(if v<0 then(v+(n:Int)).toNat else min v.toNat n)<=n
  by_cases hv:v<0
  ·rw[if_pos hv];omega
  ·rw[if_neg hv];exact Nat.min_le_right _ _
theorem aaG (v:Int)(n d:Nat):(if v<0 then max (v+(n:Int)) 0 else min v (n:Int))=((m6 n d (some v):Nat):Int):=by
 show(if v<0 then max (v+(n:Int)) 0 else min v (n:Int))=(((if v<0 then(v+(n:Int)).toNat else min v.toNat n):Nat):Int)
 by_cases hv:v<0
 ·simp only [if_pos hv];omega
 ·simp only [if_neg hv];omega
theorem Xf (lo hi:Option Int)(n:Nat):Builtin.Slice.sliceAdjust lo hi 1 (n:Int)=(((m6 n 0 lo:Nat):Int),((m6 n n hi:Nat):Int)):=by
 have h1:¬((1:Int)<0):=by omega
 unfold Builtin.Slice.sliceAdjust;simp only [h1,if_false];refine Prod.ext ?_ ?_
 ·cases lo with
  |none=>rfl
  |some v=>exact aaG v n 0
 ·cases hi with
  |none=>rfl
  |some v=>exact aaG v n n
theorem Xg (i j:Nat):Builtin.Slice.slicePlaces (i:Int) (j:Int) 1=j-i:=by
 unfold Builtin.Slice.slicePlaces;have h1:(1:Int) > 0:=by omega
 simp only [h1,if_true,Int.ediv_one];split <;> omega
theorem Mt {v:Value}{o:Option Int}{Q:Option Int->Shared->Prop}(p:IsPart v o)(h:Q o s):wpAny (model prog w) A (Builtin.Slice.slicePartIndex v) Q E s:=by
 cases p with
 |none=>exact slicePart_none h
 |int i t=>exact slicePart_int h
theorem GZ {sl:Addr}{vl vu:Value}{lo hi:Option Int}{n:Nat}{Q:Int×Int×Nat->Shared->Prop}(hs:s.heap.IsSliceOf sl vl vu .none)(pl:IsPart vl lo)(pu:IsPart vu hi)
  (h:Q (((m6 n 0 lo:Nat):Int),1,m6 n n hi-m6 n 0 lo) s):wpAny (model prog w) A (Builtin.Slice.sliceApplied (.ref sl) (pure (n:Int))) Q E s:=by
 obtain⟨os,hos,hcs,hds⟩:=id hs;unfold Builtin.Slice.sliceApplied Builtin.Slice.sliceFields;refine wpAny_bind (wpAny_bind (wpAny_field hos hds (x:=vl) rfl (wpAny_bind (wpAny_field hos hds (x:=vu) rfl (wpAny_bind (wpAny_field hos hds (x:=.none) rfl (wpAny_pure ?_)))))));refine wpAny_bind (slicePart_none ?_);show wpAny _ _ (if((1:Int)==0)=true then _ else _) _ _ s;rw[if_neg (by decide)];refine wpAny_bind (Mt pl (wpAny_bind (Mt pu (wpAny_bind (wpAny_pure ?_)))));show wpAny _ _ (match Builtin.Slice.sliceAdjust lo hi 1 (n:Int) with|(lo,hi)=>pure (lo,(1:Int),Builtin.Slice.slicePlaces lo hi 1)) _ _ s;rw[Xf lo hi n];show wpAny _ _ (pure (((m6 n 0 lo:Nat):Int),(1:Int),Builtin.Slice.slicePlaces ((m6 n 0 lo:Nat):Int) ((m6 n n hi:Nat):Int) 1)) _ _ s;rw[Xg];exact wpAny_pure h
theorem adw (xs:Array Value)(i k:Nat):((List.range k).filterMap fun(m:Nat)=>xs[((i:Int)+(m:Int) * 1).toNat]?).toArray=((xs.toList.drop i).take k).toArray:=by
 have e:(fun(m:Nat)=>xs[((i:Int)+(m:Int) * 1).toNat]?)=fun m=>xs[i+m]?:=by
  funext m
  have:((i:Int)+(m:Int) * 1).toNat=i+m:=by omega
  rw[this]
 rw[e];have:=pick_run xs i k;rw[List.filterMap_map]at this;have e2:((fun x=>xs[x]?) ∘ fun x=>i+x)=fun m=>xs[i+m]?:=rfl;rw[e2]at this;rw[this]
theorem D1 {t sl:Addr}{items:Array Value}{vl vu:Value}{lo hi:Option Int}{Q:Value->Shared->Prop}(ht:IsTup s.heap t items)(hs:s.heap.IsSliceOf sl vl vu .none)(pl:IsPart vl lo)(pu:IsPart vu hi)
  (hw:¬(m6 items.size 0 lo=0/\m6 items.size items.size hi=items.size))
  (h:Q (.ref s.heap.objs.size) { s with heap:=s.heap.push { cls:=.type "tuple",data:=.seq ((items.toList.drop (m6 items.size 0 lo)).take (m6 items.size items.size hi-m6 items.size 0 lo)).toArray } })
  (hsz:items.size<=sizeLine):wpAny (model prog w) A (getItem (.ref t) (.ref sl)) Q E s:=by
 have aaH:sizeOk (.seq ((items.toList.drop (m6 items.size 0 lo)).take (m6 items.size items.size hi-m6 items.size 0 lo)).toArray):=by
  show((items.toList.drop (m6 items.size 0 lo)).take (m6 items.size items.size hi-m6 items.size 0 lo)).toArray.size<=sizeLine;rw[size_toArray,length_take,length_drop,Array.length_toList];omega
 have hj:m6 items.size items.size hi<=items.size:=ahZ _ _ (Nat.le_refl _) hi;obtain⟨os,hos,hcs,hds⟩:=id hs;have hTs:s.TypeIs (.ref sl) "slice":=⟨os,hos,hcs⟩;unfold getItem
 try with_reducible refine wpAny_holding ?_
 first|refine wpAny_bind (wpAny_pure ?_)|skip
 refine wpAny_bind (wpAny_sequenceKey ht.typeIs (by decide) ?_);refine wpAny_bind (wpAny_callSpecial?_slot (name:=Str.ofString "__getitem__") ht.typeIs PyProof.Rows.slot_tuple_getitem
  (wpAny_call_entry PyProof.Rows.slot_tuple_getitem ht.typeIs entry_tuple_getitem ?_ (args_tuple_getitem _ _)))
 show wpAny _ _ (Builtin.Tuple.tupleItemsOf (.ref t) >>= _) _ _ s;refine wpAny_bind (tupleItemsOf_ ht ?_);refine wpAny_bind (wpAny_typeOf hTs ?_);rw[if_pos (by decide)];refine wpAny_bind (GZ hs pl pu ?_);have hno:¬((((m6 items.size 0 lo:Nat):Int)==0&&(1:Int)==1&&(m6 items.size items.size hi-m6 items.size 0 lo)==items.size)=true):=by
  intro q;rw[Bool.and_eq_true,Bool.and_eq_true]at q;have q1:((m6 items.size 0 lo:Nat):Int)=0:=eq_of_beq q.1.1;have q2:m6 items.size items.size hi-m6 items.size 0 lo=items.size:=eq_of_beq q.2;exact hw ⟨by omega,by omega⟩
 show wpAny _ _ (if(((m6 items.size 0 lo:Nat):Int)==0&&(1:Int)==1&&(m6 items.size items.size hi-m6 items.size 0 lo)==items.size)=true then _ else _) _ _ s;rw[if_neg hno,adw]
 first
  |exact wpAny_bind (m:=Builtin.Tuple.tupleExact _) (wpAny_newObj_type (wpAny_pure ⟨_,rfl,wpAny_pure h⟩) aaH)
  |exact wpAny_bind (m:=Builtin.Tuple.tupleExact _) (wpAny_newObj_type (wpAny_bind (wpAny_pure (wpAny_pure ⟨_,rfl,wpAny_pure h⟩))) aaH)
  |exact wpAny_bind (wpAny_bind (m:=Builtin.Tuple.tupleExact _) (wpAny_newObj_type (wpAny_pure (wpAny_pure ⟨_,rfl,wpAny_pure h⟩)) aaH))
  |exact wpAny_bind (wpAny_bind (m:=Builtin.Tuple.tupleExact _) (wpAny_newObj_type (wpAny_pure ⟨_,rfl,wpAny_pure h⟩) aaH))
end
end HT
namespace L2
open PySem PySem.Spec PyProof.Rows
abbrev TO:=St->Hp->(Option Int->Hp->Prop)->Prop
def PO (X:Cx)(e:Option Expr)(t:TO):Prop :=
 ∀(pins:List (Addr×Obj)) (s:Shared) (σ:St) (H:Hp) (Q:Option Int->Hp->Prop),Inv X pins σ H s->t σ H Q ->
  wpAny (model X.prog X.w) X.A (evalPart e X.env) (fun u s'=>∃ o H',Inv X pins σ H' s'/\IsPart u o/\Q o H') X.xe s
def afP:TO:=fun _ H Q=>Q none H
inductive adx (Q:(Option Int->Hp->Prop))(x:V)(H1:Hp):Prop
 |mk (i:_) (eO:x=.int i) (eP:Q (some i) H1):adx Q x H1
def ajT (t:TE):TO:=fun σ H Q=>t σ H fun x H1=>adx Q x H1
section
variable {X:Cx} {e:Expr} {te:TE} {lo hi:Option Expr} {tl th:TO} {pos p2:Pos}
theorem wj:PO X none afP:=by
 intro pins s σ H Q I h;rw[evalPart_none];exact wpAny_pure ⟨none,H,I,.none,h⟩
theorem lJ (h:PE X e te):PO X (some e) (ajT te):=by
 intro pins s σ H Q I hw;rw[evalPart_some];refine cH (h pins s σ H _ I hw) fun u s1 ⟨x,H1,I1,r1,q1⟩=>?_;obtain⟨i,rfl,q⟩:=q1;obtain⟨t,rfl⟩:=r1;exact⟨some i,H1,I1,.int i t,q⟩
def SlR (X:Cx)(r:V->Option Int->Option Int->Hp->VK->Prop):Prop :=
 ∀(pins:List (Addr×Obj)) (s:Shared) (σ:St) (H:Hp) (x:V) (v vl vu:Value) (lo hi:Option Int) (sl:Addr) (Q:VK),Inv X pins σ H s->RelV x v->s.heap.IsSliceOf sl vl vu .none->IsPart vl lo->IsPart vu hi->r x lo hi H Q ->
  ∃ T id,typeLookup (.type T) "__getitem__"=pure (some (.builtin id))/\s.TypeIs v T/\wpAny (model X.prog X.w) X.A (getItem v (.ref sl)) (EP X pins σ Q) X.xe s
theorem SlR.or {r r':V->Option Int->Option Int->Hp->VK->Prop}(h:SlR X r)(h':SlR X r'):SlR X (fun x lo hi H Q=>r x lo hi H Q\/r' x lo hi H Q):=by
 intro pins s σ H x v vl vu lo hi sl Q I rx hs pl pu q;rcases q with q|q
 ·exact h pins s σ H x v vl vu lo hi sl Q I rx hs pl pu q
 ·exact h' pins s σ H x v vl vu lo hi sl Q I rx hs pl pu q
def tSl (r:V->Option Int->Option Int->Hp->VK->Prop)(te:TE)(tl th:TO):TE:=fun σ H Q=>te σ H fun x H1=>tl σ H1 fun l H2=>th σ H2 fun u H3=>r x l u H3 Q
theorem rA {r:V->Option Int->Option Int->Hp->VK->Prop}(hr:SlR X r)(he:PE X e te)(hl:PO X lo tl)(hu:PO X hi th):PE X (.Subscript e (.Slice lo hi none p2) pos) (tSl r te tl th):=by
 intro pins s σ H Q I h;refine Subscript_ (cH (he pins s σ H _ I h) fun v s1 ⟨x,H1,I1,r1,q1⟩=>?_);refine wpAny_Slice (cH (hl pins s1 σ H1 _ I1 q1) fun vl s2 ⟨l,H2,I2,pl,q2⟩=>cH (hu pins s2 σ H2 _ I2 q2) fun vu s3 ⟨u,H3,I3,pu,q3⟩=>?_);rw[evalPart_none];refine wpAny_pure ?_;have I4:Inv X pins σ H3 { s3 with heap:=s3.heap.push { cls:=.type "slice",data:=.fields #[vl,vu,.none] } }:=I3.kept (t':=s3.toks) fun b ob q=>Heap.get?_push_of_some _ q;obtain⟨T,id,hT,ht,hg⟩:=hr pins { s3 with heap:=s3.heap.push { cls:=.type "slice",data:=.fields #[vl,vu,.none] } } σ H3 x v vl vu l u s3.heap.objs.size Q I4 r1 (Heap.IsSliceOf.new ..) pl pu q3;show wpAny (model X.prog X.w) X.A (subscriptTail e (.Slice lo hi none p2) v (.ref s3.heap.objs.size)) (EP X pins σ Q) X.xe { s3 with heap:=s3.heap.push { cls:=.type "slice",data:=.fields #[vl,vu,.none] } };exact tail_any (ops:=[.ref s3.heap.objs.size,v]) ht hT hg (by with_unfolding_all rfl)
def D2 (xs:List V)(lo hi:Option Int):List V:=(xs.drop (HT.m6 xs.length 0 lo)).take (HT.m6 xs.length xs.length hi-HT.m6 xs.length 0 lo)
theorem KU (xs:List V)(lo hi:Option Int):(D2 xs lo hi).length<=xs.length:=by
 unfold D2;rw[length_take,length_drop];omega
inductive ahc (K:Frag)(x:V)(lo:Option Int)(hi:Option Int)(H:Hp)(Q:VK):Prop
 |mk (a:_) (xs:_) (eO:x=.ref a) (eP:uG K H a xs) (hX:¬(HT.m6 xs.length 0 lo=0/\HT.m6 xs.length xs.length hi=xs.length)) (kC:∀ p,H p=none->Q (.ref p) (upd H p (.tup (D2 xs lo hi)))):ahc K x lo hi H Q
def amb (K:Frag):V->Option Int->Option Int->Hp->VK->Prop:=fun x lo hi H Q=>ahc K x lo hi H Q
theorem Bf:SlR X (amb X.K):=by
 intro pins s σ H x v vl vu lo hi sl Q I rx hs pl pu h;obtain⟨a,xs,rfl,hx,hw,q⟩:=h;cases rx;obtain⟨its,r,ht,hz⟩:=I.tuple hx;have hlen:its.toArray.size=xs.length:=by rw[size_toArray];exact r.length.symm
 refine⟨"tuple",_,PyProof.Rows.slot_tuple_getitem.lookup,ht.typeIs,?_⟩;refine HT.D1 ht hs pl pu (by rw[hlen];exact hw) ?_ (by rw[hlen];exact hz);rw[hlen];refine⟨.ref s.heap.objs.size,_,I.laid (t':=s.toks) (o:=.tup (D2 xs lo hi)) (fun b ob q=>Heap.get?_push_of_some _ q) (Nat.le_refl _) ?_,rfl,q _ (I.hok.fresh (Nat.le_refl _))⟩;exact⟨Nat.le_trans (KU xs lo hi) hz,_,(r.drop (HT.m6 xs.length 0 lo)).take (HT.m6 xs.length xs.length hi-HT.m6 xs.length 0 lo),IsTup.new _ _⟩
end
end L2
namespace L2
open PySem PySem.Spec PyProof.Rows
def ixN (n:Nat)(i:Int):Option Nat:=if 0<=i then(if i<n then some i.toNat else none) else if -(n:Int)<=i then some (i+n).toNat else none
def atI {α:Type}(xs:List α)(i:Int):Option α:=(ixN xs.length i).bind fun j=>xs[j]?
theorem aaI {n:Nat}{i:Int}{j:Nat}(h:ixN n i=some j):seqIndex? i n=some j/\j<n/\-(n:Int)<=i/\i<n:=by
 unfold ixN at h
 by_cases h0:0<=i
 ·rw[if_pos h0]at h
  by_cases h1:i<n
  ·rw[if_pos h1]at h;have e:i.toNat=j:=Option.some.inj h;exact⟨by rw[seqIndex_of h0 h1,e],by omega,by omega,h1⟩
  ·rw[if_neg h1]at h;cases h
 ·rw[if_neg h0]at h
  by_cases h1:-(n:Int)<=i
  ·rw[if_pos h1]at h;have e:(i+n).toNat=j:=Option.some.inj h;exact⟨by rw[seqIndex_neg (by omega) h1,e],by omega,h1,by omega⟩
  ·rw[if_neg h1]at h;cases h
theorem QY {α:Type}{xs:List α}{i:Int}{v:α}(h:atI xs i=some v):∃ j,seqIndex? i xs.length=some j/\xs[j]? = some v/\j<xs.length/\-(xs.length:Int)<=i/\i<xs.length:=by
 unfold atI at h;cases e:ixN xs.length i with
 |none=>rw[e]at h;cases h
 |some j =>
  rw[e]at h;obtain⟨h1,h2,h3,h4⟩:=aaI e;exact⟨j,h1,h,h2,h3,h4⟩
theorem D3 {α:Type}{xs:List α}{j:Nat}{v:α}(h:xs[j]? = some v):atI xs (j:Int)=some v:=by
 have hj:j<xs.length:=(List.getElem?_eq_some_iff.mp h).1;have e:ixN xs.length (j:Int)=some j:=by
  unfold ixN;rw[if_pos (by omega),if_pos (by omega)];simp
 unfold atI;rw[e];exact h
theorem Mu {α:Type}(xs:List α)(v:α):atI (xs++[v]) (-1)=some v:=by
 have hl:(xs++[v]).length=xs.length+1:=by simp
 have e:ixN (xs++[v]).length (-1)=some xs.length:=by
  unfold ixN;rw[hl,if_neg (by decide),if_pos (by omega)]
  congr 1
  omega
 unfold atI;rw[e];show(xs++[v])[xs.length]? = some v;simp
def afQ (b:Expr):Prop:=∀ o i,subscripted b false o i=operate [o,i] (getItem o i)
def IxR (X:Cx)(r:R2):Prop :=
 ∀(value slice:Expr)(pins:List (Addr×Obj)) (s:Shared) (σ:St) (H:Hp) (x y:V) (v u:Value) (Q:VK),Inv X pins σ H s->RelV x v->RelV y u->r x y H Q ->
  subscripted slice false v u=operate [v,u] (getItem v u)->wpAny (model X.prog X.w) X.A (subscriptTail value slice v u) (EP X pins σ Q) X.xe s
def MtR (X:Cx)(id:String)(r:V->List V->Hp->VK->Prop):Prop :=
 ∀(pins:List (Addr×Obj)) (s:Shared) (σ:St) (H:Hp) (x:V) (xs:List V) (v:Value) (us:List Value) (Q:VK),Inv X pins σ H s->RelV x v->Vals xs us->r x xs H Q ->
  wpAny (model X.prog X.w) X.A (call (.builtin id) (v::us)) (EP X pins σ Q) X.xe s
section
variable {X:Cx} {a b:Expr} {ta tb:TE} {pos:Pos}
theorem IxR.or {r r':R2}(h:IxR X r)(h':IxR X r'):IxR X (fun x y H Q=>r x y H Q\/r' x y H Q):=by
 intro value slice pins s σ H x y v u Q I rx ry q hs;rcases q with q|q
 ·exact h value slice pins s σ H x y v u Q I rx ry q hs
 ·exact h' value slice pins s σ H x y v u Q I rx ry q hs
theorem aC {r:R2}(hr:IxR X r)(ha:PE X a ta)(hb:PE X b tb)(hs:afQ b):PE X (.Subscript a b pos) (tOp r ta tb):=by
 intro pins s σ H Q I h;exact Subscript_ (ahW ha hb I h fun v u s2 x y H2 I2 rx ry q=>hr a b pins s2 σ H2 x y v u Q I2 rx ry q (hs _ _))
inductive ahd (K:Frag)(x:V)(y:V)(H:Hp)(Q:VK):Prop
 |mk (p:_) (xs:_) (i:_) (v:_) (eO:x=.ref p) (eP:y=.int i) (hX:aX K H p xs) (kC:atI xs i=some v) (rq:Q v H):ahd K x y H Q
def QZ (K:Frag):R2:=fun x y H Q=>ahd K x y H Q
inductive ahe (K:Frag)(x:V)(y:V)(H:Hp)(Q:VK):Prop
 |mk (p:_) (xs:_) (i:_) (v:_) (eO:x=.ref p) (eP:y=.int i) (hX:uG K H p xs) (kC:atI xs i=some v) (rq:Q v H):ahe K x y H Q
def Q0 (K:Frag):R2:=fun x y H Q=>ahe K x y H Q
inductive ahf (x:V)(y:V)(H:Hp)(Q:VK):Prop
 |mk (z:_) (i:_) (c:_) (eO:x=.str z) (eP:y=.int i) (hX:z.length<=sizeLine) (kC:atI z.cps.toList i=some c) (rq:Q (.str ⟨#[c]⟩) H):ahf x y H Q
def Q1 :R2:=fun x y H Q=>ahf x y H Q
theorem afR:IxR X (QZ X.K):=by
 intro value slice pins s σ H x y v u Q I rx ry h hs;obtain⟨p,xs,i,z,rfl,rfl,hq,he,q⟩:=h;cases rx;obtain⟨t,rfl⟩:=ry;obtain⟨its,r,pl,hz⟩:=I.list hq;obtain⟨j,h1,h2,h3,h4,h5⟩:=QY he;obtain⟨w,ew,U1⟩:=r.get h2;have hl:=r.length;have hn:=GX;have fin:EP X pins σ Q w s:=⟨z,H,I,U1,q⟩
 by_cases h0:0<=i
 ·have hj:i.toNat=j:=by
   rw[seqIndex_of h0 h5]at h1;exact Option.some.inj h1
  exact item_listR pl.isList h0 (by omega) (by rw[hj];simpa using ew) fin hs
 ·have hj:(i+(its.toArray.size:Int)).toNat=j:=by
   rw[seqIndex_neg (by omega) h4]at h1;rw[size_toArray,<-hl];exact Option.some.inj h1
  exact subscriptTail_builtinR (x:=w) pl.isList.typeIs slot_list_getitem.lookup
   (wpAny_getItem_list_neg (Q:=fun r s'=>r=w/\EP X pins σ Q r s') pl.isList (by omega) (by rw[size_toArray] <;> omega) (by omega) (by rw[hj];simpa using ew) ⟨rfl,fin⟩) hs
theorem ah0:IxR X (Q0 X.K):=by
 intro value slice pins s σ H x y v u Q I rx ry h hs;obtain⟨p,xs,i,z,rfl,rfl,hq,he,q⟩:=h;cases rx;obtain⟨t,rfl⟩:=ry;obtain⟨its,r,pl,hz⟩:=I.tuple hq;obtain⟨j,h1,h2,h3,h4,h5⟩:=QY he;obtain⟨w,ew,U1⟩:=r.get h2;have hl:=r.length;have hn:=GX;have fin:EP X pins σ Q w s:=⟨z,H,I,U1,q⟩;exact subscriptTail_builtinR (x:=w) pl.typeIs slot_tuple_getitem.lookup
  (getItem_tuple (j:=j) (Q:=fun r s'=>r=w/\EP X pins σ Q r s') pl (by omega) (by omega) (by rw[size_toArray,<-hl];exact h1) (by simpa using ew) ⟨rfl,fin⟩) hs
theorem ah1:IxR X Q1:=by
 intro value slice pins s σ H x y v u Q I rx ry h hs;obtain⟨z,i,c,rfl,rfl,hz,he,q⟩:=h;obtain⟨t,rfl⟩:=rx;obtain⟨t',rfl⟩:=ry;obtain⟨j,h1,h2,h3,h4,h5⟩:=QY he;have hl:z.cps.toList.length=z.length:=by simp[Str.length]
 rw[hl]at h1 h4 h5;have hn:=GX;exact tail_any (typeIs_str s z t) slot_str_getitem.lookup (getItem_str (c:=c) (by
  have e1:decide (i < -(2 ^ 63:Int))=false:=decide_eq_false (by omega);have e2:decide (i ≥ 2 ^ 63)=false:=decide_eq_false (by omega);rw[e1,e2,Bool.or_false]) (by rw[h1];simpa using h2) ⟨.str ⟨#[c]⟩,H,I.tok _,⟨_,rfl⟩,q⟩) hs
def rIx (K:Frag):R2:=fun x y H Q=>QZ K x y H Q\/Q0 K x y H Q\/Q1 x y H Q
theorem av:IxR X (rIx X.K):=afR.or (ah0.or ah1)
theorem Xh (its:List Value)(n j:Nat)(u:Value):Obj.mapSeq (·.setIfInBounds j u) { cls:=.type "list",data:=.seq its.toArray n } = { cls:=.type "list",data:=.seq (its.set j u).toArray n }:=by
 simp[Obj.mapSeq]
theorem Inv.lst {pins:List (Addr×Obj)}{σ:St}{H:Hp}{s:Shared}{p:Addr}{xs:List V}(I:Inv X pins σ H s)(h:H p=some (.lst xs)) :
  ∃(its:List Value)(n:Nat),Vals xs its/\s.heap.get? p=some { cls:=.type "list",data:=.seq its.toArray n }/\xs.length<=sizeLine:=by
 obtain⟨z,its,n,r,e⟩:=I.hok p _ h;exact⟨its,n,r,e,z⟩
theorem Inv.ah2 {pins:List (Addr×Obj)}{σ:St}{H:Hp}{s:Shared}{p:Addr}{xs ys:List V}{its its':List Value}{n n':Nat}{f:Obj->Obj}(I:Inv X pins σ H s)(h:H p=some (.lst xs))
  (ho:s.heap.get? p=some { cls:=.type "list",data:=.seq its.toArray n }) (hf:f { cls:=.type "list",data:=.seq its.toArray n } = { cls:=.type "list",data:=.seq its'.toArray n' }) (r:Vals ys its') (hz:ys.length<=sizeLine) (t:Nat) :
  Inv X pins σ (upd H p (.lst ys)) { s with heap:=s.heap.update p f,toks:=t }:=by
 have e:(s.heap.update p f).get? p=some { cls:=.type "list",data:=.seq its'.toArray n' }:=by
  rw[Heap.get?_update_self f ho (by rw[hf] <;> rfl),hf]
 refine I.write (x:=p) (e:=p) (by rw[h];trivial) (.inl rfl) (fun b u hb q=>(Heap.get?_update_other _ _ (Ne.symm hb)).trans q) ⟨_,e⟩ ?_;exact⟨hz,its',n',r,e⟩
inductive adA (o:V)(i:V)(v:V)(H:Hp)(Q:(Hp->Prop)):Prop
 |mk (p:_) (xs:_) (k:_) (j:_) (eO:o=.ref p) (eP:i=.int k) (hX:H p=some (.lst xs)) (kC:ixN xs.length k=some j) (rq:Q (upd H p (.lst (xs.set j v)))):adA o i v H Q
def ajU :V->V->V->Hp->(Hp->Prop)->Prop:=fun o i v H Q=>adA o i v H Q
theorem set_list:ajH X ajU:=by
 intro pins s σ H o i v ov iv u Q I ro ri rv h;obtain⟨p,xs,k,j,rfl,rfl,hp,hj,q⟩:=h;cases ro;obtain⟨t,rfl⟩:=ri;obtain⟨its,n,r,ho,hz⟩:=I.lst hp;obtain⟨h1,h2,h3,h4⟩:=aaI hj;have hl:=r.length;have hn:=GX;have I':Inv X pins σ (upd H p (.lst (xs.set j v))) { s with heap:=s.heap.update p (Obj.mapSeq (·.setIfInBounds j u)) } :=
  I.ah2 hp ho (Xh its n j u) (r.set rv j) (by rw[List.length_set];exact hz) s.toks
 by_cases h0:0<=k
 ·have hk:k.toNat=j:=by
   rw[seqIndex_of h0 h4]at h1;exact Option.some.inj h1
  exact PySem.W.ki_setAt ho h0 (by omega) (by rw[size_toArray,<-hl];exact h4) (by rw[hk];exact⟨_,I',q⟩)
 ·have hk:(k+(its.toArray.size:Int)).toNat=j:=by
   rw[seqIndex_neg (by omega) h3]at h1;rw[size_toArray,<-hl];exact Option.some.inj h1
  exact PySem.W.ki_setBack ho (by omega) (by rw[size_toArray,<-hl];exact h3) (by omega) (by rw[hk];exact⟨_,I',q⟩)
theorem Q2 (lo hi:Option Int)(n:Nat):(sliceBounds lo hi none n).1=((HT.m6 n 0 lo:Nat):Int)/\(sliceBounds lo hi none n).2.1=((HT.m6 n n hi:Nat):Int)/\(sliceBounds lo hi none n).2.2=1:=by
 refine⟨?_,?_,rfl⟩
 ·cases lo with
  |none=>simp[sliceBounds,HT.m6]
  |some i =>
   simp only [sliceBounds,HT.m6,Option.getD_none,show(1:Int) > 0 by decide,if_true]
   by_cases h:i<0
   ·simp only [h,if_true] <;> omega
   ·simp only [h,if_false] <;> omega
 ·cases hi with
  |none=>simp[sliceBounds,HT.m6]
  |some i =>
   simp only [sliceBounds,HT.m6,Option.getD_none,show(1:Int) > 0 by decide,if_true]
   by_cases h:i<0
   ·simp only [h,if_true] <;> omega
   ·simp only [h,if_false] <;> omega
theorem Pe (its:List Value)(lo hi:Option Int):slicePick its.toArray lo hi none=((its.drop (HT.m6 its.length 0 lo)).take (HT.m6 its.length its.length hi-HT.m6 its.length 0 lo)).toArray:=by
 obtain⟨h1,h2,h3⟩:=Q2 lo hi its.toArray.size;unfold slicePick;rw[h1,h2,h3];simp only [sliceRange_one,pick_run,size_toArray] <;> rfl
inductive ahg (K:Frag)(x:V)(lo:Option Int)(hi:Option Int)(H:Hp)(Q:VK):Prop
 |mk (a:_) (xs:_) (eO:x=.ref a) (eP:aX K H a xs) (hX:∀ p,H p=none->Q (.ref p) (upd H p (.lst (D2 xs lo hi)))):ahg K x lo hi H Q
def amc (K:Frag):V->Option Int->Option Int->Hp->VK->Prop:=fun x lo hi H Q=>ahg K x lo hi H Q
theorem wk:SlR X (amc X.K):=by
 intro pins s σ H x v vl vu lo hi sl Q I rx hs pl pu h;obtain⟨a,xs,rfl,hx,q⟩:=h;cases rx;obtain⟨its,r,ht,hz⟩:=I.list hx;have hlen:=r.length;refine⟨"list",_,slot_list_getitem.lookup,ht.isList.typeIs,?_⟩;refine wpAny_getItem_list_slice ht.isList hs pl pu .none (by simp) ?_ (by rw[size_toArray] <;> omega);rw[Pe,<-hlen];refine⟨.ref s.heap.objs.size,_,I.laid (t':=s.toks) (o:=.lst (D2 xs lo hi)) (fun b ob q=>Heap.get?_push_of_some _ q) (Nat.le_refl _) ?_,rfl,q _ (I.hok.fresh (Nat.le_refl _))⟩;exact⟨Nat.le_trans (KU xs lo hi) hz,_,0,(r.drop (HT.m6 xs.length 0 lo)).take (HT.m6 xs.length xs.length hi-HT.m6 xs.length 0 lo),Heap.get?_push_size _ rfl⟩
def A1:V->Bool
 |.non=>true
 |.bl _=>true
 |.int _=>true
 |.str _=>true
 |_=>false
def eqV:V->V->Bool
 |.non,.non=>true
 |.bl a,.bl b=>a==b
 |.bl a,.int b=>(if a then 1 else 0)==b
 |.int a,.bl b=>a==(if b then 1 else 0)
 |.int a,.int b=>a==b
 |.str a,.str b=>a==b
 |_,_=>false
theorem adB {A:Around}{s:Shared}{y x:V}{u v:Value}(ry:RelV y u)(rx:RelV x v)(fy:A1 y=true)(fx:A1 x=true):SeqAt.EqAt A s u v (eqV y x):=by
 cases y with
 |non =>
  cases ry;cases x with
  |non=>cases rx;exact SeqAt.EqAt.same _
  |bl b=>cases rx;exact SeqAt.EqAt.none_bool b
  |int b=>obtain⟨t,rfl⟩:=rx;exact SeqAt.EqAt.none_int b t
  |str b=>obtain⟨t,rfl⟩:=rx;exact SeqAt.EqAt.none_str b t
  |_=>exact absurd (show false=true from fx) Bool.false_ne_true
 |bl a =>
  cases ry;cases x with
  |non=>cases rx;exact SeqAt.EqAt.bool_none a
  |bl b=>cases rx;exact SeqAt.EqAt.bool_bool a b
  |int b=>obtain⟨t,rfl⟩:=rx;exact SeqAt.EqAt.bool_int a b t
  |str b=>obtain⟨t,rfl⟩:=rx;exact SeqAt.EqAt.bool_str a b t
  |_=>exact absurd (show false=true from fx) Bool.false_ne_true
 |int a =>
  obtain⟨t',rfl⟩:=ry;cases x with
  |non=>cases rx;exact SeqAt.EqAt.int_none a t'
  |bl b=>cases rx;exact SeqAt.EqAt.int_bool a t' b
  |int b=>obtain⟨t,rfl⟩:=rx;exact SeqAt.EqAt.int_int a t' b t
  |str b=>obtain⟨t,rfl⟩:=rx;exact SeqAt.EqAt.int_str a t' b t
  |_=>exact absurd (show false=true from fx) Bool.false_ne_true
 |str a =>
  obtain⟨t',rfl⟩:=ry;cases x with
  |non=>cases rx;exact SeqAt.EqAt.str_none a t'
  |bl b=>cases rx;exact SeqAt.EqAt.str_bool a t' b
  |int b=>obtain⟨t,rfl⟩:=rx;exact SeqAt.EqAt.str_int a t' b t
  |str b=>obtain⟨t,rfl⟩:=rx;exact SeqAt.EqAt.str_str a t' b t
  |_=>exact absurd (show false=true from fx) Bool.false_ne_true
 |_=>exact absurd (show false=true from fy) Bool.false_ne_true
def Xi (x:V)(u:Value):Bool:=match u with
 |.none=>eqV .non x
 |.bool b=>eqV (.bl b) x
 |.int i _=>eqV (.int i) x
 |.str z _=>eqV (.str z) x
 |_=>false
theorem adC {x y:V}{u:Value}(r:RelV y u)(f:A1 y=true):Xi x u=eqV y x:=by
 cases y with
 |non=>cases r;rfl
 |bl b=>cases r;rfl
 |int i=>obtain⟨t,rfl⟩:=r;rfl
 |str z=>obtain⟨t,rfl⟩:=r;rfl
 |_=>exact absurd (show false=true from f) Bool.false_ne_true
theorem D4 {x:V}:∀{xs:List V} {us:List Value},Vals xs us->xs.all A1=true->us.any (Xi x)=xs.any fun y=>eqV y x
 |_,_,.nil,_=>rfl
 |y::xs,u::us,.cons r t,f=>by
  rw[List.all_cons,Bool.and_eq_true]at f;rw[List.any_cons,List.any_cons,adC r f.1,D4 t f.2]
theorem yo {A:Around}{s:Shared}{x:V}{v:Value}(rx:RelV x v)(fx:A1 x=true):∀{xs:List V} {us:List Value},Vals xs us->xs.all A1=true->∀ u∈us,SeqAt.EqAt A s u v (Xi x u)
 |_,_,.nil,_=>fun u hu=>by cases hu
 |y::xs,u::us,.cons r t,f=>fun u' hu=>by
  rw[List.all_cons,Bool.and_eq_true]at f;rcases List.mem_cons.mp hu with rfl|hu
  ·rw[adC r f.1];exact adB r rx f.1 fx
  ·exact yo rx fx t f.2 u' hu
def inV (x:V)(xs:List V):Bool:=xs.any fun y=>eqV y x
inductive ajV (K:Frag)(neg:Bool)(x:V)(y:V)(H:Hp)(Q:VK):Prop
 |mk (p:_) (xs:_) (eO:y=.ref p) (eP:(aX K H p xs\/uG K H p xs)) (hX:A1 x=true) (kC:xs.all A1=true) (rq:Q (.bl (if neg then !inV x xs else inV x xs)) H):ajV K neg x y H Q
def rIn (K:Frag)(neg:Bool):R2:=fun x y H Q=>ajV K neg x y H Q
theorem cW:v9 X (compareOp .In) (rIn X.K false):=by
 intro pins s σ H x y v u Q I rx ry h;obtain⟨p,xs,rfl,hq,fx,fs,q⟩:=h;cases ry;rcases hq with hq|hq
 ·obtain⟨its,r,pl,hz⟩:=I.list hq;refine SeqAt.in_listAt (Xi x) pl.isList (fun w hw=>yo rx fx r fs w (by simpa using hw)) ⟨.bl _,H,I,rfl,?_⟩;rw[show its.toArray.any (Xi x)=its.any (Xi x) by simp,D4 r fs];exact q
 ·obtain⟨its,r,pl,hz⟩:=I.tuple hq;refine SeqAt.in_tupleAt (Xi x) pl (fun w hw=>yo rx fx r fs w (by simpa using hw)) ⟨.bl _,H,I,rfl,?_⟩;rw[show its.toArray.any (Xi x)=its.any (Xi x) by simp,D4 r fs];exact q
theorem qD:v9 X (compareOp .NotIn) (rIn X.K true):=by
 intro pins s σ H x y v u Q I rx ry h;obtain⟨p,xs,rfl,hq,fx,fs,q⟩:=h;cases ry;rcases hq with hq|hq
 ·obtain⟨its,r,pl,hz⟩:=I.list hq;refine SeqAt.notIn_listAt (Xi x) pl.isList (fun w hw=>yo rx fx r fs w (by simpa using hw)) ⟨.bl _,H,I,rfl,?_⟩;rw[show its.toArray.any (Xi x)=its.any (Xi x) by simp,D4 r fs];exact q
 ·obtain⟨its,r,pl,hz⟩:=I.tuple hq;refine SeqAt.notIn_tupleAt (Xi x) pl (fun w hw=>yo rx fx r fs w (by simpa using hw)) ⟨.bl _,H,I,rfl,?_⟩;rw[show its.toArray.any (Xi x)=its.any (Xi x) by simp,D4 r fs];exact q
theorem qE:v9 X (compareOp .NotIn) (fun x y H Q=>∃ i j,x=.str i/\y=.str j/\Q (.bl (!(!(Builtin.Str.occurrences j i 0 j.length 1).isEmpty))) H):=by
 intro pins s σ H x y v u Q I rx ry h;obtain⟨i,j,rfl,rfl,q⟩:=h;obtain⟨t,rfl⟩:=rx;obtain⟨t',rfl⟩:=ry;exact notIn_str ⟨.bl _,H,I,rfl,q⟩
theorem aE:lH X (.builtin "len") (fun xs H Q=>∃ p ys,xs=[.ref p]/\(aX X.K H p ys\/uG X.K H p ys)/\Q (.int ys.length) H):=by
 intro pins s σ H xs us Q I r h;obtain⟨p,ys,rfl,hq,q⟩:=h;obtain⟨u,rfl,rx⟩:=vals1 r;cases rx;have hn:=GX;rcases hq with hq|hq
 ·obtain⟨its,r',pl,hz⟩:=I.list hq;have hlen:=r'.length;exact Calls.call_len_list pl.isList (by simp only [size_toArray] <;> omega) ⟨.int ys.length,H,I.tok _,⟨s.toks+1,by rw[size_toArray,hlen]⟩,q⟩
 ·obtain⟨its,r',pl,hz⟩:=I.tuple hq;have hlen:=r'.length;exact len_tuple pl (by simp only [size_toArray] <;> omega) ⟨.int ys.length,H,I.tok _,⟨s.toks+1,by rw[size_toArray,hlen]⟩,q⟩
theorem aF:lH X (.builtin "len") (fun xs H Q=>∃ z,xs=[.str z]/\z.length<=sizeLine/\Q (.int z.length) H):=by
 intro pins s σ H xs us Q I r h;obtain⟨z,rfl,hz,q⟩:=h;obtain⟨u,rfl,t,rfl⟩:=vals1 r;have hn:=GX;exact len_str (by omega) ⟨.int z.length,H,I.tok _,⟨_,rfl⟩,q⟩
theorem lH.or {f:Value}{r r':List V->Hp->VK->Prop}(h:lH X f r)(h':lH X f r'):lH X f (fun xs H Q=>r xs H Q\/r' xs H Q):=by
 intro pins s σ H xs us Q I rs q;rcases q with q|q
 ·exact h pins s σ H xs us Q I rs q
 ·exact h' pins s σ H xs us Q I rs q
theorem D5:lH X (.type "list") (fun xs H Q=>∃ p ys,xs=[.ref p]/\(aX X.K H p ys\/uG X.K H p ys)/\∀ l,H l=none->Q (.ref l) (upd H l (.lst ys))):=by
 intro pins s σ H xs us Q I r h;obtain⟨p,ys,rfl,hq,q⟩:=h;obtain⟨u,rfl,rx⟩:=vals1 r;cases rx;have fin:∀(its:List Value),Vals ys its->ys.length<=sizeLine->∀(h':Heap)(c':Nat),(∀ b o',s.heap.get? b=some o'->h'.get? b=some o') ->
   h'.get? s.heap.objs.size=some { cls:=.type "list",dict:=none,data:=.seq its.toArray c',slots:=#[] }->EP X pins σ Q (.ref s.heap.objs.size) { s with heap:=h' }:=fun its r' hz h' c' kp e =>
  ⟨.ref s.heap.objs.size,_,I.laid (t':=s.toks) kp (Nat.le_refl _) (show gQ X.prog X.w _ h' _ (.lst ys) from⟨hz,its,c',r',e⟩),rfl,q _ (I.hok.fresh (Nat.le_refl _))⟩
 rcases hq with hq|hq
 ·obtain⟨its,r',pl,hz⟩:=I.list hq;have hlen:=r'.length;obtain⟨o,ho,hc,n,hd⟩:=pl.isList;exact call_list_seq p (.inl rfl) ho hc hd (fun h' c' kp e=>fin its r' hz h' c' kp e) (by simp only [size_toArray] <;> omega)
 ·obtain⟨its,r',pl,hz⟩:=I.tuple hq;have hlen:=r'.length;obtain⟨o,ho,hc,n,hd⟩:=pl;exact call_list_seq p (.inr rfl) ho hc hd (fun h' c' kp e=>fin its r' hz h' c' kp e) (by simp only [size_toArray] <;> omega)
def tyV (K:Frag)(T:String)(x:V)(H:Hp):Prop:=match x with
 |.str _=>T = "str"
 |.int _=>T = "int"
 |.ref p=>(T = "list"/\∃ xs,aX K H p xs)\/(T = "tuple"/\∃ o,K.lookup p=some o/\o.cls=.type "tuple"/\o.dict=none) \/
   (T = "dict"/\((∃ kvs,H p=some (.dK kvs))\/∃ kvs,H p=some (.dT kvs)))\/(T = "set"/\∃ S n,H p=some (.set S n))
 |_=>False
theorem adD {pins:List (Addr×Obj)}{σ:St}{H:Hp}{s:Shared}{T:String}{x:V}{v:Value}(I:Inv X pins σ H s)(r:RelV x v)(ty:tyV X.K T x H) :
  s.TypeIs v T/\∀ a,v=.ref a->∃ ob,s.heap.get? a=some ob/\ob.dict=none:=by
 cases x with
 |str z =>
  obtain⟨t,rfl⟩:=r;cases (show T = "str" from ty);exact⟨typeIs_str s z t,fun _ e=>nomatch e⟩
 |int i =>
  obtain⟨t,rfl⟩:=r;cases (show T = "int" from ty);exact⟨typeIs_int s i t,fun _ e=>nomatch e⟩
 |ref p =>
  cases r;rcases ty with ⟨rfl,xs,hq⟩|⟨rfl,o,hk,hc,hd⟩|⟨rfl,hk⟩|⟨rfl,S,n,hk⟩
  ·obtain⟨its,_,pl,_⟩:=I.list hq;refine⟨pl.isList.typeIs,fun a e=>?_⟩;cases e;obtain⟨o,n,e,c,hd,_⟩:=pl;exact⟨o,e,hd⟩
  ·refine⟨⟨o,I.yi p o hk,hc⟩,fun a e=>?_⟩;cases e;exact⟨o,I.yi _ o hk,hd⟩
  ·have z:∃ o,s.heap.get? p=some o/\o.ExactDict:=by
    rcases hk with ⟨kvs,hk⟩|⟨kvs,hk⟩
    ·obtain⟨_,_,_,_,o,_,_,e,ex,_⟩:=I.hok p _ hk;exact⟨o,e,ex⟩
    ·obtain⟨_,_,_,_,o,_,_,e,ex,_⟩:=I.hok p _ hk;exact⟨o,e,ex⟩
   obtain⟨o,e,ex⟩:=z;refine⟨⟨o,e,ex.1⟩,fun a e2=>?_⟩;cases e2;exact⟨o,e,ex.2.1⟩
  ·obtain⟨o,_,_,_,e,ex,_⟩:=I.hok p _ hk;refine⟨⟨o,e,ex.1⟩,fun a e2=>?_⟩;cases e2;exact⟨o,e,ex.2.1⟩
 |_=>exact False.elim ty
def ame (K:Frag)(T:String)(r:V->List V->Hp->VK->Prop)(to:TE):TE:=fun σ H Q=>to σ H fun x H1=>tyV K T x H1/\r x [] H1 Q
def tBM (K:Frag)(T:String)(r:V->List V->Hp->VK->Prop)(to:TE)(t:TA):TE:=fun σ H Q=>to σ H fun x H1=>tyV K T x H1/\t σ H1 fun xs H2=>r x xs H2 Q
variable {o e:Expr} {es:List Expr} {to:TE} {t:TA} {name:Str} {apos cpos:Pos} {T id:String} {r:V->List V->Hp->VK->Prop}
theorem Q3 (pa:PlainAttrs T)(slot:Slot T name id)(hty:typeOf (.builtin id)=pure (.type "method_descriptor"))(hm:MtR X id r)(ho:PE X o to)
  (hbase:attributeBase o name X.env (eval o X.env)=eval o X.env:=by rfl) (hline:(apos.endLine==cpos.line)=true:=by rfl):PE X (.Call (.Attribute o name apos) [] [] cpos) (ame X.K T r to):=by
 intro pins s σ H Q I h;refine wpAny_Call_method0_late hbase hline (cH (ho pins s σ H _ I h) fun v s1 ⟨x,H1,I1,r1,ty,q1⟩=>?_);obtain⟨h1,h2⟩:=adD I1 r1 ty;exact⟨T,id,pa,slot,hty,h1,h2,Calls.callWith_builtin rfl (PySem.evalArgs_none (hm pins s1 σ H1 x [] v [] Q I1 r1 .nil q1))⟩
theorem jr (pa:PlainAttrs T)(slot:Slot T name id)(hty:typeOf (.builtin id)=pure (.type "method_descriptor"))(hm:MtR X id r)(ho:PE X o to)(ha:PA X (e::es) t)
  (hbase:attributeBase o name X.env (eval o X.env)=eval o X.env:=by rfl)
  (hfew:((backTo cpos (starEach (e::es) X.env)).all (fun x=>!x.1)&&(backToKw cpos (keywordEach [] X.env)).all (fun x=>x.1.isSome)
   && decide ((e::es).length+([]:List Keyword).length+(if([]:List Keyword).isEmpty then 0 else 1)<30))=true:=by rfl)
  (hline:(apos.endLine==cpos.line)=true:=by rfl) (hs:starEach (e::es) X.env=(false,eval e X.env)::starEach es X.env:=by rfl) (hplain:(backTo cpos (starEach es X.env)).any (·.1)=false:=by rfl) :
  PE X (.Call (.Attribute o name apos) (e::es) [] cpos) (tBM X.K T r to t):=by
 intro pins s σ H Q I h;refine wpAny_Call_method_late hbase hfew hline rfl (cH (ho pins s σ H _ I h) fun v s1 ⟨x,H1,I1,r1,ty,q1⟩=>?_);obtain⟨h1,h2⟩:=adD I1 r1 ty;refine⟨T,id,pa,slot,hty,h1,h2,?_⟩;have hA:=ha cpos pins s1 σ H1 _ I1 q1;rw[hs]at hA ⊢;refine Calls.callWith_builtin (by show(false||(backTo cpos (starEach es X.env)).any (·.1))=false;rw[hplain] <;> rfl) (Calls.evalArgs_plain ?_);exact cH hA fun us s2 ⟨vs,H2,I2,r2,q2⟩=>hm pins s2 σ H2 x vs v us Q I2 r1 r2 q2
end
end L2
namespace L2
open PySem PySem.Spec PyProof.Rows
def MtM (X:Cx)(id:String)(r:V->List V->Hp->VK->Prop):Prop :=
 ∀(pins:List (Addr×Obj)) (s:Shared) (σ:St) (H:Hp) (x:V) (xs:List V) (v:Value) (us:List Value) (Q:VK),Inv X pins σ H s->RelV x v->Vals xs us->r x xs H Q ->
  wpAny (model X.prog X.w) X.A (call (.builtin id) (v::us)) (EP X pins σ Q) X.xe s
theorem Vals.one:∀{x:V} {us:List Value},Vals [x] us->∃ u,us=[u]/\RelV x u
 |_,_,.cons r .nil=>⟨_,rfl,r⟩
theorem Vals.two:∀{x y:V} {us:List Value},Vals [x,y] us->∃ u v,us=[u,v]/\RelV x u/\RelV y v
 |_,_,_,.cons r (.cons q .nil)=>⟨_,_,rfl,r,q⟩
theorem Vals.zero:∀{us:List Value},Vals [] us->us=[]
 |_,.nil=>rfl
theorem Vals.dropLast {xs:List V}{us:List Value}(h:Vals xs us):Vals xs.dropLast us.dropLast:=by
 induction h with
 |nil=>exact .nil
 |cons r t ih =>
  cases t with
  |nil=>exact .nil
  |cons q t'=>exact .cons r ih
theorem Vals.reverse {xs:List V}{us:List Value}(h:Vals xs us):Vals xs.reverse us.reverse:=by
 induction h with
 |nil=>exact .nil
 |cons r t ih=>rw[List.reverse_cons,List.reverse_cons];exact Vals.append ih (.cons r .nil)
theorem Vals.rep {xs:List V}{us:List Value}(h:Vals xs us):∀ k:Nat,Vals (List.replicate k xs).flatten (List.replicate k us).flatten
 |0=>.nil
 |k+1=>by
  rw[List.replicate_succ,List.replicate_succ,List.flatten_cons,List.flatten_cons];exact Vals.append h (Vals.rep h k)
theorem Xj {α:Type}(l:List α):l.eraseIdx (l.length-1)=l.dropLast:=by
 induction l with
 |nil=>rfl
 |cons a r ih =>
  cases r with
  |nil=>rfl
  |cons b r =>
   have e:(a::b::r).length-1=((b::r).length-1)+1:=by
    have h1:(a::b::r).length=r.length+2:=rfl;have h2:(b::r).length=r.length+1:=rfl;omega
   rw[e,List.eraseIdx_cons_succ,ih]
   all_goals rfl
theorem foldl_rep (its:List Value):∀(k:Nat)(acc:List Value),
  List.foldl (fun x1 x2=>x1++x2) acc.toArray (List.replicate k its.toArray)=(acc++(List.replicate k its).flatten).toArray
 |0,acc=>by simp
 |k+1,acc=>by
  have e:acc.toArray++its.toArray=(acc++its).toArray:=by simp
  have e2:(acc++its)++(List.replicate k its).flatten=acc++(List.replicate (k+1) its).flatten:=by
   rw[List.replicate_succ,List.flatten_cons,List.append_assoc]
  rw[<-e2,<-foldl_rep its k (acc++its),<-e,List.replicate_succ,List.foldl_cons]
section
variable {X:Cx} {pins:List (Addr×Obj)} {σ:St} {H:Hp} {s:Shared} {l b:Addr} {xs ys zs:List V}
theorem Inv.adE {its its':List Value}{n:Nat}{f:Array Value->Array Value}{t':Nat}(I:Inv X pins σ H s)(hH:H l=some (.lst xs))
  (e:s.heap.get? l=some { cls:=.type "list",data:=.seq its.toArray n }) (hf:f its.toArray=its'.toArray) (hv:Vals ys its') (hz:ys.length<=sizeLine) :
  Inv X pins σ (upd H l (.lst ys)) { s with heap:=s.heap.update l (Obj.mapSeq f),toks:=t' }:=by
 have q:=PySem.IsL.update e f;rw[hf]at q;refine I.write (x:=l) (e:=l) (by rw[hH];exact trivial) (.inl rfl) (fun b' u hb hu=>(Heap.get?_update_other s.heap (Obj.mapSeq f) (Ne.symm hb)).trans hu) ⟨_,q⟩ ?_;exact⟨hz,its',_,hv,q⟩
theorem Inv.ajX {its:List Value}{t':Nat}(I:Inv X pins σ H s)(hv:Vals ys its)(hz:ys.length<=sizeLine) :
  Inv X pins σ (upd H s.heap.objs.size (.lst ys)) { s with heap:=s.heap.push { cls:=.type "list",data:=.seq its.toArray },toks:=t' } :=
 I.laid (fun _ _ q=>Heap.get?_push_of_some _ q) (Nat.le_refl _) ⟨hz,its,0,hv,Heap.get?_push_size _ rfl⟩
theorem Inv.fresh (I:Inv X pins σ H s):H s.heap.objs.size=none:=I.hok.fresh (Nat.le_refl _)
theorem Inv.Pf (I:Inv X pins σ H s)(hH:H l=some (.lst xs)):xs.length<=sizeLine/\∃(its:List Value)(n:Nat),Vals xs its/\xs.length=its.length/\s.heap.get? l=some { cls:=.type "list",data:=.seq its.toArray n }:=by
 obtain⟨z,its,n,r,e⟩:=I.hok l _ hH;exact⟨z,its,n,r,r.length,e⟩
theorem Mv {n:Nat}(h:n<=sizeLine):Builtin.List.listTooLong n=false:=by
 unfold Builtin.List.listTooLong;exact decide_eq_false (by omega)
end
section
variable {X:Cx}
inductive U8 (x:V)(vs:List V)(H:Hp)(Q:VK):Prop
 |mk (l:_) (xs:_) (y:_) (eO:x=.ref l) (eP:vs=[y]) (hX:H l=some (.lst xs)) (kC:xs.length<sizeLine) (rq:Q .non (upd H l (.lst (xs++[y])))):U8 x vs H Q
def afS :V->List V->Hp->VK->Prop:=fun x vs H Q=>U8 x vs H Q
theorem bK:MtM X "list.append" afS:=by
 intro pins s σ H x vs v us Q I rx rv h;obtain⟨l,xs,y,rfl,rfl,hH,hz,q⟩:=h;cases rx;obtain⟨u,rfl,ru⟩:=rv.one;obtain⟨z,its,n,r,hl,e⟩:=I.Pf hH;refine call_meets F.slot_list_append ⟨_,e,rfl⟩ F.entry_list_append (F.args_list_append_2 _ _) (PySem.list_append l its.toArray n u (by rw[size_toArray];omega)) ⟨e,?_⟩;refine⟨.non,_,I.adE (its':=its++[u]) hH e (by simp) (r.append (.cons ru .nil)) ?_,rfl,q⟩;rw[length_append,List.length_singleton];omega
inductive ahh (x:V)(vs:List V)(H:Hp)(Q:VK):Prop
 |mk (l:_) (xs:_) (y:_) (eO:x=.ref l) (eP:vs=[]) (hX:H l=some (.lst xs)) (kC:xs[xs.length-1]? = some y) (rq:Q y (upd H l (.lst xs.dropLast))):ahh x vs H Q
def amf :V->List V->Hp->VK->Prop:=fun x vs H Q=>ahh x vs H Q
theorem adF:MtM X "list.pop" amf:=by
 intro pins s σ H x vs v us Q I rx rv h;obtain⟨l,xs,y,rfl,rfl,hH,hy,q⟩:=h;cases rx;have hus:=rv.zero;subst hus;obtain⟨z,its,n,r,hl,e⟩:=I.Pf hH;obtain⟨u,hu,ru⟩:=r.get hy;have hy':its.toArray[its.toArray.size-1]? = some u:=by
  show its.toArray[its.length-1]? = some u;rw[<-Array.getElem?_toList,<-hl];exact hu
 refine call_meets F.slot_list_pop ⟨_,e,rfl⟩ F.entry_list_pop (F.args_list_pop_1 _) (MeetsSeq.list_pop_last l its.toArray n u hy' (by rw[size_toArray];omega)) ⟨e,?_⟩;refine⟨y,_,I.adE (its':=its.dropLast) hH e ?_ r.dropLast ?_,ru,q⟩
 ·show its.toArray.eraseIdxIfInBounds (its.toArray.size-1)=its.dropLast.toArray;rw[size_toArray,List.eraseIdxIfInBounds_toArray,Xj]
 ·rw[List.length_dropLast];omega
inductive Qg (x:V)(vs:List V)(H:Hp)(Q:VK):Prop
 |mk (l:_) (xs:_) (eO:x=.ref l) (eP:vs=[]) (hX:H l=some (.lst xs)) (kC:Q .non (upd H l (.lst xs.reverse))):Qg x vs H Q
def adG :V->List V->Hp->VK->Prop:=fun x vs H Q=>Qg x vs H Q
theorem Xk:MtM X "list.reverse" adG:=by
 intro pins s σ H x vs v us Q I rx rv h;obtain⟨l,xs,rfl,rfl,hH,q⟩:=h;cases rx;have hus:=rv.zero;subst hus;obtain⟨z,its,n,r,hl,e⟩:=I.Pf hH;refine call_meets F.slot_list_reverse ⟨_,e,rfl⟩ F.entry_list_reverse (F.args_list_reverse_1 _) (AutoSeq1.list_reverse_list_0 l its.toArray n (by rw[size_toArray];omega)) ⟨e,?_⟩;refine⟨.non,_,I.adE (its':=its.reverse) hH e (by simp) r.reverse ?_,rfl,q⟩;rw[length_reverse];omega
inductive aaK (x:V)(vs:List V)(H:Hp)(Q:VK):Prop
 |mk (l:_) (xs:_) (eO:x=.ref l) (eP:vs=[]) (hX:H l=some (.lst xs)) (kC:Q .non (upd H l (.lst []))):aaK x vs H Q
def ah3 :V->List V->Hp->VK->Prop:=fun x vs H Q=>aaK x vs H Q
theorem adH:MtM X "list.clear" ah3:=by
 intro pins s σ H x vs v us Q I rx rv h;obtain⟨l,xs,rfl,rfl,hH,q⟩:=h;cases rx;have hus:=rv.zero;subst hus;obtain⟨z,its,n,r,hl,e⟩:=I.Pf hH;refine call_meets F.slot_list_clear ⟨_,e,rfl⟩ F.entry_list_clear (F.args_list_clear_1 _) (AutoSeq1.list_clear_list_0 l its.toArray n (by rw[size_toArray];omega)) ⟨e,?_⟩;exact⟨.non,_,I.adE (its':=[]) (ys:=[]) hH e rfl .nil (Nat.zero_le _),rfl,q⟩
inductive ahi (x:V)(y:V)(H:Hp)(Q:VK):Prop
 |mk (l:_) (b:_) (xs:_) (zs:_) (eO:x=.ref l) (eP:y=.ref b) (hX:H l=some (.lst xs)) (kC:H b=some (.lst zs)) (rq:xs.length+zs.length<=sizeLine) (QX:∀ p,H p=none->Q (.ref p) (upd H p (.lst (xs++zs)))):ahi x y H Q
def amg :R2:=fun x y H Q=>ahi x y H Q
theorem bR:v9 X (binaryOp .Add) amg:=by
 intro pins s σ H x y v u Q I rx ry h;obtain⟨l,b,xs,zs,rfl,rfl,hH,hB,hz,q⟩:=h;cases rx;cases ry;obtain⟨z,its,n,r,hl,e⟩:=I.Pf hH;obtain⟨z2,its2,n2,r2,hl2,e2⟩:=I.Pf hB;refine PySem.P.add_list e e2 ?_ (by rw[size_toArray,size_toArray];omega);have ea:its.toArray++its2.toArray=(its++its2).toArray:=by simp
 rw[ea];exact⟨.ref _,_,I.ajX (t':=s.toks) (r.append r2) (by rw[length_append];omega),rfl,q _ I.fresh⟩
def amh:R2:=fun x y H Q=>∃ l k xs,x=.ref l/\y=.int k/\H l=some (.lst xs)/\-(2 ^ 63)<=k/\k<2 ^ 63/\xs.length * k.toNat<=sizeLine /\
 ∀ p,H p=none->Q (.ref p) (upd H p (.lst (List.replicate k.toNat xs).flatten))
theorem len_rep {α:Type}(xs:List α)(k:Nat):(List.replicate k xs).flatten.length=k * xs.length:=by
 induction k with
 |zero=>simp
 |succ k ih=>rw[List.replicate_succ,List.flatten_cons,length_append,ih,Nat.succ_mul,Nat.add_comm]
theorem ng:v9 X (binaryOp .Mult) amh:=by
 intro pins s σ H x y v u Q I rx ry h;obtain⟨l,k,xs,rfl,rfl,hH,h1,h2,hz,q⟩:=h;cases rx;obtain⟨t,rfl⟩:=ry;obtain⟨z,its,n,r,hl,e⟩:=I.Pf hH;have hlen:its.toArray.size * k.toNat<=sizeLine:=by rw[size_toArray,<-hl];exact hz
 have ami:¬ its.toArray.size * k.toNat > (2 ^ 63-1) / 8:=by
  have:(sizeLine:Nat)<=(2 ^ 63-1) / 8:=by decide
  omega
 have hfit:¬(!Builtin.List.listFitsIndex k)=true:=by
  rw[fitsIndex_both h1 h2];exact Bool.false_ne_true
 have ajY:¬ Builtin.List.listTooLong (its.toArray.size * k.toNat)=true:=by
  rw[Mv hlen];exact Bool.false_ne_true
 have hnew:List.foldl (fun x1 x2=>x1++x2) #[] (List.replicate (if its.toArray.isEmpty=true then 0 else k.toNat) its.toArray)=(List.replicate k.toNat its).flatten.toArray:=by
  have f0:∀ m:Nat,List.foldl (fun x1 x2=>x1++x2) #[] (List.replicate m its.toArray)=(List.replicate m its).flatten.toArray:=fun m=>by
   have:=foldl_rep its m [];rw[nil_append]at this;exact this
  rw[f0];cases its with
  |nil=>simp
  |cons a r'=>rw[if_neg (by simp)]
 refine wpAny_binaryOp_repeat_ref (T:="list") (U:="int") (by decide) ⟨_,e,rfl⟩ (fun s'=>typeIs_int s' k t) noFill_list_mul F.fills_int_mul F.slot_int_rmul repeat_list F.slot_int_index.lookup
  (call_meets F.slot_int_rmul (typeIs_int s k t) F.entry_int_rmul (F.args_int_rmul_2 _ _) (int___rmul___int_list k t l its.toArray n)
   ⟨e,rfl,⟨_,e,rfl⟩,call_meets F.slot_list_mul ⟨_,e,rfl⟩ F.entry_list_mul (F.args_list_mul_2 _ _) (AutoListH.list___mul___list_int_3 l its.toArray n k t hfit ami ajY) ⟨e,?_⟩⟩)
 rw[hnew];exact⟨.ref _,_,I.ajX (t':=s.toks) (r.rep k.toNat) (by rw[len_rep,Nat.mul_comm];exact hz),rfl,q _ I.fresh⟩
end
section
variable {prog:Program} {w:World} {A:Around} {E:Value->Shared->Prop} {s:Shared}
theorem abC (its its2:List Value)(a c:Nat):its.toArray.extract 0 a++its2.toArray++its.toArray.extract c its.toArray.size=(its.take a++its2++its.drop c).toArray:=by
 apply Array.toList_inj.mp
 first
  |(simp;exact List.take_of_length_le (by simp))
  |simp[List.take_of_length_le]
  |simp
theorem Xl {a c n:Nat}(hac:a<=c)(hc:c<=n):sliceBounds (some (a:Int)) (some (c:Int)) none n=((a:Int),(c:Int),1):=by
 simp only [sliceBounds,Option.getD_none];have h1:¬((a:Int)<0):=by omega
 have h2:¬((c:Int)<0):=by omega
 simp only [h1,h2,if_false,show(1:Int) > 0 by decide,if_true]
 congr 1
 ·omega
 ·congr 1;omega
set_option maxRecDepth 100000 in
theorem Pg {l b sl:Addr}{items new:Array Value}{n n2:Nat}{vl vu:Value}{a c:Nat}{Q:Unit->Shared->Prop}
  (e:s.heap.get? l=some { cls:=.type "list",data:=.seq items n }) (e2:s.heap.get? b=some { cls:=.type "list",data:=.seq new n2 }) (hne:l≠b)
  (hs:s.heap.IsSliceOf sl vl vu .none) (pl:IsPart vl (some (a:Int))) (pu:IsPart vu (some (c:Int))) (hac:a<=c) (hc:c<=items.size)
  (hsz:items.size+new.size<=sizeLine) (h:Q () { s with heap:=s.heap.update l (Obj.mapSeq fun xs=>xs.extract 0 a++new++xs.extract c xs.size) }) :
  wpAny (model prog w) A (setItem (.ref l) (.ref sl) (.ref b)) Q E s:=by
 have hl:s.heap.IsList l items:=PySem.IsL.isList e;have hb:s.heap.IsList b new:=PySem.IsL.isList e2;obtain⟨os,hos,hcs,hds⟩:=id hs;have hTs:s.TypeIs (.ref sl) "slice":=⟨os,hos,hcs⟩;have hstep:¬((rawPart none==rawInt 0)=true):=Bool.false_ne_true;have hsame:Builtin.List.listSameRef (.ref l) (.ref b)=false:=by
  unfold Builtin.List.listSameRef;exact beq_eq_false_iff_ne.mpr hne
 have amj:(max (a:Int) (c:Int)).toNat=c:=by omega
 have hz':((fun xs:Array Value=>xs.extract 0 a++new++xs.extract c xs.size) items).size<=sizeLine+1:=by
  simp only [Array.size_append,Array.size_extract];omega
 unfold setItem
 try with_reducible refine wpAny_holding ?_
 first|refine wpAny_bind (wpAny_pure ?_)|skip
 refine wpAny_bind (wpAny_sequenceKey hl.typeIs (by decide) ?_);refine wpAny_bind (wpAny_callSpecial?_slot (name:=Str.ofString "__setitem__") hl.typeIs slot_list_setitem
  (wpAny_call_entry slot_list_setitem hl.typeIs entry_list_setitem ?_ (args_list_setitem _ _ _)))
 show wpAny _ _ (Builtin.List.listSubscript? (.ref sl) >>= _) _ _ s;refine wpAny_bind ?_;unfold Builtin.List.listSubscript?;refine wpAny_bind (wpAny_specialOf hTs slice_no_index ?_);simp only [Option.isNone_none,if_true];refine wpAny_pure ?_;show wpAny _ _ (typeOf (.ref sl) >>= _) _ _ s;refine wpAny_bind (wpAny_typeOf hTs ?_)
 first
  |rw[if_neg (by decide)]
  |refine PySem.W.KFB.if_not (by decide) ?_
 rw[listSliceParts_eq];refine wpAny_bind (wpAny_bind (wpAny_field hos hds (x:=.none) rfl (wpAny_bind (wpAny_listPart .none ?_))));rw[if_neg hstep];refine wpAny_bind (wpAny_field hos hds (x:=vl) rfl (wpAny_bind (wpAny_listPart pl ?_)));refine wpAny_bind (wpAny_field hos hds (x:=vu) rfl (wpAny_bind (wpAny_listPart pu (wpAny_pure ?_))))
 first
  |simp only [hsame,Bool.false_eq_true,if_false]
  |refine PySem.W.KFB.if_not hsame ?_
  |(dsimp only;rw[if_neg (by rw[hsame];exact Bool.false_ne_true)])
 refine wpAny_bind (m:=Builtin.List.listAllItems (.ref b) "must assign iterable to extended slice") ?_;unfold Builtin.List.listAllItems;refine wpAny_bind (wpAny_typeOf hb.typeIs ?_)
 first
  |refine PySem.W.KFB.if_so (by decide) ?_
  |rw[if_pos (by decide)]
  |simp only [beq_self_eq_true,Bool.true_or,if_true]
 unfold Builtin.List.listItems;refine wpAny_bind (wpAny_seqItems e2 rfl (wpAny_pure ?_));refine wpAny_bind (wpAny_bind (wpAny_seqItems e rfl (wpAny_pure ?_)));refine wpAny_bind (wpAny_of_eq ((sliceIndices_raw (some (a:Int)) (some (c:Int)) none items.size (by simp)).trans (congrArg (pure:Int×Int×Int->Sem (Int×Int×Int)) (Xl hac hc))) ?_);show wpAny _ _ (if((1:Int)==1)=true then _ else _) _ _ s;rw[if_pos (by decide)];refine wpAny_bind (wpAny_rule ?_)
 first
  |simp only [Mv hsz,Bool.false_eq_true,if_false]
  |refine PySem.W.KFB.if_not (Mv hsz) ?_
 first|refine wpAny_bind (wpAny_pure ?_)|skip
 show wpAny _ _ (updateSeq l (fun xs=>xs.extract 0 ((a:Int)).toNat++new++xs.extract (max (a:Int) (c:Int)).toNat xs.size) >>= _) _ _ s;rw[amj,Int.toNat_natCast];refine wpAny_bind (wpAny_updateSeq (hz:=Nat.le_trans (Nat.le_add_right _ _) hsz) (_hz':=hz') e rfl ?_);refine wpAny_bind (wpAny_letGo ?_)
 first
  |exact wpAny_bind (wpAny_pure (wpAny_pure ⟨.none,rfl,wpAny_pure h⟩))
  |exact wpAny_pure ⟨.none,rfl,wpAny_pure h⟩
end
section
variable {X:Cx}
theorem abD {pins:List (Addr×Obj)}{s:Shared}{σ:St}{H:Hp}{l b sl:Addr}{xs ys:List V}{a c:Int}{vl vu:Value}{Q:Unit->Shared->Prop}(I:Inv X pins σ H s)
  (hH:H l=some (.lst xs)) (hB:H b=some (.lst ys)) (hne:l≠b) (hs:s.heap.IsSliceOf sl vl vu .none) (ra:RelV (.int a) vl) (rc:RelV (.int c) vu) (h0:0<=a) (hac:a<=c) (hc:c<=xs.length)
  (hz:xs.length+ys.length<=sizeLine) (h:∀ s',Inv X pins σ (upd H l (.lst (xs.take a.toNat++ys++xs.drop c.toNat))) s'->Q () s') :
  wpAny (model X.prog X.w) X.A (setItem (.ref l) (.ref sl) (.ref b)) Q X.xe s:=by
 obtain⟨ta,rfl⟩:=ra;obtain⟨tc,rfl⟩:=rc;obtain⟨z,its,n,r,hl,e⟩:=I.Pf hH;obtain⟨z2,its2,n2,r2,hl2,e2⟩:=I.Pf hB;obtain⟨a',rfl⟩:=Int.eq_ofNat_of_zero_le h0;obtain⟨c',rfl⟩:=Int.eq_ofNat_of_zero_le (Int.le_trans h0 hac);simp only [Int.toNat_natCast]at h;refine Pg (a:=a') (c:=c') e e2 hne hs (.int _ _) (.int _ _) (by omega) (by rw[size_toArray];omega) (by rw[size_toArray,size_toArray];omega) (h _ ?_);refine I.adE (its':=its.take a'++its2++its.drop c') (t':=s.toks) hH e ?_ (Vals.append (Vals.append (r.take _) r2) (r.drop _)) ?_
 ·exact abC its its2 a' c'
 ·rw[length_append,length_append,length_take,length_drop];omega
end
end L2
namespace Att
open PySem PySem.W PySem.Calls PyProof.Rows
theorem Lu {P:Params}{h:Heap}:∀(ns:List Int)(vs:List Value),WellAll P h vs (ns.map WData.int)->IntsAre vs ns:=by
 intro ns
 induction ns with
 |nil =>
  intro vs w;rw[List.map_nil]at w;cases w;exact .nil
 |cons n ns ih =>
  intro vs w;rw[map_cons]at w;cases w with
  |cons a b =>
   cases a;exact .cons _ _ (ih _ b)
theorem abE {l:OpenLaw}{n:Nat}(hn:l.most=some n){P:Params}{h:Heap}{args:List WData}{vals:List Value}
  (hpre:l.row.toRowW.claim.pre args=true) (hwl:WellAll P h vals args) :
  ∃ a vs ns,vals=[Value.ref a]/\args=[WData.list (ns.map WData.int)]/\h.get? a=some { cls:=.type "list",data:=.seq vs.toArray }/\IntsAre vs ns/\ns.length<=n:=by
 have hsh:WShape.hasAll [] args [.list .int]=true:=(pre_splitW hpre).1;have hc:l.pre.holds [] { args:=args } = true:=(pre_splitW hpre).2;obtain⟨d,r,rfl,h1,h2⟩:=hasAllW_cons hsh;obtain rfl:=hasAllW_nil h2;obtain⟨xs,rfl,h3⟩:=hasW_list h1;obtain⟨ns,rfl⟩:=items_int h3;have hlen:ns.length<=n:=by
  unfold OpenLaw.pre at hc;have h4:(WTm.not (.lt (.lit (.int (n:Int))) (.len (.arg 0)))).holds [] { args:=[.list (ns.map .int)] } = true:=by
   have h4:=(holds_andW hc).1;rw[hn]at h4;exact h4
  have h5:=condW_of h4 (w_not (w_lt w_lit (w_len_list (w_arg rfl))));rw[length_map]at h5;refine Nat.le_of_not_lt fun q=>?_;have q':(n:Int)<((ns.length:Nat):Int):=by omega
  first
   |(rw[decide_eq_true q']at h5;exact absurd h5 (by decide))
   |(simp at h5;omega)
 cases hwl with
 |cons w1 w2 =>
  cases w2;cases w1 with
  |list ho hall=>exact⟨_,_,ns,rfl,rfl,ho,Lu ns _ hall,hlen⟩
theorem abF (l:OpenLaw)(args:List WData):l.row.toRowW.claim.post args (.bool true) args=true :=
 postW_of (r:=l.row.toRowW) (X:=(true==true))
  (show WShape.has [] (.bool true) .bool=true by first|rfl|decide|simp[WShape.has,WShape.arms,WShape.armsAll])
  (show(WTm.eq .res (.lit (.bool true))).value [] { args:=args,res:=some (.bool true),after:=args } = some (.bool (true==true)) from w_eq_bool (w_res rfl) w_lit) rfl
theorem U9 {l:OpenLaw}{n:Nat}{q:Program}{loose:List Str}{XP:(Str->Option Value)->Heap->Prop}{YP:World->Heap->Prop}{d:DefRec}
  (hn:l.most=some n) (hdf:d.params.defaults=[])
  (call:∀(w:World)(s₀ s₁:Shared)(mg mb:Str->Option Value)(fa:Addr)(o:Obj)(pm cd doc:Value)(a:Addr)(vs:List Value)(ns:List Int),
   Ground q loose [] XP w s₀ mg mb s₁.heap->YP w s₁.heap ->
   s₁.heap.get? fa=some o->o.data=.func (docDef d.name d.params d.body d.scope pm cd doc)->s₁.heap.CodeRec cd d.name->mg d.name=some (.ref fa) ->
   s₁.heap.get? a=some { cls:=.type "list",data:=.seq vs.toArray }->IntsAre vs ns->ns.length<=n->s₁.gens = #[] ->
   codeAny (model l.prog w) callerA (.call (.ref fa) ⟨[.ref a],[]⟩) (fun r s'=>r=.ok (.ret (.bool true))/\OldK s₁.heap s'.heap/\s'.os=s₁.os/\AllBare s'.gens) s₁) :
  WalkO q loose XP YP l.row.toRowW d [] (fun f vs=>PySem.call f vs):=by
 intro w s₀ s₁ mg mb G Y fa o pm cd doc dV kV ho hd hcd hD hmg hg args vals as hpre hlay hrd hwl hlo;obtain rfl:dV=.none:=Dflts.none hD hdf;obtain rfl:kV=.none:=Dflts.noKw hD;obtain⟨a,vs,ns,rfl,rfl,hobj,hints,hlen⟩:=abE hn hpre hwl;refine enter_call (codeAny_mono (call w s₀ s₁ mg mb fa o pm cd doc a vs ns G Y ho (fd_plain hd) hcd hmg hobj hints hlen hg) fun r s' hq=>?_);obtain⟨rfl,h2,h3,h4⟩:=hq;exact⟨.inl ⟨.bool true,.bool true,[],rfl,fun _=>rfl,.bool true,abF l _,fun _=>⟨List.Pairwise.nil,fun _ hm=>(nomatch hm)⟩⟩,h2,h3,h4⟩
section
variable {prog:Program} {w:World} {A:Around} {E:Value->Shared->Prop} {s:Shared} {K:Frag}
end
end Att
namespace L2
open PySem PySem.Spec PyProof.Rows
theorem Qh:∀{vs:List Value} {ns:List Int},IntsAre vs ns->Vals (ns.map V.int) vs
 |_,_,.nil=>.nil
 |_,_,.cons n t h=>.cons ⟨t,rfl⟩ (Qh h)
def Only (H:Hp):Prop:=∀ b,H b=none\/∃ o xs,H b=some (.frz o (.lst xs))
theorem adI {P:Program}{w:World}{K:Frag}{mg mb:Str->Option Value}{CX:CXT}{k:Nat}{fa a:Addr}{fd:FuncData}{x:Str}{sp:Sp}{s₁:Shared}{vs:List Value}{ns:List Int}
  (KX:K.In s₁.heap) (hns:s₁.heap.Ns mainGlobals mg) (hb:s₁.heap.Ns builtinsNs mb) (hbb:∀ x:Str,x ≠ "__name__"->mb x=bootBuiltins x) (hlim:s₁.heap.NoLimit) (hg:s₁.gens = #[])
  (ha:s₁.heap.get? a=some { cls:=.type "list",data:=.seq vs.toArray }) (hi:IntsAre vs ns) (hl:ns.length<=sizeLine) (hr:jN k callerA)
  (F:∀ base:Heap,K.In base->base.Ns mainGlobals mg->bA P w K mg base CX k fa fd [x] sp) (hbind:∀(s:Shared)(u:Value),BindsTo s fd ⟨[u],[]⟩ [(x,u)])
  (hsp:∀ H:Hp,Only H->aX K H a (ns.map V.int)->sp [.ref a] H (fun v _=>v=.bl true) fun _ _ _=>False)
  (hCX:∀ H e s',CX [] H s₁ (fun _ _ _=>False) e s'->False) :
  codeAny (model P w) callerA (.call (.ref fa) ⟨[.ref a],[]⟩) (fun r s'=>r=.ok (.ret (.bool true))/\OldK s₁.heap s'.heap/\s'.os=s₁.os/\AllBare s'.gens) s₁:=by
 have rv:=Qh hi;have lenV:=hi.length;have core:∀ H:Hp,Only H->aX K H a (ns.map V.int)->yk P w H s₁.heap->(∀ b,H b≠none->b=a)->(H a≠none->K.lookup a=none) ->
   codeAny (model P w) callerA (.call (.ref fa) ⟨[.ref a],[]⟩) (fun r s'=>r=.ok (.ret (.bool true))/\OldK s₁.heap s'.heap/\s'.os=s₁.os/\AllBare s'.gens) s₁:=by
  intro H hO hS hok hA hK;have aaL:∀{b:Addr} {o:Obj},s₁.heap.get? b=some o->H b=none->(QS s₁.heap H).get? b=some o:=fun e n=>adi e n;have noA:∀{b:Addr} {o:Obj} {es:Array DictEntry} {ep:Nat},s₁.heap.get? b=some o->o.data=.dict es ep->H b=none:=fun {b o es ep} e d=>by
   cases q:H b with
   |none=>rfl
   |some u =>
    have e':b=a:=hA b (by rw[q];simp);subst e';rw[ha]at e;cases e;have d':Data.seq vs.toArray _=Data.dict es ep:=d;cases d'
  have nsK:∀{b:Addr} {m:Str->Option Value},s₁.heap.Ns b m->(QS s₁.heap H).Ns b m:=fun {b m} ⟨o,es,ep,e,d,r⟩=>⟨o,es,ep,aaL e (noA e d),d,r⟩;have hKb:K.In (QS s₁.heap H):=fun b o e=>aaL (KX b o e) (by
   cases q:H b with
   |none=>rfl
   |some u =>
    have e':b=a:=hA b (by rw[q];simp);subst e';rw[hK (by rw[q];simp)]at e;cases e)
  have hM:Mod K mg (QS s₁.heap H):=⟨hKb,nsK hns,⟨mb,nsK hb,hbb⟩,let ⟨mc,h1,h2⟩:=hlim;⟨mc,nsK h1,h2⟩⟩;have e0:Xd P w K mg (QS s₁.heap H) callerA [] s₁ H:=⟨rfl,hM,fun b o e=>afH e,Nat.le_of_eq (abo _ _),trivial,fun b hb=>absurd (show b∈([]:List Addr) from hb) (by simp),hok,.of_eq hg⟩;refine codeAny_mono ((F _ hKb (nsK hns)).run callerA [] s₁ H ⟨[.ref a],[]⟩ [.ref a] [.ref a] _ _ hr e0 (hbind s₁ (.ref a)) (.cons rfl .nil) (hsp H hO hS)) fun r s' h=>?_;cases r with
  |error e=>exact(hCX H e s' h).elim
  |ok fl =>
   cases fl with
   |next=>exact False.elim h
   |brk=>exact False.elim h
   |cont=>exact False.elim h
   |ret u =>
    obtain⟨v,H',os,bare,un,hok',r',q⟩:=h;have q':v=.bl true:=q;subst q';obtain rfl:u=Value.bool true:=r';refine⟨rfl,OldK.of_keep fun b o e=>?_,os,bare⟩;cases q:H b with
    |none=>exact un.keep b o e q (by intro z;exact absurd (show b∈([]:List Addr) from z) (by simp)) (by simp)
    |some u =>
     rcases hO b with z|⟨ob,xs,z⟩
     ·rw[q]at z;cases z
     ·have z2:=un.Mo b ob _ z;obtain⟨e1,_⟩:=hok b _ z;obtain⟨e2,_⟩:=hok' b _ z2;rw[e]at e1;cases e1;exact e2
 cases hk:K.lookup a with
 |some o =>
  have e:=KX a o hk;rw[ha]at e;cases e;refine core (fun _=>none) (fun _=>.inl rfl) (.inr ⟨_,vs.toArray,_,hk,rfl,rfl,rfl,by rw[size_toArray,lenV];exact hl,by simpa using rv⟩) (fun b u z=>by have z':(none:Option HO)=some u:=z;cases z') (fun b z=>absurd rfl z) fun z=>absurd rfl z
 |none =>
  refine core (fun b=>if b=a then some (.frz { cls:=.type "list",data:=.seq vs.toArray } (.lst (ns.map V.int))) else none) (fun b=>?_) (.inl (.inr ⟨{ cls:=.type "list",data:=.seq vs.toArray },if_pos rfl⟩)) (fun b u z=>?_) (fun b z=>?_) fun _=>hk
  ·by_cases hb:b=a
   ·exact .inr ⟨_,_,if_pos hb⟩
   ·exact .inl (if_neg hb)
  ·by_cases hb:b=a
   ·have z':=(if_pos hb).symm.trans z;cases z';subst hb;exact⟨ha,by rw[length_map];exact hl,vs,_,rv,ha⟩
   ·have z':=(if_neg hb).symm.trans z;cases z'
  ·by_cases hb:b=a
   ·exact hb
   ·exact absurd (if_neg hb) z
end L2
namespace L2
open PySem PySem.Spec PyProof.Rows
abbrev KOf {K:Frag}{h:Heap}(_:K.In h):Frag:=K
theorem afT {l:OpenLaw}{n k:Nat}{q:Program}{loose:List Str}{XP:(Str->Option Value)->Heap->Prop}{YP:World->Heap->Prop}{d:DefRec}{K:Params->Frag}{CX:World->CXT}{sp:World->Sp}{x:Str}
  (hn:l.most=some n) (hn2:n<=sizeLine) (hdf:d.params.defaults=[]) (hr:jN k callerA)
  (hY:∀(w:World)(h:Heap),YP w h->(K w.params).In h)
  (F:∀(w:World)(mg:Str->Option Value)(fa:Addr)(h:Heap),(K w.params).In h->h.Ns mainGlobals mg->mg d.name=some (.ref fa) ->
   ∃ fd:FuncData,(∀(s:Shared)(u:Value),BindsTo s fd ⟨[u],[]⟩ [(x,u)]) /\
    ∀ base:Heap,(K w.params).In base->base.Ns mainGlobals mg->bA l.prog w (K w.params) mg base (CX w) k fa fd [x] (sp w))
  (hsp:∀(w:World)(H:Hp)(a:Addr)(ns:List Int),ns.length<=n->Only H->aX (K w.params) H a (ns.map V.int)->sp w [.ref a] H (fun v _=>v=.bl true) fun _ _ _=>False)
  (hCX:∀(w:World)(H:Hp)(s:Shared)(e:Value)(s':Shared),CX w [] H s (fun _ _ _=>False) e s'->False) :
  WalkO q loose XP YP l.row.toRowW d [] (fun f vs=>PySem.call f vs):=by
 refine Att.U9 hn hdf fun w s₀ s₁ mg mb fa o pm cd doc a vs ns G Y ho hd hcd hmg hobj hints hlen hg=>?_;have KX:=hY w _ Y;obtain⟨fd,hb,hF⟩:=F w mg fa _ KX G.T.g hmg;exact adI KX G.T.g G.T.b G.T.builtins G.T.nolimit hg hobj hints (Nat.le_trans hlen hn2) hr hF hb (fun H hO hS=>hsp w H a ns hlen hO hS) fun H e s'=>hCX w H s₁ e s'
end L2
namespace L2
open PySem PySem.Spec PyProof.Rows
def inClass (s:Stmt)(j:Nat):Stmt:=match s with
 |.ClassDef _ _ _ body _ _ _ _ _ _ _=>body.getD j (.Pass ⟨0,0,0,0⟩)
 |_=>.Pass ⟨0,0,0,0⟩
def aG (s:Stmt):Arguments:=match s with
 |.FunctionDef _ a _ _ _ _ _ _ _ _=>a
 |_=>{ posonlyargs:=[],args:=[],vararg:=none,kwonlyargs:=[],kw_defaults:=[],kwarg:=none,defaults:=[] }
def ay (s:Stmt):List Stmt:=match s with
 |.FunctionDef _ _ b _ _ _ _ _ _ _=>b
 |_=>[]
def ah (s:Stmt):Scope:=match s with
 |.FunctionDef _ _ _ _ _ _ sc _ _ _=>sc
 |_=>{ kind:=.function,names:=[],isGenerator:=false,isCoroutine:=false }
abbrev k9:CXT:=fun _ _ _ _ _ _=>False
abbrev E0:XK:=fun _ _ _=>False
theorem aP {X:Cx}:Passes k9 X E0:=fun _ _ _ _ _ _ _ h=>h.elim
structure jo (K:Frag)(x qual:Str)(st:Stmt)(f:Addr)(fd:FuncData):Prop where
 ex:∃(oc:Value)(od:Option Addr)(kV doc pm:Value)(an:Option Addr)(cdv ct:Value)(osl:Array (Option Value)),
  fd=fnOf x qual (aG st) (ay st) (ah st) .none kV doc pm an cdv ct/\K.lookup f=some ⟨oc,od,.func fd,osl⟩/\codeIn K cdv qual=true
 kp:keepIn K (.ref f)=true
section
variable {P:Program} {w:World} {K:Frag} {mg:Str->Option Value} {base:Heap}
theorem jo.ok {x qual:Str}{st:Stmt}{f:Addr}{fd:FuncData}{N ps:List Str}{k:Nat}{sp:Sp}(F:jo K x qual st f fd)(S:aH N ps (ah st))(len:∀ vs H Q E,sp vs H Q E->vs.length=ps.length)
  (hbody:∀(cdv:Value)(A:Around)(outer:List Env)(s:Shared)(H:Hp)(vs:List V)(Q:VK)(E:XK),jN k (A.deeper (envOfC qual (ah st) s.heap.objs.size f cdv))->sp vs H Q E ->
   ∃ t,Me (cL k9 P w K mg base N qual (ah st) f cdv A outer s H E).nox (ay st) t/\t { nx:=fun _ H'=>Q .non H',rt:=Q } (start N vs) H):bA P w K mg base k9 (k+1) f fd ps sp:=by
 obtain⟨oc,od,kV,doc,pm,an,cdv,ct,osl,rfl,lk,hcd⟩:=F.ex;refine aaE lk hcd S len fun A outer s H vs Q E hr hsp=>?_;obtain⟨t,h,q⟩:=hbody cdv A outer s H vs Q E hr hsp;exact⟨t,h.nox,q⟩
theorem jo.binds {x qual:Str}{st:Stmt}{f:Addr}{fd:FuncData}{ps:List Str}(F:jo K x qual st f fd)
  (h:∀(kV doc pm:Value)(an:Option Addr)(cdv ct:Value)(us:List Value),us.length=ps.length->bindArgs (fnOf x qual (aG st) (ay st) (ah st) .none kV doc pm an cdv ct) ⟨us,[]⟩=pure (ps.zip us)):Binds K fd ps []:=by
 obtain⟨oc,od,kV,doc,pm,an,cdv,ct,osl,rfl,lk,hcd⟩:=F.ex;exact .all (h kV doc pm an cdv ct)
theorem aV {x qual:Str}{st:Stmt}{f:Addr}{oc:Value}{od an:Option Addr}{osl:Array (Option Value)}{kV doc pm cdv ct:Value}(l:K.lookup f=some ⟨oc,od,.func (fnOf x qual (aG st) (ay st) (ah st) .none kV doc pm an cdv ct),osl⟩)
  (c:codeIn K cdv qual=true) (k:keepIn K (.ref f)=true):jo K x qual st f (fnOf x qual (aG st) (ay st) (ah st) .none kV doc pm an cdv ct):=⟨⟨oc,od,kV,doc,pm,an,cdv,ct,osl,rfl,l,c⟩,k⟩
end
theorem j5 {A:Around}{k:Nat}(hr:jN k A):A.units+1<cLine:=Nat.lt_of_le_of_lt (Nat.add_le_add_left (by decide:1<=64) _) hr.units
theorem aW {n:Nat}(h:n<=1000):n<sizeLine:=Nat.lt_of_le_of_lt h (by decide)
section
variable {X:Cx}
theorem pv (i:Nat){x:Str}{pos:Pos}(hN:X.N[i]? = some x:=by rfl)(hv:Vis X.env.scope x:=by first|exact Or.inl rfl|exact Or.inr (Or.inl rfl)|exact Or.inr (Or.inr rfl))(hd:(x==("__debug__":Str))=false:=by decide)
  (hcd:(x==("__classdict__":Str))=false:=by decide):PE X (.Name x pos) (ajB i):=ahN hN hv hd hcd
end
theorem bF {A B:Prop}(h:B):if false=true then A else B:=by
 rw[if_neg Bool.false_ne_true];exact h
theorem cX {A B:Prop}(h:A):if true=true then A else B:=by
 rw[if_pos rfl];exact h
theorem aY {c A B:Prop}[Decidable c](h1:c->A)(h2:¬ c->B):if c then A else B:=by
 by_cases h:c
 ·rw[if_pos h];exact h1 h
 ·rw[if_neg h];exact h2 h
def aq (H H':Hp):Prop:=∀ b o,H b=some o->H' b=some o
theorem aq.refl (H:Hp):aq H H:=fun _ _ h=>h
theorem aq.trans {H H1 H2:Hp}(a:aq H H1)(b:aq H1 H2):aq H H2:=fun c o h=>b c o (a c o h)
theorem aq.free {H H':Hp}(e:aq H H'){l:Addr}(h:H' l=Option.none):H l=Option.none:=by
 cases q:H l with
 |none=>rfl
 |some o =>
  rw[e l o q]at h;cases h
theorem aq.seq {K:Frag}{H H':Hp}{a:Addr}{xs:List V}(e:aq H H')(h:aX K H a xs):aX K H' a xs:=by
 rcases h with (h|⟨o,h⟩)|h
 ·exact .inl (.inl (e _ _ h))
 ·exact .inl (.inr ⟨o,e _ _ h⟩)
 ·exact .inr h
end L2
set_option maxHeartbeats 4000000
namespace L2
open PySem PySem.Spec PyProof.Rows
def iW (env:Env):List (Str×NameKind)->List (Str×Addr)->List (Str×Addr)
 |[],acc=>acc
 |p::l,acc=>iW env l (if p.2 == .free then(p.1,(env.cells.lookup p.1).getD 0)::acc else acc)
theorem aaM {env:Env}{scope:Scope}(h:∀ p∈scope.names,p.2=.free->∃ c,env.cells.lookup p.1=some c):closureFor scope env=pure (iW env scope.names []):=by
 have go:∀(l:List (Str×NameKind)) (acc:List (Str×Addr)),(∀ p∈l,p.2=.free->∃ c,env.cells.lookup p.1=some c) ->
   (forIn l acc fun(p:Str×NameKind) cs=>if(p.2==NameKind.free)=true then(cellOf env p.1 >>= fun a=>pure (ForInStep.yield ((p.1,a)::cs))) else pure (ForInStep.yield cs))=(pure (iW env l acc):Sem (List (Str×Addr))):=by
  intro l
  induction l with
  |nil=>intro acc _;rfl
  |cons p l ih =>
   intro acc hl;rw[List.forIn_cons];have hr:=fun q hq=>hl q (mem_cons_of_mem _ hq)
   by_cases hk:p.2=.free
   ·obtain⟨c,hc⟩:=hl p mem_cons_self hk;have e1:(p.2==NameKind.free)=true:=by rw[hk];rfl
    rw[if_pos e1];have e2:cellOf env p.1=pure c:=by unfold cellOf;rw[hc]
    rw[e2,pure_bind,pure_bind];show forIn l ((p.1,c)::acc) _=_;rw[ih _ hr];show _=pure (iW env l (if p.2 == .free then(p.1,(env.cells.lookup p.1).getD 0)::acc else acc));rw[if_pos e1,hc];rfl
   ·have e1:¬(p.2==NameKind.free)=true:=by intro z;exact hk (by simpa using z)
    rw[if_neg e1,pure_bind];show forIn l acc _=_;rw[ih _ hr];show _=pure (iW env l (if p.2 == .free then(p.1,(env.cells.lookup p.1).getD 0)::acc else acc));rw[if_neg e1]
 have e:=go scope.names [] h;unfold closureFor;show(forIn scope.names ([]:List (Str×Addr)) _ >>= fun r=>pure r)=_;rw[bind_pure];exact e
theorem Qi {env:Env}{x:Str}:∀(l:List (Str×NameKind)) (acc:List (Str×Addr)) {c:Addr},(iW env l acc).lookup x=some c->acc.lookup x=some c\/((x,NameKind.free)∈l/\c=(env.cells.lookup x).getD 0)
 |[],acc,c,h=>.inl h
 |p::l,acc,c,h=>by
  rcases Qi l _ h with z|⟨z,e⟩
  ·by_cases hk:(p.2==NameKind.free)=true
   ·rw[if_pos hk,List.lookup_cons]at z
    by_cases hx:(x==p.1)=true
    ·rw[hx]at z;have e:x=p.1:=by simpa using hx
     have e2:p.2=.free:=by simpa using hk
     refine .inr ⟨?_,?_⟩
     ·rw[e,<-e2];exact mem_cons_self
     ·rw[e];exact(Option.some.inj z).symm
    ·have hx':(x==p.1)=false:=by simpa using hx
     rw[hx']at z;exact .inl z
   ·rw[if_neg hk]at z;exact .inl z
  ·exact .inr ⟨mem_cons_of_mem _ z,e⟩
theorem Mw {env:Env}{x:Str}:∀(l:List (Str×NameKind)) (acc:List (Str×Addr)),((acc.lookup x).isSome=true\/(x,NameKind.free)∈l)->((iW env l acc).lookup x).isSome=true
 |[],acc,h=>by
  rcases h with h|h
  ·exact h
  ·cases h
 |p::l,acc,h=>by
  refine Mw l _ ?_;rcases h with h|h
  ·left
   by_cases hk:(p.2==NameKind.free)=true
   ·rw[if_pos hk,List.lookup_cons];cases (x==p.1) with
    |true=>rfl
    |false=>exact h
   ·rw[if_neg hk];exact h
  ·rcases List.mem_cons.mp h with e|h
   ·left
    have e1:p.1=x:=by rw[<-e]
    have e2:(p.2==NameKind.free)=true:=by rw[<-e];rfl
    rw[if_pos e2,List.lookup_cons,e1];simp
   ·exact .inr h
theorem rB {env:Env}{x:Str}{k:NameKind}:∀(l:List (Str×NameKind)),
  (l.map fun(n,k)=>if(k==NameKind.free&&env.scope.kind == .function&&env.kindOf n==some .cell) then(n,NameKind.cell) else(n,k)).lookup x=some k ->
   l.lookup x=some k\/(k=.cell/\l.lookup x=some .free)
 |[],h=>by cases h
 |(n,q)::l,h=>by
  rw[map_cons]at h;cases hx:(x==n) with
  |true =>
   rw[List.lookup_cons,hx]
   by_cases hc:(q==NameKind.free&&env.scope.kind == .function&&env.kindOf n==some .cell)=true
   ·simp only [hc,if_true,List.lookup_cons,hx]at h;have e:q=.free:=by
     have:=(Bool.and_eq_true_iff.mp (Bool.and_eq_true_iff.mp hc).1).1
     simpa using this
    right
    exact⟨(Option.some.inj h).symm,by rw[e]⟩
   ·have hc':(q==NameKind.free&&env.scope.kind == .function&&env.kindOf n==some .cell)=false:=by simpa using hc
    simp only [hc',Bool.false_eq_true,if_false,List.lookup_cons,hx]at h;exact .inl h
  |false =>
   rw[List.lookup_cons,hx];refine rB (env:=env) l ?_
   by_cases hc:(q==NameKind.free&&env.scope.kind == .function&&env.kindOf n==some .cell)=true
   ·simp only [hc,if_true,List.lookup_cons,hx]at h;exact h
   ·have hc':(q==NameKind.free&&env.scope.kind == .function&&env.kindOf n==some .cell)=false:=by simpa using hc
    simp only [hc',Bool.false_eq_true,if_false,List.lookup_cons,hx]at h;exact h
structure Bk where
 C:Addr
 s₂:Shared
 arj:Hp
 fp:List Addr
 xe:Value->Shared->Prop
def di (X:Cx)(cn:List Str)(scope:Scope)(b:Bk):Cx where
 prog:=X.prog
 w:=X.w
 K:=X.K
 mg:=X.mg
 base:=X.base
 A:=X.A
 N:=cn++X.N
 s₀:=b.s₂
 H₀:=b.arj
 env:=compEnvC scope (iW X.env scope.names []) b.C X.env
 outer:=X.stack
 stack:=X.stack
 ex:=b.fp
 fn:=fun _=>false
 calm:=X.calm
 pn:=[]
 xe:=b.xe
def adJ (sc:Scope)(N:List Str)(scope:Scope):Bool :=
 (scope.kind == .function) &&
 (scope.names.all fun p=>(p.2 != .cell)&&((p.2 != .free)||(sc.names.lookup p.1==some .cell)||(sc.names.lookup p.1==some .free))&&((p.2 != .local)||(scope.names.lookup p.1==some .local))) &&
 (N.all fun x=>scope.names.lookup x != some .local)
structure fV (sc:Scope)(N:List Str)(scope:Scope):Prop where
 kind:scope.kind=.function
 adK:∀ p∈scope.names,p.2≠.cell
 free:∀ p∈scope.names,p.2=.free->sc.names.lookup p.1=some .cell\/sc.names.lookup p.1=some .free
 loc:∀ p∈scope.names,p.2=.local->scope.names.lookup p.1=some .local
 apart:∀ x∈N,scope.names.lookup x≠some .local
theorem fV.of {sc:Scope}{N:List Str}{scope:Scope}(h:adJ sc N scope=true):fV sc N scope:=by
 unfold adJ at h;rw[Bool.and_eq_true,Bool.and_eq_true]at h;obtain⟨⟨h1,h2⟩,h3⟩:=h;rw[all_eq_true]at h2 h3;refine⟨by simpa using h1,fun p hp=>?_,fun p hp e=>?_,fun p hp e=>?_,fun x hx=>?_⟩
 ·have:=h2 p hp;rw[Bool.and_eq_true,Bool.and_eq_true]at this
  simpa using this.1.1
 ·have:=h2 p hp;rw[Bool.and_eq_true,Bool.and_eq_true]at this;have q:=this.1.2;rw[e]at q;rw[Bool.or_eq_true,Bool.or_eq_true]at q;rcases q with (q|q)|q
  ·exact absurd q (by decide)
  ·exact .inl (by simpa using q)
  ·exact .inr (by simpa using q)
 ·have:=h2 p hp;rw[Bool.and_eq_true,Bool.and_eq_true]at this;have q:=this.2;rw[e]at q;rw[Bool.or_eq_true]at q;rcases q with q|q
  ·exact absurd q (by decide)
  ·simpa using q
 ·have:=h3 x hx
  simpa using this
section
variable {X:Cx} {pins:List (Addr×Obj)} {σ:St} {H:Hp}
theorem yp {l:List (Str×NameKind)}{x:Str}{k:NameKind}(h:l.lookup x=some k):(x,k)∈l:=PySem.mem_of_lookup h
theorem Inv.block {s₂:Shared}{h₁:Heap}{tk:Nat}{cn:List Str}{scope:Scope}{fp:List Addr}{xe:Value->Shared->Prop}{C D:Addr}{m:Str->Option Value}
  (I:Inv X pins σ H s₂) (F:fV X.env.scope X.N scope) (hc:X.calm=true) (hf:∀ b∈fp,pS X pins H b) (hfl:∀ b∈fp,b<s₂.heap.objs.size)
  (hC:s₂.heap.objs.size<=C) (hD:s₂.heap.objs.size<=D) (hDC:D≠C) (hn:h₁.Ns C m) (old:∀ b o,s₂.heap.get? b=some o->h₁.get? b=some o)
  (hacc:h₁.get? D=some { cls:=.type "list",data:=.seq ([]:List Value).toArray 0 }) :
  Inv (di X cn scope ⟨C,s₂,H,fp,xe⟩) [] (List.replicate cn.length none++σ) (upd H D (.lst [])) { s₂ with heap:=h₁,toks:=tk }:=by
 have Q4:∀ x,((di X cn scope ⟨C,s₂,H,fp,xe⟩).env.kindOf x=some .cell\/(di X cn scope ⟨C,s₂,H,fp,xe⟩).env.kindOf x=some .free)->(x,NameKind.free)∈scope.names:=by
  intro x hx;have hx':(relabel scope X.env).names.lookup x=some .cell\/(relabel scope X.env).names.lookup x=some .free:=hx;rcases hx' with z|z
  ·rcases rB scope.names z with z|⟨_,z⟩
   ·exact absurd rfl (F.adK _ (yp z))
   ·exact yp z
  ·rcases rB scope.names z with z|⟨e,_⟩
   ·exact yp z
   ·cases e
 have aaN:∀ x,(x,NameKind.free)∈scope.names->X.env.kindOf x=some .cell\/X.env.kindOf x=some .free:=fun x hx=>F.free _ hx rfl;have wm:∀ x c,(iW X.env scope.names []).lookup x=some c->X.env.cells.lookup x=some c:=by
  intro x c e;rcases Qi _ _ e with z|⟨z,e2⟩
  ·cases z
  ·obtain⟨c',hc'⟩:=I.ok.has x (aaN x z);rw[hc']at e2 ⊢;rw[e2];rfl
 have aoW:(di X cn scope ⟨C,s₂,H,fp,xe⟩).fs=frs X.stack:=rfl;have aml:∀ b∈fp,b ∉ frs X.stack:=by
  intro b hb z;obtain⟨_,f1,f2,_⟩:=hf b hb;rcases List.mem_cons.mp (I.W3 b z) with e|e
  ·exact f1 e
  ·exact f2 e
 have ah4:∀ x c,X.env.cells.lookup x=some c->c<s₂.heap.objs.size:=by
  intro x c e;obtain⟨v,o,ho,_⟩:=I.cell x c e;exact Heap.lt_size ho
 have ok:(di X cn scope ⟨C,s₂,H,fp,xe⟩).Ok:=by
  refine⟨I.ok.mod,?_,I.ok.glob,I.ok.blt,hC,fun x y c h1 h2=>I.ok.inj x y c (wm x c h1) (wm y c h2),fun x hx=>?_,fun x c z=>?_,fun _=>I.ok.hd hc,I.ok.frames,.inl rfl,fun b hb=>⟨?_,fun x c e=>?_⟩,
   fun b o e=>I.bs b o e,Nat.le_trans I.ok.bsz I.sz,fun b o e hb=>?_,fun b hb=>?_,I.stack,I.QT⟩
  ·show(relabel scope X.env).kind=.function;exact F.kind
  ·have:=Mw (env:=X.env) (x:=x) scope.names [] (.inr (Q4 x hx));exact Option.isSome_iff_exists.mp this
  ·cases z
  ·exact Nat.ne_of_lt (Nat.lt_of_lt_of_le (hfl b hb) hC)
  ·exact(hf b hb).2.2.2.2.1 x c (wm x c e)
  ·have:X.base.objs.size<=X.s₀.heap.objs.size:=I.ok.bsz;rcases (hf b hb).2.2.2.1 with z|z
   ·exact I.ok.W0 b o e z
   ·exact absurd (Nat.lt_of_lt_of_le (Heap.lt_size e) (Nat.le_trans I.ok.bsz z)) (Nat.lt_irrefl _)
  ·exact aml b hb
 have hDn:H D=none:=I.hok.fresh hD;have amm:yk X.prog X.w (upd H D (.lst [])) h₁:=I.hok.laid old hD ⟨Nat.zero_le _,[],0,.nil,hacc⟩;refine⟨ok,rfl,I.bare,Un.laid old hD hDn,⟨m,hn,fun i x v e1 e2 e3=>?_⟩,fun x c e=>?_,?_,fun x c e=>?_,fun p hp=>absurd (show p∈([]:List (Addr×Obj)) from hp) (by simp),amm,?_⟩
 ·have hi:¬ i<cn.length:=by
   intro hi;rw[List.getElem?_append_left (by simpa using hi),List.getElem?_replicate]at e2;split at e2 <;> cases e2
  rw[List.getElem?_append_right (by simpa using hi),List.length_replicate]at e2;have e1':(cn++X.N)[i]? = some x:=e1;rw[List.getElem?_append_right (by omega)]at e1';obtain⟨m0,hm0,hl⟩:=I.loc;have hxN:x∈X.N:=mem_of_getElem? e1';have hfr:(x,NameKind.free)∈scope.names:=by
   have e3':(relabel scope X.env).names.lookup x=some .local\/(relabel scope X.env).names.lookup x=some .cell\/(relabel scope X.env).names.lookup x=some .free:=e3;rcases e3' with z|z|z
   ·rcases rB scope.names z with z|⟨e,_⟩
    ·exact absurd z (F.apart x hxN)
    ·cases e
   ·exact Q4 x (.inl z)
   ·exact Q4 x (.inr z)
  have hk:=aaN x hfr;have vis:Vis X.env.scope x:=by
   rcases hk with z|z
   ·exact .inr (.inl z)
   ·exact .inr (.inr z)
  obtain⟨u,r,lk⟩:=hl (i-cn.length) x v e1' e2 vis;refine⟨u,r,?_⟩;rcases lk with ⟨z,_⟩|⟨_,c,ec,z⟩
  ·rcases hk with q|q
   ·rw[z]at q;cases q
   ·rw[z]at q;cases q
  ·have hcl:(iW X.env scope.names []).lookup x=some c:=by
    obtain⟨c',e'⟩:=Option.isSome_iff_exists.mp (Mw (env:=X.env) (x:=x) scope.names [] (.inr hfr));rw[e'];have:=wm x c' e';rw[ec]at this;exact this.symm
   refine .inr ⟨?_,c,hcl,?_⟩
   ·have e3':(relabel scope X.env).names.lookup x=some .local\/(relabel scope X.env).names.lookup x=some .cell\/(relabel scope X.env).names.lookup x=some .free:=e3;rcases e3' with y|y|y
    ·rcases rB scope.names y with y|⟨e,_⟩
     ·exact absurd y (F.apart x hxN)
     ·cases e
    ·exact .inl y
    ·exact .inr y
   ·obtain⟨o,ho,hd⟩:=z;exact⟨o,old c o ho,hd⟩
 ·obtain⟨v,o,ho,hd⟩:=I.cell x c (wm x c e);exact⟨v,o,old c o ho,hd⟩
 ·show upd H D (.lst []) C=none;rw[ak (Ne.symm hDC)];exact I.hok.fresh hC
 ·rw[ak (Nat.ne_of_lt (Nat.lt_of_lt_of_le (ah4 x c (wm x c e)) hD))];exact I.sX x c (wm x c e)
 ·show(List.replicate cn.length none++σ).length=(cn++X.N).length;rw[length_append,List.length_replicate,length_append,I.len]
theorem Inv.aaO {s₂ s':Shared}{h':Heap}{cn:List Str}{scope:Scope}{fp:List Addr}{xe:Value->Shared->Prop}{C:Addr}{H':Hp}{σ':St}{pl:List (Addr×Obj)}
  (I:Inv X pins σ H s₂) (hf:∀ b∈fp,pS X pins H b) (hC:s₂.heap.objs.size<=C) (J:Inv (di X cn scope ⟨C,s₂,H,fp,xe⟩) pl σ' H' s') (sb:Heap.SameBut C s'.heap h') :
  Inv X pins σ H' { s' with heap:=h' }:=by
 have neC:∀ b o,s₂.heap.get? b=some o->b≠C:=fun b o e=>Nat.ne_of_lt (Nat.lt_of_lt_of_le (Heap.lt_size e) hC);have u:Un (frs X.stack) fp H H' s₂.heap s'.heap:=J.base;have un:Un (frs X.stack) fp H H' s₂.heap h' :=
  ⟨fun b o e n hb hx=>(sb.2 b (neC b o e)).trans (u.keep b o e n hb hx),
   fun b o e n hb hx=>by
   obtain⟨sl,q⟩:=u.slot b o e n hb hx;exact⟨sl,(sb.2 b (neC b o e)).trans q⟩,
   u.free,fun b o e hx=>by
   obtain⟨o',q⟩:=u.there b o e hx;exact⟨o',(sb.2 b (neC b o e)).trans q⟩,u.tups,u.Mo,u.Pd⟩
 have fC:H' C=none:=J.free;have hok:yk X.prog X.w H' h':=fun b o e=>by
  refine(J.hok b o e).stay (fun c v hc q=>(sb.2 c ?_).trans q) (fun _ q=>q) fun _ _ q=>q;rintro rfl;rcases hc with z|z
  ·rw[<-z,fC]at e;cases e
  ·rw[fC]at z;cases z
 have os:s'.os=s₂.os:=J.os;refine I.call' (s':={ s' with heap:=h' }) os un hok J.bare fun b hb=>?_;obtain⟨_,f1,_,f3,f4,f5⟩:=hf b hb;exact⟨f3,f1,f4,f5⟩
end
end L2
set_option maxHeartbeats 4000000
namespace L2
open PySem PySem.Spec PyProof.Rows
theorem abG {prog:Program}{w:World}{A:Around}{R:Result->Shared->Prop}{s:Shared}{elt tg iter:Expr}{ifs:List Expr}{scope:Scope}{pos:Pos}{it acc:Value}{env:Env}(J:Nat->Shared->Prop)
  (turn:∀ n s,J n s->wpAny (model prog w) A (pyNext it) (fun r s₁=>(r=none/\R (.ok .next) s₁)\/∃ v,r=some v /\
   wpAny (model prog w) A (letOwnedTupleGo tg it v) (fun _ s₂=>wpAny (model prog w) A (assign tg env v) (fun _ s₃ =>
    wpAny (model prog w) A (forIn ifs true fun c r=>if r=true then do let ok <-isTrue c env (eval c env);pure (ForInStep.yield ok) else pure (ForInStep.yield r)) (fun ok s₄ =>
     if ok=true then wpAny (model prog w) A (eval elt env) (fun x s₅=>wpAny (model prog w) A (call (.builtin "list.append") [acc,x]) (fun _ s₆=>∃ m,m<n/\J m s₆) (notedBy (model prog w) A env fun e s'=>R (.error e) s') s₅)
      (notedBy (model prog w) A env fun e s'=>R (.error e) s') s₄
     else ∃ m,m<n/\J m s₄) (notedBy (model prog w) A env fun e s'=>R (.error e) s') s₃) (notedBy (model prog w) A env fun e s'=>R (.error e) s') s₂) (notedBy (model prog w) A env fun e s'=>R (.error e) s') s₁)
   (notedBy (model prog w) A env fun e s'=>R (.error e) s') s)
  (n:Nat) (h:J n s):codeAny (model prog w) A (.compLoop (.ListComp elt [⟨tg,iter,ifs,0⟩] scope pos) 0 it acc env) R s:=by
 refine codeAny_loop rfl J (fun n s hJ=>?_) n h;refine wpAny_noted (A:=A) (m:=compTurn (.ListComp elt [⟨tg,iter,ifs,0⟩] scope pos) 0 it acc env) (env:=env) ?_;rw[compTurn_list];refine wpAny_bind (wpAny_standAt (wpAny_bind (cH (turn n s hJ) fun r s₁ h₁=>?_)));rcases h₁ with ⟨e,h₁⟩|⟨v,e,h₁⟩
 ·subst e;exact wpAny_pure h₁
 ·subst e;refine wpAny_bind (cH h₁ fun _ s₂ h₂=>wpAny_bind (cH h₂ fun _ s₃ h₃=>wpAny_bind (cH h₃ fun ok s₄ h₄=>?_)));cases ok with
  |false=>exact wpAny_pure ⟨rfl,h₄⟩
  |true=>exact wpAny_bind (wpAny_bind (cH h₄ fun x s₅ h₅=>wpAny_bind (cH h₅ fun _ s₆ h₆=>wpAny_pure (wpAny_pure ⟨rfl,h₆⟩))))
def PF (X:Cx)(ifs:List Expr)(t:TT):Prop :=
 ∀(pins:List (Addr×Obj)) (s:Shared) (σ:St) (H:Hp) (Q:Bool->Hp->Prop),Inv X pins σ H s->t σ H Q ->
  wpAny (model X.prog X.w) X.A (forIn ifs true fun c r=>if r=true then do let ok <-isTrue c X.env (eval c X.env);pure (ForInStep.yield ok) else pure (ForInStep.yield r)) (TP X pins σ Q) X.xe s
def ah5:TT:=fun _ H Q=>Q true H
theorem yq {X:Cx}:PF X [] ah5:=by
 intro pins s σ H Q I h;rw[List.forIn_nil];exact wpAny_pure ⟨H,I,h⟩
theorem adL {X:Cx}{c:Expr}{t:TT}(hc:PT X c t):PF X [c] t:=by
 intro pins s σ H Q I h;rw[List.forIn_cons];refine wpAny_bind ?_;rw[if_pos rfl];refine wpAny_bind (cH (hc pins s σ H Q I h) fun ok s1 q=>wpAny_pure ?_);show wpAny _ _ (forIn [] ok _) _ _ _;rw[List.forIn_nil];exact wpAny_pure q
def Xm (X:Cx)(C:Addr)(e:Value)(s':Shared):Prop :=
 ∃ m,s'.heap.Ns C m/\∀ h',Heap.SameBut C s'.heap h'->∀ cenv:Env,cenv.locals=C->wpAny (model X.prog X.w) X.A (passOn "comprehension.variables-let-go" e cenv:Sem Value) (fun _ _=>False) X.xe { s' with heap:=h' }
def vh (X:Cx)(scope:Scope)(C:Addr):Value->Shared->Prop :=
 notedBy (model X.prog X.w) X.A (compEnvC scope (iW X.env scope.names []) C X.env) (Xm X C)
def adM (n:Nat)(wi:TI)(g:Bk->TG)(tc:Bk->TT)(te:Bk->TE):TE:=fun σ H Q=>wi σ H fun J H1=>∀(D:Addr)(b:Bk),H1 D=none->∃ W:Nat->Nat->List V->St->Hp->Prop,
 (∃ m,W 0 m [] (List.replicate n none++σ) (upd H1 D (.lst [])))/\∀ i m ys σ H,W i m ys σ H ->
  (J.stop i H/\Q (.ref D) H)\/(J.go i H/\∀ x H',J.yld i H x H'->g b x σ H' fun σ2 H2=>tc b σ2 H2 fun ok H3 =>
   if ok=true then te b σ2 H3 fun y H4=>H4 D=some (.lst ys)/\ys.length<sizeLine/\∃ m',m'<m/\W (i+1) m' (ys++[y]) σ2 (upd H4 D (.lst (ys++[y])))
   else ∃ m',m'<m/\W (i+1) m' ys σ2 H3)
section
variable {X:Cx} {tg iter elt:Expr} {ifs:List Expr} {scope:Scope} {pos:Pos} {cn:List Str} {wi:TI} {g:Bk->TG} {tc:Bk->TT} {te:Bk->TE} {TH:Bk->Prop}
theorem Va {pins:List (Addr×Obj)}{σ:St}{H:Hp}{s₂:Shared}{it:Addr}{fp:List Addr}{tn:Nat->Heap->Prop}{J:It}{RR:Value->Addr->Result->Shared->Prop}{QQ:Addr->Hp->Prop}{EE:Value->Shared->Prop}
  (hcalm:X.calm=true) (F:fV X.env.scope X.N scope) (hg:∀ b,TH b->PG (di X cn scope b) tg (g b)) (ht:∀ b,TH b->PF (di X cn scope b) ifs (tc b)) (he:∀ b,TH b->PE (di X cn scope b) elt (te b))
  (hTH:∀ C,s₂.heap.objs.size<=C->TH ⟨C,s₂,H,fp,vh X scope C⟩)
  (I:Inv X pins σ H s₂) (T:Turn X.prog X.w X.K tg J fp it tn) (st:tn 0 s₂.heap) (hf:∀ b∈fp,pS X pins H b)
  (h:∀(D:Addr)(b:Bk),H D=none->∃ W:Nat->Nat->List V->St->Hp->Prop,(∃ m,W 0 m [] (List.replicate cn.length none++σ) (upd H D (.lst [])))/\∀ i m ys σ H,W i m ys σ H ->
   (J.stop i H/\QQ D H)\/(J.go i H/\∀ x H',J.yld i H x H'->g b x σ H' fun σ2 H2=>tc b σ2 H2 fun ok H3 =>
    if ok=true then te b σ2 H3 fun y H4=>H4 D=some (.lst ys)/\ys.length<sizeLine/\∃ m',m'<m/\W (i+1) m' (ys++[y]) σ2 (upd H4 D (.lst (ys++[y])))
    else ∃ m',m'<m/\W (i+1) m' ys σ2 H3))
  (hR:∀ C D σ' H' s',s₂.heap.objs.size<=C->Inv (di X cn scope ⟨C,s₂,H,fp,vh X scope C⟩) [] σ' H' s'->QQ D H'->RR (.ref D) C (.ok .next) s')
  (hE:∀ C D e s',Xm X C e s'->RR (.ref D) C (.error e) s') :
  wpAny (model X.prog X.w) X.A (newList []) (fun acc s₃=>wpAny (model X.prog X.w) X.A (newFunctionEnv scope X.env.globals (iW X.env scope.names []) [] X.env.qual none .none (some X.env)) (fun cenv s₄ =>
   codeAny (model X.prog X.w) X.A (.compStart (.ListComp elt [⟨tg,iter,ifs,0⟩] scope pos) 0 (.ref it) acc { cenv with scope:=relabel scope X.env }) (RR acc cenv.locals) s₄) EE s₃) EE s₂:=by
 refine wpAny_newObj_type (wpAny_newFunctionEnv F.adK (by intro y hy;simp at hy) (fun h₁ hns₁ hsb₁=>?_) F.kind);dsimp only at hns₁ hsb₁ ⊢;generalize hH2:s₂.heap.push { cls:=.type "list",dict:=none,data:=.seq ([]:List Value).toArray } = H2 at hns₁ hsb₁ ⊢;have hC:H2.objs.size=s₂.heap.objs.size+1:=by rw[<-hH2,Heap.size_push]
 have hDC:s₂.heap.objs.size≠H2.objs.size:=by omega
 have hCle:s₂.heap.objs.size<=H2.objs.size:=by omega
 have hfl:∀ b∈fp,b<s₂.heap.objs.size:=fun b hb=>by
  obtain⟨o,e,_⟩:=T.obj 0 _ st b hb;exact Heap.lt_size e
 have amo:∀ b o,s₂.heap.get? b=some o->H2.get? b=some o:=fun b o e=>hH2 ▸ Heap.get?_push_of_some _ e;have old:∀ b o,s₂.heap.get? b=some o->h₁.get? b=some o:=fun b o e=>by
  have hb:=Heap.lt_size e;refine hsb₁.extBut b o (Nat.ne_of_lt (Nat.lt_of_lt_of_le hb hCle)) (Heap.get?_push_of_some _ (amo b o e))
 have hacc:h₁.get? s₂.heap.objs.size=some { cls:=.type "list",data:=.seq ([]:List Value).toArray 0 } :=
  hsb₁.extBut _ _ hDC (Heap.get?_push_of_some _ (hH2 ▸ Heap.get?_push_size _ rfl))
 have I0:=Inv.block (cn:=cn) (xe:=vh X scope H2.objs.size) (tk:=s₂.toks+([]:List (Str×Value)).length) I F hcalm hf hfl hCle (Nat.le_refl _) hDC hns₁ old hacc;have th:=hTH _ hCle;obtain⟨W,⟨m0,w0⟩,turn⟩:=h s₂.heap.objs.size ⟨H2.objs.size,s₂,H,fp,vh X scope H2.objs.size⟩ (I.hok.fresh (Nat.le_refl _));have fpx:∀{H':Hp},(∀ b∈fp,H' b=none)->∀ b∈fp,pS (di X cn scope ⟨H2.objs.size,s₂,H,fp,vh X scope H2.objs.size⟩) [] H' b:=fun {H'} hn b hb=>by
  refine⟨hn b hb,(I0.ok.exf b hb).1,I0.ok.W2 b hb,.inl hb,(I0.ok.exf b hb).2,fun p hp=>absurd (show p∈([]:List (Addr×Obj)) from hp) (by simp)⟩
 have ahj:(di X cn scope ⟨H2.objs.size,s₂,H,fp,vh X scope H2.objs.size⟩).calm=true:=hcalm;have loop:∀ s₃:Shared,s₃ = { s₂ with heap:=h₁,toks:=s₂.toks+([]:List (Str×Value)).length } ->
   codeAny (model X.prog X.w) X.A (.compLoop (.ListComp elt [⟨tg,iter,ifs,0⟩] scope pos) 0 (.ref it) (.ref s₂.heap.objs.size) (compEnvC scope (iW X.env scope.names []) H2.objs.size X.env))
    (RR (.ref s₂.heap.objs.size) H2.objs.size) s₃:=by
  rintro s₃ rfl;have toE:∀ e s',(di X cn scope ⟨H2.objs.size,s₂,H,fp,vh X scope H2.objs.size⟩).xe e s' ->
    notedBy (model X.prog X.w) X.A (compEnvC scope (iW X.env scope.names []) H2.objs.size X.env) (fun e s'=>RR (.ref s₂.heap.objs.size) H2.objs.size (.error e) s') e s':=fun e s' z =>
   wpAny_mono (show notedBy (model X.prog X.w) X.A (compEnvC scope (iW X.env scope.names []) H2.objs.size X.env) (Xm X H2.objs.size) e s' from z) (fun _ _ q=>hE _ _ _ _ q) fun _ _ q=>hE _ _ _ _ q
  refine abG (env:=compEnvC scope (iW X.env scope.names []) H2.objs.size X.env)
   (fun n s'=>∃ i ys σ' H',Inv (di X cn scope ⟨H2.objs.size,s₂,H,fp,vh X scope H2.objs.size⟩) [] σ' H' s'/\tn i s'.heap/\(∀ b∈fp,H' b=none)/\W i n ys σ' H') ?_ m0
   ⟨0,[],_,_,I0,T.keep _ _ _ st fun b _ o e=>old b o e,fun b hb=>?_,w0⟩
  ·rintro n s' ⟨i,ys,σ',H',I',st',fr',w'⟩;rcases turn i n ys σ' H' w' with ⟨stop,qn⟩|⟨go,step⟩
   ·refine wpAny_mono (T.done (di X cn scope ⟨H2.objs.size,s₂,H,fp,vh X scope H2.objs.size⟩) rfl rfl rfl ahj i [] s' σ' H' (fun _ _=>False) I' (fpx fr') st' stop) (fun r s4 ⟨hr,I4⟩=>?_) fun _ _ z=>z.elim;exact .inl ⟨hr,hR _ _ _ _ _ hCle I4 qn⟩
   ·refine wpAny_mono (T.item (di X cn scope ⟨H2.objs.size,s₂,H,fp,vh X scope H2.objs.size⟩) rfl rfl rfl ahj i [] s' σ' H' (fun _ _=>False) I' (fpx fr') st' go) (fun r s4 ⟨u,hr,h4⟩=>?_) fun _ _ z=>z.elim;refine .inr ⟨u,hr,wpAny_mono h4 (fun _ s5 ⟨x,H5,I5,r5,y5,st5,fr5⟩=>?_) fun _ _ z=>z.elim⟩;have I5':=I5.pinned (fpx fr5) (T.obj _ _ st5);refine wpAny_mono (hg _ th _ s5 σ' H5 x u _ I5' r5 (step x H5 y5)) (fun _ s6 ⟨σ6,H6,I6,q6⟩=>?_) toE;refine wpAny_mono (ht _ th _ s6 σ6 H6 _ I6 q6) (fun ok s7 ⟨H7,I7,q7⟩=>?_) toE;have back:∀{σ8:St} {H8:Hp} {s8:Shared},Inv (di X cn scope ⟨H2.objs.size,s₂,H,fp,vh X scope H2.objs.size⟩) ([]++Mq fp s5.heap) σ8 H8 s8->tn (i+1) s8.heap/\∀ b∈fp,H8 b=none:=fun {σ8 H8 s8} I8=>by
     refine⟨T.keep _ _ _ st5 fun b hb o e=>(I8.pin (b,o) (mem_append_right _ (mem_append_right _ (wc hb e)))).1,fun b hb=>?_⟩;obtain⟨o,e,d⟩:=T.obj _ _ st5 b hb;exact(I8.pin (b,o) (mem_append_right _ (mem_append_right _ (wc hb e)))).2.1
    cases ok with
    |false =>
     rw[if_neg Bool.false_ne_true]at q7 ⊢;obtain⟨m',hm,w7⟩:=q7;obtain⟨t8,f8⟩:=back I7;exact⟨m',hm,i+1,ys,σ6,H7,I7.yn,t8,f8,w7⟩
    |true =>
     rw[if_pos rfl]at q7 ⊢;refine wpAny_mono (he _ th _ s7 σ6 H7 _ I7 q7) (fun v s8 ⟨y,H8,I8,r8,hl,hz,m',hm,w8⟩=>?_) toE;refine wpAny_mono (bK (X:=di X cn scope ⟨H2.objs.size,s₂,H,fp,vh X scope H2.objs.size⟩) _ s8 σ6 H8 (.ref s₂.heap.objs.size) [y] (.ref s₂.heap.objs.size) [v] (fun _ H9=>W (i+1) m' (ys++[y]) σ6 H9) I8 rfl (.cons r8 .nil) ⟨_,ys,y,rfl,rfl,hl,hz,w8⟩)
      (fun _ s9 ⟨_,H9,I9,_,w9⟩=>?_) toE
     obtain⟨t9,f9⟩:=back I9;exact⟨m',hm,i+1,_,σ6,H9,I9.yn,t9,f9,w9⟩
  ·rw[ak (Nat.ne_of_lt (hfl b hb))];exact(hf b hb).1
 exact codeAny_compStart_list (loop _ rfl) (T.self _ 0 _ _ _ (T.keep _ _ _ st fun b _ o e=>old b o e) (loop _ rfl))
theorem adN (hcalm:X.calm=true)(F:fV X.env.scope X.N scope)(hi:PI X tg iter wi)(hg:∀ b,TH b->PG (di X cn scope b) tg (g b))(ht:∀ b,TH b->PF (di X cn scope b) ifs (tc b))
  (he:∀ b,TH b->PE (di X cn scope b) elt (te b))
  (hTH:∀ pins σ H s₂ fp C,Inv X pins σ H s₂->(∀ b∈fp,pS X pins H b)->s₂.heap.objs.size<=C->TH ⟨C,s₂,H,fp,vh X scope C⟩)
  (hs:∀ x,foldedSetIterable iter X.env x=pure x:=by intro _;rfl):PE X (.ListComp elt [⟨tg,iter,ifs,0⟩] scope pos) (adM cn.length wi g tc te):=by
 intro pins s σ H Q I h;rw[eval_ListComp];have hcl:closureFor scope X.env=pure (iW X.env scope.names []):=aaM fun p hp e=>I.ok.has p.1 (F.free p hp e);refine wpAny_comprehension_free (use:=none) rfl hs hcl F.kind F.loc (cH (hi pins s σ H _ I h) fun xv s₁ h₁=>cH h₁ fun itv s₂ h₂=>?_);obtain⟨it,fp,tn,J,H2,rfl,I2,T,st,f2,R⟩:=h₂;refine Va (QQ:=fun D H'=>Q (.ref D) H') (RR:=fun acc C=>compPost (model X.prog X.w) X.A X.xe none (EP X pins σ Q) acc C) hcalm F hg ht he (fun C hC=>hTH pins σ H2 s₂ fp C I2 f2 hC) I2 T st f2 R ?_ ?_
 ·intro C D σ' H' s' hC I' q;obtain⟨m,hm,_⟩:=I'.loc;exact⟨m,hm,fun h' sb=>⟨.ref D,H',I2.aaO f2 hC I' sb,rfl,q⟩⟩
 ·intro C D e s' z;exact z
theorem qF (hcalm:X.calm=true)(F:fV X.env.scope X.N scope)(hi:PI X tg iter wi)(hg:∀ b,PG (di X cn scope b) tg (g b))(ht:∀ b,PF (di X cn scope b) ifs (tc b))(he:∀ b,PE (di X cn scope b) elt (te b))
  (hs:∀ x,foldedSetIterable iter X.env x=pure x:=by intro _;rfl):PE X (.ListComp elt [⟨tg,iter,ifs,0⟩] scope pos) (adM cn.length wi g tc te) :=
 adN (TH:=fun _=>True) hcalm F hi (fun b _=>hg b) (fun b _=>ht b) (fun b _=>he b) (fun _ _ _ _ _ _ _ _ _=>trivial) hs
end
end L2
set_option maxHeartbeats 4000000
namespace L2
open PySem PySem.Spec PyProof.Rows
section
variable {X:Cx} {e:Expr} {es:List Expr} {te:TE} {pos:Pos}
abbrev TP1:=St->Hp->(Str->Hp->Prop)->Prop
abbrev TPs:=Str->St->Hp->(Str->Hp->Prop)->Prop
theorem kg:lH X (.type "int") (fun xs H Q=>∃ z n,xs=[.str z]/\PySem.intText? z=some n/\z.length<=640/\Q (.int n) H):=by
 intro pins s σ H xs us Q I r h;obtain⟨z,n,rfl,hn,hl,q⟩:=h;obtain⟨u,rfl,t,rfl⟩:=r.one;exact PySem.W.KIN.call_text hn hl ⟨.int n,H,I.tok _,⟨_,rfl⟩,q⟩
theorem Xn {ys:List Str}:∀{us:List Value},Vals (ys.map V.str) us->StrsAre us ys:=by
 induction ys with
 |nil=>intro us r;rw[List.map_nil]at r;cases r;exact .nil
 |cons n ns ih =>
  intro us r;rw[map_cons]at r;cases r with
  |cons r1 r2 =>
   obtain⟨t,e⟩:=r1;subst e;exact .cons n t (ih r2)
def amr:V->Option Int->Option Int->Hp->VK->Prop:=fun x lo hi H Q=>∃ z,x=.str z/\z.length<=sizeLine/\Q (.str (Txt.slice z lo hi)) H
theorem Qj {v:Value}{o:Option Int}(p:IsPart v o):∃ l:Option (Int×Tok),v=partValue l/\l.map (·.1)=o:=by
 cases p with
 |none=>exact⟨none,rfl,rfl⟩
 |int i t=>exact⟨some (i,t),rfl,rfl⟩
theorem Bg:SlR X amr:=by
 intro pins s σ H x v vl vu lo hi sl Q I rx hs pl pu h;obtain⟨z,rfl,hz,q⟩:=h;obtain⟨t,rfl⟩:=rx;obtain⟨l,rfl,el⟩:=Qj pl;obtain⟨u,rfl,eu⟩:=Qj pu;subst el eu;refine⟨"str",_,F.slot_str_getitem.lookup,typeIs_str _ _ _,?_⟩;obtain⟨o,ho,hc,hd⟩:=hs;refine wpAny_getItem_str_slice (l:=l) (u:=u) (st:=none) ⟨o,ho,hc,hd⟩ rfl ?_;exact post_val_or_str ⟨Nat.le_trans (Txt.slice_le z _ _) hz,fun t' k=>⟨.str _,H,I.tok _,⟨t',rfl⟩,q⟩⟩
def Its (z:Str):It:=⟨fun i _=>i<z.cps.size,fun i H x H'=>H'=H/\∃ c,z.cps[i]? = some c/\x=.str ⟨#[c]⟩,fun i _=>z.cps.size<=i⟩
def ams (tl:TE):TI:=fun σ H R=>tl σ H fun x H1=>∃ z,x=.str z/\R (Its z) H1
theorem Vb {P:Program}{w:World}{K:Frag}{tg:Expr}{z:Str}{it:Addr}{T:String}{t:Tok}(hT:["enumerate","zip","dict_itemiterator","dict_reverseitemiterator","odict_iterator","itertools.zip_longest","itertools.pairwise"].contains T=false)
  (W:∀ A:Around,A.handled=none->Walks P w A it [it] [it] z.cps.size (SignAt z) (fun i h=>h.IsStrIter it T z t i)) 
  (S:∀(A:Around)(i:Nat)(s:Shared)(Q:Value->Shared->Prop)(E:Value->Shared->Prop),s.heap.IsStrIter it T z t i->Q (.ref it) s->wpAny (model P w) A (pyIter (.ref it)) Q E s) :
  Turn P w K tg (Its z) [it] it (fun i h=>h.IsStrIter it T z t i/\i<=z.cps.size) where
 mem:=by simp
 obj:=fun i h st b hb=>by
  have e:b=it:=by simpa using hb
  subst e;obtain⟨⟨o,e,c,d⟩,_⟩:=st;exact⟨o,e,fun v q=>by rw[d]at q;cases q⟩
 keep:=fun i h h' st k=>⟨by
  obtain⟨⟨o,e,c,d⟩,_⟩:=st;exact⟨o,k it (by simp) o e,c,d⟩,st.2⟩
 item:=by
  intro X hP hw hK hc i pins s σ H E I hf st hg;subst hP hw hK;obtain⟨f0,f1,f2,f3,f4,f5⟩:=hf it (by simp);have hgi:i<z.cps.size:=hg;refine(W X.A (I.ok.hd hc)).item i s _ _ hgi st.1 fun v h' tk hv st' kk=>?_;obtain⟨c,u,hc',rfl⟩:=hv;have I1:Inv X pins σ H { s with heap:=h',toks:=tk }:=I.turned (fun b o hb e=>kk b o (by simpa using hb) e) f0 f1 f3 f4 f5;obtain⟨o,e,cc,d⟩:=id st';exact⟨_,rfl,aay (s:={ s with heap:=h',toks:=tk }) e cc d hT ⟨.str ⟨#[c]⟩,H,I1,⟨u,rfl⟩,⟨rfl,c,hc',rfl⟩,⟨st',hgi⟩,fun b hb=>(hf b hb).1⟩⟩
 done:=by
  intro X hP hw hK hc i pins s σ H E I hf st hg;subst hP hw hK;obtain⟨f0,f1,f2,f3,f4,f5⟩:=hf it (by simp);have hge:z.cps.size<=i:=hg;have e:i=z.cps.size:=Nat.le_antisymm st.2 hge;subst e;exact(W X.A (I.ok.hd hc)).done s _ _ st.1 fun h' tk kk=>⟨rfl,I.turned (fun b o hb e=>kk b o (by simpa using hb) e) f0 f1 f3 f4 f5⟩
 self:=fun A i s Q E st h=>S A i s Q E st.1 h
theorem adO {tg l:Expr}{tl:TE}(hl:PE X l tl):PI X tg l (ams tl):=by
 intro pins s σ H R I h;refine cH (hl pins s σ H _ I h) fun v s1 ⟨x,H1,I1,r1,q1⟩=>?_;obtain⟨z,rfl,q⟩:=q1;obtain⟨t,rfl⟩:=r1;have fp:∀ b∈[s1.heap.objs.size],pS X pins H1 b:=fun b hb=>by
  have e:b=s1.heap.objs.size:=by simpa using hb
  subst e;exact I1.QV (Nat.le_refl _) (I1.hok.fresh (Nat.le_refl _))
 cases ha:z.cps.all (· < 128)
 ·refine wpAny_pyIter_wide ha ?_;refine⟨s1.heap.objs.size,[s1.heap.objs.size],_,_,H1,rfl,I1.kept (t':=s1.toks) fun b o e=>Heap.get?_push_of_some _ e,Vb (T:="str_iterator") (t:=t) (by decide) (fun A hA=>Walks.strWide hA _ z t)
   (fun A i s Q E st hq=>wpAny_pyIter_striter_wide st hq),⟨⟨_,Heap.get?_push_size _ rfl,rfl,rfl⟩,Nat.zero_le _⟩,fp,q⟩
 ·refine wpAny_pyIter_ascii ha ?_;refine⟨s1.heap.objs.size,[s1.heap.objs.size],_,_,H1,rfl,I1.kept (t':=s1.toks) fun b o e=>Heap.get?_push_of_some _ e,Vb (T:="str_ascii_iterator") (t:=t) (by decide) (fun A hA=>Walks.strAscii hA _ z t)
   (fun A i s Q E st hq=>wpAny_pyIter_striter_ascii st hq),⟨⟨_,Heap.get?_push_size _ rfl,rfl,rfl⟩,Nat.zero_le _⟩,fp,q⟩
theorem any_range:∀ bs:List Bool,(List.range bs.length).any (fun i=>bs.getD i false)=bs.any id
 |[]=>rfl
 |b::bs=>by
  rw[length_cons,List.range_succ_eq_map,List.any_cons,List.any_map,List.any_cons];have:((fun i=>(b::bs).getD i false) ∘ Nat.succ)=fun i=>bs.getD i false:=by
   funext i
   rfl
  rw[this,any_range bs];rfl
theorem Vc:lH X (.builtin "any") (fun xs H Q=>X.calm=true/\∃(a:Addr)(bs:List Bool),xs=[.ref a]/\aX X.K H a (bs.map V.bl)/\Q (.bl (bs.any id)) H):=by
 intro pins s σ H xs us Q I r h;obtain⟨hc,a,bs,rfl,hq,q⟩:=h;obtain⟨u,rfl,rfl⟩:=r.one;obtain⟨its,rv,p,hz⟩:=I.list hq;have hl:=rv.length;rw[length_map]at hl;have ah6:∀(i:Nat)(v:Value),its.toArray[i]? = some v->v=Value.bool (bs.getD i false):=by
  intro i v hv;have hv':its[i]? = some v:=by simpa using hv
  have hi:i<its.length:=(List.getElem?_eq_some_iff.mp hv').1;have hb:i<bs.length:=by omega
  obtain⟨u,hu,ru⟩:=rv.get (i:=i) (x:=.bl (bs[i])) (by rw[getElem?_map,getElem?_eq_getElem hb];rfl);rw[hv']at hu;cases hu;have:v=.bool bs[i]:=ru;rw[this,List.getD_eq_getElem?_getD,getElem?_eq_getElem hb];rfl
 refine call_any_walk (wpAny_pyIter_list p.isList ?_);have ane:a≠s.heap.objs.size:=by
  obtain⟨o,ho,_⟩:=p.isList;exact Nat.ne_of_lt (Heap.lt_size ho)
 have hd:X.A.in1.handled=none:=I.ok.hd hc;refine⟨s.heap.objs.size,_,_,_,_,_,fun i=>bs.getD i false,rfl,Walks.list hd s.heap.objs.size a ane its.toArray,⟨⟨_,Heap.get?_push_size _ rfl,rfl,rfl⟩,p.isList.push _⟩,?_,?_⟩
 ·intro i v s' Q' E' hP hQ';rw[ah6 i v hP];exact wpAny_truthy_bool hQ'
 ·intro h' tk kk;have e:(List.range its.toArray.size).any (fun i=>bs.getD i false)=bs.any id:=by
   rw[size_toArray,<-hl];exact any_range bs
  rw[e];refine⟨.bl _,H,I.kept (t':=tk) fun b o e=>kk b o (fun z=>?_) (Heap.get?_push_of_some _ e),rfl,q⟩;have:b=s.heap.objs.size:=by simpa using z
  exact absurd (Heap.lt_size e) (by rw[this];exact Nat.lt_irrefl _)
end
end L2
set_option maxHeartbeats 4000000
namespace L2
open PySem PySem.Spec PyProof.Rows PySem.SeqAt
inductive Deq (K:Frag)(H:Hp):Nat->V->V->Prop where
 |flat {n:Nat} {x:V} (f:A1 x=true):Deq K H n x x
 |tup {n:Nat} {a b:Addr} {xs ys:List V} (ha:uG K H a xs) (hb:uG K H b ys) (hl:xs.length=ys.length) (h:∀(i:Nat) x y,xs[i]? = some x->ys[i]? = some y->Deq K H n x y):Deq K H (n+1) (.ref a) (.ref b)
 |lst {n:Nat} {a b:Addr} {xs ys:List V} (ha:aX K H a xs) (hb:aX K H b ys) (hl:xs.length=ys.length) (h:∀(i:Nat) x y,xs[i]? = some x->ys[i]? = some y->Deq K H n x y):Deq K H (n+1) (.ref a) (.ref b)
section
variable {X:Cx} {pins:List (Addr×Obj)} {σ:St} {H:Hp} {s:Shared}
theorem adQ:∀{x:V},A1 x=true->eqV x x=true:=by
 intro x f;cases x <;> first|(simp[eqV];done)|(cases f)
theorem yr (n:Nat):(List.range n).all (fun _=>true)=true:=by simp
theorem Deq.at {n:Nat}{x y:V}(d:Deq X.K H n x y)(I:Inv X pins σ H s):∀{A:Around} {u v:Value},A.units+n<cLine->RelV x u->RelV y v ->
  EqAt A s u v true/\(∀ a b,x=.ref a->y=.ref b->RcAt A s u v true/\RcNeAt A s u v false):=by
 induction d with
 | @flat n x f =>
  intro A u v hu ru rv;refine⟨?_,fun a b e _=>?_⟩
  ·have:=adB (A:=A) (s:=s) ru rv f f;rw[adQ f]at this;exact this
  ·subst e;cases f
 | @tup n a b xs ys ha hb hl h ih =>
  intro A u v hu ru rv;cases ru;cases rv;obtain⟨its,r,p,_⟩:=I.tuple ha;obtain⟨its',r',p',_⟩:=I.tuple hb;have e1:=r.length;have e2:=r'.length;have he:∀ j (h1:j<its.toArray.size) (h2:j<its'.toArray.size),EqAt A.in1 s its.toArray[j] its'.toArray[j] true:=by
   intro j h1 h2;have h1':j<its.length:=by simpa using h1
   have h2':j<its'.length:=by simpa using h2
   have g1:xs[j]? = some xs[j]:=getElem?_eq_getElem (by omega);have g2:ys[j]? = some ys[j]:=getElem?_eq_getElem (by omega);obtain⟨u1,q1,k1⟩:=r.get g1;obtain⟨u2,q2,k2⟩:=r'.get g2;have z1:its.toArray[j]=u1:=by
    rw[getElem?_eq_getElem h1']at q1
    simpa using q1
   have z2:its'.toArray[j]=u2:=by
    rw[getElem?_eq_getElem h2']at q2
    simpa using q2
   rw[z1,z2];exact(ih j _ _ g1 g2 (by show A.units+1+n<cLine;omega) k1 k2).1
  have bt:((List.range (min its.toArray.size its'.toArray.size)).all (fun _=>true)&&its.toArray.size==its'.toArray.size)=true:=by
   rw[yr];simp;omega
  have rc:RcAt A s (.ref a) (.ref b) true:=by
   have:=RcAt.tuples (A:=A) (e:=fun _=>true) (show s.heap.IsTuple a its.toArray from p) (show s.heap.IsTuple b its'.toArray from p') (by omega) he;rw[bt]at this;exact this
  have rn:RcNeAt A s (.ref a) (.ref b) false:=by
   have:=RcNeAt.tuples (A:=A) (e:=fun _=>true) (show s.heap.IsTuple a its.toArray from p) (show s.heap.IsTuple b its'.toArray from p') (by omega) he;rw[bt]at this;exact this
  refine⟨?_,fun _ _ _ _=>⟨rc,rn⟩⟩
  by_cases e:a=b
  ·subst e;exact EqAt.same _
  ·exact EqAt.of_refs e rc
 | @lst n a b xs ys ha hb hl h ih =>
  intro A u v hu ru rv;cases ru;cases rv;obtain⟨its,r,p,_⟩:=I.list ha;obtain⟨its',r',p',_⟩:=I.list hb;have e1:=r.length;have e2:=r'.length;have he:∀ j (h1:j<its.toArray.size) (h2:j<its'.toArray.size),EqAt A.in1 s its.toArray[j] its'.toArray[j] true:=by
   intro j h1 h2;have h1':j<its.length:=by simpa using h1
   have h2':j<its'.length:=by simpa using h2
   have g1:xs[j]? = some xs[j]:=getElem?_eq_getElem (by omega);have g2:ys[j]? = some ys[j]:=getElem?_eq_getElem (by omega);obtain⟨u1,q1,k1⟩:=r.get g1;obtain⟨u2,q2,k2⟩:=r'.get g2;have z1:its.toArray[j]=u1:=by
    rw[getElem?_eq_getElem h1']at q1
    simpa using q1
   have z2:its'.toArray[j]=u2:=by
    rw[getElem?_eq_getElem h2']at q2
    simpa using q2
   rw[z1,z2];exact(ih j _ _ g1 g2 (by show A.units+1+n<cLine;omega) k1 k2).1
  have bt:(List.range its.toArray.size).all (fun _=>true)=true:=yr _;have rc:RcAt A s (.ref a) (.ref b) true:=by
   have:=RcAt.lists (A:=A) (e:=fun _=>true) p.isList p'.isList (by simp;omega) (by omega) he;rw[bt]at this;exact this
  have rn:RcNeAt A s (.ref a) (.ref b) false:=by
   have:=RcNeAt.lists (A:=A) (e:=fun _=>true) p.isList p'.isList (by simp;omega) (by omega) he;rw[bt]at this;exact this
  refine⟨?_,fun _ _ _ _=>⟨rc,rn⟩⟩
  by_cases e:a=b
  ·subst e;exact EqAt.same _
  ·exact EqAt.of_refs e rc
inductive ahk (K:Frag)(b:Bool)(x:V)(y:V)(H:Hp)(Q:VK):Prop
 |mk (a:_) (c:_) (eO:x=.ref a) (eP:y=.ref c) (hX:Deq K H 60 x y/\Q (.bl b) H):ahk K b x y H Q
def ajZ (K:Frag)(b:Bool):R2:=fun x y H Q=>ahk K b x y H Q
theorem aR (hu:X.A.units+64<cLine):v9 X (compareOp .Eq) (ajZ X.K true):=by
 intro pins s σ H x y v u Q I r1 r2 h;obtain⟨a,c,rfl,rfl,d,q⟩:=h;exact(((d.at I (A:=X.A) (by omega) r1 r2).2 a c rfl rfl).1) X.prog X.w X.xe _ ⟨.bl true,H,I,rfl,q⟩
theorem kE (hu:X.A.units+64<cLine):v9 X (compareOp .NotEq) (ajZ X.K false):=by
 intro pins s σ H x y v u Q I r1 r2 h;obtain⟨a,c,rfl,rfl,d,q⟩:=h;exact(((d.at I (A:=X.A) (by omega) r1 r2).2 a c rfl rfl).2) X.prog X.w X.xe _ ⟨.bl false,H,I,rfl,q⟩
theorem d9:lH X (.builtin "isinstance") (fun xs H Q=>∃ x T t b,xs=[x,.ty T]/\iV X.K H x t/\kitOne X.K t (.type T)=some b/\Q (.bl b) H):=by
 intro pins s σ H xs us Q I r h;obtain⟨x,T,t,b,rfl,ty,e,q⟩:=h;obtain⟨u,v,rfl,r1,r2⟩:=r.two;cases r2;exact abA I r1 ty e fun tk=>⟨.bl b,H,I.tok _,rfl,q⟩
def Ite (K:Frag)(a:Addr):It :=
 ⟨fun i H=>∃ xs x,aX K H a xs/\xs[i]? = some x,fun i H x H'=>∃ y t,x=.ref t/\H t=none/\(∀ xs,aX K H a xs->xs[i]? = some y)/\H'=upd H t (.tup [.int i,y]),fun i H=>∃ xs,aX K H a xs/\xs.length<=i⟩
def Itz (K:Frag)(a b:Addr):It :=
 ⟨fun i H=>∃ xs ys x y,aX K H a xs/\aX K H b ys/\xs[i]? = some x/\ys[i]? = some y,
  fun i H p H'=>∃ x y t,p=.ref t/\H t=none/\(∀ xs,aX K H a xs->xs[i]? = some x)/\(∀ ys,aX K H b ys->ys[i]? = some y)/\H'=upd H t (.tup [x,y]),
  fun i H=>∃ xs ys,aX K H a xs/\aX K H b ys/\min xs.length ys.length=i⟩
theorem cM {a:Addr}{K:Frag}{X:Cx}{pins:List (Addr×Obj)}{σ:St}{H:Hp}{s:Shared}{xs:List V}{b:Addr}{o:Obj}(I:Inv X pins σ H s)(hq:aX X.K H a xs)(e:s.heap.get? b=some o)(hc:o.cls≠.type "list"):a≠b:=by
 rintro rfl;obtain⟨its,_,p,_⟩:=I.list hq;obtain⟨o',e',c',_⟩:=p.isList;rw[e]at e';cases e';exact hc c'
theorem Inv.Vd {tk:Nat}{h':Heap}{wr:List Addr}{T:Addr}{xs:List V}{vals:List Value}(I:Inv X pins σ H s)(hw:∀ b∈wr,pS X pins H b)(hT:s.heap.objs.size<=T)(ht:h'.IsTuple T vals.toArray)(rv:Vals xs vals)(hz:xs.length<=sizeLine)
  (kk:∀ b o,b ∉ wr->s.heap.get? b=some o->h'.get? b=some o) (there:∀ b∈wr,∃ o,h'.get? b=some o):Inv X pins σ (upd H T (.tup xs)) { s with heap:=h',toks:=tk }:=by
 have hTn:H T=none:=I.hok.fresh hT;have nT:∀ b o,s.heap.get? b=some o->b≠T:=fun b o e=>Nat.ne_of_lt (Nat.lt_of_lt_of_le (Heap.lt_size e) hT);refine I.step (g':=s.gens) (d':=s.drawn) (ch:=wr) (fun b hb=>?_) (fun b o _ _ hc e _=>kk b o hc e) (fun b o _ _ hc e _=>⟨o.slots,kk b o hc e⟩) (fun b o _ e n=>by rw[ak (nT b o e)];exact n)
  (fun b o hc e=>⟨o,kk b o hc e⟩) (fun b ys e=>by rw[ak (ao e hTn)];exact e) (fun b o u e=>by rw[ak (ao e hTn)];exact e) (fun b ps e=>⟨#[],by rw[ak (ao e hTn),e];simp⟩) (fun m hm=>?_) (fun b u e=>?_) I.bare
 ·obtain⟨_,f1,_,f3,f4,f5⟩:=hw b hb;exact⟨f3,f1,f4,f5⟩
 ·obtain⟨o,es,ep,ho,r⟩:=hm;exact⟨o,es,ep,kk _ o (fun z=>(hw _ z).2.1 rfl) ho,r⟩
 ·by_cases hb:b=T
  ·subst hb;rw[ae]at e;cases e;exact⟨hz,vals,rv,ht⟩
  ·rw[ak hb]at e;refine(I.hok b u e).stay (fun c v hc q=>kk c v (fun z=>?_) q) (fun c q=>by rw[ak (ao q hTn)];exact q) fun c ys q=>by rw[ak (ao q hTn)];exact q
   have hn:=(hw c z).1;rcases hc with hc|hc
   ·rw[hc,e]at hn;cases hn
   ·rw[hc]at hn;cases hn
theorem Inv.kF {tk:Nat}{h':Heap}{wr:List Addr}(I:Inv X pins σ H s)(hw:∀ b∈wr,pS X pins H b)(kk:∀ b o,b ∉ wr->s.heap.get? b=some o->h'.get? b=some o):Inv X pins σ H { s with heap:=h',toks:=tk }:=by
 refine I.step (g':=s.gens) (d':=s.drawn) (ch:=wr) (fun b hb=>?_) (fun b o _ _ hc e _=>kk b o hc e) (fun b o _ _ hc e _=>⟨o.slots,kk b o hc e⟩) (fun b o _ e n=>n)
  (fun b o hc e=>⟨o,kk b o hc e⟩) (fun b ys e=>e) (fun b o u e=>e) (fun b ps e=>⟨#[],by rw[e];simp⟩) (fun m hm=>?_) (fun b u e=>?_) I.bare
 ·obtain⟨_,f1,_,f3,f4,f5⟩:=hw b hb;exact⟨f3,f1,f4,f5⟩
 ·obtain⟨o,es,ep,ho,r⟩:=hm;exact⟨o,es,ep,kk _ o (fun z=>(hw _ z).2.1 rfl) ho,r⟩
 ·refine(I.hok b u e).stay (fun c v hc q=>kk c v (fun z=>?_) q) (fun c q=>q) fun c ys q=>q;have hn:=(hw c z).1;rcases hc with hc|hc
  ·rw[hc,e]at hn;cases hn
  ·rw[hc]at hn;cases hn
end
end L2
set_option maxHeartbeats 4000000
namespace L2
open PySem PySem.Spec PyProof.Rows PySem.SeqAt
section
variable {X:Cx}
theorem aA {k:Nat}{A:Around}(hr:jN k A):A.units+64<cLine:=hr.units
theorem bM:bootBuiltins "len"=some (.builtin "len"):=by lk
theorem ah7:bootBuiltins "min"=some (.builtin "min"):=by lk
theorem ah8:bootBuiltins "max"=some (.builtin "max"):=by lk
theorem D6:bootBuiltins "enumerate"=some (.type "enumerate"):=by lk
theorem adS:bootBuiltins "zip"=some (.type "zip"):=by lk
theorem br:bootBuiltins "isinstance"=some (.builtin "isinstance"):=by lk
theorem G6:bootBuiltins "int"=some (.type "int"):=by lk
theorem aaP:bootBuiltins "bool"=some (.type "bool"):=by lk
theorem ah9:bootBuiltins "str"=some (.type "str"):=by lk
theorem ia:bootBuiltins "list"=some (.type "list"):=by lk
theorem Mx:bootBuiltins "tuple"=some (.type "tuple"):=by lk
theorem adT:bootBuiltins "any"=some (.builtin "any"):=by lk
theorem aia:bootBuiltins "all"=some (.builtin "all"):=by lk
theorem afU:bootBuiltins "dict"=some (.type "dict"):=by lk
end
end L2
namespace L2
open PySem PySem.Spec PyProof.Rows
end L2
namespace L2
open PySem
theorem jO {K:Frag}{H:Hp}{a l:Addr}{o:HO}{xs:List V}(h:aX K H a xs)(hn:H l=none):aX K (upd H l o) a xs:=by
 have ne:∀{u},H a=some u->a≠l:=fun e=>ao e hn;rcases h with (h|⟨u,h⟩)|h
 ·exact .inl (.inl (by rw[ak (ne h)];exact h))
 ·exact .inl (.inr ⟨u,by rw[ak (ne h)];exact h⟩)
 ·exact .inr h
theorem aq.upd {H:Hp}{l:Addr}{o:HO}(hn:H l=none):aq H (upd H l o):=fun b u e=>by
 rw[ak (ao e hn)];exact e
end L2
namespace L2
theorem aS {X:Cx}{b:List PySem.Stmt}{t:TS}{D:Ends}{σ:St}{H:Hp}(h:Me X b t)(q:t D σ H):∃ t,Me X b t/\t D σ H:=⟨t,h,q⟩
theorem gS (i j:Int):decide (V.int i=V.int j)=decide (i=j):=by
 by_cases h:i=j
 ·subst h;simp
 ·rw[decide_eq_false h];exact decide_eq_false fun e=>h (V.int.inj e)
end L2
namespace L2
open PySem
theorem ahl {X:Cx}:∀ cs:List (Str×Pos),PA X (cs.map fun c=>Expr.Constant (.str c.1) 0 c.2) (fun _ H Q=>Q (cs.map fun c=>V.str c.1) H)
 |[]=>ag
 |c::cs=>aa ax (ahl cs)
end L2
namespace L2
open PySem
theorem Ve {X:Cx}{i:Nat}{x:Str}{pos pos' p:Pos}(cs:List (Str×Pos))(hN:X.N.Nodup)(hi:X.N[i]? = some x)(hx:Loc X.env.scope x)(hf:X.fn x=true\/X.env.scope.names.lookup x=some .local:=by first|exact .inl rfl|exact .inr rfl|assumption) :
  PS X (.Assign [.Name x pos'] (.List (cs.map fun c=>Expr.Constant (.str c.1) 0 c.2) p) pos) (afM (sS (fun _ H Q=>Q (cs.map fun c=>V.str c.1) H)) (Qb i)):=aK hN hi hx (bx (ahl cs)) rfl hf
end L2
set_option maxHeartbeats 4000000
namespace L2
open PySem PySem.Spec PyProof.Rows
section
variable {X:Cx} {tg:Expr}
theorem vi {pins:List (Addr×Obj)}{σ:St}{H:Hp}{s:Shared}{a:Addr}{xs:List V}{i:Nat}{y:V}(I:Inv X pins σ H s)(hq:aX X.K H a xs)(hy:xs[i]? = some y):∀ ys,aX X.K H a ys->ys[i]? = some y:=fun ys h=>by
 rw[I.U0 h hq];exact hy
theorem abH {P:Program}{w:World}{K:Frag}{es:List Expr}{k:Nat}{tp:Pos}(a e it:Addr)(hei:e≠it) :
  Turn P w K (.Tuple es k tp) (Ite K a) [e,it] e (fun i h=>(∃ old,IsEnum h e it i old)/\h.IsListIter it a i) where
 mem:=by simp
 obj:=fun i h st b hb=>by
  obtain⟨⟨old,he⟩,o,e2,c,d⟩:=st;rcases List.mem_cons.mp hb with rfl|hb
  ·exact⟨_,he,fun v z=>by
    have z':Data.fields _=Data.cell v:=z;cases z'⟩
  ·have:b=it:=by simpa using hb
   subst this;exact⟨o,e2,fun v z=>by rw[d]at z;cases z⟩
 keep:=fun i h h' st kp=>by
  obtain⟨⟨old,he⟩,hit⟩:=st;exact⟨⟨old,kp e (by simp) _ he⟩,hit.at fun o x=>kp it (by simp) o x⟩
 item:=by
  intro X hP hw hK hc i pins s σ H E I hf st hg;subst hP hw hK;obtain⟨xs,x,hq,hx⟩:=hg;obtain⟨its,rv,p,hz⟩:=I.list hq;obtain⟨u,hu,ru⟩:=rv.get hx;obtain⟨⟨old,he⟩,hit⟩:=st;have hle:a≠e:=cM (K:=X.K) I hq he (by intro z;injection z with z;exact absurd z (by decide));have hli:a≠it:=by
   obtain⟨o,e2,c,_⟩:=hit;exact cM (K:=X.K) I hq e2 (by rw[c];intro z;injection z with z;exact absurd z (by decide))
  have hiu:i<its.toArray.size:=by
   have:=(List.getElem?_eq_some_iff.mp hu).1
   simpa using this
  have W:=WalksT.enumerate (prog:=X.prog) (w:=X.w) (I.ok.hd hc) e it a hei hle hli its.toArray;refine W.item i s _ _ hiu ⟨⟨old,he⟩,hit,p.isList⟩ fun T vals h' tk hv hT ht mid kk=>?_;refine⟨_,rfl,?_⟩;obtain⟨t,x',hx',rfl⟩:=hv;have ex:x'=u:=by
   have:its[i]? = some x':=by simpa using hx'
   rw[hu]at this;exact(Option.some.inj this).symm
  subst ex;have fw:∀ b∈[e,it],pS X pins H b:=hf;have I1:Inv X pins σ (upd H T (.tup [.int i,x])) { s with heap:=h',toks:=tk }:=by
   refine I.Vd (vals:=[.int i t,x']) fw hT (by simpa using ht) (.cons ⟨t,rfl⟩ (.cons ru .nil)) (by show 2<=sizeLine;decide) kk fun b hb=>?_;obtain⟨⟨xx,ho⟩,⟨o,e2,_⟩,_⟩:=mid;rcases List.mem_cons.mp hb with rfl|hb
   ·exact⟨_,ho⟩
   ·have:b=it:=by simpa using hb
    subst this;exact⟨o,e2⟩
  have hTn:H T=none:=I.hok.fresh hT;have neT:∀ b∈[e,it],b≠T:=fun b hb z=>by
   subst z;exact W.apart i b _ mid hb
  refine W.go es k tp i T _ _ _ mid fun h'' st'' aib=>?_;have hf2:∀ b∈[e,it],pS X pins (upd H T (.tup [.int i,x])) b:=fun b hb=>by
   obtain⟨f0,fr⟩:=hf b hb;exact⟨by rw[ak (neT b hb)];exact f0,fr⟩
  refine⟨.ref T,upd H T (.tup [.int i,x]),I1.kF (tk:=tk) hf2 aib,rfl,⟨x,T,rfl,hTn,vi I hq hx,rfl⟩,⟨st''.1,st''.2.1⟩,fun b hb=>(hf2 b hb).1⟩
 done:=by
  intro X hP hw hK hc i pins s σ H E I hf st hg;subst hP hw hK;obtain⟨xs,hq,hx⟩:=hg;obtain⟨its,rv,p,hz⟩:=I.list hq;obtain⟨⟨old,he⟩,hit⟩:=st;have hl:=rv.length;refine wpAny_pyNext_enum_end (I.ok.hd hc) he hit p.isList (Array.getElem?_eq_none (by simp;omega)) fun h' hx'=>?_;exact⟨rfl,I.kF (tk:=s.toks) hf fun b o hb q=>hx' b o (fun z=>hb (by simp[z])) q⟩
 self:=fun _ _ _ _ _ st h=>by
  obtain⟨⟨old,he⟩,_⟩:=st;exact wpAny_pyIter_enum he h
theorem aic {l:Expr}{tl:TE}(hl:PE X l tl)(hs:starEach [l] X.env=[(false,eval l X.env)])(pos:Pos)(pins:List (Addr×Obj))(s:Shared)(σ:St)(H:Hp){Q:VK}(I:Inv X pins σ H s)(h:tl σ H Q) :
  wpAny (model X.prog X.w) X.A (spliced (backTo pos (starEach [l] X.env))) (fun us s1=>∃ v u H1,Inv X pins σ H1 s1/\us=[u]/\RelV v u/\Q v H1) X.xe s:=by
 have ha:PA X [l] (fun σ H Q=>tl σ H fun x H1=>Q [x] H1):=aa hl ag hs;have mono:wpAny (model X.prog X.w) X.A (spliced (backTo pos (starEach [l] X.env))) (AP X pins σ fun vs H1=>∃ v,vs=[v]/\Q v H1) X.xe s:=by
  have he:PE X l (fun σ' H' Q'=>σ'=σ/\H'=H/\∀ v H1,Q v H1->Q' v H1):=by
   intro pins s σ' H' Q' I' hw;obtain⟨rfl,rfl,hm⟩:=hw;exact cH (hl pins s σ' H' Q I' h) fun u s1 ⟨v,H1,I1,r,q⟩=>⟨v,H1,I1,r,hm v H1 q⟩
  exact aa he ag hs pos pins s σ H _ I ⟨rfl,rfl,fun v H1 q=>⟨v,rfl,q⟩⟩
 refine cH mono fun us s1 ⟨vs,H1,I1,r,v,e,q⟩=>?_;subst e;obtain⟨u,rfl,ru⟩:=r.one;exact⟨v,u,H1,I1,rfl,ru,q⟩
inductive adU (K:Frag)(R:(It->Hp->Prop))(x:V)(H1:Hp):Prop
 |mk (a:_) (eO:x=.ref a) (eP:(∃ xs,aX K H1 a xs)/\R (Ite K a) H1):adU K R x H1
def aj2 (K:Frag)(tl:TE):TI:=fun σ H R=>tl σ H fun x H1=>adU K R x H1
theorem afV {l:Expr}{tl:TE}{p pos tp:Pos}{es:List Expr}{k:Nat}(hg:Gl X "enumerate")(hm:X.mg "enumerate"=none)(hl:PE X l tl)(hs:starEach [l] X.env=[(false,eval l X.env)]:=by rfl) :
  PI X (.Tuple es k tp) (.Call (.Name "enumerate" p) [l] [] pos) (aj2 X.K tl):=by
 intro pins s σ H R I h;refine Call_ (uF I hg hm D6 (PyProof.Rows.callWith_type1 (cH (aic hl hs pos pins s σ H I h) fun us s1 ⟨v,u,H1,I1,e1,r1,q1⟩=>?_) (by rw[hs];rfl) (by rfl)))
 ·obtain⟨a,rfl,⟨xs,hq⟩,q⟩:=q1;subst e1;cases r1;obtain⟨its,rv,pl,hz⟩:=I1.list hq;refine call_enumerate_list pl.isList fun h' he hit hsz kk=>?_;have hee:s1.heap.objs.size+1≠s1.heap.objs.size:=Nat.succ_ne_self _;refine wpAny_pyIter_enum he ?_;refine⟨s1.heap.objs.size+1,[s1.heap.objs.size+1,s1.heap.objs.size],_,_,H1,rfl,I1.kept (t':=s1.toks) kk,abH a _ _ hee,⟨⟨.none,he⟩,hit⟩,fun b hb=>?_,q⟩;have hb':s1.heap.objs.size<=b:=by
   rcases List.mem_cons.mp hb with rfl|hb
   ·exact Nat.le_succ _
   ·have:b=s1.heap.objs.size:=by simpa using hb
    rw[this];exact Nat.le_refl _
  exact I1.QV hb' (I1.hok.fresh hb')
end
end L2
set_option maxHeartbeats 4000000
namespace L2
open PySem PySem.Spec PyProof.Rows
structure Bh (z TI TO i1 i2:Addr):Prop where
 TIz:TI≠z
 TOz:TO≠z
 i1z:i1≠z
 i2z:i2≠z
 TITO:TI≠TO
 TIi1:TI≠i1
 TIi2:TI≠i2
 TOi1:TO≠i1
 TOi2:TO≠i2
 i12:i1≠i2
section
variable {X:Cx}
def aaQ (z TI TO i1 i2 a b:Addr)(i:Nat)(h:Heap):Prop:=IsZip h z TI TO .none/\IsPair h TI (.ref i1) (.ref i2)/\(∃ x y,IsPair h TO x y)/\h.IsListIter i1 a i/\h.IsListIter i2 b i
theorem Qk {pins:List (Addr×Obj)}{σ:St}{H:Hp}{s:Shared}{z TI TO i1 i2 a b:Addr}{i:Nat}{xs ys:List V}(I:Inv X pins σ H s)(O:Bh z TI TO i1 i2)(st:aaQ z TI TO i1 i2 a b i s.heap)(ha:aX X.K H a xs)(hb:aX X.K H b ys) :
  ZipApart z TI TO i1 i2 a b:=by
 obtain⟨hz,hTI,⟨x,y,hTO⟩,⟨o1,e1,c1,_⟩,⟨o2,e2,c2,_⟩⟩:=st;have nz:∀{c:Addr} {zs:List V},aX X.K H c zs->c≠z:=fun h=>cM (K:=X.K) I h hz (by intro q;injection q with q;exact absurd q (by decide));have nT:∀{c:Addr} {zs:List V},aX X.K H c zs->c≠TO:=fun h=>cM (K:=X.K) I h hTO (by intro q;injection q with q;exact absurd q (by decide));have n1:∀{c:Addr} {zs:List V},aX X.K H c zs->c≠i1:=fun h=>cM (K:=X.K) I h e1 (by rw[c1];intro q;injection q with q;exact absurd q (by decide));have n2:∀{c:Addr} {zs:List V},aX X.K H c zs->c≠i2:=fun h=>cM (K:=X.K) I h e2 (by rw[c2];intro q;injection q with q;exact absurd q (by decide));exact⟨O.TIz,O.TOz,O.i1z,O.i2z,O.TITO,O.TIi1,O.TIi2,O.TOi1,O.TOi2,O.i12,nz ha,nT ha,n1 ha,n2 ha,nz hb,nT hb,n1 hb,n2 hb⟩
theorem adV {P:Program}{w:World}{K:Frag}{es:List Expr}{k:Nat}{tp:Pos}{z TI TO i1 i2:Addr}(a b:Addr)(O:Bh z TI TO i1 i2) :
  Turn P w K (.Tuple es k tp) (Itz K a b) [z,TI,TO,i1,i2] z (aaQ z TI TO i1 i2 a b) where
 mem:=by simp
 obj:=fun i h st c hc=>by
  obtain⟨hz,hTI,⟨x,y,hTO⟩,⟨o1,e1,_,d1⟩,⟨o2,e2,_,d2⟩⟩:=st;have hc':c=z\/c=TI\/c=TO\/c=i1\/c=i2:=by simpa using hc
  rcases hc' with rfl|rfl|rfl|rfl|rfl
  ·exact⟨_,hz,fun v q=>by
    have q':Data.fields _=Data.cell v:=q;cases q'⟩
  ·exact⟨_,hTI,fun v q=>by
    have q':Data.seq _ _=Data.cell v:=q;cases q'⟩
  ·exact⟨_,hTO,fun v q=>by
    have q':Data.seq _ _=Data.cell v:=q;cases q'⟩
  ·exact⟨o1,e1,fun v q=>by rw[d1]at q;cases q⟩
  ·exact⟨o2,e2,fun v q=>by rw[d2]at q;cases q⟩
 keep:=fun i h h' st kp=>by
  obtain⟨hz,hTI,⟨x,y,hTO⟩,h1,h2⟩:=st;exact⟨kp z (by simp) _ hz,kp TI (by simp) _ hTI,⟨x,y,kp TO (by simp) _ hTO⟩,h1.at fun o q=>kp i1 (by simp) o q,h2.at fun o q=>kp i2 (by simp) o q⟩
 item:=by
  intro X hP hw hK hc i pins s σ H E I hf st hg;subst hP hw hK;obtain⟨xs,ys,x,y,hq,hq2,hx,hy⟩:=hg;have D:=Qk I O st hq hq2;obtain⟨its,rv,p,_⟩:=I.list hq;obtain⟨its2,rv2,p2,_⟩:=I.list hq2;obtain⟨u,hu,ru⟩:=rv.get hx;obtain⟨u2,hu2,ru2⟩:=rv2.get hy;have h1:i<its.length:=(List.getElem?_eq_some_iff.mp hu).1;have h2:i<its2.length:=(List.getElem?_eq_some_iff.mp hu2).1;have W:=WalksT.zip2 (prog:=X.prog) (w:=X.w) (I.ok.hd hc) z TI TO i1 i2 a b D its.toArray its2.toArray;obtain⟨hz,hTI,hTO,g1,g2⟩:=st;refine W.item i s _ _ (by simp;omega) ⟨hz,hTI,hTO,g1,g2,p.isList,p2.isList⟩ fun T vals h' tk hv hT ht mid kk=>?_;refine⟨_,rfl,?_⟩;obtain⟨x',y',hx',hy',rfl⟩:=hv;have ex:x'=u:=by
   have:its[i]? = some x':=by simpa using hx'
   rw[hu]at this;exact(Option.some.inj this).symm
  have ey:y'=u2:=by
   have:its2[i]? = some y':=by simpa using hy'
   rw[hu2]at this;exact(Option.some.inj this).symm
  subst ex ey;have sub:∀ c∈[z,TO,i1,i2],c∈[z,TI,TO,i1,i2]:=fun c hc=>by
   have:c=z\/c=TO\/c=i1\/c=i2:=by simpa using hc
   simp;rcases this with r|r|r|r <;> simp[r]
  have fw:∀ c∈[z,TO,i1,i2],pS X pins H c:=fun c hc=>hf c (sub c hc);have I1:Inv X pins σ (upd H T (.tup [x,y])) { s with heap:=h',toks:=tk }:=by
   refine I.Vd (vals:=[x',y']) fw hT (by simpa using ht) (.cons ru (.cons ru2 .nil)) (by show 2<=sizeLine;decide) kk fun c hc=>?_;obtain⟨m1,_,⟨_,_,m2⟩,⟨o1,m3,_⟩,⟨o2,m4,_⟩,_⟩:=mid;have:c=z\/c=TO\/c=i1\/c=i2:=by simpa using hc
   rcases this with rfl|rfl|rfl|rfl
   ·exact⟨_,m1⟩
   ·exact⟨_,m2⟩
   ·exact⟨_,m3⟩
   ·exact⟨_,m4⟩
  have hTn:H T=none:=I.hok.fresh hT;have neT:∀ c∈[z,TI,TO,i1,i2],c≠T:=fun c hc q=>by
   subst q;have:c=TI\/c∈[z,TO,i1,i2]:=by
    have:c=z\/c=TI\/c=TO\/c=i1\/c=i2:=by simpa using hc
    simp;rcases this with r|r|r|r|r <;> simp[r]
   rcases this with r|r
   ·subst r;exact absurd (Nat.lt_of_lt_of_le (Heap.lt_size hTI) hT) (Nat.lt_irrefl _)
   ·exact W.apart i c _ mid r
  refine W.go es k tp i T _ _ _ mid fun h'' st'' aib=>?_;have hf2:∀ c∈[z,TI,TO,i1,i2],pS X pins (upd H T (.tup [x,y])) c:=fun c hc=>by
   obtain⟨f0,fr⟩:=hf c hc;exact⟨by rw[ak (neT c hc)];exact f0,fr⟩
  obtain⟨s1,s2,s3,s4,s5,_⟩:=st'';refine⟨.ref T,upd H T (.tup [x,y]),I1.kF (tk:=tk) (fun c hc=>hf2 c (sub c hc)) aib,rfl,⟨x,y,T,rfl,hTn,vi I hq hx,vi I hq2 hy,rfl⟩,⟨s1,s2,s3,s4,s5⟩,fun c hc=>(hf2 c hc).1⟩
 done:=by
  intro X hP hw hK hc i pins s σ H E I hf st hg;subst hP hw hK;obtain⟨xs,ys,hq,hq2,hx⟩:=hg;have D:=Qk I O st hq hq2;obtain⟨its,rv,p,_⟩:=I.list hq;obtain⟨its2,rv2,p2,_⟩:=I.list hq2;have W:=WalksT.zip2 (prog:=X.prog) (w:=X.w) (I.ok.hd hc) z TI TO i1 i2 a b D its.toArray its2.toArray;obtain⟨hz,hTI,hTO,g1,g2⟩:=st;have e:min its.toArray.size its2.toArray.size=i:=by
   rw[size_toArray,size_toArray,<-rv.length,<-rv2.length];exact hx
  refine W.done s _ _ (by rw[e];exact⟨hz,hTI,hTO,g1,g2,p.isList,p2.isList⟩) fun h' tk kk=>?_;refine⟨rfl,I.kF (tk:=tk) (wr:=[z,TO,i1,i2]) (fun c hc=>hf c ?_) kk⟩;have:c=z\/c=TO\/c=i1\/c=i2:=by simpa using hc
  simp;rcases this with r|r|r|r <;> simp[r]
 self:=fun _ i s _ _ st h=>by
  obtain⟨hz,_⟩:=st;exact wpAny_pyIter_zip hz h
inductive ahm (K:Frag)(R:(It->Hp->Prop))(x:V)(y:V)(H2:Hp):Prop
 |mk (a:_) (b:_) (eO:x=.ref a) (eP:y=.ref b) (hX:(∃ xs,aX K H2 a xs)/\(∃ ys,aX K H2 b ys)/\R (Itz K a b) H2):ahm K R x y H2
def amv (K:Frag)(tl tm:TE):TI:=fun σ H R=>tl σ H fun x H1=>tm σ H1 fun y H2=>ahm K R x y H2
theorem adX {l m:Expr}{tl tm:TE}(hl:PE X l tl)(hm:PE X m tm)(hs:starEach [l,m] X.env=[(false,eval l X.env),(false,eval m X.env)])(hs2:starEach [m] X.env=[(false,eval m X.env)])(pos:Pos)(pins:List (Addr×Obj))(s:Shared)(σ:St)(H:Hp){Q:V->V->Hp->Prop}(I:Inv X pins σ H s)(h:tl σ H fun x H1=>tm σ H1 fun y H2=>Q x y H2) :
  wpAny (model X.prog X.w) X.A (spliced (backTo pos (starEach [l,m] X.env))) (fun us s1=>∃ x y u v H1,Inv X pins σ H1 s1/\us=[u,v]/\RelV x u/\RelV y v/\Q x y H1) X.xe s:=by
 have he:PE X l (fun σ' H' Q'=>σ'=σ/\H'=H/\∀ x H1,(tm σ H1 fun y H2=>Q x y H2)->Q' x H1):=by
  intro pins s σ' H' Q' I' hw;obtain⟨rfl,rfl,k⟩:=hw;exact cH (hl pins s σ' H' _ I' h) fun u s1 ⟨v,H1,I1,r,q⟩=>⟨v,H1,I1,r,k v H1 q⟩
 have hf:PE X m (fun σ' H' Q'=>∃ x,σ'=σ/\(tm σ H' fun y H2=>Q x y H2)/\∀ y H2,Q x y H2->Q' y H2):=by
  intro pins s σ' H' Q' I' hw;obtain⟨x,rfl,hh,k⟩:=hw;exact cH (hm pins s σ' H' _ I' hh) fun u s1 ⟨v,H1,I1,r,q⟩=>⟨v,H1,I1,r,k v H1 q⟩
 have main:=aa he (aa hf ag hs2) (by rw[hs,hs2]) pos pins s σ H (fun vs H2=>∃ x y,vs=[x,y]/\Q x y H2) I ⟨rfl,rfl,fun x H1 q=>⟨x,rfl,q,fun y H2 q2=>⟨x,y,rfl,q2⟩⟩⟩;refine cH main fun us s1 ⟨vs,H1,I1,r,x,y,e,q⟩=>?_;subst e;obtain⟨u,v,rfl,r1,r2⟩:=r.two;exact⟨x,y,u,v,H1,I1,rfl,r1,r2,q⟩
theorem aid {l m:Expr}{tl tm:TE}{p pos tp:Pos}{es:List Expr}{k:Nat}(hg:Gl X "zip")(hz:X.mg "zip"=none)(hl:PE X l tl)(hm:PE X m tm)(hs:starEach [l,m] X.env=[(false,eval l X.env),(false,eval m X.env)]:=by rfl)(hs2:starEach [m] X.env=[(false,eval m X.env)]:=by rfl) :
  PI X (.Tuple es k tp) (.Call (.Name "zip" p) [l,m] [] pos) (amv X.K tl tm):=by
 intro pins s σ H R I h;refine Call_ (uF I hg hz adS (PyProof.Rows.callWith_type1 (cH (adX hl hm hs hs2 pos pins s σ H I h) fun us s1 ⟨x,y,u,v,H1,I1,e1,r1,r2,q1⟩=>?_) (by rw[hs,hs2]) (by rw[hs2];rfl)));obtain⟨a,b,rfl,rfl,⟨xs,hq⟩,⟨ys,hq2⟩,q⟩:=q1;subst e1;cases r1;cases r2;obtain⟨its,rv,pl,_⟩:=I1.list hq;obtain⟨its2,rv2,pl2,_⟩:=I1.list hq2;refine call_zip_2 pl.isList pl2.isList fun h' z1 z2 z3 z4 z5 hsz kk=>?_;refine wpAny_pyIter_zip z1 ?_;have O:Bh (s1.heap.objs.size+4) (s1.heap.objs.size+2) (s1.heap.objs.size+3) s1.heap.objs.size (s1.heap.objs.size+1):=by
  constructor <;> exact(by intro q;have q':(_:Nat)=_:=q;omega)
 refine⟨_,[s1.heap.objs.size+4,s1.heap.objs.size+2,s1.heap.objs.size+3,s1.heap.objs.size,s1.heap.objs.size+1],_,_,H1,rfl,I1.kept (t':=s1.toks) kk,adV a b O,⟨z1,z2,⟨_,_,z3⟩,z4,z5⟩,fun c hc=>?_,q⟩;have hc':s1.heap.objs.size<=c:=by
  have:c=s1.heap.objs.size+4\/c=s1.heap.objs.size+2\/c=s1.heap.objs.size+3\/c=s1.heap.objs.size\/c=s1.heap.objs.size+1:=by simpa using hc
  rcases this with r|r|r|r|r <;> (rw[r];first|exact Nat.le_add_right _ _|exact Nat.le_refl _)
 exact I1.QV hc' (I1.hok.fresh hc')
end
end L2
set_option maxHeartbeats 4000000
namespace L2
open PySem
abbrev ahn (J:It)(g:TG)(tc:TT)(te:TE)(D:Addr)(R:Hp->Prop)(σ:St)(H:Hp):Prop:=∃ W:Nat->Nat->List V->St->Hp->Prop,(∃ m,W 0 m [] σ H)/\∀ i m ys σ H,W i m ys σ H ->
  (J.stop i H/\R H)\/(J.go i H/\∀ x H',J.yld i H x H'->g x σ H' fun σ2 H2=>tc σ2 H2 fun ok H3 =>
   if ok=true then te σ2 H3 fun y H4=>H4 D=some (.lst ys)/\ys.length<sizeLine/\∃ m',m'<m/\W (i+1) m' (ys++[y]) σ2 (upd H4 D (.lst (ys++[y])))
   else ∃ m',m'<m/\W (i+1) m' ys σ2 H3)
abbrev Ql (g:TG)(tc:TT)(te:TE)(D:Addr)(ys:List V)(x:V)(σ:St)(H:Hp)(N:List V->St->Hp->Prop):Prop :=
 g x σ H fun σ2 H2=>tc σ2 H2 fun ok H3=>if ok=true then te σ2 H3 fun y H4=>H4 D=some (.lst ys)/\ys.length<sizeLine/\N (ys++[y]) σ2 (upd H4 D (.lst (ys++[y]))) else N ys σ2 H3
theorem jP {K:Frag}{a:Addr}{xs:List V}{g:TG}{tc:TT}{te:TE}{D:Addr}{R:Hp->Prop}{σ:St}{H:Hp}(Pv:Nat->List V->St->Hp->Prop)(h0:Pv 0 [] σ H)(hl:∀ i ys σ H,Pv i ys σ H->aX K H a xs)
  (hs:∀ i ys x σ H,xs[i]? = some x->Pv i ys σ H->∀ N:List V->St->Hp->Prop,(∀ ys σ H,Pv (i+1) ys σ H->N ys σ H)->Ql g tc te D ys x σ H N) (hd:∀ ys σ H,Pv xs.length ys σ H->R H):ahn (Itl K a) g tc te D R σ H:=by
 refine⟨fun i m ys σ H=>m=xs.length-i/\i<=xs.length/\Pv i ys σ H,⟨xs.length,by simp,Nat.zero_le _,h0⟩,?_⟩;rintro i m ys σ H ⟨rfl,hi,p⟩;have q:=hl i ys σ H p
 by_cases hlt:i<xs.length
 ·refine .inr ⟨⟨xs,xs[i],q,by simp[hlt]⟩,fun x H' y=>?_⟩;obtain⟨e,y⟩:=y;subst e;exact hs i ys x σ _ (y xs q) p (fun ys' σ' H'=>∃ m',m'<xs.length-i/\m'=xs.length-(i+1)/\i+1<=xs.length/\Pv (i+1) ys' σ' H') fun ys' σ' H' q=>⟨xs.length-(i+1),by omega,rfl,hlt,q⟩
 ·have e:i=xs.length:=by omega
  subst e;exact .inl ⟨⟨xs,q,Nat.le_refl _⟩,hd ys σ H p⟩
theorem adY {z:Str}{g:TG}{tc:TT}{te:TE}{D:Addr}{R:Hp->Prop}{σ:St}{H:Hp}(Pv:Nat->List V->St->Hp->Prop)(h0:Pv 0 [] σ H)
  (hs:∀ i ys c σ H,z.cps[i]? = some c->Pv i ys σ H->∀ N:List V->St->Hp->Prop,(∀ ys σ H,Pv (i+1) ys σ H->N ys σ H)->Ql g tc te D ys (.str ⟨#[c]⟩) σ H N) (hd:∀ ys σ H,Pv z.cps.size ys σ H->R H):ahn (Its z) g tc te D R σ H:=by
 refine⟨fun i m ys σ H=>m=z.cps.size-i/\i<=z.cps.size/\Pv i ys σ H,⟨z.cps.size,by simp,Nat.zero_le _,h0⟩,?_⟩;rintro i m ys σ H ⟨rfl,hi,p⟩
 by_cases hlt:i<z.cps.size
 ·refine .inr ⟨hlt,fun x H' y=>?_⟩;obtain⟨e,c,hc,y⟩:=y;subst e y;exact hs i ys c σ _ hc p (fun ys' σ' H'=>∃ m',m'<z.cps.size-i/\m'=z.cps.size-(i+1)/\i+1<=z.cps.size/\Pv (i+1) ys' σ' H') fun ys' σ' H' q=>⟨z.cps.size-(i+1),by omega,rfl,hlt,q⟩
 ·have e:i=z.cps.size:=by omega
  subst e;exact .inl ⟨Nat.le_refl _,hd ys σ H p⟩
theorem adZ {K:Frag}{a:Addr}{xs:List V}{g:TG}{tb:TS}{D:Ends}{σ:St}{H:Hp}(Pv:Nat->St->Hp->Prop)(h0:Pv 0 σ H)(hl:∀ i σ H,Pv i σ H->aX K H a xs)
  (hs:∀ i x t σ H,xs[i]? = some x->Pv i σ H->H t=none->g (.ref t) σ (upd H t (.tup [.int i,x])) fun σ2 H2=>tb { D with nx:=Pv (i+1),ct:=Pv (i+1),bk:=D.nx } σ2 H2) (hd:∀ σ H,Pv xs.length σ H->D.nx σ H) :
  ∃ W:Nat->Nat->St->Hp->Prop,(∃ m,W 0 m σ H)/\∀ i m σ H,W i m σ H ->
   ((Ite K a).stop i H/\D.nx σ H)\/((Ite K a).go i H/\∃ N:St->Hp->Prop,(∀ σ' H',N σ' H'->∃ m',m'<m/\W (i+1) m' σ' H')/\∀ x H',(Ite K a).yld i H x H'->g x σ H' fun σ2 H2=>tb { D with nx:=N,ct:=N,bk:=D.nx } σ2 H2):=by
 refine⟨fun i m σ H=>m=xs.length-i/\i<=xs.length/\Pv i σ H,⟨xs.length,by simp,Nat.zero_le _,h0⟩,?_⟩;rintro i m σ H ⟨rfl,hi,p⟩;have q:=hl i σ H p
 by_cases hlt:i<xs.length
 ·refine .inr ⟨⟨xs,xs[i],q,by simp[hlt]⟩,Pv (i+1),fun σ' H' p'=>⟨xs.length-(i+1),by omega,rfl,hlt,p'⟩,fun x H' y=>?_⟩;obtain⟨y0,t,rfl,hn,hy,rfl⟩:=y;exact hs i y0 t σ H (hy xs q) p hn
 ·have e:i=xs.length:=by omega
  subst e;exact .inl ⟨⟨xs,q,Nat.le_refl _⟩,hd σ H p⟩
theorem afW {K:Frag}{a b:Addr}{xs ys:List V}{g:TG}{tb:TS}{D:Ends}{σ:St}{H:Hp}(Pv:Nat->St->Hp->Prop)(he:xs.length=ys.length)(h0:Pv 0 σ H)(hl:∀ i σ H,Pv i σ H->aX K H a xs/\aX K H b ys)
  (hs:∀ i x y t σ H,xs[i]? = some x->ys[i]? = some y->Pv i σ H->H t=none->g (.ref t) σ (upd H t (.tup [x,y])) fun σ2 H2=>tb { D with nx:=Pv (i+1),ct:=Pv (i+1),bk:=D.nx } σ2 H2) (hd:∀ σ H,Pv xs.length σ H->D.nx σ H) :
  ∃ W:Nat->Nat->St->Hp->Prop,(∃ m,W 0 m σ H)/\∀ i m σ H,W i m σ H ->
   ((Itz K a b).stop i H/\D.nx σ H)\/((Itz K a b).go i H/\∃ N:St->Hp->Prop,(∀ σ' H',N σ' H'->∃ m',m'<m/\W (i+1) m' σ' H')/\∀ x H',(Itz K a b).yld i H x H'->g x σ H' fun σ2 H2=>tb { D with nx:=N,ct:=N,bk:=D.nx } σ2 H2):=by
 refine⟨fun i m σ H=>m=xs.length-i/\i<=xs.length/\Pv i σ H,⟨xs.length,by simp,Nat.zero_le _,h0⟩,?_⟩;rintro i m σ H ⟨rfl,hi,p⟩;obtain⟨q,q2⟩:=hl i σ H p
 by_cases hlt:i<xs.length
 ·have hlt2:i<ys.length:=by omega
  refine .inr ⟨⟨xs,ys,xs[i],ys[i],q,q2,by simp[hlt],by simp[hlt2]⟩,Pv (i+1),fun σ' H' p'=>⟨xs.length-(i+1),by omega,rfl,hlt,p'⟩,fun x H' y=>?_⟩;obtain⟨x0,y0,t,rfl,hn,hx,hy,rfl⟩:=y;exact hs i x0 y0 t σ H (hx xs q) (hy ys q2) p hn
 ·have e:i=xs.length:=by omega
  subst e;exact .inl ⟨⟨xs,ys,q,q2,by omega⟩,hd σ H p⟩
end L2
namespace L2
open PySem
theorem kG {j:Nat}{te:TE}{D:Addr}{ys:List V}{x:V}{σ:St}{H:Hp}{N:List V->St->Hp->Prop}
  (h:te (σ.set j (some x)) H fun y H4=>H4 D=some (.lst ys)/\ys.length<sizeLine/\N (ys++[y]) (σ.set j (some x)) (upd H4 D (.lst (ys++[y])))):Ql (Qb j) ah5 te D ys x σ H N:=by
 unfold Ql Qb ah5;exact(if_pos (rfl:true=true)).mpr h
end L2
set_option maxHeartbeats 4000000
namespace L2
open PySem PySem.Spec PyProof.Rows
open Sem (wp)
abbrev Bi (h:Heap)(z TI TO:Addr)(f0 f1:Value):Prop :=
 h.get? z=some { cls:=.type "zip",dict:=none,data:=.fields #[f0,f1,.bool false,.ref TI,.ref TO],slots:=#[] }
def Loose (f0 f1:Value):Prop:=(f0=.none\/∃ a:Nat,f0=rawInt (a:Int))/\∃ b,f1=.bool b
section
variable {prog:Program} {w:World} {A:Around} {E:Value->Shared->Prop} {s:Shared}
theorem abI {a:Addr}{Q:Option Obj->Shared->Prop}(h:∀ o,Q o s):wpAny (model prog w) A (loadIfAlive a) Q E s:=fun _ _ _=>h _
theorem Vf {z TI TO:Addr}{f0 f1:Value}{Q:Bool->Shared->Prop}(hz:Bi s.heap z TI TO f0 f1)(hf:Loose f0 f1)
  (hQ:∀(r:Bool)(h':Heap)(g1:Value),Bi h' z TI TO f0 g1->Loose f0 g1->Heap.SameBut z s.heap h'->Q r { s with heap:=h' }) :
  wpAny (model prog w) A (Builtin.SmallTypes.ownedTupleIsFree (.ref z)) Q E s:=by
 unfold Builtin.SmallTypes.ownedTupleIsFree;refine wpAny_bind (wpAny_field hz rfl (x:=f0) rfl ?_);obtain⟨hf0,b,rfl⟩:=hf;rcases hf0 with rfl|⟨a,rfl⟩
 ·exact wpAny_pure (hQ true s.heap _ hz ⟨.inl rfl,b,rfl⟩ ⟨rfl,fun _ _=>rfl⟩)
 ·show wpAny _ _ (loadIfAlive ((a:Int).toNat) >>= _) _ _ _;refine wpAny_bind (abI fun o=>?_);cases o with
  |none =>
   simp only [Option.isNone_none,if_true];exact wpAny_pure (hQ true s.heap _ hz ⟨.inr ⟨a,rfl⟩,b,rfl⟩ ⟨rfl,fun _ _=>rfl⟩)
  |some o =>
   simp only [Option.isNone_some,Bool.false_eq_true,if_false];refine wpAny_bind (wpAny_field hz rfl (x:=.bool b) rfl ?_);cases b with
   |true =>
    exact wpAny_pure (hQ false s.heap _ hz ⟨.inr ⟨a,rfl⟩,true,rfl⟩ ⟨rfl,fun _ _=>rfl⟩)
   |false =>
    show wpAny _ _ (setField (.ref z) 1 (.bool true) >>= _) _ _ _;refine wpAny_bind (wpAny_setField_rec hz (by simp) fun h₁ hz₁ hs₁=>?_);exact wpAny_pure (hQ false h₁ _ hz₁ ⟨.inr ⟨a,rfl⟩,true,rfl⟩ hs₁)
theorem abJ {z TI TO i1 i2 l1 l2:Addr}{k1 k2:Nat}{xs ys:Array Value}{x y a b f0 f1:Value}{Q:Value->Shared->Prop}(D:ZipApart z TI TO i1 i2 l1 l2)
  (hz:Bi s.heap z TI TO f0 f1) (hf:Loose f0 f1) (hTI:IsPair s.heap TI (.ref i1) (.ref i2)) (hTO:IsPair s.heap TO a b)
  (h1:s.heap.IsListIter i1 l1 k1) (h2:s.heap.IsListIter i2 l2 k2) (hl1:s.heap.IsList l1 xs) (hl2:s.heap.IsList l2 ys) (hx:xs[k1]? = some x) (hy:ys[k2]? = some y)
  (hQ:∀ h',(∃ g0 g1,Bi h' z TI TO g0 g1/\Loose g0 g1)->(∃ a b,IsPair h' TO a b)->h'.IsListIter i1 l1 (k1+1)->h'.IsListIter i2 l2 (k2+1)->IsPair h' s.heap.objs.size x y->h'.objs.size=s.heap.objs.size+1 ->
   (∀ c o,c≠z->c≠TO->c≠i1->c≠i2->s.heap.get? c=some o->h'.get? c=some o)->Q (.ref s.heap.objs.size) { s with heap:=h' }) :
  wpAny (model prog w) A (Builtin.«zip.__next__» ⟨[.ref z],[]⟩) (fun fin s'=>∃ v,fin=.done (.ret v)/\Q v s') E s:=by
 show wpAny _ _ (field (.ref z) 2 >>= _) _ _ _;refine wpAny_bind (wpAny_field hz rfl (x:=.bool false) rfl ?_);show wpAny _ _ (field (.ref z) 3 >>= _) _ _ _;refine wpAny_bind (wpAny_field hz rfl (x:=.ref TI) rfl ?_);refine wpAny_bind (wpAny_seqItems hTI rfl ?_);show wpAny _ _ (Builtin.SmallTypes.ownedTupleIsFree (.ref z) >>= _) _ _ _;refine wpAny_bind (Vf hz hf fun r h₀ g1 ajk hl₀ hs₀=>?_);cases r with
 |true =>
  simp only [if_true];refine wpAny_bind (wpAny_rule ?_);refine wpAny_bind (wpAny_field ajk rfl (x:=.ref TO) rfl ?_);refine wpAny_bind (wpAny_setField_rec ajk (by simp) fun h₁ hz₁ ad0=>?_)
  replace hz₁:Bi h₁ z TI TO .ellipsis g1:=hz₁
  have hs₁:Heap.SameBut z s.heap h₁:=⟨ad0.1.trans hs₀.1,fun c hc=>(ad0.2 c hc).trans (hs₀.2 c hc)⟩;refine wpAny_bind ?_;simp only [List.zipIdx_cons,List.zipIdx_nil,List.forIn_cons,List.forIn_nil];refine wpAny_bind (wpAny_bind (wpAny_onRaise ?_));show wpAny _ _ (Builtin.SmallTypes.nextOf (.ref i1) >>= _) _ _ _;refine wpAny_bind (wpAny_nextOf_list_item (h1.extBut hs₁.extBut D.i1z) (hl1.extBut hs₁.extBut D.l1z) hx fun h₂ h1₂ hs₂=>wpAny_pure ?_);have hTO₂:IsPair h₂ TO a b:=hs₂.extBut _ _ D.TOi1 (hs₁.extBut _ _ D.TOz hTO);refine wpAny_bind (wpAny_seqItems hTO₂ rfl ?_);refine wpAny_bind (wpAny_updateSeq_pair hTO₂ fun h₃ hTO₃ hs₃=>?_)
  replace hTO₃:IsPair h₃ TO x b:=hTO₃
  refine wpAny_bind (wpAny_letGo (wpAny_pure ?_));refine wpAny_bind (wpAny_bind (wpAny_onRaise ?_));show wpAny _ _ (Builtin.SmallTypes.nextOf (.ref i2) >>= _) _ _ _;refine wpAny_bind (wpAny_nextOf_list_item (((h2.extBut hs₁.extBut D.i2z).extBut hs₂.extBut D.i12.symm).extBut hs₃.extBut D.TOi2.symm)
   (((hl2.extBut hs₁.extBut D.l2z).extBut hs₂.extBut D.l2i1).extBut hs₃.extBut D.l2TO) hy fun h₄ h2₄ hs₄=>wpAny_pure ?_)
  have hTO₄:IsPair h₄ TO x b:=hs₄.extBut _ _ D.TOi2 hTO₃;refine wpAny_bind (wpAny_seqItems hTO₄ rfl ?_);refine wpAny_bind (wpAny_updateSeq_pair hTO₄ fun h₅ hTO₅ hs₅=>?_)
  replace hTO₅:IsPair h₅ TO x y:=hTO₅
  refine wpAny_bind (wpAny_letGo (wpAny_pure (wpAny_pure ?_)));refine wpAny_bind (wpAny_seqItems hTO₅ rfl ?_);refine wpAny_bind (wpAny_newTuple ?_);have hsz:h₅.objs.size=s.heap.objs.size:=by rw[hs₅.1,hs₄.1,hs₃.1,hs₂.1,hs₁.1]
  have hz₅:Bi h₅ z TI TO .ellipsis g1:=hs₅.extBut _ _ D.TOz.symm (hs₄.extBut _ _ D.i2z.symm (hs₃.extBut _ _ D.TOz.symm (hs₂.extBut _ _ D.i1z.symm hz₁)));have hk₅:∀ c o,c≠z->c≠TO->c≠i1->c≠i2->s.heap.get? c=some o->h₅.get? c=some o:=fun c o c1 c2 c3 c4 e =>
   hs₅.extBut _ _ c2 (hs₄.extBut _ _ c4 (hs₃.extBut _ _ c2 (hs₂.extBut _ _ c3 (hs₁.extBut _ _ c1 e))))
  have h1₅:h₅.IsListIter i1 l1 (k1+1):=((h1₂.extBut hs₃.extBut D.TOi1.symm).extBut hs₄.extBut D.i12).extBut hs₅.extBut D.TOi1.symm;have h2₅:h₅.IsListIter i2 l2 (k2+1):=h2₄.extBut hs₅.extBut D.TOi2.symm;have hzlt:z<h₅.objs.size:=Heap.lt_size hz₅;show wpAny _ _ (Builtin.SmallTypes.ownedTupleHandOut (.ref z) (.ref h₅.objs.size) >>= _) _ _ _;refine wpAny_bind ?_;unfold Builtin.SmallTypes.ownedTupleHandOut;have hz₆:Bi (h₅.push { cls:=.type "tuple",data:=.seq #[x,y] }) z TI TO .ellipsis g1:=Heap.get?_push_of_some _ hz₅;refine wpAny_bind (wpAny_setField_rec hz₆ (by simp) fun h₇ hz₇ hs₇=>?_)
  replace hz₇:Bi h₇ z TI TO (rawInt h₅.objs.size) g1:=hz₇
  refine wpAny_setField_rec hz₇ (by simp) fun h₈ hz₈ hs₈=>?_
  replace hz₈:Bi h₈ z TI TO (rawInt h₅.objs.size) (.bool false):=hz₈
  have up:∀ c o,c≠z->h₅.get? c=some o->h₈.get? c=some o:=fun c o c1 e=>hs₈.extBut _ _ c1 (hs₇.extBut _ _ c1 (Heap.get?_push_of_some _ e));have hT₈:IsPair h₈ h₅.objs.size x y:=hs₈.extBut _ _ (Nat.ne_of_gt hzlt) (hs₇.extBut _ _ (Nat.ne_of_gt hzlt) (Heap.get?_push_size _ rfl));have hz8:h₈.objs.size=h₅.objs.size+1:=by rw[hs₈.1,hs₇.1,Heap.size_push]
  have hloose:∃ g0 g1,Bi h₈ z TI TO g0 g1/\Loose g0 g1:=⟨_,_,hz₈,.inr ⟨_,rfl⟩,_,rfl⟩;rw[hsz]at hT₈ hz8;refine wpAny_pure ⟨_,rfl,?_⟩;show Q (.ref h₅.objs.size) _;rw[hsz];exact hQ h₈ hloose ⟨_,_,up _ _ D.TOz hTO₅⟩ (h1₅.at fun o e=>up _ o D.i1z e) (h2₅.at fun o e=>up _ o D.i2z e) hT₈ hz8 fun c o c1 c2 c3 c4 e=>up c o c1 (hk₅ c o c1 c2 c3 c4 e)
 |false =>
  simp only [Bool.false_eq_true,if_false];have hs₁:=hs₀;refine wpAny_bind ?_;rw[<-Array.forIn_toList];simp only [List.forIn_cons,List.forIn_nil];refine wpAny_bind (wpAny_bind (wpAny_holding ?_));show wpAny _ _ (Builtin.SmallTypes.nextOf (.ref i1) >>= _) _ _ _;refine wpAny_bind (wpAny_nextOf_list_item (h1.extBut hs₁.extBut D.i1z) (hl1.extBut hs₁.extBut D.l1z) hx fun h₂ h1₂ hs₂=>wpAny_pure (wpAny_pure ?_));refine wpAny_bind (wpAny_bind (wpAny_holding ?_));show wpAny _ _ (Builtin.SmallTypes.nextOf (.ref i2) >>= _) _ _ _;refine wpAny_bind (wpAny_nextOf_list_item ((h2.extBut hs₁.extBut D.i2z).extBut hs₂.extBut D.i12.symm)
   ((hl2.extBut hs₁.extBut D.l2z).extBut hs₂.extBut D.l2i1) hy fun h₄ h2₄ hs₄=>wpAny_pure (wpAny_pure (wpAny_pure ?_)))
  have hsz:h₄.objs.size=s.heap.objs.size:=by rw[hs₄.1,hs₂.1,hs₁.1]
  refine wpAny_bind (wpAny_newTuple (hsz:=by show 2<=sizeLine;decide) ?_);have up:∀ c o,c≠z->c≠i1->c≠i2->s.heap.get? c=some o->(h₄.push { cls:=.type "tuple",data:=.seq #[x,y] }).get? c=some o:=fun c o c1 c3 c4 e =>
   Heap.get?_push_of_some _ (hs₄.extBut _ _ c4 (hs₂.extBut _ _ c3 (hs₁.extBut _ _ c1 e)))
  have hz₄:Bi (h₄.push { cls:=.type "tuple",data:=.seq #[x,y] }) z TI TO f0 g1:=Heap.get?_push_of_some _ (hs₄.extBut _ _ D.i2z.symm (hs₂.extBut _ _ D.i1z.symm ajk));have hT₈:IsPair (h₄.push { cls:=.type "tuple",data:=.seq #[x,y] }) h₄.objs.size x y:=Heap.get?_push_size _ rfl;have hz8:(h₄.push { cls:=.type "tuple",data:=.seq #[x,y] }).objs.size=h₄.objs.size+1:=Heap.size_push ..;refine wpAny_pure ⟨_,rfl,?_⟩;show Q (.ref h₄.objs.size) { s with heap:=h₄.push { cls:=.type "tuple",data:=.seq #[x,y] } };rw[hsz]at hT₈ hz8 ⊢;exact hQ _ ⟨_,_,hz₄,hl₀⟩ ⟨a,b,up _ _ D.TOz D.TOi1 D.TOi2 hTO⟩ ((h1₂.extBut hs₄.extBut D.i12).at fun o e=>Heap.get?_push_of_some _ e) (h2₄.at fun o e=>Heap.get?_push_of_some _ e) hT₈ hz8 fun c o c1 _ c3 c4 e=>up c o c1 c3 c4 e
theorem ad1 {z TI TO i1 i2 l1 l2:Addr}{k1:Nat}{xs:Array Value}{a b f0 f1:Value}{Q:Fin->Shared->Prop}(hh:A.handled=none)(D:ZipApart z TI TO i1 i2 l1 l2)
  (hz:Bi s.heap z TI TO f0 f1) (hf:Loose f0 f1) (hTI:IsPair s.heap TI (.ref i1) (.ref i2)) (hTO:IsPair s.heap TO a b)
  (h1:s.heap.IsListIter i1 l1 k1) (hl1:s.heap.IsList l1 xs) (hend:xs[k1]? = none)
  (hE:∀ h' e,(∀ c o,c≠z->c≠TO->c≠i1->c≠i2->s.heap.get? c=some o->h'.get? c=some o)->(∃ o,h'.get? e=some o/\o.cls=.type "StopIteration")->E (.ref e) { s with heap:=h' }) :
  wpAny (model prog w) A (Builtin.«zip.__next__» ⟨[.ref z],[]⟩) Q E s:=by
 show wpAny _ _ (field (.ref z) 2 >>= _) _ _ _;refine wpAny_bind (wpAny_field hz rfl (x:=.bool false) rfl ?_);show wpAny _ _ (field (.ref z) 3 >>= _) _ _ _;refine wpAny_bind (wpAny_field hz rfl (x:=.ref TI) rfl ?_);refine wpAny_bind (wpAny_seqItems hTI rfl ?_);show wpAny _ _ (Builtin.SmallTypes.ownedTupleIsFree (.ref z) >>= _) _ _ _;refine wpAny_bind (Vf hz hf fun r h₀ g1 ajk hl₀ hs₀=>?_);cases r with
 |true =>
  simp only [if_true];refine wpAny_bind (wpAny_rule ?_);refine wpAny_bind (wpAny_field ajk rfl (x:=.ref TO) rfl ?_);refine wpAny_bind (wpAny_setField_rec ajk (by simp) fun h₁ hz₁ ad0=>?_)
  replace hz₁:Bi h₁ z TI TO .ellipsis g1:=hz₁
  have hs₁:Heap.SameBut z s.heap h₁:=⟨ad0.1.trans hs₀.1,fun c hc=>(ad0.2 c hc).trans (hs₀.2 c hc)⟩;refine wpAny_bind ?_;simp only [List.zipIdx_cons,List.zipIdx_nil,List.forIn_cons,List.forIn_nil];refine wpAny_bind (wpAny_bind (wpAny_onRaise ?_));show wpAny _ _ (Builtin.SmallTypes.nextOf (.ref i1) >>= _) _ _ _;refine wpAny_bind (wpAny_nextOf_list_end hh (h1.extBut hs₁.extBut D.i1z) (hl1.extBut hs₁.extBut D.l1z) hend fun h₂ e hs₂ he=>?_);obtain⟨oe,hoe,hce⟩:=he;have hz₂:Bi h₂ z TI TO .ellipsis g1:=hs₂ _ _ D.i1z.symm hz₁;have hez:e≠z:=fun x=>by subst x;rw[hz₂]at hoe;cases hoe;simp at hce
  refine wpAny_setField_rec hz₂ (by simp) fun h₃ _ hs₃=>hE h₃ e (fun c o c1 _ c3 _ x=>hs₃.extBut _ _ c1 (hs₂ _ _ c3 (hs₁.extBut _ _ c1 x))) ⟨oe,hs₃.extBut _ _ hez hoe,hce⟩
 |false =>
  simp only [Bool.false_eq_true,if_false];refine wpAny_bind ?_;rw[<-Array.forIn_toList];simp only [List.forIn_cons,List.forIn_nil];refine wpAny_bind (wpAny_bind (wpAny_holding ?_));show wpAny _ _ (Builtin.SmallTypes.nextOf (.ref i1) >>= _) _ _ _;exact wpAny_bind (wpAny_nextOf_list_end hh (h1.extBut hs₀.extBut D.i1z) (hl1.extBut hs₀.extBut D.l1z) hend fun h₂ e hs₂ he=>hE h₂ e (fun c o c1 _ c3 _ x=>hs₂ _ _ c3 (hs₀.extBut _ _ c1 x)) he)
def ad2 (z TI TO i1 i2 a b:Addr)(i:Nat)(h:Heap):Prop:=(∃ f0 f1,Bi h z TI TO f0 f1/\Loose f0 f1)/\IsPair h TI (.ref i1) (.ref i2)/\(∃ x y,IsPair h TO x y)/\h.IsListIter i1 a i/\h.IsListIter i2 b i
theorem afX {e z TI TO i1 i2 l1 l2:Addr}{i:Nat}{xs ys:Array Value}{x y old:Value}{Q:Option Value->Shared->Prop}(D:ZipApart z TI TO i1 i2 l1 l2)(hne:∀ c∈[z,TI,TO,i1,i2],e≠c)
  (he:IsEnum s.heap e z i old) (hst:ad2 z TI TO i1 i2 l1 l2 i s.heap) (hl1:s.heap.IsList l1 xs) (hl2:s.heap.IsList l2 ys) (hx:xs[i]? = some x) (hy:ys[i]? = some y)
  (hQ:∀ h' tk,IsEnumOut h' e z ((i:Int)+1) (.ref s.heap.objs.size) (s.heap.objs.size+1)->ad2 z TI TO i1 i2 l1 l2 (i+1) h'->IsPair h' s.heap.objs.size x y ->
   h'.get? (s.heap.objs.size+1)=some { cls:=.type "tuple",data:=.seq #[.int i tk,.ref s.heap.objs.size] } ->
   (∀ c o,c ∉ [e,z,TO,i1,i2]->s.heap.get? c=some o->h'.get? c=some o)->Q (some (.ref (s.heap.objs.size+1))) { s with heap:=h',toks:=tk+1 }) :
  wpAny (model prog w) A (pyNext (.ref e)) Q E s:=by
 have hT:s.TypeIs (.ref e) "enumerate":=⟨_,he,rfl⟩;unfold pyNext;refine wpAny_bind (wpAny_attempt (wpAny_callSpecial?_slot (name:=Str.ofString "__next__") hT slot_enumerate_next
  (wpAny_call_entry slot_enumerate_next hT PySem.F.entry_enumerate_next ?_ (PySem.F.args_enumerate_next_1 _))))
 obtain⟨hp,g,d,tk,os⟩:=s;obtain⟨⟨f0,f1,hz,hlo⟩,hTI,⟨ta,tb,hTO⟩,g1,g2⟩:=hst;have ne:=fun c hc=>(hne c hc);have ez:e≠z:=hne z (by simp);have eTI:e≠TI:=hne TI (by simp);have eTO:e≠TO:=hne TO (by simp);have ei1:e≠i1:=hne i1 (by simp);have ei2:e≠i2:=hne i2 (by simp);show wpAny _ _ (field (.ref e) 2 >>= _) _ _ _;refine wpAny_bind (wpAny_field he rfl (x:=.ref z) rfl ?_);refine wpAny_bind ?_;have hTz:Shared.TypeIs ⟨hp,g,d,tk,os⟩ (.ref z) "zip":=⟨_,hz,rfl⟩;unfold Builtin.SmallTypes.nextOf;refine wpAny_bind (wpAny_callSpecial?_slot (name:=Str.ofString "__next__") hTz slot_zip_next
  (wpAny_call_entry slot_zip_next hTz entry_zip_next (abJ D hz hlo hTI hTO g1 g2 hl1 hl2 hx hy fun h₁ q1 q2 q3 q4 q5 q6 q7=>wpAny_pure ?_) (PySem.F.args_zip_next_1 _)))
 replace q5:IsPair h₁ hp.objs.size x y:=q5
 replace q6:h₁.objs.size=hp.objs.size+1:=q6
 replace q7:∀ c o,c≠z->c≠TO->c≠i1->c≠i2->hp.get? c=some o->h₁.get? c=some o:=q7
 have he₁:IsEnum h₁ e z i old:=q7 e _ ez eTO ei1 ei2 he;have st₁:ad2 z TI TO i1 i2 l1 l2 (i+1) h₁:=⟨q1,q7 TI _ D.TIz D.TITO D.TIi1 D.TIi2 hTI,q2,q3,q4⟩;show wpAny _ _ (field (.ref e) 3 >>= _) _ _ ⟨h₁,g,d,tk,os⟩;refine wpAny_bind (wpAny_field he₁ rfl (x:=rawInt i) rfl ?_);show wpAny _ _ (field (.ref e) 4 >>= _) _ _ ⟨h₁,g,d,tk,os⟩;refine wpAny_bind (wpAny_field he₁ rfl (x:=.none) rfl ?_);show wpAny _ _ (mkInt i >>= _) _ _ ⟨h₁,g,d,tk,os⟩;refine wpAny_bind (wpAny_mkInt ?_);show wpAny _ _ (setField (.ref e) 3 (rawInt ((i:Int)+1)) >>= _) _ _ ⟨h₁,g,d,tk+1,os⟩;refine wpAny_bind (wpAny_setField_rec he₁ (by simp) fun h₂ he₂ hs₂=>?_)
 replace hs₂:Heap.SameBut e h₁ h₂:=hs₂
 replace he₂:IsEnum h₂ e z ((i:Int)+1) old:=he₂
 show wpAny _ _ (setField (.ref e) 4 .none >>= _) _ _ ⟨h₂,g,d,tk+1,os⟩;refine wpAny_bind (wpAny_setField_rec he₂ (by simp) fun h₃ he₃ hs₃=>?_)
 replace hs₃:Heap.SameBut e h₂ h₃:=hs₃
 replace he₃:IsEnum h₃ e z ((i:Int)+1) old:=he₃
 show wpAny _ _ (newTuple [.int i tk,.ref hp.objs.size] >>= _) _ _ ⟨h₃,g,d,tk+1,os⟩;refine wpAny_bind (wpAny_newTuple ?_);have he₄:IsEnum (h₃.push { cls:=.type "tuple",data:=.seq #[.int i tk,.ref hp.objs.size] }) e z ((i:Int)+1) old:=Heap.get?_push_of_some _ he₃;have hsz:h₃.objs.size=hp.objs.size+1:=by rw[hs₃.1,hs₂.1,q6]
 have hel:e<hp.objs.size:=Heap.lt_size he;have ht₄:(h₃.push { cls:=.type "tuple",data:=.seq #[.int i tk,.ref hp.objs.size] }).get? (hp.objs.size+1)=some { cls:=.type "tuple",data:=.seq #[.int i tk,.ref hp.objs.size] }:=by rw[<-hsz];exact Heap.get?_push_size _ rfl
 have an2:∀ c o,c≠e->h₁.get? c=some o->(h₃.push { cls:=.type "tuple",data:=.seq #[.int i tk,.ref hp.objs.size] }).get? c=some o:=fun c o hc q =>
  Heap.get?_push_of_some _ (hs₃.extBut c o hc (hs₂.extBut c o hc q))
 generalize h₃.push { cls:=.type "tuple",data:=.seq #[.int i tk,.ref hp.objs.size] } = h₄ at he₄ ht₄ an2;show wpAny _ _ (Builtin.SmallTypes.ownedTupleIsFree (.ref e) >>= _) _ _ ⟨h₄,g,d,tk+1,os⟩;rw[hsz];refine wpAny_bind ?_;unfold Builtin.SmallTypes.ownedTupleIsFree;refine wpAny_bind (wpAny_field he₄ rfl (x:=.none) rfl (wpAny_pure ?_));simp only [if_true];refine wpAny_bind (wpAny_rule ?_);refine wpAny_bind (wpAny_field he₄ rfl (x:=old) rfl ?_);refine wpAny_bind (wpAny_setField_rec he₄ (by simp) fun h₅ he₅ hs₅=>?_)
 replace hs₅:Heap.SameBut e h₄ h₅:=hs₅
 replace he₅:IsEnum h₅ e z ((i:Int)+1) (.ref hp.objs.size):=he₅
 show wpAny _ _ (Builtin.SmallTypes.ownedTupleHandOut (.ref e) (.ref (hp.objs.size+1)) >>= _) _ _ ⟨h₅,g,d,tk+1,os⟩;refine wpAny_bind ?_;unfold Builtin.SmallTypes.ownedTupleHandOut;refine wpAny_bind (wpAny_setField_rec he₅ (by simp) fun h₆ he₆ hs₆=>?_)
 replace hs₆:Heap.SameBut e h₅ h₆:=hs₆
 replace he₆:IsEnumOut h₆ e z ((i:Int)+1) (.ref hp.objs.size) (hp.objs.size+1):=he₆
 refine wpAny_setField_rec he₆ (by simp) fun h₇ he₇ hs₇=>?_
 replace hs₇:Heap.SameBut e h₆ h₇:=hs₇
 replace he₇:IsEnumOut h₇ e z ((i:Int)+1) (.ref hp.objs.size) (hp.objs.size+1):=he₇
 have up:∀ c o,c≠e->h₁.get? c=some o->h₇.get? c=some o:=fun c o hc q=>hs₇.extBut c o hc (hs₆.extBut c o hc (hs₅.extBut c o hc (an2 c o hc q)));have nT:(hp.objs.size:Nat)≠e:=Nat.ne_of_gt hel;have nT1:(hp.objs.size+1:Nat)≠e:=Nat.ne_of_gt (Nat.lt_succ_of_lt hel);refine wpAny_bind (wpAny_letGo (wpAny_pure ⟨_,rfl,wpAny_pure (hQ h₇ tk he₇ ?_ (up _ _ nT q5) ?_ ?_)⟩))
 ·obtain⟨⟨u0,u1,u2,u3⟩,u4,⟨u5,u6,u7⟩,u8,u9⟩:=st₁;exact⟨⟨u0,u1,up _ _ ez.symm u2,u3⟩,up _ _ eTI.symm u4,⟨u5,u6,up _ _ eTO.symm u7⟩,u8.at fun o q=>up _ o ei1.symm q,u9.at fun o q=>up _ o ei2.symm q⟩
 ·exact hs₇.extBut _ _ nT1 (hs₆.extBut _ _ nT1 (hs₅.extBut _ _ nT1 ht₄))
 ·intro c o hc q;have hc':c≠e/\c≠z/\c≠TO/\c≠i1/\c≠i2:=by simpa using hc
  exact up c o hc'.1 (q7 c o hc'.2.1 hc'.2.2.1 hc'.2.2.2.1 hc'.2.2.2.2 q)
theorem aie {e z TI TO i1 i2 l1 l2:Addr}{i:Nat}{xs:Array Value}{old:Value}{Q:Option Value->Shared->Prop}(hh:A.handled=none)(D:ZipApart z TI TO i1 i2 l1 l2)
  (he:IsEnum s.heap e z i old) (hst:ad2 z TI TO i1 i2 l1 l2 i s.heap) (hl1:s.heap.IsList l1 xs) (hx:xs[i]? = none)
  (hQ:∀ h',(∀ c o,c ∉ [e,z,TO,i1,i2]->s.heap.get? c=some o->h'.get? c=some o)->Q none { s with heap:=h' }):wpAny (model prog w) A (pyNext (.ref e)) Q E s:=by
 have hT:s.TypeIs (.ref e) "enumerate":=⟨_,he,rfl⟩;obtain⟨⟨f0,f1,hz,hlo⟩,hTI,⟨ta,tb,hTO⟩,g1,g2⟩:=hst;unfold pyNext;refine wpAny_bind (wpAny_attempt (wpAny_callSpecial?_slot (name:=Str.ofString "__next__") hT slot_enumerate_next
  (wpAny_call_entry slot_enumerate_next hT PySem.F.entry_enumerate_next ?_ (PySem.F.args_enumerate_next_1 _))))
 show wpAny _ _ (field (.ref e) 2 >>= _) _ _ _;refine wpAny_bind (wpAny_field he rfl (x:=.ref z) rfl ?_);refine wpAny_bind ?_;have hTz:s.TypeIs (.ref z) "zip":=⟨_,hz,rfl⟩;unfold Builtin.SmallTypes.nextOf;refine wpAny_bind (wpAny_callSpecial?_slot (name:=Str.ofString "__next__") hTz slot_zip_next
  (wpAny_call_entry slot_zip_next hTz entry_zip_next (ad1 hh D hz hlo hTI hTO g1 hl1 hx fun h' x hk hx'=>?_) (PySem.F.args_zip_next_1 _)))
 obtain⟨o,ho,hc⟩:=hx';refine wpAny_bind (wpAny_isInstance (T:="StopIteration") (b:=true) ⟨o,ho,hc⟩ isSubtype_stop ?_);refine wpAny_pure (hQ _ fun c o hc q=>?_);have hc':c≠e/\c≠z/\c≠TO/\c≠i1/\c≠i2:=by simpa using hc
 exact hk c o hc'.2.1 hc'.2.2.1 hc'.2.2.2.1 hc'.2.2.2.2 q
theorem yt (z TI TO:Addr) :
  Meets (Builtin.«enumerate.__new__» ⟨[.type "enumerate",.ref z],[]⟩) (fun _ R s=>IsZip s.heap z TI TO .none /\
   R (.ok (.ret (.ref s.heap.objs.size)))
    { s with heap:=s.heap.push { cls:=.type "enumerate",data:=.fields #[.none,.bool false,.ref z,rawInt 0,.none,.none] } }) :=
 .of_wp fun prog w A R s h=>by
  obtain⟨hp,g,d,tk,os⟩:=s;obtain⟨hl,h⟩:=h;have hsub:=sub_enumerate;have hL:IsZip (Shared.heap ⟨hp,g,d,tk,os⟩) z TI TO .none:=hl
  wp_walk using wpAny_loadPart' hl
  refine wpAny_stack_any fun st=>wpAny_pure ?_;split
  ·rename_i c _ _ _ _ _
   cases (c==Value.type "enumerate")
   ·wp_walk using wpAny_loadPart' hl,wpAny_pyIter_zip hL
    exact⟨_,rfl,h⟩
   ·wp_walk using wpAny_loadPart' hl,wpAny_pyIter_zip hL
    exact⟨_,rfl,h⟩
  ·wp_walk using wpAny_loadPart' hl,wpAny_pyIter_zip hL
   exact⟨_,rfl,h⟩
theorem Bj {z TI TO:Addr}{Q:Value->Shared->Prop}(hz:IsZip s.heap z TI TO .none)
  (h:∀ h',IsEnum h' s.heap.objs.size z 0 .none->(∀ b o,s.heap.get? b=some o->h'.get? b=some o)->Q (.ref s.heap.objs.size) { s with heap:=h' }) :
  wpAny (model prog w) A (call (.type "enumerate") [.ref z]) Q E s:=by
 refine callType_new PySem.F.called_enumerate (by decide) (PySem.F.typeCall_enumerate_1 _) (PySem.F.newCall_enumerate_1 _) (fun obj=>PySem.F.args_object_init_2 obj _) PySem.F.entry_enumerate_new
  (yt z TI TO) ⟨hz,?_⟩
 show _/\_;have he:IsEnum (s.heap.push { cls:=.type "enumerate",data:=.fields #[.none,.bool false,.ref z,rawInt 0,.none,.none] }) s.heap.objs.size z 0 .none:=Heap.get?_push_size _ rfl;exact⟨⟨_,he,rfl⟩,h _ he fun b o x=>Heap.get?_push_of_some _ x⟩
end
end L2
set_option maxHeartbeats 4000000
namespace L2
open PySem PySem.Spec PyProof.Rows
section
variable {X:Cx} {pins:List (Addr×Obj)} {σ:St} {H:Hp} {s:Shared}
theorem Inv.afY {tk:Nat}{h':Heap}{wr:List Addr}{T U:Addr}{xs ys:List V}{vals vals2:List Value}(I:Inv X pins σ H s)(hw:∀ b∈wr,pS X pins H b)(hT:s.heap.objs.size<=T)(hU:s.heap.objs.size<=U)(hTU:T≠U)
  (ht:h'.IsTuple T vals.toArray) (rv:Vals xs vals) (hz:xs.length<=sizeLine) (hu:h'.IsTuple U vals2.toArray) (rv2:Vals ys vals2) (hz2:ys.length<=sizeLine)
  (kk:∀ b o,b ∉ wr->s.heap.get? b=some o->h'.get? b=some o) (there:∀ b∈wr,∃ o,h'.get? b=some o):Inv X pins σ (upd (upd H T (.tup xs)) U (.tup ys)) { s with heap:=h',toks:=tk }:=by
 have hTn:H T=none:=I.hok.fresh hT;have hUn:H U=none:=I.hok.fresh hU;have nT:∀ b o,s.heap.get? b=some o->b≠T:=fun b o e=>Nat.ne_of_lt (Nat.lt_of_lt_of_le (Heap.lt_size e) hT);have nU:∀ b o,s.heap.get? b=some o->b≠U:=fun b o e=>Nat.ne_of_lt (Nat.lt_of_lt_of_le (Heap.lt_size e) hU);have up:∀{b:Addr} {o:HO},H b=some o->upd (upd H T (.tup xs)) U (.tup ys) b=some o:=fun e=>by
  rw[ak (ao e hUn),ak (ao e hTn)];exact e
 refine I.step (g':=s.gens) (d':=s.drawn) (ch:=wr) (fun b hb=>?_) (fun b o _ _ hc e _=>kk b o hc e) (fun b o _ _ hc e _=>⟨o.slots,kk b o hc e⟩) (fun b o _ e n=>by rw[ak (nU b o e),ak (nT b o e)];exact n)
  (fun b o hc e=>⟨o,kk b o hc e⟩) (fun b ys e=>up e) (fun b o u e=>up e) (fun b ps e=>⟨#[],by rw[up e];simp⟩) (fun m hm=>?_) (fun b u e=>?_) I.bare
 ·obtain⟨_,f1,_,f3,f4,f5⟩:=hw b hb;exact⟨f3,f1,f4,f5⟩
 ·obtain⟨o,es,ep,ho,r⟩:=hm;exact⟨o,es,ep,kk _ o (fun z=>(hw _ z).2.1 rfl) ho,r⟩
 ·by_cases hb:b=U
  ·subst hb;rw[ae]at e;cases e;exact⟨hz2,vals2,rv2,hu⟩
  ·rw[ak hb]at e
   by_cases hb2:b=T
   ·subst hb2;rw[ae]at e;cases e;exact⟨hz,vals,rv,ht⟩
   ·rw[ak hb2]at e;refine(I.hok b u e).stay (fun c v hc q=>kk c v (fun z=>?_) q) (fun c q=>up q) fun c ys q=>up q;have hn:=(hw c z).1;rcases hc with hc|hc
    ·rw[hc,e]at hn;cases hn
    ·rw[hc]at hn;cases hn
def abK (K:Frag)(a b:Addr):It :=
 ⟨fun i H=>∃ xs ys x y,aX K H a xs/\aX K H b ys/\xs[i]? = some x/\ys[i]? = some y,
  fun i H p H'=>∃ x y t0 t1,p=.ref t1/\H t0=none/\H t1=none/\t0≠t1/\(∀ xs,aX K H a xs->xs[i]? = some x)/\(∀ ys,aX K H b ys->ys[i]? = some y)/\H'=upd (upd H t0 (.tup [x,y])) t1 (.tup [.int i,.ref t0]),
  fun i H=>∃ xs ys,aX K H a xs/\aX K H b ys/\xs.length<=i⟩
theorem afZ {P:Program}{w:World}{K:Frag}{es:List Expr}{k:Nat}{tp:Pos}{e z TI TO i1 i2:Addr}(a b:Addr)(O:Bh z TI TO i1 i2)(hne:∀ c∈[z,TI,TO,i1,i2],e≠c) :
  Turn P w K (.Tuple es k tp) (abK K a b) [e,z,TI,TO,i1,i2] e (fun i h=>(∃ old,IsEnum h e z i old)/\ad2 z TI TO i1 i2 a b i h) where
 mem:=by simp
 obj:=fun i h st c hc=>by
  obtain⟨⟨old,he⟩,⟨f0,f1,hz,_⟩,hTI,⟨x,y,hTO⟩,⟨o1,e1,_,d1⟩,⟨o2,e2,_,d2⟩⟩:=st;have hc':c=e\/c=z\/c=TI\/c=TO\/c=i1\/c=i2:=by simpa using hc
  rcases hc' with rfl|rfl|rfl|rfl|rfl|rfl
  ·exact⟨_,he,fun v q=>by
    have q':Data.fields _=Data.cell v:=q;cases q'⟩
  ·exact⟨_,hz,fun v q=>by
    have q':Data.fields _=Data.cell v:=q;cases q'⟩
  ·exact⟨_,hTI,fun v q=>by
    have q':Data.seq _ _=Data.cell v:=q;cases q'⟩
  ·exact⟨_,hTO,fun v q=>by
    have q':Data.seq _ _=Data.cell v:=q;cases q'⟩
  ·exact⟨o1,e1,fun v q=>by rw[d1]at q;cases q⟩
  ·exact⟨o2,e2,fun v q=>by rw[d2]at q;cases q⟩
 keep:=fun i h h' st kp=>by
  obtain⟨⟨old,he⟩,⟨f0,f1,hz,hl⟩,hTI,⟨x,y,hTO⟩,h1,h2⟩:=st;exact⟨⟨old,kp e (by simp) _ he⟩,⟨f0,f1,kp z (by simp) _ hz,hl⟩,kp TI (by simp) _ hTI,⟨x,y,kp TO (by simp) _ hTO⟩,h1.at fun o q=>kp i1 (by simp) o q,h2.at fun o q=>kp i2 (by simp) o q⟩
 item:=by
  intro X hP hw hK hc i pins s σ H E I hf st hg;subst hP hw hK;obtain⟨xs,ys,x,y,hq,hq2,hx,hy⟩:=hg;obtain⟨⟨old,he⟩,stz⟩:=st;have D:ZipApart z TI TO i1 i2 a b:=by
   obtain⟨⟨f0,f1,hz,_⟩,hTI,⟨x,y,hTO⟩,⟨o1,e1,c1,_⟩,⟨o2,e2,c2,_⟩⟩:=stz;have nz:∀{c:Addr} {zs:List V},aX X.K H c zs->c≠z:=fun h=>cM (K:=X.K) I h hz (by intro q;injection q with q;exact absurd q (by decide));have nT:∀{c:Addr} {zs:List V},aX X.K H c zs->c≠TO:=fun h=>cM (K:=X.K) I h hTO (by intro q;injection q with q;exact absurd q (by decide));have n1:∀{c:Addr} {zs:List V},aX X.K H c zs->c≠i1:=fun h=>cM (K:=X.K) I h e1 (by rw[c1];intro q;injection q with q;exact absurd q (by decide));have n2:∀{c:Addr} {zs:List V},aX X.K H c zs->c≠i2:=fun h=>cM (K:=X.K) I h e2 (by rw[c2];intro q;injection q with q;exact absurd q (by decide));exact⟨O.TIz,O.TOz,O.i1z,O.i2z,O.TITO,O.TIi1,O.TIi2,O.TOi1,O.TOi2,O.i12,nz hq,nT hq,n1 hq,n2 hq,nz hq2,nT hq2,n1 hq2,n2 hq2⟩
  obtain⟨its,rv,p,_⟩:=I.list hq;obtain⟨its2,rv2,p2,_⟩:=I.list hq2;obtain⟨u,hu,ru⟩:=rv.get hx;obtain⟨u2,hu2,ru2⟩:=rv2.get hy;refine afX D hne he stz p.isList p2.isList (x:=u) (y:=u2) (by simpa using hu) (by simpa using hu2) fun h' tk q1 q2 q3 q4 kk=>?_;refine⟨_,rfl,?_⟩;have sub:∀ c∈[e,z,TO,i1,i2],c∈[e,z,TI,TO,i1,i2]:=fun c hc=>by
   have:c=e\/c=z\/c=TO\/c=i1\/c=i2:=by simpa using hc
   simp;rcases this with r|r|r|r|r <;> simp[r]
  have fw:∀ c∈[e,z,TO,i1,i2],pS X pins H c:=fun c hc=>hf c (sub c hc);have I1:Inv X pins σ (upd (upd H s.heap.objs.size (.tup [x,y])) (s.heap.objs.size+1) (.tup [.int i,.ref s.heap.objs.size])) { s with heap:=h',toks:=tk+1 }:=by
   refine I.afY (vals:=[u,u2]) (vals2:=[.int i tk,.ref s.heap.objs.size]) fw (Nat.le_refl _) (Nat.le_succ _) (Nat.ne_of_lt (Nat.lt_succ_self _)) ⟨_,q3,rfl,_,rfl⟩ (.cons ru (.cons ru2 .nil)) (by show 2<=sizeLine;decide)
    ⟨_,q4,rfl,_,rfl⟩ (.cons ⟨tk,rfl⟩ (.cons rfl .nil)) (by show 2<=sizeLine;decide) kk fun c hc=>?_
   obtain⟨⟨f0,f1,m1,_⟩,_,⟨_,_,m2⟩,⟨o1,m3,_⟩,⟨o2,m4,_⟩⟩:=q2;have:c=e\/c=z\/c=TO\/c=i1\/c=i2:=by simpa using hc
   rcases this with rfl|rfl|rfl|rfl|rfl
   ·exact⟨_,q1⟩
   ·exact⟨_,m1⟩
   ·exact⟨_,m2⟩
   ·exact⟨_,m3⟩
   ·exact⟨_,m4⟩
  have hT0:H s.heap.objs.size=none:=I.hok.fresh (Nat.le_refl _);have hT1:H (s.heap.objs.size+1)=none:=I.hok.fresh (Nat.le_succ _);have lt:∀ c∈[e,z,TI,TO,i1,i2],c<s.heap.objs.size:=fun c hc=>by
   obtain⟨⟨f0,f1,m1,_⟩,m5,⟨_,_,m2⟩,⟨o1,m3,_⟩,⟨o2,m4,_⟩⟩:=stz;have hc':c=e\/c=z\/c=TI\/c=TO\/c=i1\/c=i2:=by simpa using hc
   rcases hc' with rfl|rfl|rfl|rfl|rfl|rfl
   ·exact Heap.lt_size he
   ·exact Heap.lt_size m1
   ·exact Heap.lt_size m5
   ·exact Heap.lt_size m2
   ·exact Heap.lt_size m3
   ·exact Heap.lt_size m4
  refine wpAny_letOwnedTupleGo_enum q1 fun h'' amy hs''=>?_;have hf2:∀ c∈[e,z,TI,TO,i1,i2],pS X pins (upd (upd H s.heap.objs.size (.tup [x,y])) (s.heap.objs.size+1) (.tup [.int i,.ref s.heap.objs.size])) c:=fun c hc=>by
   obtain⟨f0,fr⟩:=hf c hc;have l:=lt c hc;exact⟨by rw[ak (Nat.ne_of_lt (Nat.lt_succ_of_lt l)),ak (Nat.ne_of_lt l)];exact f0,fr⟩
  have kk2:∀ c o,c ∉ [e]->h'.get? c=some o->h''.get? c=some o:=fun c o hc q=>hs''.extBut c o (fun r=>hc (by simp[r])) q;have up:∀{c:Addr} {o:Obj},c∈[z,TI,TO,i1,i2]->h'.get? c=some o->h''.get? c=some o:=fun hc q=>hs''.extBut _ _ (hne _ hc).symm q;have fe:∀ c∈[e],pS X pins (upd (upd H s.heap.objs.size (.tup [x,y])) (s.heap.objs.size+1) (.tup [.int i,.ref s.heap.objs.size])) c:=fun c hc=>by
   have:c=e:=by simpa using hc
   exact hf2 c (by simp[this])
  refine⟨.ref (s.heap.objs.size+1),_,I1.kF (tk:=tk+1) (wr:=[e]) fe kk2,rfl,⟨x,y,s.heap.objs.size,s.heap.objs.size+1,rfl,hT0,hT1,Nat.ne_of_lt (Nat.lt_succ_self _),vi I hq hx,vi I hq2 hy,rfl⟩,?_,fun c hc=>(hf2 c hc).1⟩;obtain⟨⟨f0,f1,m1,m1'⟩,m5,⟨_,_,m2⟩,m3,m4⟩:=q2;exact⟨⟨_,by simpa using amy⟩,⟨f0,f1,up (by simp) m1,m1'⟩,up (by simp) m5,⟨_,_,up (by simp) m2⟩,m3.at fun o q=>up (by simp) q,m4.at fun o q=>up (by simp) q⟩
 done:=by
  intro X hP hw hK hc i pins s σ H E I hf st hg;subst hP hw hK;obtain⟨xs,ys,hq,hq2,hx⟩:=hg;obtain⟨⟨old,he⟩,stz⟩:=st;have D:ZipApart z TI TO i1 i2 a b:=by
   obtain⟨⟨f0,f1,hz,_⟩,hTI,⟨x,y,hTO⟩,⟨o1,e1,c1,_⟩,⟨o2,e2,c2,_⟩⟩:=stz;have nz:∀{c:Addr} {zs:List V},aX X.K H c zs->c≠z:=fun h=>cM (K:=X.K) I h hz (by intro q;injection q with q;exact absurd q (by decide));have nT:∀{c:Addr} {zs:List V},aX X.K H c zs->c≠TO:=fun h=>cM (K:=X.K) I h hTO (by intro q;injection q with q;exact absurd q (by decide));have n1:∀{c:Addr} {zs:List V},aX X.K H c zs->c≠i1:=fun h=>cM (K:=X.K) I h e1 (by rw[c1];intro q;injection q with q;exact absurd q (by decide));have n2:∀{c:Addr} {zs:List V},aX X.K H c zs->c≠i2:=fun h=>cM (K:=X.K) I h e2 (by rw[c2];intro q;injection q with q;exact absurd q (by decide));exact⟨O.TIz,O.TOz,O.i1z,O.i2z,O.TITO,O.TIi1,O.TIi2,O.TOi1,O.TOi2,O.i12,nz hq,nT hq,n1 hq,n2 hq,nz hq2,nT hq2,n1 hq2,n2 hq2⟩
  obtain⟨its,rv,p,_⟩:=I.list hq;have hl:=rv.length;refine aie (I.ok.hd hc) D he stz p.isList (Array.getElem?_eq_none (by simp;omega)) fun h' kk=>?_;refine⟨rfl,I.kF (tk:=s.toks) (wr:=[e,z,TO,i1,i2]) (fun c hc=>hf c ?_) kk⟩;have:c=e\/c=z\/c=TO\/c=i1\/c=i2:=by simpa using hc
  simp;rcases this with r|r|r|r|r <;> simp[r]
 self:=fun _ _ _ _ _ st h=>by
  obtain⟨⟨old,he⟩,_⟩:=st;exact wpAny_pyIter_enum he h
inductive aj4 (K:Frag)(R:(It->Hp->Prop))(x:V)(y:V)(H2:Hp):Prop
 |mk (a:_) (b:_) (eO:x=.ref a) (eP:y=.ref b) (hX:(∃ xs,aX K H2 a xs)/\(∃ ys,aX K H2 b ys)/\R (abK K a b) H2):aj4 K R x y H2
def iEz (K:Frag)(tl tm:TE):TI:=fun σ H R=>tl σ H fun x H1=>tm σ H1 fun y H2=>aj4 K R x y H2
theorem af0 {l m:Expr}{tl tm:TE}{p pos:Pos}(hg:Gl X "zip")(hz:X.mg "zip"=none)(hl:PE X l tl)(hm:PE X m tm)(hs:starEach [l,m] X.env=[(false,eval l X.env),(false,eval m X.env)])(hs2:starEach [m] X.env=[(false,eval m X.env)])
  {R:V->V->Hp->Prop} (I:Inv X pins σ H s) (h:tl σ H fun x H1=>tm σ H1 fun y H2=>R x y H2) (hR:∀ x y H1,R x y H1->∃ a b,x=.ref a/\y=.ref b/\(∃ xs,aX X.K H1 a xs)/\∃ ys,aX X.K H1 b ys) :
  wpAny (model X.prog X.w) X.A (eval (.Call (.Name "zip" p) [l,m] [] pos) X.env) (fun v s1=>∃ a b z TI TO i1 i2 H1,R (.ref a) (.ref b) H1/\v=.ref z/\Inv X pins σ H1 s1/\Bh z TI TO i1 i2/\IsZip s1.heap z TI TO .none/\aaQ z TI TO i1 i2 a b 0 s1.heap/\∀ c∈[z,TI,TO,i1,i2],pS X pins H1 c) X.xe s:=by
 refine Call_ (uF I hg hz adS (PyProof.Rows.callWith_type1 (cH (adX hl hm hs hs2 pos pins s σ H I h) fun us s1 ⟨x,y,u,v,H1,I1,e1,r1,r2,q1⟩=>?_) (by rw[hs,hs2]) (by rw[hs2];rfl)));obtain⟨a,b,rfl,rfl,⟨xs,hq⟩,⟨ys,hq2⟩⟩:=hR _ _ _ q1;subst e1;cases r1;cases r2;obtain⟨its,rv,pl,_⟩:=I1.list hq;obtain⟨its2,rv2,pl2,_⟩:=I1.list hq2;refine call_zip_2 pl.isList pl2.isList fun h' z1 z2 z3 z4 z5 hsz kk=>?_;have O:Bh (s1.heap.objs.size+4) (s1.heap.objs.size+2) (s1.heap.objs.size+3) s1.heap.objs.size (s1.heap.objs.size+1):=by
  constructor <;> exact(by intro q;have q':(_:Nat)=_:=q;omega)
 refine⟨a,b,_,_,_,_,_,H1,q1,rfl,I1.kept (t':=s1.toks) kk,O,z1,⟨z1,z2,⟨_,_,z3⟩,z4,z5⟩,fun c hc=>?_⟩;have hc':s1.heap.objs.size<=c:=by
  have:c=s1.heap.objs.size+4\/c=s1.heap.objs.size+2\/c=s1.heap.objs.size+3\/c=s1.heap.objs.size\/c=s1.heap.objs.size+1:=by simpa using hc
  rcases this with r|r|r|r|r <;> (rw[r];first|exact Nat.le_add_right _ _|exact Nat.le_refl _)
 exact I1.QV hc' (I1.hok.fresh hc')
theorem aj5 {l m:Expr}{tl tm:TE}{p p2 pos pos2 tp:Pos}{es:List Expr}{k:Nat}(hg:Gl X "zip")(hz:X.mg "zip"=none)(hg2:Gl X "enumerate")(hm2:X.mg "enumerate"=none)(hl:PE X l tl)(hm:PE X m tm)
  (hs:starEach [l,m] X.env=[(false,eval l X.env),(false,eval m X.env)]:=by rfl) (hs2:starEach [m] X.env=[(false,eval m X.env)]:=by rfl)
  (hs3:starEach [Expr.Call (.Name "zip" p) [l,m] [] pos] X.env=[(false,eval (.Call (.Name "zip" p) [l,m] [] pos) X.env)]:=by rfl) :
  PI X (.Tuple es k tp) (.Call (.Name "enumerate" p2) [.Call (.Name "zip" p) [l,m] [] pos] [] pos2) (iEz X.K tl tm):=by
 intro pins s σ H R I h;have hev:wpAny (model X.prog X.w) X.A (spliced (backTo pos2 (starEach [Expr.Call (.Name "zip" p) [l,m] [] pos] X.env))) (fun us s1=>∃ a b z TI TO i1 i2 H1,R (abK X.K a b) H1/\us=[.ref z]/\Inv X pins σ H1 s1/\Bh z TI TO i1 i2/\IsZip s1.heap z TI TO .none/\aaQ z TI TO i1 i2 a b 0 s1.heap/\∀ c∈[z,TI,TO,i1,i2],pS X pins H1 c) X.xe s:=by
  rw[hs3];refine Calls.spliced_cons (cH (af0 hg hz hl hm hs hs2 I h fun x y H1 ⟨a,b,e1,e2,q1,q2,_⟩=>⟨a,b,e1,e2,q1,q2⟩) fun v s1 ⟨a,b,z,TI,TO,i1,i2,H1,q,e,I1,O,g1,g2,g3⟩=>Calls.spliced_nil ?_);obtain⟨a',b',e1,e2,_,_,q⟩:=q;cases e1;cases e2;exact⟨a,b,z,TI,TO,i1,i2,H1,q,by rw[e],I1,O,g1,g2,g3⟩
 refine Call_ (uF I hg2 hm2 D6 (PyProof.Rows.callWith_type1 (cH hev fun us s1 ⟨a,b,z,TI,TO,i1,i2,H1,q,e,I1,O,g1,g2,g3⟩=>?_) (by rw[hs3];rfl) (by rfl)));subst e;refine Bj g1 fun h' he kk=>?_;refine wpAny_pyIter_enum he ?_;obtain⟨y1,y2,⟨y3,y4,y5⟩,y6,y7⟩:=g2;have hne:∀ c∈[z,TI,TO,i1,i2],s1.heap.objs.size≠c:=fun c hc=>by
  have hc':c=z\/c=TI\/c=TO\/c=i1\/c=i2:=by simpa using hc
  rcases hc' with rfl|rfl|rfl|rfl|rfl
  ·exact Nat.ne_of_gt (Heap.lt_size y1)
  ·exact Nat.ne_of_gt (Heap.lt_size y2)
  ·exact Nat.ne_of_gt (Heap.lt_size y5)
  ·obtain⟨_,y,_⟩:=y6;exact Nat.ne_of_gt (Heap.lt_size y)
  ·obtain⟨_,y,_⟩:=y7;exact Nat.ne_of_gt (Heap.lt_size y)
 refine⟨s1.heap.objs.size,[s1.heap.objs.size,z,TI,TO,i1,i2],_,_,H1,rfl,I1.kept (t':=s1.toks) kk,afZ a b O hne,⟨⟨.none,he⟩,⟨.none,.bool false,kk _ _ y1,.inl rfl,false,rfl⟩,kk _ _ y2,⟨y3,y4,kk _ _ y5⟩,y6.at fun o q=>kk _ _ q,y7.at fun o q=>kk _ _ q⟩,fun c hc=>?_,q⟩;rcases List.mem_cons.mp hc with rfl|hc
 ·exact I1.QV (Nat.le_refl _) (I1.hok.fresh (Nat.le_refl _))
 ·exact g3 c hc
end
theorem aif {K:Frag}{a b:Addr}{xs ys:List V}{g:TG}{tb:TS}{D:Ends}{σ:St}{H:Hp}(Pv:Nat->St->Hp->Prop)(he:xs.length=ys.length)(h0:Pv 0 σ H)(hl:∀ i σ H,Pv i σ H->aX K H a xs/\aX K H b ys)
  (hs:∀ i x y t u σ H,xs[i]? = some x->ys[i]? = some y->Pv i σ H->H t=none->H u=none->t≠u->g (.ref u) σ (upd (upd H t (.tup [x,y])) u (.tup [.int i,.ref t])) fun σ2 H2=>tb { D with nx:=Pv (i+1),ct:=Pv (i+1),bk:=D.nx } σ2 H2) (hd:∀ σ H,Pv xs.length σ H->D.nx σ H) :
  ∃ W:Nat->Nat->St->Hp->Prop,(∃ m,W 0 m σ H)/\∀ i m σ H,W i m σ H ->
   ((abK K a b).stop i H/\D.nx σ H)\/((abK K a b).go i H/\∃ N:St->Hp->Prop,(∀ σ' H',N σ' H'->∃ m',m'<m/\W (i+1) m' σ' H')/\∀ x H',(abK K a b).yld i H x H'->g x σ H' fun σ2 H2=>tb { D with nx:=N,ct:=N,bk:=D.nx } σ2 H2):=by
 refine⟨fun i m σ H=>m=xs.length-i/\i<=xs.length/\Pv i σ H,⟨xs.length,by simp,Nat.zero_le _,h0⟩,?_⟩;rintro i m σ H ⟨rfl,hi,p⟩;obtain⟨q,q2⟩:=hl i σ H p
 by_cases hlt:i<xs.length
 ·have hlt2:i<ys.length:=by omega
  refine .inr ⟨⟨xs,ys,xs[i],ys[i],q,q2,by simp[hlt],by simp[hlt2]⟩,Pv (i+1),fun σ' H' p'=>⟨xs.length-(i+1),by omega,rfl,hlt,p'⟩,fun x H' y=>?_⟩;obtain⟨x0,y0,t,u,rfl,hn,hn2,tu,hx,hy,rfl⟩:=y;exact hs i x0 y0 t u σ H (hx xs q) (hy ys q2) p hn hn2 tu
 ·have e:i=xs.length:=by omega
  subst e;exact .inl ⟨⟨xs,ys,q,q2,Nat.le_refl _⟩,hd σ H p⟩
end L2
set_option maxHeartbeats 4000000
namespace L2
open PySem PySem.Spec PyProof.Rows
structure My (K:Frag)(x qual:Str)(st:Stmt)(f:Addr)(fd:FuncData)(dV:Value):Prop where
 ex:∃(oc:Value)(od:Option Addr)(kV doc pm:Value)(an:Option Addr)(cdv ct:Value)(osl:Array (Option Value)),
  fd=fnOf x qual (aG st) (ay st) (ah st) dV kV doc pm an cdv ct/\K.lookup f=some ⟨oc,od,.func fd,osl⟩/\codeIn K cdv qual=true
 kp:keepIn K (.ref f)=true
section
variable {P:Program} {w:World} {K:Frag} {mg:Str->Option Value} {base:Heap}
theorem My.ok {x qual:Str}{st:Stmt}{f:Addr}{fd:FuncData}{dV:Value}{N ps:List Str}{k:Nat}{sp:Sp}(F:My K x qual st f fd dV)(S:aH N ps (ah st))(len:∀ vs H Q E,sp vs H Q E->vs.length=ps.length)
  (hbody:∀(cdv:Value)(A:Around)(outer:List Env)(s:Shared)(H:Hp)(vs:List V)(Q:VK)(E:XK),jN k (A.deeper (envOfC qual (ah st) s.heap.objs.size f cdv))->sp vs H Q E ->
   ∃ t,Me (cL k9 P w K mg base N qual (ah st) f cdv A outer s H E).nox (ay st) t/\t { nx:=fun _ H'=>Q .non H',rt:=Q } (start N vs) H):bA P w K mg base k9 (k+1) f fd ps sp:=by
 obtain⟨oc,od,kV,doc,pm,an,cdv,ct,osl,rfl,lk,hcd⟩:=F.ex;refine aaE lk hcd S len fun A outer s H vs Q E hr hsp=>?_;obtain⟨t,h,q⟩:=hbody cdv A outer s H vs Q E hr hsp;exact⟨t,h.nox,q⟩
theorem My.binds {x qual:Str}{st:Stmt}{f:Addr}{fd:FuncData}{T:Addr}{o:Obj}{items:Array Value}{n:Nat}{ps:List Str}{ds:List Value}(F:My K x qual st f fd (.ref T))(lk:K.lookup T=some o)(hs:o.data=.seq items n)
  (h:∀(kV doc pm:Value)(an:Option Addr)(cdv ct:Value)(us:List Value),(us++ds).length=ps.length->∃ k,bindArgs (fnOf x qual (aG st) (ay st) (ah st) (.ref T) kV doc pm an cdv ct) ⟨us,[]⟩=seqItems? (.ref T) >>= k/\k (some items)=pure (ps.zip (us++ds))):Binds K fd ps ds:=by
 obtain⟨oc,od,kV,doc,pm,an,cdv,ct,osl,rfl,lkf,hcd⟩:=F.ex;intro s us KI hl;obtain⟨k,h1,h2⟩:=h kV doc pm an cdv ct us hl;exact BindsTo.of_defaults rfl (KI _ _ lk) hs h1 h2
theorem Mg {x qual:Str}{st:Stmt}{f:Addr}{oc:Value}{od an:Option Addr}{osl:Array (Option Value)}{dV kV doc pm cdv ct:Value}(l:K.lookup f=some ⟨oc,od,.func (fnOf x qual (aG st) (ay st) (ah st) dV kV doc pm an cdv ct),osl⟩)
  (c:codeIn K cdv qual=true) (k:keepIn K (.ref f)=true):My K x qual st f (fnOf x qual (aG st) (ay st) (ah st) dV kV doc pm an cdv ct) dV:=⟨⟨oc,od,kV,doc,pm,an,cdv,ct,osl,rfl,l,c⟩,k⟩
end
inductive Xo (w:World):List DictEntry->List (Str×V)->Prop
 |nil:Xo w [] []
 |cons {x:Str} {t:Tok} {u:Value} {v:V} {es:List DictEntry} {kvs:List (Str×V)}:RelV v u->Xo w es kvs->Xo w (⟨PyData.keyHash w.params x,.str x t,u⟩::es) ((x,v)::kvs)
structure KD (K:Frag)(w:World)(a:Addr)(kvs:List (Str×V)):Prop where
 sys:(a==sysModules)=false
 ok:∃ es n,K.lookup a=some ⟨.type "dict",none,.dict es n,#[]⟩/\Xo w es.toList kvs/\(kvs.map (·.1)).Nodup
theorem Xo.vs (P:Program){w:World}:∀{es:List DictEntry} {kvs:List (Str×V)},Xo w es kvs->∃ vs:List (Key×Value),Pairs (cD P w) es vs/\vs.map (·.1)=kvs.map (fun p=>(Sum.inr p.1:Key)) /\
  (∀ e∈es,∃ k,(cD P w).is k e.key=true/\e.hash=(cD P w).hash k)/\∀ x,pR (kvs.lookup x) (valueAt vs (Sum.inr x))
 |_,_,.nil=>⟨[],.nil,rfl,fun e h=>by simp at h,fun x=>True.intro⟩
 |_,_,.cons (x:=x) (t:=t) (u:=u) (v:=v) r q=>by
  obtain⟨vs,h1,h2,h3,h4⟩:=Xo.vs P q;refine⟨(Sum.inr x,u)::vs,.cons (kY P w x t) rfl h1,by rw[map_cons,map_cons,h2],fun e he=>?_,fun y=>?_⟩
  ·rcases List.mem_cons.mp he with rfl|he
   ·exact⟨Sum.inr x,kY P w x t,rfl⟩
   ·exact h3 e he
  ·by_cases hy:y=x
   ·subst hy;unfold valueAt;simp only [List.lookup_cons,List.find?_cons];simp;exact r
   ·unfold valueAt;have h5:=h4 y;unfold valueAt at h5;have e1:(y==x)=false:=by simpa using hy
    have e2:decide ((Sum.inr x:Key)=Sum.inr y)=false:=decide_eq_false fun e=>hy (Sum.inr.inj e).symm;simp only [List.lookup_cons,e1,List.find?_cons,e2];exact h5
theorem Qm:∀{l:List Str},l.Nodup->(l.map (fun p=>(Sum.inr p:Key))).Nodup
 |[],_=>.nil
 |x::l,h=>by
  rw[map_cons,List.nodup_cons];obtain⟨h1,h2⟩:=List.nodup_cons.mp h;refine⟨fun z=>?_,Qm h2⟩;obtain⟨y,hy,e⟩:=mem_map.mp z;cases e;exact h1 hy
theorem KD.dict (P:Program){K:Frag}{w:World}{a:Addr}{kvs:List (Str×V)}{h:Heap}(d:KD K w a kvs)(hi:K.In h):∃ vs,h.DictOf (cD P w) a vs/\∀ x,pR (kvs.lookup x) (valueAt vs (Sum.inr x)):=by
 obtain⟨es,n,lk,ok,nd⟩:=d.ok;obtain⟨vs,h1,h2,h3,h4⟩:=ok.vs P;refine⟨vs,⟨_,es,n,hi _ _ lk,⟨rfl,rfl,rfl⟩,rfl,fun e he=>h3 e (by simpa using he),h1,?_⟩,h4⟩;rw[h2];have:=Qm nd;rw[List.map_map]at this;exact this
theorem pR.af1 {o:Option V}{u:Option Value}(r:pR o u):o.isSome=u.isSome:=by
 cases o <;> cases u <;> first|rfl|exact False.elim r
theorem pR.aj6 {o:Option V}{u:Option Value}{d:V}{d':Value}(r:pR o u)(rd:RelV d d'):RelV (o.getD d) (u.getD d'):=by
 cases o with
 |none=>cases u with
  |none=>exact rd
  |some _=>exact False.elim r
 |some v=>cases u with
  |none=>exact False.elim r
  |some _=>exact r
section
variable {X:Cx}
theorem ad3:v9 X (compareOp .In) (fun x y H Q=>∃ a z kvs,x=.str z/\y=.ref a/\KD X.K X.w a kvs/\Q (.bl (kvs.lookup z).isSome) H):=by
 intro pins s σ H x y v u Q I rx ry h;obtain⟨a,z,kvs,rfl,rfl,d,q⟩:=h;obtain⟨t,rfl⟩:=rx;cases ry;obtain⟨vs,dd,rel⟩:=d.dict X.prog I.yi;refine wpAny_in_of (knd:=cD X.prog X.w) (k:=Sum.inr z) (kY _ _ z t) d.sys dd.mapOf ?_;rw[<-(rel z).af1];exact⟨.bl _,H,I.tok _,rfl,q⟩
theorem aho:IxR X (fun x y H Q=>∃ a z kvs r,x=.ref a/\y=.str z/\KD X.K X.w a kvs/\kvs.lookup z=some r/\Q r H):=by
 intro value slice pins s σ H x y v u Q I rx ry h hs;obtain⟨a,z,kvs,r,rfl,rfl,d,l,q⟩:=h;cases rx;obtain⟨t,rfl⟩:=ry;obtain⟨vs,dd,rel⟩:=d.dict X.prog I.yi;have hr:=rel z;rw[l]at hr;cases hv:valueAt vs (Sum.inr z) with
 |none=>rw[hv]at hr;exact False.elim hr
 |some rv =>
  rw[hv]at hr;exact subscriptTail_builtinR (x:=rv) dd.typeIs PySem.F.slot_dict_getitem.lookup
   (wpAny_getItem_of (knd:=cD X.prog X.w) (k:=Sum.inr z) (kY _ _ z t) dd.mapOf hv ⟨rfl,⟨r,H,I.tok _,hr,q⟩⟩) hs
def aih (K:Frag)(w:World)(td ty tx:TE):TE:=fun σ H Q=>td σ H fun x H1=>∃ a kvs,x=.ref a/\KD K w a kvs/\ty σ H1 fun y H2=>tx σ H2 fun z H3=>∃ k,y=.str k/\Q ((kvs.lookup k).getD z) H3
theorem ad4 {o e f:Expr}{apos cpos:Pos}{td ty tx:TE}(ho:PE X o td)(he:PE X e ty)(hf:PE X f tx)
  (base:attributeBase o "get" X.env (eval o X.env)=eval o X.env:=by rfl)
  (few:((backTo cpos (starEach [e,f] X.env)).all (fun x=>!x.1)&&(backToKw cpos (keywordEach [] X.env)).all (fun x=>x.1.isSome)
   && decide (([e,f]:List Expr).length+([]:List Keyword).length+(if([]:List Keyword).isEmpty then 0 else 1)<30))=true:=by rfl)
  (line:(apos.endLine==cpos.line)=true:=by rfl) (trees:backTo cpos (starEach [e,f] X.env)=[(false,eval e X.env),(false,eval f X.env)]:=by rfl) :
  PE X (.Call (.Attribute o "get" apos) [e,f] [] cpos) (aih X.K X.w td ty tx):=by
 intro pins s σ H Q I h;refine wpAny_Call_method base few line plainAttrs_dict slot_dict_get type_dict_get (cH (ho pins s σ H _ I h) fun u s1 ⟨x,H1,I1,rx,a,kvs,ex,d,q1⟩=>?_);subst ex;obtain rfl:u=Value.ref a:=rx;obtain⟨vs,dd,rel⟩:=d.dict X.prog I1.yi;refine⟨dd.typeIs,fun b q=>?_,?_⟩
 ·cases q;obtain⟨ob,_,_,h1,h2,_⟩:=dd;exact⟨ob,h1,h2.2.1⟩
 rw[trees];refine Calls.callWith_builtin rfl (Calls.evalArgs_plain (Calls.spliced_cons (cH (he pins s1 σ H1 _ I1 q1) fun iv s2 ⟨y,H2,I2,ry,q2⟩ =>
  Calls.spliced_cons (cH (hf pins s2 σ H2 _ I2 q2) fun fv s3 ⟨z,H3,I3,rz,k,ek,q3⟩=>Calls.spliced_nil ?_))))
 subst ek;obtain⟨t,rfl⟩:=ry;obtain⟨vs3,dd3,amz⟩:=d.dict X.prog I3.yi;exact call_meetsIn slot_dict_get dd3.typeIs entry_dict_get (args_dict_get_3 _ _ _) (meets_dict_get_default (cD X.prog X.w) a (kY _ _ k t) d.sys fv) ⟨_,dd3.mapOf,_,H3,I3.tok _,(amz k).aj6 rz,q3⟩
end
end L2
set_option maxHeartbeats 4000000
namespace L2
open PySem PySem.Spec PyProof.Rows
def aj7 (t:TE):TE:=fun σ H Q=>∃ R:V->Hp->Prop,t σ H R/\∀ v H',R v H'->Q v H'
def aj8 (t:TT):TT:=fun σ H Q=>∃ R:Bool->Hp->Prop,t σ H R/\∀ v H',R v H'->Q v H'
def aj9 (t:TS):TS:=fun D σ H=>∃ R:St->Hp->Prop,t { D with nx:=R } σ H/\∀ σ' H',R σ' H'->D.nx σ' H'
section
variable {X:Cx}
theorem cK {e:Expr}{t:TE}(h:PE X e t):PE X e (aj7 t):=by
 intro pins s σ H Q I ⟨R,hR,hQ⟩;exact cH (h pins s σ H R I hR) fun u s1 ⟨v,H1,I1,r,q⟩=>⟨v,H1,I1,r,hQ v H1 q⟩
theorem bN {e:Expr}{t:TT}(h:PT X e t):PT X e (aj8 t):=by
 intro pins s σ H Q I ⟨R,hR,hQ⟩;exact cH (h pins s σ H R I hR) fun u s1 ⟨H1,I1,q⟩=>⟨H1,I1,hQ u H1 q⟩
theorem nh {st:Stmt}{t:TS}(h:PS X st t):PS X st (aj9 t):=by
 intro pins s σ H D I ⟨R,hR,hQ⟩;refine cH (h pins s σ H _ I hR) fun f s1 q=>?_;cases f with
 |next=>exact let ⟨σ',H',I',q'⟩:=q;⟨σ',H',I',hQ _ _ q'⟩
 |brk=>exact q
 |cont=>exact q
 |ret u=>exact q
end
theorem AN {t:TE}{σ:St}{H:Hp}{Q:VK}(v:V)(h:t σ H fun x H1=>x=v/\H1=H)(q:Q v H):∃ R:V->Hp->Prop,t σ H R/\∀ v H',R v H'->Q v H':=⟨_,h,by rintro _ _ ⟨rfl,rfl⟩;exact q⟩
theorem kh {t:TT}{σ:St}{H:Hp}{Q:Bool->Hp->Prop}(b:Bool)(h:t σ H fun x H1=>x=b/\H1=H)(q:Q b H):∃ R:Bool->Hp->Prop,t σ H R/\∀ v H',R v H'->Q v H':=⟨_,h,by rintro _ _ ⟨rfl,rfl⟩;exact q⟩
theorem ad5 {t:TS}{σ:St}{H:Hp}{D:Ends}(σ':St)(H':Hp)(h:t { D with nx:=fun σ1 H1=>σ1=σ'/\H1=H' } σ H)(q:D.nx σ' H'):∃ R:St->Hp->Prop,t { D with nx:=R } σ H/\∀ σ' H',R σ' H'->D.nx σ' H' :=
 ⟨_,h,by rintro _ _ ⟨rfl,rfl⟩;exact q⟩
theorem qG {x v:V}{H:Hp}(e:x=v):x=v/\H=H:=⟨e,rfl⟩
theorem fJ {x v:Bool}{H:Hp}(e:x=v):x=v/\H=H:=⟨e,rfl⟩
end L2
set_option maxHeartbeats 4000000
namespace L2
open PySem PySem.Spec PyProof.Rows
abbrev Cx.names (X:Cx)(N:List Str):Cx:={ X with N:=N }
section
variable {X:Cx} {pins:List (Addr×Obj)} {σ:St} {H:Hp} {s:Shared}
end
end L2
set_option maxHeartbeats 4000000
namespace L2
open PySem PySem.Spec PyProof.Rows
section
variable {X:Cx} {tg iter elt:Expr} {ifs:List Expr} {scope:Scope} {pos:Pos} {cn:List Str} {wi:TI} {g:Bk->TG} {tc:Bk->TT} {te:Bk->TE}
theorem Xp {i:Nat}{x:Str}{pos' spos:Pos}(hN:X.N.Nodup)(hix:X.N[i]? = some x)(hx:X.env.scope.names.lookup x=some .local)(hcalm:X.calm=true)(F:fV X.env.scope X.N scope)(hi:PI X tg iter wi)
  (hg:∀ b,PG (di X cn scope b) tg (g b)) (ht:∀ b,PF (di X cn scope b) ifs (tc b)) (he:∀ b,PE (di X cn scope b) elt (te b))
  (hsw:swapsWith (.ListComp elt [⟨tg,iter,ifs,0⟩] scope pos) (some (.Name x pos')) spos.line X.env=pure true:=by rfl)
  (hs:∀ x,foldedSetIterable iter X.env x=pure x:=by intro _;rfl):PS X (.Assign [.Name x pos'] (.ListComp elt [⟨tg,iter,ifs,0⟩] scope pos) spos) (afM (adM cn.length wi g tc te) (Qb i)):=by
 intro pins s σ H D I h;rw[exec_Assign_Name_used _ _ _ _ hsw];refine wpAny_bind (wpAny_standAt (wpAny_bind ?_));rw[arm_evalThenUse_ListComp];refine wpAny_bind ?_;have hcl:closureFor scope X.env=pure (iW X.env scope.names []):=aaM fun p hp e=>I.ok.has p.1 (F.free p hp e);refine wpAny_comprehension_free (use:=some (assign (.Name x pos') X.env)) rfl hs hcl F.kind F.loc (cH (hi pins s σ H _ I h) fun xv s₁ h₁=>cH h₁ fun itv s₂ h₂=>?_);obtain⟨it,fp,tn,J,H2,rfl,I2,T,st,f2,R⟩:=h₂;refine Va (TH:=fun _=>True) (QQ:=fun D' H'=>D.nx (σ.set i (some (.ref D'))) H') (RR:=fun acc C=>compPost (model X.prog X.w) X.A X.xe (some (assign (.Name x pos') X.env)) _ acc C) hcalm F (fun b _=>hg b) (fun b _=>ht b) (fun b _=>he b) (fun _ _=>trivial) I2 T st f2 R ?_ ?_
 ·intro C D' σ' H' s' hC I' q;obtain⟨m,hm,_⟩:=I'.loc;have hCn:H' C=none:=I'.free;have fC:pS X pins H' C:=I2.QV hC hCn;have I3:Inv X pins σ H' s':=I2.aaO f2 hC I' ⟨rfl,fun _ _=>rfl⟩;show wpAny (model X.prog X.w) X.A (assign (.Name x pos') X.env (.ref D')) _ X.xe s';refine wpAny_assign_Name (Qa I3 hN hix (.inl hx) (v:=.ref D') rfl (fun s'' I4 ⟨a,sa,ha⟩=>?_) (.inr hx));have hne:C≠a:=by
   rcases ha with e|e
   ·rw[e];exact fC.2.1
   ·exact fun z=>fC.2.2.2.2.1 _ _ e z.symm
  obtain⟨o,es,ep,ho,r⟩:=hm;refine⟨m,⟨o,es,ep,(sa.2 C hne).trans ho,r⟩,fun h' sb=>?_⟩;refine wpAny_pure (wpAny_pure ⟨_,H',?_,q⟩);exact I4.kF (tk:=s''.toks) (wr:=[C]) (fun b hb=>by
   have:b=C:=by simpa using hb
   rw[this];exact fC) fun b o hb e=>(sb.2 b (fun z=>hb (by simp[z]))).trans e
 ·intro C D' e s' z;exact z
end
end L2
set_option maxHeartbeats 4000000
namespace L2
open PySem PySem.Spec PyProof.Rows PySem.SeqAt
section
variable {X:Cx}
inductive ahp (K:Frag)(neg:Bool)(x:V)(y:V)(H:Hp)(Q:VK):Prop
 |mk (a:_) (c:_) (xs:_) (eO:x=.ref a) (eP:y=.ref c) (hX:aX K H a xs) (kC:aX K H c []) (rq:Q (.bl (if neg then !xs.isEmpty else xs.isEmpty)) H):ahp K neg x y H Q
def amA (K:Frag)(neg:Bool):R2:=fun x y H Q=>ahp K neg x y H Q
theorem aij {pins:List (Addr×Obj)}{σ:St}{H:Hp}{s:Shared}{a c:Addr}{xs:List V}(hu:X.A.units+64<cLine)(I:Inv X pins σ H s)(ha:aX X.K H a xs)(hc:aX X.K H c []):RcAt X.A s (.ref a) (.ref c) xs.isEmpty/\RcNeAt X.A s (.ref a) (.ref c) (!xs.isEmpty):=by
 obtain⟨its,r,p,_⟩:=I.list ha;obtain⟨its',r',p',_⟩:=I.list hc;have e1:=r.length;have e2:=r'.length;simp at e2;cases xs with
 |nil =>
  simp at e1;have z1:its=[]:=by simpa using e1.symm
  have z2:its'=[]:=by simpa using e2.symm
  subst z1 z2;constructor
  ·have:=RcAt.lists (A:=X.A) (e:=fun _=>true) p.isList p'.isList rfl (by omega) (fun j h1 _=>absurd h1 (by simp))
   simpa using this
  ·have:=RcNeAt.lists (A:=X.A) (e:=fun _=>true) p.isList p'.isList rfl (by omega) (fun j h1 _=>absurd h1 (by simp))
   simpa using this
 |cons x t =>
  have hne:(its.toArray.size != its'.toArray.size)=true:=by
   simp at e1;have z2:its'=[]:=by simpa using e2.symm
   subst z2;have:its.length≠0:=by omega
   simpa using this
  exact⟨RcAt.lists_lengths p.isList p'.isList hne (by omega),RcNeAt.lists_lengths p.isList p'.isList hne (by omega)⟩
theorem Mz (hu:X.A.units+64<cLine):v9 X (compareOp .Eq) (amA X.K false):=by
 intro pins s σ H x y v u Q I r1 r2 h;obtain⟨a,c,xs,rfl,rfl,ha,hc,q⟩:=h;cases r1;cases r2;exact(aij hu I ha hc).1 X.prog X.w X.xe _ ⟨.bl _,H,I,rfl,q⟩
end
end L2
set_option maxHeartbeats 4000000
namespace L2
open PySem PySem.Spec PyProof.Rows
structure Lv (X:Cx)(e:Expr)(t:TE):Prop where
 out:PE X e t
structure Ax (X:Cx)(es:List Expr)(t:TA):Prop where
 out:PA X es t
theorem uJ {X:Cx}:Ax X [] bp:=⟨ag⟩
theorem Vg {X:Cx}{es' es:List Expr}{p:Pos}{te:TE}{t:TA}(h:Lv X (.List es' p) te)(hr:Ax X es t):Ax X (.List es' p::es) (au te t):=⟨aa h.out hr.out⟩
theorem vj {X:Cx}{es' es:List Expr}{k:Nat}{p:Pos}{te:TE}{t:TA}(h:Lv X (.Tuple es' k p) te)(hr:Ax X es t):Ax X (.Tuple es' k p::es) (au te t):=⟨aa h.out hr.out⟩
theorem js {X:Cx}{es:List Expr}{c:Const}{k:Nat}{p:Pos}{te:TE}{t:TA}(h:Lv X (.Constant c k p) te)(hr:Ax X es t):Ax X (.Constant c k p::es) (au te t):=⟨aa h.out hr.out⟩
theorem G7 {X:Cx}{x:Str}{j:Nat}{pos:Pos}:Lv X (.Constant (.str x) j pos) (tC (.str x)):=⟨ax⟩
theorem MA {X:Cx}{i:Int}{j:Nat}{pos:Pos}:Lv X (.Constant (.int i) j pos) (tC (.int i)):=⟨ai⟩
theorem Xq {X:Cx}{es:List Expr}{pos:Pos}{t:TA}(h:Ax X es t):Lv X (.List es pos) (sS t):=⟨bx h.out⟩
theorem Bl {X:Cx}{es:List Expr}{k:Nat}{pos:Pos}{t:TA}(h:Ax X es t):Lv X (.Tuple es k pos) (c8 t):=⟨b8 h.out⟩
end L2
set_option maxHeartbeats 4000000
namespace L2
open PySem PySem.Spec PyProof.Rows
def Fly (l:List Env)(G:Heap)(e:Addr)(cls:Value)(h:Heap):Prop :=
 ∃ B a0,(∀ b o,G.get? b=some o->b ∉ frs l->B.get? b=some o)/\Heap.FlyingW B l e cls a0 h/\G.UpToSlots h/\G.get? e=none
def iE (P:Program)(w:World):CXT:=fun outer H s E ev s' =>
 ∃ a cls H' G,ev=.ref a/\s'.os=s.os/\AllBare s'.gens/\Un (frs outer) [] H H' s.heap G/\yk P w H' G/\Fly outer G a cls s'.heap/\E cls none H'
abbrev XSt:=St->Value->Hp->Prop
def WX (X:Cx)(XS:XSt):Value->Shared->Prop:=fun ev s' =>
 ∃ pins σ H' G a cls,ev=.ref a/\Inv X pins σ H' { s' with heap:=G }/\Fly X.stack G a cls s'.heap/\XS σ cls H'
def WD (X:Cx)(XS:XSt):Value->Shared->Prop:=fun ev s'=>WX X XS ev s' \/
 ∃ pins σ H' G a cls args,ev=.ref a/\Inv X pins σ H' { s' with heap:=G }/\Heap.MadeExcOf G s'.heap a cls args/\XS σ cls H'
section
variable {X:Cx} {pins:List (Addr×Obj)} {σ:St} {H H':Hp} {s s':Shared}
theorem aka {XS:XSt}{ev:Value}(I:Inv X pins σ H s)(h:iE X.prog X.w X.stack H s (fun cls _ H'=>XS σ cls H') ev s'):WX X XS ev s':=by
 obtain⟨a,cls,H',G,e,os,bare,un,hok,fly,q⟩:=h;refine⟨pins,σ,H',G,a,cls,e,?_,fly,q⟩;exact I.call' (s':={ s' with heap:=G }) (ch:=[]) os un hok bare fun b z=>absurd z (by simp)
theorem strike {P:Program}{w:World}{h G:Heap}{L:Addr}{fs:List Addr}(un:Un fs [] H H' h G)(hok:yk P w H' G)(hL:h.objs.size<=L)(hf:H' L=none):Un fs [] H H' h (hideAll G [L])/\yk P w H' (hideAll G [L]):=by
 have get:∀{b o},G.get? b=some o->b≠L->(hideAll G [L]).get? b=some o:=fun e hn=>hideAll_get _ e (by simpa using hn);have ne:∀{b o},h.get? b=some o->b≠L:=fun e z=>absurd (z ▸ Heap.lt_size e) (Nat.not_lt.mpr hL);refine⟨⟨fun b o e n hb hx=>get (un.keep b o e n hb hx) (ne e),fun b o e n hb hx=>?_,un.free,fun b o e hx=>?_,un.tups,un.Mo,un.Pd⟩,fun b u e=>?_⟩
 ·obtain⟨sl,z⟩:=un.slot b o e n hb hx;exact⟨sl,get z (ne e)⟩
 ·obtain⟨o',z⟩:=un.there b o e hx;exact⟨o',get z (ne e)⟩
 ·refine(hok b u e).stay (fun c v hc q=>get q ?_) (fun _ q=>q) fun _ _ q=>q;rintro rfl;rcases hc with rfl|hc
  ·rw[hf]at e;cases e
  ·rw[hf]at hc;cases hc
theorem Fly.strike {env:Env}{outer:List Env}{G h:Heap}{B:Heap}{e L:Addr}{cls a0:Value}(hf:env.frame=some L)(cov:∀ b o,G.get? b=some o->b ∉ frs (env::outer)->B.get? b=some o)(fl:Heap.FlyingW B outer e cls a0 h)(up:G.UpToSlots h)(hn:G.get? e=none):Fly outer (hideAll G [L]) e cls h:=by
 have back:∀{b o},(hideAll G [L]).get? b=some o->G.get? b=some o/\b≠L:=fun {b o} q=>⟨of_hideAll _ q,fun z=>by
  rw[hideAll_none [L] (by rw[z];simp)]at q;cases q⟩
 refine⟨B,a0,fun b o q hb=>?_,fl,fun b o q hd=>up b o (back q).1 hd,?_⟩
 ·obtain⟨q1,q2⟩:=back q;refine cov b o q1 ?_;unfold frs;rw[List.filterMap_cons,hf];intro z;rcases List.mem_cons.mp z with z|z
  ·exact q2 z
  ·exact hb z
 ·cases q:(hideAll G [L]).get? e with
  |none=>rfl
  |some o=>rw[(back q).1]at hn;cases hn
end
theorem leaveX {P:Program}{w:World}{K:Frag}{mg:Str->Option Value}{base:Heap}{N:List Str}{qual:Str}{scope:Scope}{f:Addr}{cdv:Value}{A:Around}{outer:List Env}{s:Shared}{H:Hp}{E:XK}{ev:Value}{s':Shared}
  (h:WD (cL (iE P w) P w K mg base N qual scope f cdv A outer s H E) (fun _ cls H'=>E cls none H') ev s'):(cL (iE P w) P w K mg base N qual scope f cdv A outer s H E).xe ev s':=by
 rcases h with ⟨pins,σ,H',G,a,cls,rfl,I,⟨B,a0,cov,fl,up,hn⟩,q⟩|⟨pins,σ,H',G,a,cls,args,rfl,I,hm,q⟩
 ·show wpAny (model P w) _ (leaving _ (.ref a)) _ _ s';refine wpAny_leaves_onW I.ok.frames rfl fl fun h' fl' up'=>?_;obtain⟨un,hok⟩:=strike I.base I.hok I.ok.above I.free;exact⟨a,cls,H',_,rfl,I.os,I.bare,un,hok,Fly.strike rfl cov fl' (up.trans up') hn,q⟩
 ·show wpAny (model P w) _ (leaving _ (.ref a)) _ _ s';have hin:∀ env∈(cL (iE P w) P w K mg base N qual scope f cdv A outer s H E).stack,∀ b,env.frame=some b->b∈frs (cL (iE P w) P w K mg base N qual scope f cdv A outer s H E).stack:=fun env he b hb=>List.mem_filterMap.mpr ⟨env,he,hb⟩;refine wpAny_leaves_madeW (base:=hideAll G (frs (cL (iE P w) P w K mg base N qual scope f cdv A outer s H E).stack)) (h:=G) I.ok.frames rfl (fun b o z=>of_hideAll _ z) (PySem.W.funFrames_hide I.stack hin) hm fun h' t fl' _ _ up'=>?_;obtain⟨un,hok⟩:=strike I.base I.hok I.ok.above I.free;exact⟨a,cls,H',_,rfl,I.os,I.bare,un,hok,Fly.strike rfl (fun b o z hb=>hideAll_get _ z hb) fl' ((Heap.UpToSlots.of_keeps hm.keeps).trans up') hm.new,q⟩
theorem Me.ad7 {X:Cx}{E1:Value->Shared->Prop}{st:List Stmt}{t:TS}(h:Me (X.wish E1) st t)(hE:∀ e s,E1 e s->X.xe e s):Me X st t:=fun pins s σ H D I hw =>
 wpAny_mono (h pins s σ H D (I.wish _) hw) (fun _ _ q=>q.m8) hE
section
variable {P:Program} {w:World} {K:Frag} {mg:Str->Option Value} {base:Heap}
theorem jo.Q5 {x qual:Str}{st:Stmt}{f:Addr}{fd:FuncData}{N ps:List Str}{k:Nat}{sp:Sp}(F:jo K x qual st f fd)(S:aH N ps (ah st))(len:∀ vs H Q E,sp vs H Q E->vs.length=ps.length)
  (hbody:∀(cdv:Value)(A:Around)(outer:List Env)(s:Shared)(H:Hp)(vs:List V)(Q:VK)(E:XK),jN k (A.deeper (envOfC qual (ah st) s.heap.objs.size f cdv))->sp vs H Q E ->
   ∃ t,Me ((cL (iE P w) P w K mg base N qual (ah st) f cdv A outer s H E).wish (WD (cL (iE P w) P w K mg base N qual (ah st) f cdv A outer s H E) fun _ cls H'=>E cls none H')) (ay st) t/\t { nx:=fun _ H'=>Q .non H',rt:=Q } (start N vs) H):bA P w K mg base (iE P w) (k+1) f fd ps sp:=by
 obtain⟨oc,od,kV,doc,pm,an,cdv,ct,osl,rfl,lk,hcd⟩:=F.ex;refine aaE lk hcd S len fun A outer s H vs Q E hr hsp=>?_;obtain⟨t,h,q⟩:=hbody cdv A outer s H vs Q E hr hsp;exact⟨t,h.ad7 fun _ _ z=>leaveX z,q⟩
end
def aik (sp:Sp)(sU:List V)(XS:XSt)(t:TA):TE:=fun σ H Q=>t σ H fun vs H1=>sp (vs++sU) H1 Q fun cls _ H'=>XS σ cls H'
inductive aaR (C:Addr)(m:Str)(sp:Sp)(sU:List V)(XS:XSt)(t:TA)(σ:St)(Q:VK)(x:V)(H1:Hp):Prop
 |mk (a:_) (dx:_) (fs:_) (eO:x=.ref a) (eP:H1 a=some (.ins C dx fs)) (hX:fs.lookup m=none) (kC:t σ H1 fun vs H2=>sp (x::(vs++sU)) H2 Q fun cls _ H'=>XS σ cls H'):aaR C m sp sU XS t σ Q x H1
def ad8 (C:Addr)(m:Str)(sp:Sp)(sU:List V)(XS:XSt)(ta:TE)(t:TA):TE:=fun σ H Q=>ta σ H fun x H1=>aaR C m sp sU XS t σ Q x H1
section
variable {X:Cx} {W:Value->Shared->Prop} {XS:XSt} {k:Nat} {f C:Addr} {fd:FuncData} {ps:List Str} {sp:Sp} {sU:List V} {ds:List Value} {x m:Str} {p pos apos:Pos} {e o:Expr} {es:List Expr} {ta:TE} {t:TA}
theorem Q6 {pins:List (Addr×Obj)}{σ:St}{H:Hp}{s:Shared}{Q:VK}{us:List Value}{vs:List V}(F:bA X.prog X.w X.K X.mg X.base (iE X.prog X.w) k f fd ps sp)(hr:jN k X.A)(hb:Binds X.K fd ps ds)(hd:Vals sU ds)(hx:∀ ev s',WX X XS ev s'->W ev s')
  (I:Inv (X.wish W) pins σ H s) (r:Vals vs us) (h:sp (vs++sU) H Q fun cls _ H'=>XS σ cls H'):wpAny (model X.prog X.w) X.A (call (.ref f) us) (EP (X.wish W) pins σ Q) W s:=by
 have I0:=I.m8;have r2:Vals (vs++sU) (us++ds):=r.append hd;have hl:(us++ds).length=ps.length:=by rw[<-r2.length];exact F.len _ _ _ _ h
 refine wpAny_call (codeAny_mono (F.run X.A X.stack s H ⟨us,[]⟩ (us++ds) (vs++sU) Q _ hr I0.env0 (hb s us I0.yi hl) r2 h) fun r s' hq=>?_);cases r with
 |error e=>exact hx _ _ (aka I0 hq)
 |ok fl =>
  cases fl with
  |ret u=>exact I.after hq
  |next=>exact False.elim hq
  |brk=>exact False.elim hq
  |cont=>exact False.elim hq
theorem vk (F:bA X.prog X.w X.K X.mg X.base (iE X.prog X.w) k f fd ps sp)(hr:jN k X.A)(hg:Gl (X.wish W) x)(hm:X.mg x=some (.ref f))(hk:keepIn X.K (.ref f)=true)(hb:Binds X.K fd ps ds)(hd:Vals sU ds)(hx:∀ ev s',WX X XS ev s'->W ev s')
  (ha:PA (X.wish W) (e::es) t) (hdb:(x==("__debug__":Str))=false:=by decide) (he:starEach (e::es) X.env=(false,eval e X.env)::starEach es X.env:=by rfl) (hpl:(backTo pos (starEach es X.env)).any (·.1)=false:=by rfl) :
  PE (X.wish W) (.Call (.Name x p) (e::es) [] pos) (aik sp sU XS t):=by
 intro pins s σ H Q I h;refine wpAny_Call_Name_kw (wb I hg hm ?_ hdb);refine callWith_K (h₀:=X.base) I.ok.mod.kin hk (cH (ha pos pins s σ H _ I h) fun us s1 ⟨vs,H1,I1,r,q⟩=>⟨I1.yi,?_⟩) he hpl;exact Q6 (X:=X) F hr hb hd hx I1 r q
theorem bX {pl:Sem Bool}(ho:PE (X.wish W) o ta)(c:W8 X.K C)(hm:Meth X.K C m f)(F:bA X.prog X.w X.K X.mg X.base (iE X.prog X.w) k f fd ps sp)(hr:jN k X.A)(hb:Binds X.K fd ps ds)(hd:Vals sU ds)(hx:∀ ev s',WX X XS ev s'->W ev s')(ha:PA (X.wish W) (e::es) t)
  (hst:starEach (e::es) X.env=(false,eval e X.env)::starEach es X.env:=by rfl) (hpl:(backTo pos (starEach es X.env)).any (·.1)=false:=by rfl)
  (ht:eval (.Call (.Attribute o m apos) (e::es) [] pos) X.env=(do
   let ov <-eval o X.env
   standAt apos.atName
   let (f,first) <-holding [ov] (getMethod ov m pl)
   callWith pos f first (backTo pos (starEach (e::es) X.env)) (backToKw pos (keywordEach [] X.env))):=by rfl) :
  PE (X.wish W) (.Call (.Attribute o m apos) (e::es) [] pos) (ad8 C m sp sU XS ta t):=by
 intro pins s σ H Q I h;refine methodCall_KW (pl:=pl) (cH (ho pins s σ H _ I h) fun u s1 ⟨x,H1,I1,rx,a,dx,fs,ex,ea,l,q⟩=>?_) ht;subst ex;obtain rfl:u=Value.ref a:=rx;refine wd I1 ea c hm l ?_;refine callWith_K (first:=[.ref a]) (h₀:=X.base) I.ok.mod.kin hm.kp (cH (ha pos pins s1 σ H1 _ I1 q) fun us s2 ⟨vs,H2,I2,r,q2⟩=>⟨I2.yi,?_⟩) hst hpl;exact Q6 (X:=X) (us:=.ref a::us) (vs:=.ref a::vs) F hr hb hd hx I2 (.cons rfl r) q2
theorem Qn {pl:Sem Bool}(ho:PE (X.wish W) o ta)(c:W8 X.K C)(hm:Meth X.K C m f)(F:bA X.prog X.w X.K X.mg X.base (iE X.prog X.w) k f fd ps sp)(hr:jN k X.A)(hb:Binds X.K fd ps ds)(hd:Vals sU ds)(hx:∀ ev s',WX X XS ev s'->W ev s')
  (ht:eval (.Call (.Attribute o m apos) [] [] pos) X.env=(do
   let ov <-eval o X.env
   standAt apos.atName
   let (f,first) <-holding [ov] (getMethod ov m pl)
   callWith pos f first (backTo pos (starEach [] X.env)) (backToKw pos (keywordEach [] X.env))):=by rfl) :
  PE (X.wish W) (.Call (.Attribute o m apos) [] [] pos) (ad8 C m sp sU XS ta bp):=by
 intro pins s σ H Q I h;refine methodCall_KW (pl:=pl) (cH (ho pins s σ H _ I h) fun u s1 ⟨x,H1,I1,rx,a,dx,fs,ex,ea,l,q⟩=>?_) ht;subst ex;obtain rfl:u=Value.ref a:=rx;refine wd I1 ea c hm l ?_;exact callWith_K0 (first:=[.ref a]) I1.yi hm.kp (Q6 (X:=X) (us:=[.ref a]) (vs:=[.ref a]) F hr hb hd hx I1 (.cons rfl .nil) q)
end
abbrev vm:List Value:=[.type "ValueError",.type "Exception",.type "BaseException",.type "object"]
def ExC (K:Frag)(C:Addr):Prop:=excIn K C vm "ValueError.__new__" = true
theorem ExC.obj {K:Frag}{C:Addr}{h:Heap}(q:ExC K C)(X:K.In h):∃ bm N nm qn bs hdct sn sub ab col dd k0 k1 k2 k3 k5 mN,h.get? C=some (excClassObj nm qn C N bs bm hdct sn sub ab col dd k0 k1 k2 k3 k5 "ValueError.__new__")/\h.Ns N mN/\mN "__init__"=none/\OwnTail h vm bm:=by
 have q:excIn K C vm "ValueError.__new__" = true:=q;unfold excIn at q;split at q
 ·next dd cd sl ho =>
  split at q
  ·next C' bm k0 k1 k2 k3 n k5 hm hs =>
   simp only [Bool.and_eq_true,beq_iff_eq,Bool.not_eq_true']at q;obtain⟨⟨⟨⟨⟨rfl,rfl⟩,hdel⟩,ht⟩,hok⟩,hni⟩:=q;obtain⟨nm,bs,mro,ns,qn,hd,sn,sub,ab,col,del⟩:=cd;dsimp only at hm hdel hok hni;subst hm;subst hdel;obtain⟨l⟩:=sl;have hl:l=[k0,k1,k2,k3,some (.builtin "ValueError.__new__"),k5]:=hs;subst hl;refine⟨bm,ns,nm,qn,bs,hd,sn,sub,ab,col,dd,k0,k1,k2,k3,k5,h.nsMap ns,X _ _ ho,?_,?_,PySem.W.tail_of_in X ht⟩
   ·exact .of_isNs (PySem.W.isNs_of_in X hok)
   ·exact PySem.W.nsMap_none_of_in X hok hni
  ·cases q
 ·cases q
def ail (C:Addr)(XS:XSt)(te:TA):TS:=fun _ σ H=>te σ H fun vs H1=>vs.length<=sizeLine/\XS σ (.ref C) H1
theorem iF {X:Cx}{XS:XSt}{W:Value->Shared->Prop}{C:Addr}{x:Str}{np cpos pos:Pos}{e:Expr}{es:List Expr}{t:TA}(hx:∀ ev s',WD X XS ev s'->W ev s')(hc:X.calm=true)(q:ExC X.K C)(hg:Gl (X.wish W) x)(hm:X.mg x=some (.ref C))(ha:PA (X.wish W) (e::es) t)
  (hdb:(x==("__debug__":Str))=false:=by decide) (he:starEach (e::es) X.env=(false,eval e X.env)::starEach es X.env:=by rfl) (hpl:(backTo cpos (starEach es X.env)).any (·.1)=false:=by rfl) :
  PS (X.wish W) (.Raise (some (.Call (.Name x np) (e::es) [] cpos)) none pos) (ail C XS t):=by
 intro pins s σ H D I h;obtain⟨bm,N,nm,qn,bs,hdct,sn,sub,ab,col,dd,k0,k1,k2,k3,k5,mN,hC,hN,hni,T⟩:=q.obj I.mod.kin;refine wpAny_Raise_call_subT (C:=C) (nm:=nm) (q:=qn) (N:=N) (bs:=bs) (bm:=bm) (hdct:=hdct) (sn:=sn) (sub:=sub) (ab:=ab) (col:=col) (dd:=dd) (k0:=k0) (k1:=k1) (k2:=k2) (k3:=k3) (k5:=k5) (mN:=mN)
  PySem.F.excBase_ValueError (T.hasType PySem.F.excBase_ValueError.hasBase) (I.ok.hd hc) ?_ hni (wb I hg hm ⟨rfl,?_⟩ hdb)
 ·show(backTo cpos (starEach (e::es) X.env)).any (·.1)=false;rw[he];show(false||(backTo cpos (starEach es X.env)).any (·.1))=false;rw[hpl];rfl
 ·have h1:=ha cpos pins s σ H _ I h;show wpAny (model X.prog X.w) X.A (evalArgs (.ref C) true (backTo cpos (starEach (e::es) X.env)) []) _ W s;have h1:wpAny (model X.prog X.w) X.A (spliced (backTo cpos (starEach (e::es) X.env))) _ W s:=h1;rw[he]at h1 ⊢;refine Calls.evalArgs_plain (wpAny_mono h1 (fun us s1 ⟨vs,H1,I1,r,hz,q1⟩=>?_) fun _ _ z=>z);refine⟨rfl,by rw[<-r.length];exact hz,I1.bk _ _ hC,hN.keeps I1.bk,T.keeps I1.bk,fun h' a hm'=>hx _ _ (.inr ?_)⟩;exact⟨pins,σ,H1,s1.heap,a,.ref C,us,rfl,I1.m8,hm',q1⟩
abbrev Cx.US (X:Cx)(pn:List (Addr×Obj)):Cx:={ X with pn:=pn }
abbrev Cx.hand (X:Cx)(a:Addr):Cx:={ X with A:=X.A.mark (some (.ref a)),calm:=false,xe:=fun _ _=>False }
theorem Cx.Ok.US {X:Cx}(ok:X.Ok)(pn:List (Addr×Obj)):(X.US pn).Ok :=
 ⟨ok.mod,ok.kind,ok.glob,ok.blt,ok.above,ok.inj,ok.has,ok.cab,ok.hd,ok.frames,ok.stk,ok.exf,ok.bs,ok.bsz,ok.W0,ok.W2,ok.DZ,ok.frf⟩
theorem Cx.Ok.hand {X:Cx}(ok:X.Ok)(a:Addr):(X.hand a).Ok :=
 ⟨ok.mod,ok.kind,ok.glob,ok.blt,ok.above,ok.inj,ok.has,ok.cab,(fun z=>nomatch z),ok.frames,ok.stk,ok.exf,ok.bs,ok.bsz,ok.W0,ok.W2,ok.DZ,ok.frf⟩
section
variable {X:Cx} {pins UY:List (Addr×Obj)} {σ:St} {H H':Hp} {s:Shared}
theorem Inv.US (I:Inv X pins σ H s):Inv (X.US (X.pn++pins)) [] σ H s:=⟨I.ok.US _,I.os,I.bare,I.base,I.loc,I.cell,I.free,I.sX,fun p hp=>I.pin p (by simpa using hp),I.hok,I.len⟩
theorem Inv.yu (I:Inv (X.US (X.pn++pins)) UY σ H s)(ok:X.Ok):Inv X pins σ H s:=⟨ok,I.os,I.bare,I.base,I.loc,I.cell,I.free,I.sX,fun p hp=>I.pin p (mem_append_left _ hp),I.hok,I.len⟩
theorem SP.yu {D:Ends}{f:Flow}{s':Shared}(ok:X.Ok)(h:SP (X.US (X.pn++pins)) [] D f s'):SP X pins D f s':=by
 cases f with
 |next=>obtain⟨σ',H',I,q⟩:=h;exact⟨σ',H',I.yu ok,q⟩
 |brk=>obtain⟨σ',H',I,q⟩:=h;exact⟨σ',H',I.yu ok,q⟩
 |cont=>obtain⟨σ',H',I,q⟩:=h;exact⟨σ',H',I.yu ok,q⟩
 |ret u=>obtain⟨v,σ',H',I,r,q⟩:=h;exact⟨v,σ',H',I.yu ok,r,q⟩
theorem Inv.hand (I:Inv X pins σ H s)(a:Addr):Inv (X.hand a) pins σ H s:=⟨I.ok.hand a,I.os,I.bare,I.base,I.loc,I.cell,I.free,I.sX,I.pin,I.hok,I.len⟩
theorem Inv.Q7 {a:Addr}(I:Inv (X.hand a) pins σ H s)(ok:X.Ok):Inv X pins σ H s:=⟨ok,I.os,I.bare,I.base,I.loc,I.cell,I.free,I.sX,I.pin,I.hok,I.len⟩
theorem Inv.flown {G h' B:Heap}(I:Inv X pins σ H { s with heap:=G })(cov:∀ b o,G.get? b=some o->b ∉ frs X.stack->B.get? b=some o)(st:B.StaysIn h')(up:G.UpToSlots h'):Inv X pins σ H { s with heap:=h' }:=by
 have keep:∀ b o,G.get? b=some o->b ∉ frs X.stack->h'.get? b=some o:=fun b o e hb=>st b o (cov b o e hb);have slot:∀ b o,G.get? b=some o->b∈frs X.stack->∃ sl,h'.get? b=some { o with slots:=sl }:=fun b o e hb=>by
  obtain⟨_,o',e',hd⟩:=I.stack.mem hb;have:o'=o:=Option.some.inj (e'.symm.trans e);subst this;exact up b o' e hd
 refine I.call' (s':={ s with heap:=h' }) (ch:=[]) rfl ⟨fun b o e _ hb _=>keep b o e hb,fun b o e _ hb _=>slot b o e hb,fun _ _ _ n _=>n,fun b o e _=>?_,fun _ _ q=>q,fun _ _ _ q=>q,fun _ ps q=>⟨#[],by rw[q];simp⟩⟩ (fun b u e=>?_) I.bare fun b z=>absurd z (by simp)
 ·by_cases hb:b∈frs X.stack
  ·obtain⟨sl,z⟩:=slot b o e hb;exact⟨_,z⟩
  ·exact⟨o,keep b o e hb⟩
 ·refine(I.hok b u e).stay (fun c v hc q=>keep c v q fun hm=>?_) (fun _ q=>q) fun _ _ q=>q;have hf:=I.QT c hm;rcases hc with rfl|hc
  ·rw[hf]at e;cases e
  ·rw[hf]at hc;cases hc
end
end L2
set_option maxHeartbeats 4000000
namespace L2
open PySem PySem.Spec PyProof.Rows
structure ExA (K:Frag)(C:Addr):Prop where
 exc:ExC K C
 ga:findIn K (.ref C) "__getattribute__"=some (some (.builtin "BaseException.__getattribute__"))
 ao7:findIn K (.ref C) "__getattr__"=some none
 cl:findIn K (.ref C) "__class__"=some (some (.builtin "object.__class__"))
section
variable {prog:Program} {w:World} {A:Around} {E:Value->Shared->Prop} {h:Heap} {g:Array GenState} {d:Drawn} {t:Nat} {os:OsState} {a:Addr} {o:Obj} {vs:Array Value} {K:Frag}
 {nm q:Str} {C N:Addr} {bs bm:List Value} {hdct:Bool} {sn:List Str} {sub:List Value} {ab:Bool} {col:Option Bool} {dd:Option Addr} {k0 k1 k2 k3 k5:Option Value} {newId:String}
end
section
variable {X:Cx}
theorem MB:Passes (iE X.prog X.w) X E0:=fun _ _ _ _ _ _ _ ⟨_,_,_,_,_,_,_,_,_,_,z⟩=>z.elim
end
end L2
set_option maxHeartbeats 4000000
namespace L2
open PySem PySem.Spec PyProof.Rows
section
variable {P:Program} {w:World} {K:Frag} {mg:Str->Option Value} {base:Heap}
end
section
variable {X:Cx} {tg iter elt:Expr} {ifs:List Expr} {scope:Scope} {pos:Pos} {cn:List Str} {wi:TI} {g:Bk->TG} {tc:Bk->TT} {te:Bk->TE} {TH:Bk->Prop}
end
end L2
set_option maxHeartbeats 4000000
namespace L2
open PySem PySem.Spec PyProof.Rows
def aim (to:TE)(tl th:St->Hp->(Option Int->Hp->Prop)->Prop):TG:=fun v σ H Q=>to σ H fun x H1=>tl σ H1 fun l H2=>th σ H2 fun u H3 =>
 ∃(p b:Addr)(xs ys:List V)(a c:Int),x=.ref p/\v=.ref b/\l=some a/\u=some c/\H3 p=some (.lst xs)/\H3 b=some (.lst ys)/\p≠b/\0<=a/\a<=c/\c<=xs.length/\xs.length+ys.length<=sizeLine/\Q σ (upd H3 p (.lst (xs.take a.toNat++ys++xs.drop c.toNat)))
theorem Vh {X:Cx}{o:Expr}{lo hi:Option Expr}{p2 pos:Pos}{to:TE}{tl th:St->Hp->(Option Int->Hp->Prop)->Prop}(ho:PE X o to)(hl:PO X lo tl)(hu:PO X hi th)
  (ha:∀ v,assign (.Subscript o (.Slice lo hi none p2) pos) X.env v=(do
   let ov <-holding [v] (eval o X.env)
   let iv <-holding [v,ov] (eval (.Slice lo hi none p2) X.env)
   standAt pos
   holding [v,ov,iv] (setItem ov iv v)
   release [iv,v,ov] []):=by intro _;rfl):PG X (.Subscript o (.Slice lo hi none p2) pos) (aim to tl th):=by
 intro pins s σ H v u Q I r h;rw[ha];refine wpAny_bind (wpAny_holding (cH (ho pins s σ H _ I h) fun ov s1 ⟨x,H1,I1,r1,q1⟩=>?_));refine wpAny_bind (wpAny_holding ?_);refine wpAny_Slice (cH (hl pins s1 σ H1 _ I1 q1) fun vl s2 ⟨l,H2,I2,pl,q2⟩=>cH (hu pins s2 σ H2 _ I2 q2) fun vu s3 ⟨uu,H3,I3,pu,q3⟩=>?_);rw[evalPart_none];refine wpAny_pure ?_;have I4:Inv X pins σ H3 { s3 with heap:=s3.heap.push { cls:=.type "slice",data:=.fields #[vl,vu,.none] } }:=I3.kept (t':=s3.toks) fun b ob q=>Heap.get?_push_of_some _ q;obtain⟨p,b,xs,ys,a,c,rfl,rfl,rfl,rfl,hp,hb,hne,h0,hac,hc,hz,q4⟩:=q3;cases r1;cases r;refine wpAny_bind (wpAny_standAt (wpAny_bind (wpAny_holding ?_)));refine abD I4 hp hb hne (Heap.IsSliceOf.new ..) (by cases pl;exact⟨_,rfl⟩) (by cases pu;exact⟨_,rfl⟩) h0 hac hc hz fun s5 I5=>?_;exact wpAny_release ⟨σ,_,I5,q4⟩
end L2
namespace L2
open PySem PySem.Spec PyProof.Rows
section
variable {X:Cx}
theorem all_range:∀ bs:List Bool,(List.range bs.length).all (fun i=>bs.getD i false)=bs.all id
 |[]=>rfl
 |b::bs=>by
  rw[length_cons,List.range_succ_eq_map,List.all_cons,List.all_map,List.all_cons];have:((fun i=>(b::bs).getD i false) ∘ Nat.succ)=fun i=>bs.getD i false:=by
   funext i
   rfl
  rw[this,all_range bs];rfl
theorem ad9:lH X (.builtin "all") (fun xs H Q=>X.calm=true/\∃(a:Addr)(bs:List Bool),xs=[.ref a]/\aX X.K H a (bs.map V.bl)/\Q (.bl (bs.all id)) H):=by
 intro pins s σ H xs us Q I r h;obtain⟨hc,a,bs,rfl,hq,q⟩:=h;obtain⟨u,rfl,rfl⟩:=r.one;obtain⟨its,rv,p,hz⟩:=I.list hq;have hl:=rv.length;rw[length_map]at hl;have ah6:∀(i:Nat)(v:Value),its.toArray[i]? = some v->v=Value.bool (bs.getD i false):=by
  intro i v hv;have hv':its[i]? = some v:=by simpa using hv
  have hi:i<its.length:=(List.getElem?_eq_some_iff.mp hv').1;have hb:i<bs.length:=by omega
  obtain⟨u,hu,ru⟩:=rv.get (i:=i) (x:=.bl (bs[i])) (by rw[getElem?_map,getElem?_eq_getElem hb];rfl);rw[hv']at hu;cases hu;have:v=.bool bs[i]:=ru;rw[this,List.getD_eq_getElem?_getD,getElem?_eq_getElem hb];rfl
 refine call_all_walk (wpAny_pyIter_list p.isList ?_);have ane:a≠s.heap.objs.size:=by
  obtain⟨o,ho,_⟩:=p.isList;exact Nat.ne_of_lt (Heap.lt_size ho)
 have hd:X.A.in1.handled=none:=I.ok.hd hc;refine⟨s.heap.objs.size,_,_,_,_,_,fun i=>bs.getD i false,rfl,Walks.list hd s.heap.objs.size a ane its.toArray,⟨⟨_,Heap.get?_push_size _ rfl,rfl,rfl⟩,p.isList.push _⟩,?_,?_⟩
 ·intro i v s' Q' E' hP hQ';rw[ah6 i v hP];exact wpAny_truthy_bool hQ'
 ·intro h' tk kk;have e:(List.range its.toArray.size).all (fun i=>bs.getD i false)=bs.all id:=by
   rw[size_toArray,<-hl];exact all_range bs
  rw[e];refine⟨.bl _,H,I.kept (t':=tk) fun b o e=>kk b o (fun z=>?_) (Heap.get?_push_of_some _ e),rfl,q⟩;have:b=s.heap.objs.size:=by simpa using z
  exact absurd (Heap.lt_size e) (by rw[this];exact Nat.lt_irrefl _)
def Itd (lo:Int)(n:Nat):It:={ go:=fun i _=>i<n,yld:=fun i H x H'=>H'=H/\x=V.int (lo-(i:Int)),stop:=fun i _=>n<=i }
theorem abL {P:Program}{w:World}{K:Frag}{tg:Expr}(it:Addr)(lo:Int)(n:Nat):Turn P w K tg (Itd lo n) [it] it (fun i h=>IsRangeIter h it (lo+(i:Nat) * (-1)) ((n:Int)-(i:Nat)) (-1)) where
 mem:=by simp
 obj:=fun i h st b hb=>by
  have e:b=it:=by simpa using hb
  subst e;exact⟨_,st,fun v z=>by
   have z':Data.fields _=Data.cell v:=z;cases z'⟩
 keep:=fun i h h' st k=>k it (by simp) _ st
 item:=by
  intro X hP hw hK hc i pins s σ H E I hf st hg;subst hP hw hK;obtain⟨f0,f1,f2,f3,f4,f5⟩:=hf it (by simp);have W:=Walks.range (prog:=X.prog) (w:=X.w) (I.ok.hd hc) it lo (-1) n;refine W.item i s _ _ hg st fun v h' tk hv st' kk=>?_;obtain⟨t,rfl⟩:=hv;have I1:Inv X pins σ H { s with heap:=h',toks:=tk }:=I.turned (fun b o hb e=>kk b o (by simpa using hb) e) f0 f1 f3 f4 f5;refine⟨_,rfl,aay (s:={ s with heap:=h',toks:=tk }) (n:="range_iterator") st' rfl rfl (by decide) ⟨.int (lo-i),H,I1,⟨t,?_⟩,⟨rfl,rfl⟩,st',fun b hb=>(hf b hb).1⟩⟩;have:lo+(i:Int) * (-1)=lo-i:=by omega
  rw[this]
 done:=by
  intro X hP hw hK hc i pins s σ H E I hf st hg;subst hP hw hK;obtain⟨f0,f1,f2,f3,f4,f5⟩:=hf it (by simp);exact wpAny_pyNext_range_end (I.ok.hd hc) st (by have:n<=i:=hg;omega) fun h' eb=>⟨rfl,I.turned (t':=s.toks) (fun b o hb e=>eb b o hb e) f0 f1 f3 f4 f5⟩
 self:=fun _ _ _ _ _ st h=>wpAny_pyIter_rangeiter st h
theorem rangeSize_down (a b:Int):Builtin.Range.rangeSize a b (-1)=if b<a then a-b else 0:=by
 unfold Builtin.Range.rangeSize;rw[if_neg (by decide)]
 by_cases h:a > b
 ·rw[if_pos h,if_pos h];show(a-b-1) / 1+1=a-b;omega
 ·rw[if_neg h,if_neg h]
theorem small_down {a b:Int}(h1:-(2 ^ 62)<=a)(h2:a<2 ^ 62)(h3:-(2 ^ 62)<=b)(h4:b<2 ^ 62):Builtin.Range.small a b (-1)=true:=by
 unfold Builtin.Range.small;rw[rangeSize_down];have f:∀ x:Int,-(2 ^ 63)<=x->x<2 ^ 63->Builtin.Range.rangeFitsLong x=true:=fun x p q=>by
  unfold Builtin.Range.rangeFitsLong;simp;omega
 rw[f a (by omega) (by omega),f b (by omega) (by omega),f (-1) (by omega) (by omega),f _ (by split <;> omega) (by split <;> omega),if_neg (show ¬((-1:Int) > 0) by decide),f (b+(-1+1)) (by omega) (by omega)];simp
theorem af2 {tg:Expr}{pins:List (Addr×Obj)}{σ:St}{H:Hp}{s:Shared}{R:It->Hp->Prop}{E:Value->Shared->Prop}{lo hi:Int}{t u v:Tok}{tk:Nat}(I:Inv X pins σ H s)(h1:-(2 ^ 62)<=lo)(h2:lo<2 ^ 62)(h3:-(2 ^ 62)<=hi)(h4:hi<2 ^ 62)
  (q:R (Itd lo (lo-hi).toNat) H):wpAny (model X.prog X.w) X.A (pyIter (.ref s.heap.objs.size)) (PIE X pins σ tg R) E { s with heap:=s.heap.push { cls:=.type "range",data:=.fields #[.int lo t,.int hi u,.int (-1) v] },toks:=tk }:=by
 refine wpAny_pyIter_range (IsRange.new ..) (small_down h1 h2 h3 h4) ?_;have I1:Inv X pins σ H { s with heap:=s.heap.push { cls:=.type "range",data:=.fields #[.int lo t,.int hi u,.int (-1) v] },toks:=tk }:=I.kept fun b o e=>Heap.get?_push_of_some _ e;refine⟨(s.heap.push { cls:=.type "range",data:=.fields #[.int lo t,.int hi u,.int (-1) v] }).objs.size,[(s.heap.push { cls:=.type "range",data:=.fields #[.int lo t,.int hi u,.int (-1) v] }).objs.size],_,_,H,rfl,
  I1.kept (t':=tk) fun b o e=>Heap.get?_push_of_some _ e,abL _ lo (lo-hi).toNat,?_,fun b hb=>?_,q⟩
 ·have e1:lo+((0:Nat):Int) * (-1)=lo:=by simp
  have e2:(((lo-hi).toNat:Nat):Int)-((0:Nat):Int)=Builtin.Range.rangeSize lo hi (-1):=by rw[rangeSize_down];split <;> omega
  show IsRangeIter _ _ (lo+((0:Nat):Int) * (-1)) ((((lo-hi).toNat:Nat):Int)-((0:Nat):Int)) (-1);rw[e1,e2];exact Heap.get?_push_size _ rfl
 ·have e:b=(s.heap.push { cls:=.type "range",data:=.fields #[.int lo t,.int hi u,.int (-1) v] }).objs.size:=by simpa using hb
  subst e;exact I1.QV (Nat.le_refl _) (I1.hok.fresh (Nat.le_refl _))
def akb (ta:TA):TI:=fun σ H R=>ta σ H fun vs H1=>∃ i j:Int,vs=[.int i,.int j,.int (-1)]/\(-(2 ^ 62)<=i/\i<2 ^ 62/\-(2 ^ 62)<=j/\j<2 ^ 62)/\R (Itd i (i-j).toNat) H1
theorem abM {tg:Expr}{a b c:Expr}{ta:TA}{p pos:Pos}(hg:Gl X "range")(hm:X.mg "range"=none)(ha:PA X [a,b,c] ta)(hs:starEach [a,b,c] X.env=[(false,eval a X.env),(false,eval b X.env),(false,eval c X.env)]:=by rfl)(hs2:starEach [b,c] X.env=[(false,eval b X.env),(false,eval c X.env)]:=by rfl) :
  PI X tg (.Call (.Name "range" p) [a,b,c] [] pos) (akb ta):=by
 intro pins s σ H R I h;refine Call_ (uF I hg hm boot_range (PyProof.Rows.callWith_type1 (cH (ha pos pins s σ H _ I h) fun us s1 ⟨vs,H1,I1,r1,q1⟩=>?_) (by rw[hs,hs2]) (by rw[hs2];rfl)));obtain⟨i,j,e,⟨q1,q2,q3,q4⟩,q⟩:=q1;subst e;cases r1 with
 |cons r rr =>
  cases rr with
  |cons r' rr =>
   cases rr with
   |cons r'' rr =>
    cases rr;obtain⟨t,rfl⟩:=r;obtain⟨t',rfl⟩:=r';obtain⟨t'',rfl⟩:=r'';exact call_range_3 (by decide) (af2 I1 q1 q2 q3 q4 q) (.inl rfl)
theorem aea {lo:Int}{n:Nat}{g:TG}{tb:TS}{D:Ends}{σ:St}{H:Hp}(Pv:Nat->St->Hp->Prop)(h0:Pv 0 σ H)
  (hs:∀ i σ H,i<n->Pv i σ H->g (.int (lo-i)) σ H fun σ2 H2=>tb { D with nx:=Pv (i+1),ct:=Pv (i+1),bk:=D.nx } σ2 H2) (hd:∀ σ H,Pv n σ H->D.nx σ H) :
  ∃ W:Nat->Nat->St->Hp->Prop,(∃ m,W 0 m σ H)/\∀ i m σ H,W i m σ H ->
   ((Itd lo n).stop i H/\D.nx σ H)\/((Itd lo n).go i H/\∃ N:St->Hp->Prop,(∀ σ' H',N σ' H'->∃ m',m'<m/\W (i+1) m' σ' H')/\∀ x H',(Itd lo n).yld i H x H'->g x σ H' fun σ2 H2=>tb { D with nx:=N,ct:=N,bk:=D.nx } σ2 H2):=by
 refine⟨fun i m σ H=>m=n-i/\i<=n/\Pv i σ H,⟨n,by simp,Nat.zero_le _,h0⟩,?_⟩;rintro i m σ H ⟨rfl,hi,p⟩
 by_cases hlt:i<n
 ·refine .inr ⟨hlt,Pv (i+1),fun σ' H' p'=>⟨n-(i+1),by omega,rfl,hlt,p'⟩,fun x H' y=>?_⟩;obtain⟨e,y⟩:=y;subst e y;exact hs i σ _ hlt p
 ·have e:i=n:=by omega
  subst e;exact .inl ⟨Nat.le_refl _,hd _ _ p⟩
def af3:TE:=fun _ _ _=>False
theorem aeb {e:Expr}:PE X e af3:=fun _ _ _ _ _ _ h=>h.elim
end
end L2
namespace L2
open PySem PySem.Spec PyProof.Rows
section
variable {κ:Type} [DecidableEq κ]
def sV (kvs:List (κ×V))(k:κ):Option V:=(kvs.find? fun kv=>decide (kv.1=k)).map (·.2)
def putK (kvs:List (κ×V))(k:κ)(v:V):List (κ×V) :=
 if(kvs.any fun kv=>decide (kv.1=k))=true then kvs.map (fun kv=>if kv.1=k then(kv.1,v) else kv) else kvs++[(k,v)]
def MC (kvs:List (κ×V))(k:κ):List (κ×V):=kvs.filter fun kv=>decide (kv.1≠k)
theorem MD {p:κ×V}{r:List (κ×V)}{k:κ}(e:p.1=k):sV (p::r) k=some p.2:=by simp[sV,List.find?_cons,e]
theorem ME {p:κ×V}{r:List (κ×V)}{k:κ}(e:¬ p.1=k):sV (p::r) k=sV r k:=by simp[sV,List.find?_cons,e]
theorem yv (k:κ):∀ kvs:List (κ×V),(kvs.any fun kv=>decide (kv.1=k))=(sV kvs k).isSome
 |[]=>rfl
 |p::r=>by
  rw[List.any_cons]
  by_cases e:p.1=k
  ·simp only [MD e,decide_eq_true e,Bool.true_or,Option.isSome_some]
  ·rw[ME e,decide_eq_false e,Bool.false_or];exact yv k r
theorem KW (kvs:List (κ×V))(k:κ)(v:V):(putK kvs k v).length<=kvs.length+1:=by
 unfold putK;split
 ·rw[length_map];omega
 ·rw[length_append,length_cons,List.length_nil];omega
theorem Vi {kvs:List (κ×V)}{k:κ}(v:V)(h:sV kvs k=none):putK kvs k v=kvs++[(k,v)]:=by
 unfold putK;rw[yv,h];exact if_neg (by decide)
theorem pR.vn {o:Option V}{u:Option Value}(r:pR o u):o.isSome=u.isSome:=by
 cases o with
 |none=>cases u with
  |none=>rfl
  |some _=>exact(show False from r).elim
 |some _=>cases u with
  |none=>exact(show False from r).elim
  |some _=>rfl
theorem pR.getD {o:Option V}{u:Option Value}{d:V}{d':Value}(r:pR o u)(rd:RelV d d'):RelV (o.getD d) (u.getD d'):=by
 cases o with
 |none=>cases u with
  |none=>exact rd
  |some _=>exact(show False from r).elim
 |some _=>cases u with
  |none=>exact(show False from r).elim
  |some _=>exact r
theorem KV.val {kvs:List (κ×V)}{vs:List (κ×Value)}(r:KV kvs vs)(k:κ):pR (sV kvs k) (valueAt vs k):=by
 unfold KV at r
 induction r with
 |nil=>exact True.intro
 | @cons p q ps qs h t ih =>
  obtain⟨h1,h2⟩:=h
  by_cases e:p.1=k
  ·have e':q.1=k:=h1.symm.trans e;have b:valueAt (q::qs) k=some q.2:=by simp[valueAt,List.find?_cons,e']
   rw[MD e,b];exact h2
  ·have e':¬ q.1=k:=fun z=>e (h1.trans z);have b:valueAt (q::qs) k=valueAt qs k:=by simp[valueAt,List.find?_cons,e']
   rw[ME e,b];exact ih
theorem KV.any {kvs:List (κ×V)}{vs:List (κ×Value)}(r:KV kvs vs)(k:κ):(kvs.any fun kv=>decide (kv.1=k))=vs.any fun kv=>decide (kv.1=k):=by
 unfold KV at r
 induction r with
 |nil=>rfl
 |cons h t ih=>rw[List.any_cons,List.any_cons,ih,h.1]
theorem KV.repl {kvs:List (κ×V)}{vs:List (κ×Value)}(r:KV kvs vs)(k:κ){y:V}{u:Value}(ry:RelV y u) :
  KV (kvs.map fun kv=>if kv.1=k then(kv.1,y) else kv) (vs.map fun kv=>if kv.1=k then(kv.1,u) else kv):=by
 unfold KV at r ⊢
 induction r with
 |nil=>exact .nil
 | @cons p q ps qs h t ih =>
  rw[map_cons,map_cons];refine .cons ?_ ih;obtain⟨h1,h2⟩:=h
  by_cases e:p.1=k
  ·rw[if_pos e,if_pos (h1.symm.trans e)];exact⟨h1,ry⟩
  ·rw[if_neg e,if_neg (fun z=>e (h1.trans z))];exact⟨h1,h2⟩
theorem KV.put {kvs:List (κ×V)}{vs:List (κ×Value)}(r:KV kvs vs)(k:κ){y:V}{u:Value}(ry:RelV y u):KV (putK kvs k y) (stored vs k u):=by
 unfold putK stored;rw[r.any k]
 by_cases e:(vs.any fun kv=>decide (kv.1=k))=true
 ·rw[if_pos e,if_pos e];exact r.repl k ry
 ·rw[if_neg e,if_neg e];exact Paired.snoc r ⟨rfl,ry⟩
theorem KV.drop {kvs:List (κ×V)}{vs:List (κ×Value)}(r:KV kvs vs)(k:κ):KV (MC kvs k) (without vs k):=by
 unfold KV at r ⊢;unfold MC without
 induction r with
 |nil=>exact .nil
 | @cons p q ps qs h t ih =>
  obtain⟨h1,h2⟩:=h;rw[List.filter_cons,List.filter_cons]
  by_cases e:p.1=k
  ·have a:¬ decide (p.1≠k)=true:=by simp[e]
   have b:¬ decide (q.1≠k)=true:=by simp[h1.symm.trans e]
   rw[if_neg a,if_neg b];exact ih
  ·have e':¬ q.1=k:=fun z=>e (h1.trans z);have a:decide (p.1≠k)=true:=by simp[e]
   have b:decide (q.1≠k)=true:=by simp[e']
   rw[if_pos a,if_pos b];exact .cons ⟨h1,h2⟩ ih
theorem KV.keys {kvs:List (κ×V)}{vs:List (κ×Value)}(r:KV kvs vs):kvs.map (·.1)=vs.map (·.1):=by
 unfold KV at r
 induction r with
 |nil=>rfl
 |cons h t ih=>rw[map_cons,map_cons,ih,h.1]
theorem KV.length {kvs:List (κ×V)}{vs:List (κ×Value)}(r:KV kvs vs):kvs.length=vs.length:=Paired.length r
theorem aec (kvs:List (κ×V))(k:κ):(MC kvs k).length<=kvs.length:=List.length_filter_le _ _
end
theorem MF {P:Program}{w:World}{k:Key}{u:Value}(r:RelV (kV k) u):(cD P w).is k u=true:=by
 cases k with
 |inl i=>obtain⟨t,e⟩:=(show ∃ t,u=Value.int i t from r);subst e;exact UX P w i t
 |inr x=>obtain⟨t,e⟩:=(show ∃ t,u=Value.str x t from r);subst e;exact kY P w x t
theorem Qo {P:Program}{w:World}:∀{ks:List Key} {us:List Value},Vals (ks.map kV) us->ItemsAre (cD P w) ks us
 |[],_,r=>by rw[List.map_nil]at r;cases r;exact .nil
 |k::ks,_,r=>by
  rw[map_cons]at r;cases r with
  |cons h t=>exact .cons (MF h) (Qo t)
abbrev KT (H:Hp):List (List Key×V)->List (List Key×Addr×Value)->Prop:=Paired fun p q=>p.1=q.1/\H q.2.1=some (.tup (p.1.map kV))/\RelV p.2 q.2.2
theorem KT.val {H:Hp}{kvs:List (List Key×V)}{xs:List (List Key×Addr×Value)}(r:KT H kvs xs)(k:List Key):pR (sV kvs k) ((atKey xs k).map (·.2)):=by
 induction r with
 |nil=>exact True.intro
 | @cons p q ps qs h t ih =>
  obtain⟨h1,_,h2⟩:=h
  by_cases e:p.1=k
  ·have e':q.1=k:=h1.symm.trans e;have b:atKey (q::qs) k=some q.2:=by simp[atKey,List.find?_cons,e']
   rw[MD e,b];exact h2
  ·have e':¬ q.1=k:=fun z=>e (h1.trans z);have b:atKey (q::qs) k=atKey qs k:=by simp[atKey,List.find?_cons,e']
   rw[ME e,b];exact ih
theorem KT.repl {H:Hp}{kvs:List (List Key×V)}{xs:List (List Key×Addr×Value)}(r:KT H kvs xs)(k:List Key){y:V}{u:Value}(ry:RelV y u) :
  KT H (kvs.map fun kv=>if kv.1=k then(kv.1,y) else kv) (xs.map (putAt k u)):=by
 induction r with
 |nil=>exact .nil
 | @cons p q ps qs h t ih =>
  rw[map_cons,map_cons];refine .cons ?_ ih;obtain⟨h1,h2,h3⟩:=h;unfold putAt
  by_cases e:p.1=k
  ·rw[if_pos e,if_pos (h1.symm.trans e)];exact⟨h1,h2,ry⟩
  ·rw[if_neg e,if_neg (fun z=>e (h1.trans z))];exact⟨h1,h2,h3⟩
theorem KT.put {H:Hp}{kvs:List (List Key×V)}{xs:List (List Key×Addr×Value)}(r:KT H kvs xs)(k:List Key){b:Addr}{y:V}{u:Value}(hb:H b=some (.tup (k.map kV)))(ry:RelV y u) :
  KT H (putK kvs k y) (storedH xs k b u):=by
 have e:(kvs.any fun kv=>decide (kv.1=k))=(atKey xs k).isSome:=by
  rw[yv,(r.val k).vn,Option.isSome_map]
 unfold putK storedH;rw[e]
 by_cases q:(atKey xs k).isSome=true
 ·rw[if_pos q,if_pos q];exact r.repl k ry
 ·rw[if_neg q,if_neg q];exact Paired.snoc r ⟨rfl,hb,ry⟩
theorem KT.keeps {H H':Hp}{kvs:List (List Key×V)}{xs:List (List Key×Addr×Value)}(r:KT H kvs xs)(ht:∀ b ys,H b=some (.tup ys)->H' b=some (.tup ys)):KT H' kvs xs :=
 Paired.ahL r fun _ _ z=>⟨z.1,ht _ _ z.2.1,z.2.2⟩
section
variable {P:Program} {w:World} {H:Hp} {h:Heap} {a:Addr}
theorem ahq {u:HO}(ok:yk P w H h)(e:Rd H a u):gQ P w H h a u:=e.ok ok
theorem A2 {kvs:List (Key×V)}(ok:yk P w H h)(e:Rd H a (.dK kvs)):kvs.length<=sizeLine/\(a==sysModules)=false/\∃ vs,KV kvs vs/\h.DictOf (cD P w) a vs :=
 show gQ P w H h a (.dK kvs) from ahq ok e
theorem ahr {kvs:List (Key×V)}(ok:yk P w H h)(e:H a=some (.dK kvs)):kvs.length<=sizeLine/\(a==sysModules)=false/\∃ vs,KV kvs vs/\h.DictOf (cD P w) a vs:=A2 ok (.inl e)
theorem G8 {ks:List Key}(ok:yk P w H h)(e:H a=some (.tup (ks.map kV))):(tupleKind (cD P w)).is h ks a:=by
 obtain⟨_,its,r,o,h1,h2,n,h3⟩:=(show gQ P w H h a (.tup (ks.map kV)) from ok a _ e);exact⟨o,its.toArray,n,h1,h2,h3,by simpa using Qo r⟩
theorem MG {kvs:List (List Key×V)}(ok:yk P w H h)(e:Rd H a (.dT kvs)):kvs.length<=sizeLine/\(a==sysModules)=false /\
  ∃ xs,KT H kvs xs/\h.DictOfH (tupleKind (cD P w)) a xs:=by
 obtain⟨z,y,xs,r,o,es,ep,h1,h2,h3,h4,h5⟩:=(show gQ P w H h a (.dT kvs) from ahq ok e);refine⟨z,y,xs,r,o,es,ep,h1,h2,h3,h4,fun x hx=>?_,h5⟩;have all:∀{l:List (List Key×V)} {m:List (List Key×Addr×Value)},KT H l m->∀ x∈m,(tupleKind (cD P w)).is h x.1 x.2.1:=by
  intro l m q
  induction q with
  |nil=>intro x hx;exact nomatch hx
  | @cons p q ps qs hq t ih =>
   intro x hx;rcases List.mem_cons.mp hx with e|hx
   ·subst e;exact G8 ok (by rw[<-hq.1];exact hq.2.1)
   ·exact ih x hx
 exact all r x hx
theorem akc {kvs:List (List Key×V)}(ok:yk P w H h)(e:H a=some (.dT kvs)):kvs.length<=sizeLine/\(a==sysModules)=false /\
  ∃ xs,KT H kvs xs/\h.DictOfH (tupleKind (cD P w)) a xs:=MG ok (.inl e)
end
def sW (H:Hp)(a:Addr)(y:V)(r:Option V):Prop :=
 (∃ kvs k,Rd H a (.dK kvs)/\y=kV k/\r=sV kvs k)\/∃ kvs k b,Rd H a (.dT kvs)/\y=.ref b/\H b=some (.tup (k.map kV))/\r=sV kvs k
def Xr (H:Hp)(a:Addr)(y v:V)(H':Hp):Prop :=
 (∃ kvs k,H a=some (.dK kvs)/\y=kV k/\kvs.length<sizeLine/\H'=upd H a (.dK (putK kvs k v))) \/
 ∃ kvs k b,H a=some (.dT kvs)/\y=.ref b/\H b=some (.tup (k.map kV))/\kvs.length<sizeLine/\H'=upd H a (.dT (putK kvs k v))
theorem sW.k {H:Hp}{a:Addr}{kvs:List (Key×V)}{k:Key}(e:H a=some (.dK kvs)):sW H a (kV k) (sV kvs k):=.inl ⟨kvs,k,.inl e,rfl,rfl⟩
theorem Xr.k {H:Hp}{a:Addr}{kvs:List (Key×V)}{k:Key}{v:V}(e:H a=some (.dK kvs))(hl:kvs.length<sizeLine):Xr H a (kV k) v (upd H a (.dK (putK kvs k v))):=.inl ⟨kvs,k,e,rfl,hl,rfl⟩
section
variable {X:Cx} {pins:List (Addr×Obj)} {σ:St} {H:Hp} {s:Shared} {a:Addr} {y v:V} {u r:Value} {o:Option V} {A:Around} {E:Value->Shared->Prop}
theorem Inv.big (I:Inv X pins σ H s):sysModules<s.heap.objs.size:=by
 have h:mainGlobals<s.heap.objs.size:=(I.mod.glob.keeps I.bk).lt;exact Nat.lt_trans (by decide) h
theorem abN {Q:Value->Shared->Prop}(hu:A.units+1<cLine)(I:Inv X pins σ H s)(g:sW H a y (some v))(ry:RelV y u)(h:∀ w' s',Inv X pins σ H s'->RelV v w'->Q w' s') :
  wpAny (model X.prog X.w) A (getItem (.ref a) u) Q E s:=by
 rcases g with ⟨kvs,k,e,ey,l⟩|⟨kvs,k,b,e,ey,eb,l⟩
 ·subst ey;obtain⟨z,hd,vs,rel,dd⟩:=A2 I.hok e;obtain⟨w',hw,U1⟩:=pR.some_of (v:=v) (o:=valueAt vs k) (by rw[l];exact rel.val k);exact wpAny_getItem_of (MF ry) dd.mapOf hw (h w' _ (I.tok _) U1)
 ·subst ey;cases (show u=Value.ref b from ry);obtain⟨z,hd,xs,rel,dd⟩:=MG I.hok e;obtain⟨w',hw,U1⟩:=pR.some_of (v:=v) (o:=(atKey xs k).map (·.2)) (by rw[l];exact rel.val k);obtain⟨p,hp,hp2⟩:=Option.map_eq_some_iff.mp hw;refine wpAny_getItem_heap (tupleKind_room_in1 hu) (G8 I.hok eb) dd hp ?_;rw[hp2];exact h w' _ (I.tok _) U1
theorem amD {Q:Value->Shared->Prop}(hu:A.units+1<cLine)(I:Inv X pins σ H s)(g:sW H a y o)(ry:RelV y u)(h:∀ s',Inv X pins σ H s'->Q (.bool o.isSome) s') :
  wpAny (model X.prog X.w) A (compareOp .In u (.ref a)) Q E s:=by
 rcases g with ⟨kvs,k,e,ey,l⟩|⟨kvs,k,b,e,ey,eb,l⟩
 ·subst ey;obtain⟨z,hd,vs,rel,dd⟩:=A2 I.hok e;refine wpAny_in_of (MF ry) hd dd.mapOf ?_;rw[<-(rel.val k).vn,<-l];exact h _ (I.tok _)
 ·subst ey;cases (show u=Value.ref b from ry);obtain⟨z,hd,xs,rel,dd⟩:=MG I.hok e;refine wpAny_in_heap (tupleKind_room_in1 hu) (G8 I.hok eb) hd dd ?_;have q:=(rel.val k).vn;rw[Option.isSome_map]at q;rw[<-q,<-l];exact h _ (I.tok _)
theorem af4 {Q:Value->Shared->Prop}(hu:A.units+1<cLine)(I:Inv X pins σ H s)(g:sW H a y o)(ry:RelV y u)(h:∀ s',Inv X pins σ H s'->Q (.bool (!o.isSome)) s') :
  wpAny (model X.prog X.w) A (compareOp .NotIn u (.ref a)) Q E s:=by
 rcases g with ⟨kvs,k,e,ey,l⟩|⟨kvs,k,b,e,ey,eb,l⟩
 ·subst ey;obtain⟨z,hd,vs,rel,dd⟩:=A2 I.hok e;refine wpAny_notIn_of (MF ry) hd dd.mapOf ?_;rw[<-(rel.val k).vn,<-l];exact h _ (I.tok _)
 ·subst ey;cases (show u=Value.ref b from ry);obtain⟨z,hd,xs,rel,dd⟩:=MG I.hok e;refine wpAny_notIn_heap (tupleKind_room_in1 hu) (G8 I.hok eb) hd dd ?_;have q:=(rel.val k).vn;rw[Option.isSome_map]at q;rw[<-q,<-l];exact h _ (I.tok _)
theorem Q8 {h':Heap}{t':Nat}{ob:HO}(I:Inv X pins σ H s)(mu:Mut (H a))(hs:Heap.SameBut a s.heap h')(he:∃ q,h'.get? a=some q)(new:gQ X.prog X.w (upd H a ob) h' a ob) :
  Inv X pins σ (upd H a ob) { s with heap:=h',toks:=t' } :=
 I.write (x:=a) (e:=a) mu (.inl rfl) (fun b q hb z=>(hs.2 b hb).trans z) he new
theorem Xs {P:Program}{w:World}{H':Hp}{h':Heap}{kvs:List (Key×V)}{vs:List (Key×Value)}(z:kvs.length<=sizeLine)(hd:(a==sysModules)=false)(rel:KV kvs vs)(dd:h'.DictOf (cD P w) a vs) :
  gQ P w H' h' a (.dK kvs):=⟨z,hd,vs,rel,dd⟩
theorem abO {H':Hp}{Q:Unit->Shared->Prop}(hu:A.units+1<cLine)(I:Inv X pins σ H s)(g:Xr H a y v H')(ry:RelV y u)(rv:RelV v r)(h:∀ s',Inv X pins σ H' s'->Q () s') :
  wpAny (model X.prog X.w) A (setItem (.ref a) u r) Q E s:=by
 rcases g with ⟨kvs,k,e,ey,l,eH⟩|⟨kvs,k,b,e,ey,eb,l,eH⟩
 ·subst ey eH;obtain⟨z,hd,vs,rel,dd⟩:=ahr I.hok e;have hz:vs.length<=sizeLine:=by rw[<-rel.length];exact z
  have hl:(putK kvs k v).length<=sizeLine:=by have:=KW kvs k v;omega
  refine wpAny_setItem_pairs (hsz:=hz) (MF ry) dd fun h' dd' hs=>h _ ?_;have he:∃ q,h'.get? a=some q:=let ⟨q,_,_,hq,_⟩:=dd';⟨q,hq⟩;exact Q8 I (by rw[e];exact True.intro) hs he (Xs hl hd (rel.put k rv) dd')
 ·subst ey eH;cases (show u=Value.ref b from ry);obtain⟨z,hd,xs,rel,dd⟩:=akc I.hok e;have hz:xs.length<=sizeLine:=by rw[<-Paired.length rel];exact z
  have hl:(putK kvs k v).length<=sizeLine:=by have:=KW kvs k v;omega
  refine wpAny_setItem_heap (hsz:=hz) (tupleKind_room_in1 hu) (G8 I.hok eb) dd fun h' dd' hs=>h _ ?_;obtain⟨q,es,ep,hq,h2,h3,h4,_,h5⟩:=dd';refine Q8 I (by rw[e];exact True.intro) hs ⟨q,hq⟩ ⟨hl,hd,_,(rel.put k eb rv).keeps fun c ys ec=>?_,q,es,ep,hq,h2,h3,h4,h5⟩;rw[ak (j3 ec e (fun z=>nomatch z))];exact ec
end
section
variable {X:Cx} {pins:List (Addr×Obj)} {σ:St} {H:Hp} {s:Shared} {a:Addr} {kvs:List (Key×V)} {k:Key} {u:Value} {A:Around} {E:Value->Shared->Prop}
theorem akd {v:V}{more:List Value}{Q:Value->Shared->Prop}(I:Inv X pins σ H s)(e:H a=some (.dK kvs))(ry:RelV (kV k) u)(l:sV kvs k=some v)(hm:more=[]\/∃ x,more=[x])
  (h:∀ w' s',Inv X pins σ (upd H a (.dK (MC kvs k))) s'->RelV v w'->Q w' s'):wpAny (model X.prog X.w) A (call (.builtin "dict.pop") (.ref a::u::more)) Q E s:=by
 obtain⟨z,hd,vs,rel,dd⟩:=ahr I.hok e;obtain⟨w',hw,U1⟩:=pR.some_of (v:=v) (o:=valueAt vs k) (by rw[<-l];exact rel.val k);have hp:(keyPart u).isSome=true:=by
  cases k with
  |inl i=>obtain⟨t,q⟩:=(show ∃ t,u=Value.int i t from ry);subst q;rfl
  |inr x=>obtain⟨t,q⟩:=(show ∃ t,u=Value.str x t from ry);subst q;rfl
 have ha:argsOk "dict.pop" ⟨.ref a::u::more,[]⟩:=by
  rcases hm with q|⟨x,q⟩
  ·subst q;exact PySem.F.args_dict_pop_2 _ _
  ·subst q;exact PySem.F.args_dict_pop_3 _ _ _
 refine call_meetsIn slot_dict_pop dd.typeIs PySem.F.entry_dict_pop ha (meets_dict_pop_there (cD X.prog X.w) a (MF ry) more hm hp)
  ⟨vs,w',dd,by rw[<-rel.length];exact z,hw,fun h' dd' hs=>h w' _ ?_ U1⟩
 have he:∃ q,h'.get? a=some q:=let ⟨q,_,_,hq,_⟩:=dd';⟨q,hq⟩;exact Q8 I (by rw[e];exact True.intro) hs he (Xs (Nat.le_trans (aec kvs k) z) hd (rel.drop k) dd')
theorem ake {Q:Value->Shared->Prop}(I:Inv X pins σ H s)(e:Rd H a (.dK kvs))(h:∀ t s',Inv X pins σ H s'->Q (.int kvs.length t) s'):wpAny (model X.prog X.w) A (call (.builtin "len") [.ref a]) Q E s:=by
 obtain⟨z,hd,vs,rel,dd⟩:=A2 I.hok e;refine call_len_dict hd dd (by rw[<-rel.length];rw[sizeLine_eq]at z;omega) ?_;rw[<-rel.length];exact h _ _ (I.tok _)
end
def akf (i:Expr):Prop:=∀ ov iv,subscripted i false ov iv=operate [ov,iv] (getItem ov iv)
theorem af5 {prog:Program}{w:World}{A:Around}{E:Value->Shared->Prop}{s:Shared}{env:Env}{value slice:Expr}{pos:Pos}{T id:String}{Q:Value->Shared->Prop}
  (hl:typeLookup (.type T) "__getitem__"=pure (some (.builtin id))) (hs:akf slice)
  (h:wpAny (model prog w) A (eval value env) (fun o s₁=>wpAny (model prog w) A (eval slice env) (fun i s₂=>s₂.TypeIs o T/\wpAny (model prog w) A (getItem o i) Q E s₂) E s₁) E s) :
  wpAny (model prog w) A (eval (.Subscript value slice pos) env) Q E s:=by
 refine Subscript_ (wpAny_mono h (fun o s₁ h₁=>wpAny_mono h₁ (fun i s₂ h₂=>?_) fun _ _ x=>x) fun _ _ x=>x);obtain⟨hT,h₂⟩:=h₂;unfold subscriptTail;refine wpAny_bind ?_;rw[getitemInPython_of_ne hT.not_modules];refine wpAny_bind (wpAny_specialOf hT hl ?_);have fin:wpAny (model prog w) A (subscripted slice false o i) (fun r s₃=>wpAny (model prog w) A (letTemporaryGo value o r >>= fun _=>pure r) Q E s₃) E s₂:=by
  rw[hs o i];exact wpAny_operating (wpAny_mono h₂ (fun r s₃ h₃=>wpAny_bind (wpAny_letTemporaryGo (wpAny_pure h₃))) fun _ _ x=>x)
 first
  |exact wpAny_pure (wpAny_bind fin)
  |exact wpAny_bind (wpAny_pure (wpAny_bind fin))
  |exact wpAny_bind fin
theorem Vj {X:Cx}{pins:List (Addr×Obj)}{σ:St}{H:Hp}{s:Shared}{a:Addr}{y:V}{o:Option V}(I:Inv X pins σ H s)(g:sW H a y o):s.TypeIs (.ref a) "dict":=by
 rcases g with ⟨kvs,k,e,_,_⟩|⟨kvs,k,b,e,_,_,_⟩
 ·obtain⟨_,_,vs,_,dd⟩:=A2 I.hok e;exact dd.typeIs
 ·obtain⟨_,_,xs,_,dd⟩:=MG I.hok e;exact dd.typeIs
def akg (td ty:TE):TE:=fun σ H Q=>td σ H fun x H1=>ty σ H1 fun y H2=>∃ a v,x=.ref a/\sW H2 a y (some v)/\Q v H2
def amE (ty td:TE):TE:=fun σ H Q=>ty σ H fun y H1=>td σ H1 fun x H2=>∃ a o,x=.ref a/\sW H2 a y o/\Q (.bl o.isSome) H2
def af6 (ty td:TE):TE:=fun σ H Q=>ty σ H fun y H1=>td σ H1 fun x H2=>∃ a o,x=.ref a/\sW H2 a y o/\Q (.bl (!o.isSome)) H2
def akh (td ty tv:TE):TS:=fun D σ H=>tv σ H fun v H1=>td σ H1 fun x H2=>ty σ H2 fun y H3=>∃ a H4,x=.ref a/\Xr H3 a y v H4/\D.nx σ H4
section
variable {X:Cx} {o i e value:Expr} {pos pos' tpos:Pos} {td ty tv:TE}
theorem jc (hu:X.A.units+1<cLine)(ho:PE X o td)(hi:PE X i ty)(hs:akf i):PE X (.Subscript o i pos) (akg td ty):=by
 intro pins s σ H Q I h;refine af5 PySem.F.slot_dict_getitem.lookup hs (cH (ho pins s σ H _ I h) fun u s1 ⟨x,H1,I1,rx,q1⟩=>cH (hi pins s1 σ H1 _ I1 q1) fun iv s2 ⟨y,H2,I2,ry,a,v,ex,g,q2⟩=>?_);subst ex;obtain rfl:u=Value.ref a:=rx;exact⟨Vj I2 g,abN hu I2 g ry fun w' s3 I3 U1=>⟨v,H2,I3,U1,q2⟩⟩
theorem ain (hu:X.A.units+1<cLine)(hi:PE X i ty)(ho:PE X o td):PC X .In i o (amE ty td):=by
 intro pins s σ H Q I h;refine cH (hi pins s σ H _ I h) fun iv s1 ⟨y,H1,I1,ry,q1⟩=>cH (ho pins s1 σ H1 _ I1 q1) fun u s2 ⟨x,H2,I2,rx,a,ov,ex,g,q2⟩=>?_;subst ex;obtain rfl:u=Value.ref a:=rx;exact amD hu I2 g ry fun s3 I3=>⟨.bl ov.isSome,H2,I3,rfl,q2⟩
theorem G9 (hu:X.A.units+1<cLine)(hi:PE X i ty)(ho:PE X o td):PC X .NotIn i o (af6 ty td):=by
 intro pins s σ H Q I h;refine cH (hi pins s σ H _ I h) fun iv s1 ⟨y,H1,I1,ry,q1⟩=>cH (ho pins s1 σ H1 _ I1 q1) fun u s2 ⟨x,H2,I2,rx,a,ov,ex,g,q2⟩=>?_;subst ex;obtain rfl:u=Value.ref a:=rx;exact af4 hu I2 g ry fun s3 I3=>⟨.bl (!ov.isSome),H2,I3,rfl,q2⟩
theorem Q9 (hu:X.A.units+1<cLine)(ho:PE X o td)(hi:PE X i ty)(hv:PE X value tv)(hs:swapsWith value (some (.Subscript o i pos')) pos.line X.env=pure false) :
  PS X (.Assign [.Subscript o i pos'] value pos) (akh td ty tv):=by
 intro pins s σ H D I h;refine wpAny_Assign_Subscript (cH (hv pins s σ H _ I h) fun r s1 ⟨v,H1,I1,rv,q1⟩=>cH (ho pins s1 σ H1 _ I1 q1) fun u s2 ⟨x,H2,I2,rx,q2⟩=>cH (hi pins s2 σ H2 _ I2 q2) fun iv s3 ⟨y,H3,I3,ry,a,H4,ex,g,q3⟩=>?_) hs;subst ex;obtain rfl:u=Value.ref a:=rx;exact abO hu I3 g ry rv fun s4 I4=>⟨σ,H4,I4,q3⟩
end
theorem aed {P:Program}{w:World}{H:Hp}(h:Heap)(hb:sysModules<h.objs.size):gQ P w H (h.push { cls:=.type "dict",data:=.dict #[] }) h.objs.size (.dK []) :=
 ⟨Nat.zero_le _,beq_eq_false_iff_ne.mpr (Ne.symm (Nat.ne_of_lt hb)),[],.nil,Heap.DictOf.new h⟩
def Bm:TE:=fun _ H Q=>∀ p,H p=none->Q (.ref p) (upd H p (.dK []))
section
variable {X:Cx} {pos:Pos}
theorem Vk:PE X (.Dict [] [] pos) Bm:=fun pins s σ H Q I h =>
 wpAny_Dict_empty ⟨.ref s.heap.objs.size,_,I.laid (a:=s.heap.objs.size) (o:=.dK []) (t':=s.toks) (fun _ _ q=>Heap.get?_push_of_some _ q) (Nat.le_refl _) (aed s.heap I.big),rfl,h _ (I.hok.fresh (Nat.le_refl _))⟩
end
def aee:List (TE×TE)->St->Hp->(List (V×V)->Hp->Prop)->Prop
 |[],_,H,Q=>Q [] H
 |(tk,tv)::r,σ,H,Q=>tk σ H fun x H1=>tv σ H1 fun y H2=>aee r σ H2 fun ps H3=>Q ((x,y)::ps) H3
abbrev VV:List (V×V)->List (Value×Value)->Prop:=Paired fun p q=>RelV p.1 q.1/\RelV p.2 q.2
def PDs (X:Cx)(pos:Pos)(keys:List (Option Expr))(values:List Expr)(trs:List (TE×TE)):Prop :=
 ∀(pins:List (Addr×Obj)) (s:Shared) (σ:St) (H:Hp) (Q:List (V×V)->Hp->Prop),Inv X pins σ H s->aee trs σ H Q ->
  wpAny (model X.prog X.w) X.A (evalPairs (pairTrees keys values X.env pos)) (fun vs s'=>∃ ps H',Inv X pins σ H' s'/\VV ps vs/\Q ps H') X.xe s
structure M1 (X:Cx)(o:Expr)(m:Str)(apos:Pos)(e:Expr)(cpos:Pos):Prop where
 base:attributeBase o m X.env (eval o X.env)=eval o X.env
 few:((backTo cpos (starEach [e] X.env)).all (fun x=>!x.1)&&(backToKw cpos (keywordEach [] X.env)).all (fun x=>x.1.isSome)
  && decide (([e]:List Expr).length+([]:List Keyword).length+(if([]:List Keyword).isEmpty then 0 else 1)<30))=true
 line:(apos.endLine==cpos.line)=true
 trees:backTo cpos (starEach [e] X.env)=[(false,eval e X.env)]
structure M2 (X:Cx)(o:Expr)(m:Str)(apos:Pos)(e f:Expr)(cpos:Pos):Prop where
 base:attributeBase o m X.env (eval o X.env)=eval o X.env
 few:((backTo cpos (starEach [e,f] X.env)).all (fun x=>!x.1)&&(backToKw cpos (keywordEach [] X.env)).all (fun x=>x.1.isSome)
  && decide (([e,f]:List Expr).length+([]:List Keyword).length+(if([]:List Keyword).isEmpty then 0 else 1)<30))=true
 line:(apos.endLine==cpos.line)=true
 trees:backTo cpos (starEach [e,f] X.env)=[(false,eval e X.env),(false,eval f X.env)]
def IsD (H:Hp)(a:Addr):Prop:=(∃ kvs,Rd H a (.dK kvs))\/∃ kvs,Rd H a (.dT kvs)
theorem aef {X:Cx}{pins:List (Addr×Obj)}{σ:St}{H:Hp}{s:Shared}{a:Addr}(I:Inv X pins σ H s)(d:IsD H a) :
  s.TypeIs (.ref a) "dict"/\(∀ b,Value.ref a=.ref b->∃ ob,s.heap.get? b=some ob/\ob.dict=none)/\(a==sysModules)=false:=by
 rcases d with ⟨kvs,e⟩|⟨kvs,e⟩
 ·obtain⟨_,hd,vs,_,dd⟩:=A2 I.hok e;refine⟨dd.typeIs,fun b q=>?_,hd⟩;cases q;obtain⟨ob,_,_,h1,h2,_⟩:=dd;exact⟨ob,h1,h2.2.1⟩
 ·obtain⟨_,hd,xs,_,dd⟩:=MG I.hok e;refine⟨dd.typeIs,fun b q=>?_,hd⟩;cases q;obtain⟨ob,_,_,h1,h2,_⟩:=dd;exact⟨ob,h1,h2.2.1⟩
section
variable {X:Cx} {pins:List (Addr×Obj)} {σ:St} {H:Hp} {s:Shared} {a:Addr} {y d:V} {u r:Value} {o:Option V} {A:Around} {E:Value->Shared->Prop}
theorem aio {Q:Value->Shared->Prop}(hu:A.units+1<cLine)(I:Inv X pins σ H s)(g:sW H a y o)(ry:RelV y u)(rd:RelV d r)(h:∀ w' s',Inv X pins σ H s'->RelV (o.getD d) w'->Q w' s') :
  wpAny (model X.prog X.w) A (call (.builtin "dict.get") [.ref a,u,r]) Q E s:=by
 rcases g with ⟨kvs,k,e,ey,l⟩|⟨kvs,k,b,e,ey,eb,l⟩
 ·subst ey;obtain⟨z,hd,vs,rel,dd⟩:=A2 I.hok e;refine call_meetsIn slot_dict_get dd.typeIs entry_dict_get (args_dict_get_3 _ _ _) (meets_dict_get_default (cD X.prog X.w) a (MF ry) hd r) ⟨_,dd.mapOf,h _ _ (I.tok _) ?_⟩;rw[l];exact(rel.val k).getD rd
 ·subst ey;cases (show u=Value.ref b from ry);obtain⟨z,hd,xs,rel,dd⟩:=MG I.hok e;refine call_meetsIn slot_dict_get dd.typeIs entry_dict_get (args_dict_get_3 _ _ _) (meetsH_dict_get_default (tupleKind (cD X.prog X.w)) a b hd r) ⟨tupleKind_room_in1 hu,k,xs,G8 I.hok eb,dd,h _ _ (I.tok _) ?_⟩;rw[l];exact(rel.val k).getD rd
end
def aip (td ty tx:TE):TE:=fun σ H Q=>td σ H fun x H1=>∃ a,x=.ref a/\IsD H1 a/\ty σ H1 fun y H2=>tx σ H2 fun z H3=>∃ o,sW H3 a y o/\Q (o.getD z) H3
def aiq (td ty:TE):TE:=fun σ H Q=>td σ H fun x H1=>∃ a,x=.ref a/\IsD H1 a/\ty σ H1 fun y H2=>∃ kvs k v,H2 a=some (.dK kvs)/\y=kV k/\sV kvs k=some v/\Q v (upd H2 a (.dK (MC kvs k)))
section
variable {X:Cx} {o e f:Expr} {apos cpos:Pos} {td ty tx:TE}
theorem aeg (hu:X.A.units+1<cLine)(ho:PE X o td)(he:PE X e ty)(hf:PE X f tx)(m:M2 X o "get" apos e f cpos):PE X (.Call (.Attribute o "get" apos) [e,f] [] cpos) (aip td ty tx):=by
 intro pins s σ H Q I h;refine wpAny_Call_method m.base m.few m.line plainAttrs_dict slot_dict_get type_dict_get (cH (ho pins s σ H _ I h) fun u s1 ⟨x,H1,I1,rx,a,ex,d,q1⟩=>?_);subst ex;obtain rfl:u=Value.ref a:=rx;obtain⟨t1,t2,_⟩:=aef I1 d;refine⟨t1,t2,?_⟩;rw[m.trees];refine Calls.callWith_builtin rfl (Calls.evalArgs_plain (Calls.spliced_cons (cH (he pins s1 σ H1 _ I1 q1) fun iv s2 ⟨y,H2,I2,ry,q2⟩ =>
  Calls.spliced_cons (cH (hf pins s2 σ H2 _ I2 q2) fun fv s3 ⟨z,H3,I3,rz,ov,g,q3⟩=>Calls.spliced_nil ?_))))
 exact aio hu I3 g ry rz fun w' s4 I4 U1=>⟨_,H3,I4,U1,q3⟩
theorem aeh (ho:PE X o td)(he:PE X e ty)(m:M1 X o "pop" apos e cpos):PE X (.Call (.Attribute o "pop" apos) [e] [] cpos) (aiq td ty):=by
 intro pins s σ H Q I h;refine wpAny_Call_method m.base m.few m.line plainAttrs_dict slot_dict_pop PySem.F.type_dict_pop (cH (ho pins s σ H _ I h) fun u s1 ⟨x,H1,I1,rx,a,ex,d,q1⟩=>?_);subst ex;obtain rfl:u=Value.ref a:=rx;obtain⟨t1,t2,_⟩:=aef I1 d;refine⟨t1,t2,?_⟩;rw[m.trees];refine Calls.callWith_builtin rfl (Calls.evalArgs_plain (Calls.spliced_cons (cH (he pins s1 σ H1 _ I1 q1) fun iv s2 ⟨y,H2,I2,ry,kvs,k,v,ea,ey,l,q2⟩=>Calls.spliced_nil ?_)));subst ey;exact akd I2 ea ry l (.inl rfl) fun w' s3 I3 U1=>⟨v,_,I3,U1,q2⟩
end
section
variable {X:Cx} {pins:List (Addr×Obj)} {σ:St} {H:Hp} {s:Shared} {a:Addr} {kvs:List (Key×V)} {A:Around} {E:Value->Shared->Prop}
theorem aei {Q:Value->Shared->Prop}(I:Inv X pins σ H s)(e:Rd H a (.dK kvs))(h:∀ p s',H p=none->Inv X pins σ (upd H p (.dK kvs)) s'->Q (.ref p) s'):wpAny (model X.prog X.w) A (call (.type "dict") [.ref a]) Q E s:=by
 obtain⟨z,hd,vs,rel,dd⟩:=A2 I.hok e;refine kt_call_dict hd dd (by rw[<-rel.length];exact z) fun h' dd' hs=>?_;refine h _ _ (I.hok.fresh (Nat.le_refl _)) (I.laid (a:=s.heap.objs.size) (o:=.dK kvs) (t':=s.toks) (fun b q hq=>?_) (Nat.le_refl _) (Xs z (beq_eq_false_iff_ne.mpr (Ne.symm (Nat.ne_of_lt I.big))) rel dd'));exact(hs.2 b (Nat.ne_of_lt (Heap.lt_size hq))).trans (Heap.get?_push_of_some _ hq)
end
section
variable {X:Cx} {pins:List (Addr×Obj)} {σ:St} {H:Hp} {s:Shared} {a:Addr} {y:V} {u:Value} {A:Around} {E:Value->Shared->Prop}
end
end L2
namespace L2
open PySem PySem.Spec PyProof.Rows
section
variable {X:Cx}
theorem abQ:lH X (.builtin "len") (fun xs H Q=>∃ a kvs,xs=[V.ref a]/\H a=some (.dK kvs)/\Q (.int kvs.length) H):=by
 intro pins s σ H xs us Q I r h;obtain⟨a,kvs,rfl,ha,q⟩:=h;obtain⟨u,rfl,ru⟩:=vals1 r;cases ru;exact ake I (.inl ha) fun t s' I'=>⟨.int kvs.length,H,I',⟨t,rfl⟩,q⟩
end
section
variable {κ:Type} [DecidableEq κ]
theorem af7 {kvs:List (κ×V)}{k:κ}{v:V}(h:sV kvs k=some v):k∈kvs.map (·.1):=by
 have q:(kvs.any fun kv=>decide (kv.1=k))=true:=by
  rw[yv,h]
  all_goals rfl
 obtain⟨p,hp,e⟩:=any_eq_true.mp q;exact mem_map.mpr ⟨p,hp,of_decide_eq_true e⟩
end
end L2
set_option maxHeartbeats 4000000
namespace L2
open PySem PySem.Spec PyProof.Rows
theorem aki {P:Program}{w:World}{k:Key}{u:Value}(h:(cD P w).is k u=true):RelV (kV k) u:=by
 rcases eK (show Mn k u=true from h) with ⟨i,t,rfl,rfl⟩|⟨x,t,rfl,rfl⟩
 ·exact⟨t,rfl⟩
 ·exact⟨t,rfl⟩
theorem ahs:∀{xs:List V} {us:List Value},xs.length=us.length->(∀(i:Nat)(x:V)(u:Value),xs[i]? = some x->us[i]? = some u->RelV x u)->Vals xs us
 |[],[],_,_=>.nil
 |x::xs,u::us,hl,h=>.cons (h 0 x u rfl rfl) (ahs (by simpa using hl) fun i y v e1 e2=>h (i+1) y v (by simpa using e1) (by simpa using e2))
 |[],_::_,hl,_=>by simp at hl
 |_::_,[],hl,_=>by simp at hl
section
variable {X:Cx}
theorem wo:lH X (.type "list") (fun xs H Q=>X.calm=true/\∃ p kvs,xs=[.ref p]/\Rd H p (.dK kvs)/\∀ l,H l=none->Q (.ref l) (upd H l (.lst (kvs.map fun kv=>kV kv.1)))):=by
 intro pins s σ H xs us Q I r h;obtain⟨hc,p,kvs,rfl,hp,q⟩:=h;obtain⟨u,rfl,rx⟩:=vals1 r;cases rx;obtain⟨z,hd,vs,rel,dd⟩:=A2 I.hok hp;obtain⟨ep,da⟩:=dd.dictAt;have hl:=rel.length;refine PySem.W.kdl_call (PySem.W.kdl_dict (knd:=cD X.prog X.w) (kvs:=vs) (ep:=ep) hd) (I.ok.hd hc) da (by omega) fun h' tk acc' c' kp e it=>?_;refine⟨.ref s.heap.objs.size,_,I.laid (t':=tk) kp (Nat.le_refl _) (show gQ X.prog X.w _ h' _ (.lst (kvs.map fun kv=>kV kv.1)) from⟨by rw[length_map];exact z,acc'.toList,c',?_,by rw[Array.toArray_toList];exact e⟩),rfl,q _ (I.hok.fresh (Nat.le_refl _))⟩;have hk:=rel.keys;have h1:acc'.toList.length=vs.length:=by rw[Array.length_toList];exact it.1
 refine ahs (by rw[length_map,h1,hl]) fun i x u e1 e2=>?_;obtain⟨k,y,e3,e4⟩:=it.2 i u (by rw[<-Array.getElem?_toList];exact e2);have e5:(kvs.map (·.1))[i]? = some k:=by rw[hk,getElem?_map,e3];rfl
 have e6:(kvs.map fun kv=>kV kv.1)[i]? = some (kV k):=by
  rw[getElem?_map]at e5 ⊢;cases e7:kvs[i]? with
  |none=>rw[e7]at e5;cases e5
  |some w=>rw[e7]at e5;cases e5;rfl
 rw[e6]at e1;cases e1;exact aki e4
theorem Xt:lH X (.type "dict") (fun xs H Q=>∃ p kvs,xs=[.ref p]/\Rd H p (.dK kvs)/\∀ l,H l=none->Q (.ref l) (upd H l (.dK kvs))):=by
 intro pins s σ H xs us Q I r h;obtain⟨p,kvs,rfl,hp,q⟩:=h;obtain⟨u,rfl,rx⟩:=vals1 r;cases rx;exact aei I hp fun l s' hl I'=>⟨.ref l,_,I',rfl,q l hl⟩
end
section
variable {P:Program} {w:World} {K:Frag} {mg:Str->Option Value} {base:Heap}
theorem My.Q5 {x qual:Str}{st:Stmt}{f:Addr}{fd:FuncData}{dV:Value}{N ps:List Str}{k:Nat}{sp:Sp}(F:My K x qual st f fd dV)(S:aH N ps (ah st))(len:∀ vs H Q E,sp vs H Q E->vs.length=ps.length)
  (hbody:∀(cdv:Value)(A:Around)(outer:List Env)(s:Shared)(H:Hp)(vs:List V)(Q:VK)(E:XK),jN k (A.deeper (envOfC qual (ah st) s.heap.objs.size f cdv))->sp vs H Q E ->
   ∃ t,Me ((cL (iE P w) P w K mg base N qual (ah st) f cdv A outer s H E).wish (WD (cL (iE P w) P w K mg base N qual (ah st) f cdv A outer s H E) fun _ cls H'=>E cls none H')) (ay st) t/\t { nx:=fun _ H'=>Q .non H',rt:=Q } (start N vs) H):bA P w K mg base (iE P w) (k+1) f fd ps sp:=by
 obtain⟨oc,od,kV,doc,pm,an,cdv,ct,osl,rfl,lk,hcd⟩:=F.ex;refine aaE lk hcd S len fun A outer s H vs Q E hr hsp=>?_;obtain⟨t,h,q⟩:=hbody cdv A outer s H vs Q E hr hsp;exact⟨t,h.ad7 fun _ _ z=>leaveX z,q⟩
end
end L2
set_option maxHeartbeats 4000000
namespace L2
open PySem PySem.Spec PyProof.Rows
section
variable {prog:Program} {w:World} {A:Around} {E:Value->Shared->Prop} {s:Shared}
end
section
variable {X:Cx}
end
end L2
set_option maxHeartbeats 4000000
namespace L2
open PySem PySem.Spec PyProof.Rows
section
variable {X:Cx}
def akj (i j:Int):Prop:=0<j/\j<18446744073709551616
theorem aej:v9 X (binaryOp .FloorDiv) (rI akj fun i j=>.int (i / j)):=opI fun i j _ _ _ _ _ hc q=>by
 have h1:(0:Int)<j:=hc.1;have h2:j<18446744073709551616:=hc.2;refine floordiv_int (by omega) (by rw[Int.fdiv_eq_ediv_of_nonneg i (by omega)];exact q) (.inl (PyProof.noPylong_of_log2 ?_));have h64:j.natAbs.log2<64:=(Nat.log2_lt (by omega)).mpr (by omega);omega
structure PDw (X:Cx)(pos:Pos)(keys:List (Option Expr))(values:List Expr)(trs:List (TE×TE)):Prop where
 out:PDs X pos keys values trs
theorem af8 {pos:Pos}:Lv X (.Dict [] [] pos) Bm:=⟨Vk⟩
theorem aek {es:List Expr}{ks:List (Option Expr)}{vs:List Expr}{p:Pos}{te:TE}{t:TA}(h:Lv X (.Dict ks vs p) te)(hr:Ax X es t):Ax X (.Dict ks vs p::es) (au te t):=⟨aa h.out hr.out⟩
theorem air {i:Int}{j:Nat}{p pos:Pos}:Lv X (.UnaryOp .USub (.Constant (.int i) j p) pos) (tUn (rU fun i=>V.int (-i)) (tC (.int i))):=⟨A0 uH ai⟩
theorem ael {es:List Expr}{o:UnaryOp}{e:Expr}{p:Pos}{te:TE}{t:TA}(h:Lv X (.UnaryOp o e p) te)(hr:Ax X es t):Ax X (.UnaryOp o e p::es) (au te t):=⟨aa h.out hr.out⟩
def ais (s:Stmt)(e:Expr):Stmt:=match s with
 |.If t [.Assign ts (.Subscript _ i sp) ap] o p=>.If t [.Assign ts (.Subscript e i sp) ap] o p
 |s=>s
def ait (s:Stmt)(e:Expr):Stmt:=match s with
 |.Assign ts _ p=>.Assign ts e p
 |s=>s
theorem aiu {st:Stmt}{t:TS}(h:PS X.nox st t):PS X st t:=fun pins s σ H D I hw=>wpAny_mono (h pins s σ H D (I.wish _) hw) (fun _ _ q=>q.m8) fun _ _ z=>z.elim
def akk (i j k:Nat)(ta:TA):TS:=fun D σ H=>ta σ H fun vs H1=>∃ u v w,vs=[u,v,w]/\D.nx (((σ.set i (some u)).set j (some v)).set k (some w)) H1
theorem af9 {i j k:Nat}{x y z:Str}{a b c:Expr}{ta:TA}{px py pz pt pos:Pos}{kt k2 pt2}(hc:X.calm=true)(hN:X.N.Nodup)(hi:X.N[i]? = some x)(hj:X.N[j]? = some y)(hk:X.N[k]? = some z)(hij:i≠j)(hik:i≠k)(hjk:j≠k)
  (hx:X.env.scope.names.lookup x=some .local) (hy:X.env.scope.names.lookup y=some .local) (hz:X.env.scope.names.lookup z=some .local) (ha:PA X [a,b,c] ta)
  (hw:swappedStores [.Tuple [.Name x px,.Name y py,.Name z pz] kt pt] (.Tuple [a,b,c] k2 pt2) X.env=pure (some [x,y,z]))
  (hs:swapsWithSole [.Tuple [.Name x px,.Name y py,.Name z pz] kt pt] (.Tuple [a,b,c] k2 pt2) pos.line X.env=pure false:=by rfl) :
  PS X (.Assign [.Tuple [.Name x px,.Name y py,.Name z pz] kt pt] (.Tuple [a,b,c] k2 pt2) pos) (akk i j k ta):=by
 intro pins s σ H D I h;rw[exec_Assign_arm];refine wpAny_bind (wpAny_standAt ?_);rw[hs];refine wpAny_bind (wpAny_pure ?_);rw[if_neg (by decide)];refine wpAny_bind (Tuple_ (cH (ha _ pins s σ H _ I h) fun us s1 ⟨vs,H1,I1,r1,q1⟩=>?_));obtain⟨v1,v2,v3,e1,q1⟩:=q1;subst e1;obtain⟨u1,u2,u3,rfl,rv1,rv2,rv3⟩:∃ u1 u2 u3,us=[u1,u2,u3]/\RelV v1 u1/\RelV v2 u2/\RelV v3 u3:=by
  cases r1 with
  |cons p q=>cases q with
   |cons p' q'=>cases q' with
    |cons p2 q2 =>
     cases q2;exact⟨_,_,_,rfl,p,p',p2⟩
 refine wpAny_newObj_type ?_ (by show 3<=sizeLine;decide);have I2:Inv X pins σ H1 { s1 with heap:=s1.heap.push { cls:=.type "tuple",data:=.seq [u1,u2,u3].toArray } }:=I1.kept (t':=s1.toks) fun b o e=>Heap.get?_push_of_some _ e;rw[hw];refine wpAny_bind (wpAny_pure ?_);show wpAny (model X.prog X.w) X.A (do rule "assign.swapped-stores";let items <-unpackItems (.ref s1.heap.objs.size) 3 none;assignInOrder [fun v=>bindName X.env z v,fun v=>bindName X.env y v,fun v=>bindName X.env x v] items.reverse;pure Flow.next) _ _ _;refine wpAny_bind (wpAny_rule (wpAny_bind (unpackItems_tuple (items:=#[u1,u2,u3]) (I.ok.hd hc) (IsTup.new s1.heap _) fun h' hx'=>?_)));have I3:=I2.kept (h':=h') (t':=s1.toks) fun b o e=>hx' b o (Nat.ne_of_lt (Heap.lt_size e)) e;show wpAny _ _ (assignInOrder [fun v=>bindName X.env z v,fun v=>bindName X.env y v,fun v=>bindName X.env x v] [u3,u2,u1] >>= fun _=>pure Flow.next) _ _ _;refine wpAny_bind (assignInOrder_cons (wpAny_bindName (pj I3 hN hk (.inl hz) rv3 (fun s2 I4=>?_) (.inr hz))));refine assignInOrder_cons (wpAny_bindName (pj I4 hN hj (.inl hy) rv2 (fun s3 I5=>?_) (.inr hy)));refine assignInOrder_cons (wpAny_bindName (pj I5 hN hi (.inl hx) rv1 (fun s4 I6=>assignInOrder_nil (wpAny_pure ?_)) (.inr hx)));rw[List.set_comm _ _ (Ne.symm hij),List.set_comm _ _ (Ne.symm hik),List.set_comm _ _ (Ne.symm hjk)]at I6;exact⟨_,H1,I6,q1⟩
def aem (K:Frag)(cls:Value)(D:Ends)(σ:St)(H:Hp):List (Addr×TS)->Prop
 |[]=>False
 |c::r=>(exmOne K cls (.ref c.1)=some true/\c.2 D σ H)\/(exmOne K cls (.ref c.1)=some false/\aem K cls D σ H r)
def PH (X:Cx)(h:ExceptHandler)(c:Addr×TS):Prop:=∃ x np b₀ suite hpos,h=.ExceptHandler (some (.Name x np)) none (b₀::suite) hpos/\Gl X x/\X.mg x=some (.ref c.1)/\(x==("__debug__":Str))=false/\∀ pn a,Me ((X.US pn).hand a) (b₀::suite) c.2
inductive PHs (X:Cx):List ExceptHandler->List (Addr×TS)->Prop
 |nil:PHs X [] []
 |cons {h:ExceptHandler} {c:Addr×TS} {hs:List ExceptHandler} {cs:List (Addr×TS)}:PH X h c->PHs X hs cs->PHs X (h::hs) (c::cs)
theorem aga:PHs X [] []:=.nil
theorem ki {CT:Addr}{x:Str}{b₀:Stmt}{suite:List Stmt}{np hpos:Pos}{ts:TS}{hs:List ExceptHandler}{cs:List (Addr×TS)}(h:∀ pn a,Me ((X.US pn).hand a) (b₀::suite) ts)(hg:Gl X x)(hm:X.mg x=some (.ref CT))(r:PHs X hs cs)(hd:(x==("__debug__":Str))=false:=by decide) :
  PHs X (.ExceptHandler (some (.Name x np)) none (b₀::suite) hpos::hs) ((CT,ts)::cs):=.cons ⟨x,np,b₀,suite,hpos,rfl,hg,hm,hd,h⟩ r
theorem handles {pins:List (Addr×Obj)}{σ:St}{H:Hp}{G B:Heap}{s1:Shared}{a:Addr}{cls a0:Value}{l:List Env}{D:Ends}(I1:Inv X pins σ H { s1 with heap:=G })(cov:∀ b o,G.get? b=some o->b ∉ frs X.stack->B.get? b=some o)(hok:X.Ok) :
  ∀{hs:List ExceptHandler} {cs:List (Addr×TS)},PHs X hs cs->∀ h5,Heap.FlyingW B l a cls a0 h5->G.UpToSlots h5->aem X.K cls D σ H cs->wpAny (model X.prog X.w) X.A (handleBy (.ref a) X.env hs) (fun f s'=>SP X pins D f s') X.xe { s1 with heap:=h5 }:=by
 intro hs cs hh
 induction hh with
 |nil=>intro h5 _ _ p;exact p.elim
 | @cons h c hs cs h0 _ ih =>
  intro h5 fl5 U5 p;obtain⟨x,np,b₀,suite,hpos,rfl,hg,hm,hd,hsu⟩:=h0;have I5:Inv X pins σ H { s1 with heap:=h5 }:=I1.flown cov fl5.1 U5;have I5h:=I5.hand a;refine wpAny_handleBy_cons (codeAny_handlers_test (wb I5h hg hm ?_ hd)) (by intro q;cases q);obtain⟨ob,hob,hobc⟩:=fl5.there;rcases p with ⟨hx,q⟩|⟨hx,q⟩
  ·refine(exm_one (M:=model X.prog X.w) I5.yi (hobc ▸ (PySem.W.Looks.ld hob).andThen .now) hx).here ?_;refine codeAny_handlers_suite ?_;refine lands_againW fl5 fun h6 fl6 up6=>?_;have U6:=U5.trans up6;have I6:Inv X pins σ H { s1 with heap:=h6 }:=I1.flown cov fl6.1 U6;refine wpAny_mono ((hsu (X.pn++pins) a) [] _ _ _ D (I6.US.hand a) q) (fun f s9 z=>?_) fun _ _ z=>z.elim;cases f with
   |next=>obtain⟨σ9,H9,J,w⟩:=z;exact⟨_,H9,(J.Q7 (hok.US _)).yu hok,w⟩
   |brk=>obtain⟨σ9,H9,J,w⟩:=z;exact⟨_,H9,(J.Q7 (hok.US _)).yu hok,w⟩
   |cont=>obtain⟨σ9,H9,J,w⟩:=z;exact⟨_,H9,(J.Q7 (hok.US _)).yu hok,w⟩
   |ret u=>obtain⟨v,σ9,H9,J,r,w⟩:=z;exact⟨v,_,H9,(J.Q7 (hok.US _)).yu hok,r,w⟩
  ·refine(exm_one (M:=model X.prog X.w) I5.yi (hobc ▸ (PySem.W.Looks.ld hob).andThen .now) hx).here ?_;exact ih h5 fl5 U5 q
def akl (K:Frag)(cs:List (Addr×TS))(tb:XSt->TS):TS:=fun D σ H=>tb (fun σ' cls H'=>aem K cls D σ' H' cs) D σ H
theorem agb {body:List Stmt}{h₀:ExceptHandler}{hs:List ExceptHandler}{cs:List (Addr×TS)}{pos:Pos}{tb:XSt->TS}
  (hb:∀ pn XS,Me ((X.US pn).wish (WX (X.US pn) XS)) body (tb XS)) (hh:PHs X (h₀::hs) cs) (hst:X.stack=X.env::X.outer) (hfr:X.env.frame=some X.env.locals) :
  PS X (.Try body (h₀::hs) [] [] pos) (akl X.K cs tb):=by
 intro pins s σ H D I h;refine wpAny_Try_except (wpAny_mono (hb (X.pn++pins) _ [] s σ H D (I.US.wish _) h) (fun f s1 q=>?_) fun ev s1 z=>?_)
 ·have q':SP X pins D f s1:=q.m8.yu I.ok;cases f with
  |next=>exact wpAny_execs_nil q'
  |brk=>exact q'
  |cont=>exact q'
  |ret u=>exact q'
 ·obtain⟨UY,σ',H',G,a,cls,rfl,I',⟨B,a0,cov,fl,up,hn⟩,q⟩:=z;have I1:Inv X pins σ' H' { s1 with heap:=G }:=I'.yu I.ok;have hF:X.A.frames=some (X.env::X.outer):=by rw[<-hst];exact I.ok.frames
  have fl:Heap.FlyingW B (X.env::X.outer) a cls a0 s1.heap:=by rw[<-hst];exact fl
  refine wpAny_looks_onW hF hfr fl fun h4 akm up4=>?_;refine wpAny_landsW akm fun h5 fl5 up5=>?_;exact handles I1 cov I.ok hh h5 fl5 ((up.trans up4).trans up5) q
end
end L2
set_option maxHeartbeats 1000000
namespace Ha
open PySem L2
inductive Kd where
 |G|D|R|s|d|r|dot|three|two
 deriving DecidableEq,Repr
def Kd.str:Kd->Str
 |.G=>"G" | .D=>"D" | .R=>"R" | .s=>"s" | .d=>"d" | .r=>"r" | .dot=>"." | .three=>"3" | .two=>"2"
def Kd.cp:Kd->Nat
 |.G=>71|.D=>68|.R=>82|.s=>115|.d=>100|.r=>114|.dot=>46|.three=>51|.two=>50
def Kd.great:Kd->Bool
 |.G=>true|.D=>true|.R=>true|_=>false
def Kd.small:Kd->Bool
 |.s=>true|.d=>true|.r=>true|_=>false
def Kd.parting:Kd->Bool
 |.dot=>true|.three=>true|.two=>true|_=>false
def Kd.meas:Kd->Bool
 |.three=>true|.two=>true|_=>false
def Kd.wq:Kd->Bool
 |.G=>true|.D=>true|.s=>true|.d=>true|_=>false
def sY:Option Kd->Str
 |some k=>k.str
 |none=>""
abbrev Sg:=Kd×Int
def Ph (x y:Str):Bool:=!(Builtin.Str.occurrences y x 0 y.length 1).isEmpty
theorem akn (k:Kd):k.str=⟨#[k.cp]⟩:=by cases k <;> decide +kernel
theorem str_inj {a b:Kd}:a.str=b.str ↔ a=b:=by
 constructor
 ·revert a b
  have:∀ a b:Kd,a.str=b.str->a=b:=by
   intro a b;cases a <;> cases b <;> first|(intro _;rfl)|(intro h;exact absurd h (by lk))
  exact fun {a b}=>this a b
 ·exact fun h=>by rw[h]
theorem Vl {a b:Option Kd}:sY a=sY b ↔ a=b:=by
 constructor
 ·have:∀ a b:Option Kd,sY a=sY b->a=b:=by
   intro a b;cases a with
   |none=>cases b with
    |none=>intro _;rfl
    |some b=>cases b <;> (intro h;exact absurd h (by lk))
   |some a=>cases b with
    |none=>cases a <;> (intro h;exact absurd h (by lk))
    |some b=>intro h;exact congrArg some (str_inj.mp h)
  exact fun h=>this a b h
 ·exact fun h=>by rw[h]
theorem agc (a b:Str):decide (V.str a=V.str b)=decide (a=b):=by
 by_cases h:a=b
 ·rw[h];simp
 ·rw[decide_eq_false h];exact decide_eq_false fun e=>h (V.str.inj e)
theorem abR (a b:Kd):decide (V.str a.str=V.str b.str)=decide (a=b):=by
 rw[agc];exact decide_eq_decide.mpr str_inj
theorem ako (a b:Option Kd):decide (V.str (sY a)=V.str (sY b))=decide (a=b):=by
 rw[agc];exact decide_eq_decide.mpr Vl
theorem o_G (o:Option Kd):decide (V.str (sY o)=V.str "G")=decide (o=some .G):=ako o (some .G)
theorem k_G (k:Kd):decide (V.str k.str=V.str "G")=decide (k=.G):=abR k .G
theorem k_D (k:Kd):decide (V.str k.str=V.str "D")=decide (k=.D):=abR k .D
theorem o_s (o:Option Kd):decide (V.str (sY o)=V.str "s")=decide (o=some .s):=ako o (some .s)
theorem k_s (k:Kd):decide (V.str k.str=V.str "s")=decide (k=.s):=abR k .s
theorem akp (k:Kd):decide (V.str k.str=V.str ".")=decide (k=.dot):=abR k .dot
theorem Ra (k:Kd):decide (V.str k.str=V.str "3")=decide (k=.three):=abR k .three
theorem aen (k:Kd):decide (V.str k.str=V.str "2")=decide (k=.two):=abR k .two
def Vm (H:Hp)(v:V)(s:Sg):Prop:=∃ p,v=.ref p/\H p=some (.tup [.str s.1.str,.int s.2])
theorem Vm.same {H H':Hp}{v:V}{s:Sg}(e:aq H H')(h:Vm H v s):Vm H' v s:=by
 obtain⟨p,rfl,q⟩:=h;exact⟨p,rfl,e _ _ q⟩
abbrev pq (H:Hp):List V->List Sg->Prop:=Paired (Vm H)
theorem pq.same {H H':Hp}(e:aq H H'):∀{xs:List V} {ss:List Sg},pq H xs ss->pq H' xs ss
 |_,_,.nil=>.nil
 |_,_,.cons a b=>.cons (a.same e) (pq.same e b)
theorem yg {α β:Type}{F:α->β->Prop}:∀{xs:List α} {ys:List β} {i:Nat} {x:α},Paired F xs ys->xs[i]? = some x->∃ y,ys[i]? = some y/\F x y
 |_,_,_,_,.nil,e=>by simp at e
 |_,_,0,_,.cons r _,e=>by simp at e;subst e;exact⟨_,rfl,r⟩
 |_,_,i+1,x,.cons _ t,e=>by
  obtain⟨u,h1,h2⟩:=yg (i:=i) (x:=x) t (by simpa using e);exact⟨u,by simpa using h1,h2⟩
theorem rC {α β:Type}{F:α->β->Prop}:∀{xs:List α} {ys:List β} {i:Nat} {y:β},Paired F xs ys->ys[i]? = some y->∃ x,xs[i]? = some x/\F x y
 |_,_,_,_,.nil,e=>by simp at e
 |_,_,0,_,.cons r _,e=>by simp at e;subst e;exact⟨_,rfl,r⟩
 |_,_,i+1,x,.cons _ t,e=>by
  obtain⟨u,h1,h2⟩:=rC (i:=i) t (by simpa using e);exact⟨u,by simpa using h1,h2⟩
theorem bS {α β:Type}{F:α->β->Prop}{xs:List α}{ys:List β}(h:Paired F xs ys):xs.length=ys.length:=Paired.length h
theorem j6 {α β:Type}{F:α->β->Prop}:∀{xs:List α} {ys:List β} {x:α} {y:β},Paired F xs ys->F x y->Paired F (xs++[x]) (ys++[y])
 |_,_,_,_,.nil,h=>.cons h .nil
 |_,_,_,_,.cons a b,h=>.cons a (j6 b h)
theorem Hb {α β:Type}{F:α->β->Prop}:∀{xs:List α} {ys:List β} {xs':List α} {ys':List β},Paired F xs ys->Paired F xs' ys'->Paired F (xs++xs') (ys++ys')
 |_,_,_,_,.nil,h=>h
 |_,_,_,_,.cons a b,h=>.cons a (Hb b h)
theorem KY {α β:Type}{F:α->β->Prop}:∀{xs:List α} {ys:List β} (n:Nat),Paired F xs ys->Paired F (xs.drop n) (ys.drop n)
 |_,_,0,h=>h
 |_,_,n+1,.nil=>.nil
 |_,_,n+1,.cons a b=>KY n b
theorem KZ {α β:Type}{F:α->β->Prop}:∀{xs:List α} {ys:List β} (n:Nat),Paired F xs ys->Paired F (xs.take n) (ys.take n)
 |_,_,0,h=>.nil
 |_,_,n+1,.nil=>.nil
 |_,_,n+1,.cons a b=>.cons a (KZ n b)
theorem cb {α β:Type}{F G:α->β->Prop}(h:∀ x y,F x y->G x y):∀{xs:List α} {ys:List β},Paired F xs ys->Paired G xs ys
 |_,_,.nil=>.nil
 |_,_,.cons a b=>.cons (h _ _ a) (cb h b)
theorem eF {H0 H:Hp}{l:Addr}{o:HO}(s:aq H0 H)(hl:H0 l=none):aq H0 (upd H l o):=fun b u e=>by
 rw[ak (ao e hl)];exact s b u e
theorem aeo {H:Hp}{D:Addr}{o:HO}{zs:List V}{v:V}{s:Sg}(hD:H D=some (.lst zs))(h:Vm H v s):Vm (upd H D o) v s:=by
 obtain⟨p,e,q⟩:=h;exact⟨p,e,by rw[ak (j3 q hD (by intro z;cases z))];exact q⟩
theorem aep {H:Hp}{D:Addr}{o:HO}{zs:List V}{xs:List V}{ss:List Sg}(hD:H D=some (.lst zs))(h:pq H xs ss):pq (upd H D o) xs ss:=cb (fun _ _ q=>aeo hD q) h
theorem Rb {ms:List Int}{i:Nat}{x:V}(h:(ms.map V.int)[i]? = some x):∃ z,ms[i]? = some z/\x=V.int z:=by
 rw[getElem?_map]at h;cases e:ms[i]? with
 |none=>rw[e]at h;cases h
 |some z=>rw[e]at h;exact⟨z,rfl,(Option.some.inj h).symm⟩
section
variable {K:Frag} {H:Hp} {p:Addr} {Q:VK}
theorem ix0 {a b:V}(h:H p=some (.tup [a,b]))(q:Q a H):QZ K (.ref p) (.int 0) H Q\/Q0 K (.ref p) (.int 0) H Q\/Q1 (.ref p) (.int 0) H Q:=.inr (.inl ⟨p,_,0,a,rfl,rfl,uG.of h,rfl,q⟩)
theorem ix1 {a b:V}(h:H p=some (.tup [a,b]))(q:Q b H):QZ K (.ref p) (.int 1) H Q\/Q0 K (.ref p) (.int 1) H Q\/Q1 (.ref p) (.int 1) H Q:=.inr (.inl ⟨p,_,1,b,rfl,rfl,uG.of h,rfl,q⟩)
theorem Rc {xs:List V}{i:Int}{n:Nat}{v:V}(h:aX K H p xs)(hn:i=n)(e:xs[n]? = some v)(q:Q v H):QZ K (.ref p) (.int i) H Q\/Q0 K (.ref p) (.int i) H Q\/Q1 (.ref p) (.int i) H Q:=.inl ⟨p,xs,i,v,rfl,rfl,h,by rw[hn];exact D3 e,q⟩
theorem Pj {xs:List V}{ss:List Sg}{i:Int}{n:Nat}{s:Sg}(h:aX K H p xs)(g:pq H xs ss)(hn:i=n)(e:ss[n]? = some s)(q:∀ b,H b=some (.tup [.str s.1.str,.int s.2])->Q (.ref b) H) :
  QZ K (.ref p) (.int i) H Q\/Q0 K (.ref p) (.int i) H Q\/Q1 (.ref p) (.int i) H Q:=by
 obtain⟨x,hx,b,rfl,hb⟩:=rC g e;exact Rc h hn hx (q b hb)
theorem aeq {ns:List Int}{i:Int}{n:Nat}{z:Int}(h:aX K H p (ns.map V.int))(hn:i=n)(e:ns[n]? = some z)(q:Q (.int z) H):QZ K (.ref p) (.int i) H Q\/Q0 K (.ref p) (.int i) H Q\/Q1 (.ref p) (.int i) H Q :=
 Rc h hn (by rw[getElem?_map,e];rfl) q
end
set_option maxHeartbeats 1000000
def nm (m:Int):Kd->Int
 |.three=>3
 |.two=>2
 |_=>m
def Ms (m:Int):Prop:=m=3\/m=2
theorem Ms.nm {m:Int}(h:Ms m)(k:Kd):Ms (nm m k):=by
 cases k <;> first|exact h|exact .inl rfl|exact .inr rfl
def jd (m:Int):List Kd->List Int
 |[]=>[]
 |k::t=>nm m k::jd (nm m k) t
theorem Hc (m:Int)(ks:List Kd):(jd m ks).length=ks.length:=by
 induction ks generalizing m with
 |nil=>rfl
 |cons k t ih=>simp[jd,ih]
def pw:Kd->Int->Int
 |.G,m=>if m=2 then 2 else 3
 |.R,m=>if m=2 then 2 else 3
 |.D,_=>2
 |.s,_=>1
 |.d,_=>1
 |.r,_=>1
 |_,_=>0
def bw (m:Int)(k:Kd)(n:Option Kd):Int:=if m=2/\k=.G/\n=some .dot then 3 else pw k m
def jt (m:Int):List Kd->List Int
 |[]=>[]
 |k::t=>bw (nm m k) k t.head? :: jt (nm m k) t
def Bn:List Kd->List Int->List Int
 |k::t,m::ms=>bw m k t.head? :: Bn t ms
 |_,_=>[]
theorem Vn (m:Int)(ks:List Kd):Bn ks (jd m ks)=jt m ks:=by
 induction ks generalizing m with
 |nil=>rfl
 |cons k t ih=>simp[jd,Bn,jt,ih]
theorem vo (m:Int)(ks:List Kd):(jt m ks).length=ks.length:=by
 induction ks generalizing m with
 |nil=>rfl
 |cons k t ih=>simp[jt,ih]
def inR (m:Int)(k:Kd):Bool:=decide (m≠2)&&k.small
def kj (m:Int):List Kd->List Bool
 |[]=>[]
 |k::t=>inR (nm m k) k::kj (nm m k) t
theorem rD (m:Int)(ks:List Kd):(kj m ks).length=ks.length:=by
 induction ks generalizing m with
 |nil=>rfl
 |cons k t ih=>simp[kj,ih]
def Vo:List Kd->List Int->List Bool
 |k::t,m::ms=>inR m k::Vo t ms
 |_,_=>[]
theorem Xu (m:Int)(ks:List Kd):Vo ks (jd m ks)=kj m ks:=by
 induction ks generalizing m with
 |nil=>rfl
 |cons k t ih=>simp[jd,Vo,kj,ih]
def fL (at' first:Nat):List Bool->List (Nat×Nat)
 |[]=>if first<at' then [(first,at')] else []
 |true::t=>fL (at'+1) first t
 |false::t=>(if first<at' then [(first,at')] else [])++fL (at'+1) (at'+1) t
def xW (m:Int)(ks:List Kd):List (Nat×Nat):=fL 0 0 (kj m ks)
def Rg (ks:List Kd)(i:Int):Option Kd:=if 0<=i then ks[i.toNat]? else none
theorem sZ (ks:List Kd)(n:Nat):Rg ks (n:Int)=ks[n]?:=by
 unfold Rg;rw[if_pos (by omega)];rfl
def uK:Option Kd->Bool
 |some k=>k.great
 |none=>false
def km (ks:List Kd)(f:List Int)(a:Nat):Bool:=decide (Rg ks ((a:Int)-1)=some .G)&&decide (f.getD (a-1) 0=3)
def ib (ks:List Kd)(z:Nat):Bool:=decide (ks[z]? = some .G) && !uK ks[z+1]?
def D7 (ks:List Kd)(f:List Int)(a z:Nat):Bool×List Int:=if km ks f a then(true,f.set (a-1) 2) else if ib ks z then(true,f.set z 2) else(false,f)
def D8 (ks:List Kd)(f:List Int)(a z:Nat):Bool×List Int:=if uK ks[z]? && decide (ks[z-1]? = some .s) then(true,f.set (z-1) 2) else if km ks f a&&ib ks z then(true,(f.set (a-1) 2).set z 2) else(false,f)
def settle (ks:List Kd)(f:List Int)(a z:Nat):Bool×List Int:=if(z-a) % 3=1 then D7 ks f a z else if(z-a) % 3=2 then D8 ks f a z else(true,f)
theorem Bo (ks:List Kd)(f:List Int)(a z:Nat):(settle ks f a z).2.length=f.length:=by
 unfold settle D7 D8
 repeat' split
 all_goals simp
abbrev RdS:=List Int×List (Nat×Nat)
def uL (ks:List Kd)(c:RdS)(p:Nat×Nat):RdS:=((settle ks c.1 p.1 p.2).2,if(settle ks c.1 p.1 p.2).1 then c.2 else c.2++[p])
def lg (m:Int)(ks:List Kd):RdS:=(xW m ks).foldl (uL ks) (jt m ks,[])
theorem aer (ks:List Kd)(rs:List (Nat×Nat))(c:RdS):(rs.foldl (uL ks) c).1.length=c.1.length:=by
 induction rs generalizing c with
 |nil=>rfl
 |cons p t ih=>rw[List.foldl_cons,ih];exact Bo ..
theorem Ay (m:Int)(ks:List Kd):(lg m ks).1.length=ks.length:=by
 unfold lg;rw[aer,vo]
theorem MH:∀(bs:List Bool)(at' first:Nat),first<=at'->∀ p∈fL at' first bs,first<=p.1/\p.1<p.2/\p.2<=at'+bs.length
 |[],at',first,h,p,hp=>by
  unfold fL at hp;split at hp
  ·have:p=(first,at'):=by simpa using hp
   subst this;exact⟨Nat.le_refl _,by assumption,by simp⟩
  ·cases hp
 |true::t,at',first,h,p,hp=>by
  have:=MH t (at'+1) first (by omega) p hp
  simp only [length_cons];omega
 |false::t,at',first,h,p,hp=>by
  unfold fL at hp;simp only [length_cons];rcases mem_append.mp hp with hp|hp
  ·split at hp
   ·have:p=(first,at'):=by simpa using hp
    subst this;exact⟨Nat.le_refl _,by assumption,by simp⟩
   ·cases hp
  ·have:=MH t (at'+1) (at'+1) (Nat.le_refl _) p hp;omega
theorem aes (m:Int)(ks:List Kd):∀ p∈xW m ks,p.1<p.2/\p.2<=ks.length:=by
 intro p hp;have:=MH (kj m ks) 0 0 (Nat.le_refl _) p hp;rw[rD]at this;omega
theorem pA:∀(bs:List Bool)(at' first:Nat),(fL at' first bs).length<=bs.length+1
 |[],at',first=>by unfold fL;split <;> simp
 |true::t,at',first=>by
  unfold fL;have:=pA t (at'+1) first
  simp only [length_cons];omega
 |false::t,at',first=>by
  unfold fL;have:=pA t (at'+1) (at'+1);simp only [length_cons,length_append];split <;> simp <;> omega
def abS (H:Hp)(v:V)(q:Nat×Nat):Prop:=∃ p,v=.ref p/\H p=some (.tup [.int (q.1:Int),.int (q.2:Int)])
abbrev Xv (H:Hp):List V->List (Nat×Nat)->Prop:=Paired (abS H)
theorem abS.same {H H':Hp}{v:V}{q:Nat×Nat}(e:aq H H')(h:abS H v q):abS H' v q:=by
 obtain⟨p,rfl,z⟩:=h;exact⟨p,rfl,e _ _ z⟩
theorem tf {H H':Hp}(e:aq H H'){xs:List V}{qs:List (Nat×Nat)}(h:Xv H xs qs):Xv H' xs qs:=cb (fun _ _ z=>z.same e) h
theorem Vp {H:Hp}{D:Addr}{o:HO}{zs:List V}{v:V}{q:Nat×Nat}(hD:H D=some (.lst zs))(h:abS H v q):abS (upd H D o) v q:=by
 obtain⟨p,e,z⟩:=h;exact⟨p,e,by rw[ak (j3 z hD (by intro z;cases z))];exact z⟩
theorem rE {H:Hp}{D:Addr}{o:HO}{zs:List V}{xs:List V}{qs:List (Nat×Nat)}(hD:H D=some (.lst zs))(h:Xv H xs qs):Xv (upd H D o) xs qs:=cb (fun _ _ q=>Vp hD q) h
theorem D9 {H:Hp}{a:Addr}{o:HO}(h:H a=some o):upd H a o=H:=by
 funext b
 unfold upd;split
 ·rename_i e;rw[e,h]
 ·rfl
theorem Hd {ks:List Kd}{f:List Int}{a:Nat}(h:km ks f a=true):1<=a/\a-1<ks.length:=by
 unfold km at h;have h1:=of_decide_eq_true (Bool.and_eq_true_iff.mp h).1;unfold Rg at h1;split at h1
 ·have:=(List.getElem?_eq_some_iff.mp h1).1;omega
 ·cases h1
theorem Bp {ks:List Kd}{z:Nat}(h:ib ks z=true):z<ks.length:=by
 unfold ib at h;have h1:=of_decide_eq_true (Bool.and_eq_true_iff.mp h).1;exact(List.getElem?_eq_some_iff.mp h1).1
theorem tq {n:Nat}{i:Int}{j:Nat}(e:i=j)(h:j<n):ixN n i=some j:=by
 unfold ixN;subst e;rw[if_pos (by omega),if_pos (by omega)];rfl
theorem qH {α:Type}{l:List α}{i:Nat}{x:α}(h:l[i]? = some x):l.drop i=x::l.drop (i+1):=by
 obtain⟨hi,e⟩:=List.getElem?_eq_some_iff.mp h;rw[List.drop_eq_getElem_cons hi,e]
theorem yw {α β:Type}{l:List α}{f:α->β}{i:Nat}{x:α}(h:l[i]? = some x):(l.map f)[i]? = some (f x):=by rw[getElem?_map,h];rfl
abbrev bB (ss:List Sg):List Kd:=ss.map Prod.fst
theorem oX {fs:List Int}{j:Nat}{v:Int}:(fs.map V.int).set j (V.int v)=(fs.set j v).map V.int:=by rw[List.map_set]
theorem big {n:Nat}(h:n<=1000):n<=sizeLine:=Nat.le_of_lt (aW h)
theorem head_drop {α:Type}(l:List α)(i:Nat):(l.drop i).head? = l[i]?:=by
 rw[List.head?_drop]
def kH (m:Int):List Kd->List Bool
 |[]=>[]
 |k::t=>decide (nm m k=3)::kH (nm m k) t
theorem Xw (m:Int)(ks:List Kd):(kH m ks).length=ks.length:=by
 induction ks generalizing m with
 |nil=>rfl
 |cons k t ih=>simp[kH,ih]
def lead:List Bool->Nat
 |true::t=>lead t+1
 |_=>0
theorem aaS:∀ bs:List Bool,lead bs<=bs.length
 |[]=>Nat.le_refl _
 |true::t=>by simp only [lead,length_cons];have:=aaS t;omega
 |false::t=>Nat.zero_le _
theorem MI:∀(bs:List Bool)(at' first:Nat),first<at'+lead bs\/lead bs=0->first<=at'->fL at' first bs=(if first<at'+lead bs then [(first,at'+lead bs)] else [])++fL (at'+lead bs) (at'+lead bs) (bs.drop (lead bs))
 |[],at',first,_,h=>by
  show(if first<at' then [(first,at')] else [])=(if first<at' then [(first,at')] else [])++fL at' at' [];rw[show fL at' at' []=[] by unfold fL;rw[if_neg (Nat.lt_irrefl _)],append_nil]
 |true::t,at',first,h0,h=>by
  have ih:=MI t (at'+1) first (.inl (by omega)) (by omega)
  have e:at'+1+lead t=at'+(lead t+1):=by omega
  rw[e]at ih;simp only [fL,lead,List.drop_succ_cons];exact ih
 |false::t,at',first,_,h=>by
  show(if first<at' then [(first,at')] else [])++fL (at'+1) (at'+1) t=(if first<at' then [(first,at')] else [])++((if at'<at' then [(at',at')] else [])++fL (at'+1) (at'+1) t);rw[if_neg (Nat.lt_irrefl at'),nil_append]
theorem aaT {m:Int}(h:Ms m):∀(ks:List Kd)(i:Nat)(k:Kd),ks[i]? = some k->∃ b,(kH m ks)[i]? = some b/\(kj m ks)[i]? = some (k.small&&b)
 |[],i,k,e=>by simp at e
 |c::t,0,k,e=>by
  have:c=k:=by simpa using e
  subst this;refine⟨decide (nm m c=3),rfl,?_⟩;simp only [kj,List.getElem?_cons_zero,inR];have hm:=h.nm c;rcases hm with e|e <;> rw[e] <;> cases c <;> rfl
 |c::t,i+1,k,e=>by
  obtain⟨b,h1,h2⟩:=aaT (h.nm c) t i k (by simpa using e);exact⟨b,by simpa [kH] using h1,by simpa [kj] using h2⟩
theorem aaU:∀(bs:List Bool)(j:Nat),j<=lead bs->(j<lead bs ↔ bs[j]? = some true)
 |[],j,h=>by simp[lead]
 |true::t,0,h=>by simp[lead]
 |true::t,j+1,h=>by
  have:=aaU t j (by simp only [lead]at h;omega);simp only [lead,List.getElem?_cons_succ];rw[<-this];omega
 |false::t,j,h=>by
  have:j=0:=by simp only [lead]at h;omega
  subst this;simp[lead]
theorem aiv {m:Int}{ks:List Kd}{low j:Nat}:((kj m ks).drop low)[j]? = (kj m ks)[low+j]?:=by rw[getElem?_drop]
set_option maxHeartbeats 1000000
theorem aet (xs:List V)(n:Nat):D2 xs none (some (n:Int))=xs.take n:=by
 unfold D2;have e:HT.m6 xs.length xs.length (some (n:Int))=min n xs.length:=HT.aaF xs.length xs.length n;rw[HT.Mr,e,Nat.sub_zero,List.drop_zero];rcases Nat.le_total n xs.length with h|h
 ·rw[Nat.min_eq_left h]
 ·rw[Nat.min_eq_right h,take_length,List.take_of_length_le h]
theorem aaV (xs:List V)(n:Nat)(h:n<=xs.length):D2 xs (some (n:Int)) none=xs.drop n:=by
 unfold D2;have e:HT.m6 xs.length 0 (some (n:Int))=min n xs.length:=HT.aaF xs.length 0 n;rw[HT.Mr,e,Nat.min_eq_left h];exact List.take_of_length_le (by rw[length_drop];omega)
theorem akq {K:Frag}{H:Hp}{p p2:Addr}{s:Sg}(n:Nat)(h1:H p=some (.tup [.str s.1.str,.int s.2]))(h2:H p2=some (.tup [.str s.1.str,.int s.2])):Deq K H (n+1) (.ref p) (.ref p2):=by
 refine .tup (uG.of h1) (uG.of h2) rfl fun i x y e1 e2=>?_;have e:x=y:=Option.some.inj (e1.symm.trans e2);subst e
 match i,e1 with
 |0,e1=>cases e1;exact .flat rfl
 |1,e1=>cases e1;exact .flat rfl
 |n+2,e1=>simp at e1
def PrI (H:Hp)(v:V)(q:Int×Int):Prop:=∃ p,v=.ref p/\H p=some (.tup [.int q.1,.int q.2])
abbrev apm (H:Hp):List V->List (Int×Int)->Prop:=Paired (PrI H)
structure amI (H0 H:Hp)(l:Addr)(xs:List V)(ss:List Sg):Prop where
 same:aq H0 H
 new:H0 l=none
 at':H l=some (.lst xs)
 sg:pq H xs ss
def MJ (K:Frag):Sp:=fun vs H Q _=>∃(a:Addr)(ns:List Int),vs=[.ref a]/\aX K H a (ns.map V.int)/\ns.length<=63/\∀ H',Q (.bl true) H'
theorem abT {K:Frag}{H:Hp}{a:Addr}{ns:List Int}(hl:ns.length<=63)(_:Only H)(hS:aX K H a (ns.map V.int)):MJ K [.ref a] H (fun v _=>v=.bl true) fun _ _ _=>False :=
 ⟨a,ns,rfl,hS,hl,fun _=>rfl⟩
set_option maxHeartbeats 1000000
theorem uM {k:Str}{v:V}{r:List (Str×V)}:((k,v)::r).lookup k=some v:=by simp[List.lookup]
theorem aL {k g:Str}{v:V}{r:List (Str×V)}(h:¬ g=k):((k,v)::r).lookup g=r.lookup g:=by
 have:(g==k)=false:=beq_eq_false_iff_ne.mpr h;simp[List.lookup,this]
theorem kr {k g:Str}{x y:V}{r:List (Str×V)}(h:¬ g=k):m7 k y ((g,x)::r)=(g,x)::m7 k y r:=if_neg h
def voF (n:Str)(tm:V)(L:Addr):List (Str×V):=[("name",V.str n),("terms",tm),("signs",V.ref L)]
theorem Vq (n:Str)(tm:V)(L:Addr):(voF n tm L).lookup ("name":Str)=some (V.str n):=uM
theorem Az (n:Str)(tm:V)(L:Addr):(voF n tm L).lookup ("terms":Str)=some (tm):=(aL (by lk)).trans (uM)
theorem vq (n:Str)(tm:V)(L:Addr):(voF n tm L).lookup ("signs":Str)=some (V.ref L):=(aL (by lk)).trans ((aL (by lk)).trans (uM))
theorem Rh (v0:V):m7 "name" v0 ([]:List (Str×V))=([("name",v0)]:List (Str×V)):=rfl
theorem aaW (v0 v1:V):m7 "terms" v1 ([("name",v0)]:List (Str×V))=([("name",v0),("terms",v1)]:List (Str×V)):=(kr (by lk)).trans (congrArg _ (rfl))
theorem agd (v0 v1 v2:V):m7 "signs" v2 ([("name",v0),("terms",v1)]:List (Str×V))=([("name",v0),("terms",v1),("signs",v2)]:List (Str×V)):=(kr (by lk)).trans (congrArg _ ((kr (by lk)).trans (congrArg _ (rfl))))
def K0 (T:Addr)(at_:Int)(B A:Addr):List (Str×V):=[("things",V.ref T),("at",V.int at_),("before",V.ref B),("after",V.ref A)]
theorem MK (T:Addr)(at_:Int)(B A:Addr):(K0 T at_ B A).lookup ("things":Str)=some (V.ref T):=uM
theorem Ri (T:Addr)(at_:Int)(B A:Addr):(K0 T at_ B A).lookup ("at":Str)=some (V.int at_):=(aL (by lk)).trans (uM)
theorem ML (T:Addr)(at_:Int)(B A:Addr):(K0 T at_ B A).lookup ("before":Str)=some (V.ref B):=(aL (by lk)).trans ((aL (by lk)).trans (uM))
theorem Qp (T:Addr)(at_:Int)(B A:Addr):(K0 T at_ B A).lookup ("after":Str)=some (V.ref A):=(aL (by lk)).trans ((aL (by lk)).trans ((aL (by lk)).trans (uM)))
theorem Qq (T:Addr)(at_:Int)(B A:Addr):(K0 T at_ B A).lookup ("do":Str)=none:=(aL (by lk)).trans ((aL (by lk)).trans ((aL (by lk)).trans ((aL (by lk)).trans (rfl))))
theorem Vr (T:Addr)(at_:Int)(B A:Addr):(K0 T at_ B A).lookup ("undo":Str)=none:=(aL (by lk)).trans ((aL (by lk)).trans ((aL (by lk)).trans ((aL (by lk)).trans (rfl))))
theorem Mh (v0:V):m7 "things" v0 ([]:List (Str×V))=([("things",v0)]:List (Str×V)):=rfl
theorem Rj (v0 v1:V):m7 "at" v1 ([("things",v0)]:List (Str×V))=([("things",v0),("at",v1)]:List (Str×V)):=(kr (by lk)).trans (congrArg _ (rfl))
theorem aaX (v0 v1 v2:V):m7 "before" v2 ([("things",v0),("at",v1)]:List (Str×V))=([("things",v0),("at",v1),("before",v2)]:List (Str×V)):=(kr (by lk)).trans (congrArg _ ((kr (by lk)).trans (congrArg _ (rfl))))
theorem age (v0 v1 v2 v3:V):m7 "after" v3 ([("things",v0),("at",v1),("before",v2)]:List (Str×V))=([("things",v0),("at",v1),("before",v2),("after",v3)]:List (Str×V)):=(kr (by lk)).trans (congrArg _ ((kr (by lk)).trans (congrArg _ ((kr (by lk)).trans (congrArg _ (rfl))))))
def Br (V_ D U:Addr):List (Str×V):=[("voices",V.ref V_),("done",V.ref D),("undone",V.ref U)]
theorem kI (V_ D U:Addr):(Br V_ D U).lookup ("voices":Str)=some (V.ref V_):=uM
theorem Ea (V_ D U:Addr):(Br V_ D U).lookup ("done":Str)=some (V.ref D):=(aL (by lk)).trans (uM)
theorem wt (V_ D U:Addr):(Br V_ D U).lookup ("undone":Str)=some (V.ref U):=(aL (by lk)).trans ((aL (by lk)).trans (uM))
theorem He (V_ D U:Addr):(Br V_ D U).lookup ("add_voice":Str)=none:=(aL (by lk)).trans ((aL (by lk)).trans ((aL (by lk)).trans (rfl)))
theorem vt (V_ D U:Addr):(Br V_ D U).lookup ("add_canon":Str)=none:=(aL (by lk)).trans ((aL (by lk)).trans ((aL (by lk)).trans (rfl)))
theorem Vs (V_ D U:Addr):(Br V_ D U).lookup ("drop":Str)=none:=(aL (by lk)).trans ((aL (by lk)).trans ((aL (by lk)).trans (rfl)))
theorem Xx (V_ D U:Addr):(Br V_ D U).lookup ("put":Str)=none:=(aL (by lk)).trans ((aL (by lk)).trans ((aL (by lk)).trans (rfl)))
theorem Xy (V_ D U:Addr):(Br V_ D U).lookup ("cut":Str)=none:=(aL (by lk)).trans ((aL (by lk)).trans ((aL (by lk)).trans (rfl)))
theorem Vt (V_ D U:Addr):(Br V_ D U).lookup ("swap":Str)=none:=(aL (by lk)).trans ((aL (by lk)).trans ((aL (by lk)).trans (rfl)))
theorem K1 (V_ D U:Addr):(Br V_ D U).lookup ("undo":Str)=none:=(aL (by lk)).trans ((aL (by lk)).trans ((aL (by lk)).trans (rfl)))
theorem K2 (V_ D U:Addr):(Br V_ D U).lookup ("redo":Str)=none:=(aL (by lk)).trans ((aL (by lk)).trans ((aL (by lk)).trans (rfl)))
theorem qI (V_ D U:Addr):(Br V_ D U).lookup ("names":Str)=none:=(aL (by lk)).trans ((aL (by lk)).trans ((aL (by lk)).trans (rfl)))
theorem pB (V_ D U:Addr):(Br V_ D U).lookup ("line":Str)=none:=(aL (by lk)).trans ((aL (by lk)).trans ((aL (by lk)).trans (rfl)))
theorem K3 (V_ D U:Addr):(Br V_ D U).lookup ("kept":Str)=none:=(aL (by lk)).trans ((aL (by lk)).trans ((aL (by lk)).trans (rfl)))
theorem qJ (V_ D U:Addr):(Br V_ D U).lookup ("canon":Str)=none:=(aL (by lk)).trans ((aL (by lk)).trans ((aL (by lk)).trans (rfl)))
theorem ju (V_ D U:Addr):(Br V_ D U).lookup ("perform":Str)=none:=(aL (by lk)).trans ((aL (by lk)).trans ((aL (by lk)).trans (rfl)))
theorem A3 (V_ D U:Addr):(Br V_ D U).lookup ("put_in":Str)=none:=(aL (by lk)).trans ((aL (by lk)).trans ((aL (by lk)).trans (rfl)))
theorem tw (V_ D U:Addr):(Br V_ D U).lookup ("refuse_new":Str)=none:=(aL (by lk)).trans ((aL (by lk)).trans ((aL (by lk)).trans (rfl)))
theorem ee (V_ D U:Addr):(Br V_ D U).lookup ("voice_called":Str)=none:=(aL (by lk)).trans ((aL (by lk)).trans ((aL (by lk)).trans (rfl)))
theorem ic (V_ D U:Addr):(Br V_ D U).lookup ("plain_voice":Str)=none:=(aL (by lk)).trans ((aL (by lk)).trans ((aL (by lk)).trans (rfl)))
theorem Rk (v0:V):m7 "voices" v0 ([]:List (Str×V))=([("voices",v0)]:List (Str×V)):=rfl
theorem aaY (v0 v1:V):m7 "done" v1 ([("voices",v0)]:List (Str×V))=([("voices",v0),("done",v1)]:List (Str×V)):=(kr (by lk)).trans (congrArg _ (rfl))
theorem agf (v0 v1 v2:V):m7 "undone" v2 ([("voices",v0),("done",v1)]:List (Str×V))=([("voices",v0),("done",v1),("undone",v2)]:List (Str×V)):=(kr (by lk)).trans (congrArg _ ((kr (by lk)).trans (congrArg _ (rfl))))
set_option maxHeartbeats 1000000
theorem ie {a b:TS}{D:Ends}{σ:St}{H:Hp}(h:∀ N:St->Hp->Prop,(∀ σ H,b D σ H->N σ H)->a { D with nx:=N } σ H):afK a b D σ H:=h (b D) fun _ _ z=>z
structure Vx where
 o:Addr
 d:Addr
 n:Str
 tm:V
 l:Addr
def agg (C:Addr)(H:Hp)(v:V)(a:Vx):Prop:=v=.ref a.o/\H a.o=some (.ins C a.d (voF a.n a.tm a.l))
structure Dd where
 o:Addr
 d:Addr
 T:Addr
 i:Nat
 B:Addr
 A:Addr
 bs:List V
 as:List V
def pC (C:Addr)(H:Hp)(v:V)(e:Dd):Prop:=v=.ref e.o/\H e.o=some (.ins C e.d (K0 e.T (e.i:Int) e.B e.A))/\H e.B=some (.lst e.bs)/\H e.A=some (.lst e.as)
abbrev MM:=Addr->List V
def putAt (S:MM)(T:Addr)(zs:List V):MM:=fun b=>if b=T then zs else S b
theorem gD {S:MM}{T:Addr}{zs:List V}:putAt S T zs T=zs:=if_pos rfl
theorem pE {S:MM}{T b:Addr}{zs:List V}(h:b≠T):putAt S T zs b=S b:=if_neg h
def wa (e:Dd)(S:MM):MM:=putAt S e.T ((S e.T).take e.i++e.as++(S e.T).drop (e.i+e.bs.length))
def unD (e:Dd)(S:MM):MM:=putAt S e.T ((S e.T).take e.i++e.bs++(S e.T).drop (e.i+e.as.length))
def Fits (e:Dd)(S:MM):Prop:=e.i+e.bs.length<=(S e.T).length/\((S e.T).drop e.i).take e.bs.length=e.bs
theorem akr {α:Type}{xs bs as:List α}{i:Nat}(h:i+bs.length<=xs.length):(xs.take i++as++xs.drop (i+bs.length)).take i=xs.take i/\(xs.take i++as++xs.drop (i+bs.length)).drop (i+as.length)=xs.drop (i+bs.length):=by
 have h1:(xs.take i).length=i:=by rw[length_take];omega
 constructor
 ·rw[List.append_assoc];exact List.take_left' h1
 ·exact List.drop_left' (by rw[length_append,h1])
theorem aks {e:Dd}{S:MM}(h:Fits e S):unD e (wa e S)=S:=by
 funext b
 unfold unD
 by_cases hb:b=e.T
 ·subst hb;rw[gD];unfold wa;rw[gD,(akr h.1).1,(akr h.1).2];have h2:e.bs++(S e.T).drop (e.i+e.bs.length)=(S e.T).drop e.i:=by
   rw[<-List.drop_drop];have:=List.take_append_drop e.bs.length ((S e.T).drop e.i);rw[h.2]at this;exact this
  rw[List.append_assoc,h2,List.take_append_drop]
 ·rw[pE hb];unfold wa;rw[pE hb]
theorem agh {e:Dd}{S:MM}(h:Fits e S):e.i+e.as.length<=(wa e S e.T).length:=by
 unfold wa;rw[gD,length_append,length_append,length_take];have:=h.1;omega
inductive Path:List MM->List Dd->MM->Prop
 |nil {M:MM}:Path [] [] M
 |snoc {Ps:List MM} {es:List Dd} {S:MM} {e:Dd}:Path Ps es S->Fits e S->Path (Ps++[S]) (es++[e]) (wa e S)
inductive Fut:MM->List Dd->List MM->Prop
 |nil {M:MM}:Fut M [] []
 |snoc {M:MM} {us:List Dd} {Fs:List MM} {e:Dd}:Fits e M->Fut (wa e M) us Fs->Fut M (us++[e]) (Fs++[wa e M])
theorem Eb {α:Type}{a b:List α}{x y:α}(h:a++[x]=b++[y]):a=b/\x=y:=by
 have:=List.append_inj' h rfl;exact⟨this.1,by simpa using this.2⟩
theorem Path.last {Ps:List MM}{es:List Dd}{e:Dd}{M:MM}(h:Path Ps (es++[e]) M):∃ Ps' S,Ps=Ps'++[S]/\Path Ps' es S/\Fits e S/\M=wa e S:=by
 generalize he:es++[e]=es' at h;cases h with
 |nil=>simp at he
 |snoc p f =>
  obtain⟨rfl,rfl⟩:=Eb he;exact⟨_,_,rfl,p,f,rfl⟩
theorem Fut.last {us:List Dd}{e:Dd}{M:MM}{Fs:List MM}(h:Fut M (us++[e]) Fs):∃ Fs',Fs=Fs'++[wa e M]/\Fits e M/\Fut (wa e M) us Fs':=by
 generalize he:us++[e]=us' at h;cases h with
 |nil=>simp at he
 |snoc f p =>
  obtain⟨rfl,rfl⟩:=Eb he;exact⟨_,rfl,f,p⟩
theorem Path.len {Ps:List MM}{es:List Dd}{M:MM}(h:Path Ps es M):Ps.length=es.length:=by
 induction h with
 |nil=>rfl
 |snoc _ _ ih=>rw[length_append,length_append,ih];rfl
theorem Fut.len {us:List Dd}{M:MM}{Fs:List MM}(h:Fut M us Fs):Fs.length=us.length:=by
 induction h with
 |nil=>rfl
 |snoc _ _ ih=>rw[length_append,length_append,ih];rfl
def MN (s:Sg):Prop:=(s.1.wq=true->0<=s.2/\s.2<100)/\(s.1.wq=false->s.2=0)
def GV (H:Hp)(v:V):Prop:=∃ s,Vm H v s/\MN s
structure WF (H:Hp)(L:Addr)(all:List Vx)(S:MM):Prop where
 vs:∃ vx:List Vx,Paired (fun v a=>v=V.ref a.o/\a∈all) (S L) vx
 ln:∀ a∈all,(S a.l).length<=200/\∀ v∈S a.l,GV H v
 len:(S L).length<=12
 out:∀ b,b≠L->(∀ a∈all,b≠a.l)->S b=[]
inductive Th where
 |pl (ss:List Sg)
 |cn (ld:Str) (lt sl:Int) (tn:Bool)
abbrev Vw:=List (Str×Th)
def aev (H:Hp)(S:MM)(a:Vx):Th->Prop
 |.pl ss=>a.tm=.non/\pq H (S a.l) ss
 |.cn ld lt sl tn=>∃ p,a.tm=.ref p/\H p=some (.tup [.str ld,.int lt,.int sl,.bl tn])
def Xz (H:Hp)(all:List Vx)(S:MM)(v:V)(q:Str×Th):Prop:=∃ a∈all,v=.ref a.o/\a.n=q.1/\aev H S a q.2
abbrev Is (H:Hp)(L:Addr)(all:List Vx)(S:MM)(vw:Vw):Prop:=Paired (Xz H all S) (S L) vw
structure yj (vw:Vw):Prop where
 nd:(vw.map (·.1)).Nodup
 ld:∀ n ld lt sl tn,(n,Th.cn ld lt sl tn)∈vw->(∃ ss,(ld,Th.pl ss)∈vw)/\0<=lt/\lt<=999/\1<=sl/\sl<=9
 gd:∀ n ss,(n,Th.pl ss)∈vw->ss.length<=200/\∀ s∈ss,MN s
 len:vw.length<=12
structure Pk (CB CV CD:Addr)(H:Hp)(x L D U:Addr)(all:List Vx)(M:MM)(Ps Fs:List MM)(es us:List Dd):Prop where
 hx:∃ dx,H x=some (.ins CB dx (Br L D U))
 hL:H L=some (.lst (M L))
 hD:∃ xs,H D=some (.lst xs)/\Paired (pC CD H) xs es
 hU:∃ xs,H U=some (.lst xs)/\Paired (pC CD H) xs us
 ha:∀ a∈all,H a.o=some (.ins CV a.d (voF a.n a.tm a.l))/\H a.l=some (.lst (M a.l))
 LD:L≠D
 LU:L≠U
 DU:D≠U
 nl:∀ a∈all,a.l≠L/\a.l≠D/\a.l≠U
 ni:∀ a∈all,∀ b∈all,a.l=b.l->a=b
 no:∀ a∈all,∀ b∈all,a.o=b.o->a=b
 dd:∀ e,e∈es\/e∈us->(e.T=L\/∃ a∈all,e.T=a.l)/\(e.B≠L/\e.B≠D/\e.B≠U/\∀ a∈all,e.B≠a.l)/\(e.A≠L/\e.A≠D/\e.A≠U/\∀ a∈all,e.A≠a.l)/\e.bs.length<=1/\e.as.length<=1
 past:Path Ps es M
 fut:Fut M us Fs
 wf:∀ S,S∈Ps\/S=M\/S∈Fs->WF H L all S
structure Vu (F:Addr->Prop)(L D U:Addr)(all:List Vx)(es us:List Dd):Prop where
 L:F L
 D:F D
 U:F U
 l:∀ a∈all,F a.l
 d:∀ e,e∈es\/e∈us->F e.B/\F e.A
structure Bk (CB CV CD:Addr)(H:Hp)(x:Addr)(F:Addr->Prop)(vw:Vw)(ps fs:List Vw):Prop where
 ex:∃(L D U:Addr)(all:List Vx)(M:MM)(Ps Fs:List MM)(es us:List Dd),Pk CB CV CD H x L D U all M Ps Fs es us/\Is H L all M vw/\Paired (Is H L all) Ps ps/\Paired (Is H L all) Fs fs/\Vu F L D U all es us
 wv:∀ v,v∈ps\/v=vw\/v∈fs->yj v
def Kept (F:Addr->Prop)(H H':Hp):Prop:=∀ y o,H y=some o->(F y\/∀ xs,o≠.lst xs)->H' y=some o
theorem Kept.same {F:Addr->Prop}{H H':Hp}(s:aq H H'):Kept F H H':=fun y o e _=>s y o e
section
variable {CB CV CD:Addr} {H H':Hp} {x L D U:Addr} {all:List Vx} {M S:MM} {Ps Fs:List MM} {es us:List Dd} {F:Addr->Prop} {vw:Vw} {ps fs:List Vw}
theorem Kept.sgs (k:Kept F H H'){xs:List V}{ss:List Sg}(h:pq H xs ss):pq H' xs ss:=cb (fun _ _ ⟨p,e1,e2⟩=>⟨p,e1,k _ _ e2 (.inr fun _ z=>nomatch z)⟩) h
theorem Kept.gv (k:Kept F H H'){v:V}(h:GV H v):GV H' v:=by
 obtain⟨s,⟨p,e1,e2⟩,g⟩:=h;exact⟨s,⟨p,e1,k _ _ e2 (.inr fun _ z=>nomatch z)⟩,g⟩
theorem WF.kept (k:Kept F H H')(h:WF H L all S):WF H' L all S:=⟨h.vs,fun a ha=>⟨(h.ln a ha).1,fun v hv=>k.gv ((h.ln a ha).2 v hv)⟩,h.len,h.out⟩
theorem Xz.kept (k:Kept F H H'){v:V}{q:Str×Th}(h:Xz H all S v q):Xz H' all S v q:=by
 obtain⟨a,ha,e1,e2,t⟩:=h;refine⟨a,ha,e1,e2,?_⟩;cases hq:q.2 with
 |pl ss=>rw[hq]at t;exact⟨t.1,k.sgs t.2⟩
 |cn ld lt sl tn =>
  rw[hq]at t;obtain⟨p,e3,e4⟩:=t;exact⟨p,e3,k _ _ e4 (.inr fun _ z=>nomatch z)⟩
theorem Is.kept (k:Kept F H H')(h:Is H L all S vw):Is H' L all S vw:=cb (fun _ _ q=>Xz.kept k q) h
theorem jQ (k:Kept F H H'){v:V}{e:Dd}(f:F e.B/\F e.A)(h:pC CD H v e):pC CD H' v e:=⟨h.1,k _ _ h.2.1 (.inr fun _ z=>nomatch z),k _ _ h.2.2.1 (.inl f.1),k _ _ h.2.2.2 (.inl f.2)⟩
theorem uN {α β:Type}{F G:α->β->Prop}:∀{xs:List α} {ys:List β},(∀ x y,y∈ys->F x y->G x y)->Paired F xs ys->Paired G xs ys
 |_,_,_,.nil=>.nil
 |_,_,h,.cons a b=>.cons (h _ _ (mem_cons_self ..) a) (uN (fun x y hy=>h x y (mem_cons_of_mem _ hy)) b)
theorem Pk.kept (h:Pk CB CV CD H x L D U all M Ps Fs es us)(f:Vu F L D U all es us)(k:Kept F H H'):Pk CB CV CD H' x L D U all M Ps Fs es us :=
 {
  h with
  hx:=let ⟨dx,e⟩:=h.hx;⟨dx,k _ _ e (.inr fun _ z=>nomatch z)⟩
  hL:=k _ _ h.hL (.inl f.L)
  hD:=let ⟨xs,e,p⟩:=h.hD;⟨xs,k _ _ e (.inl f.D),uN (fun _ e he q=>jQ k (f.d e (.inl he)) q) p⟩
  hU:=let ⟨xs,e,p⟩:=h.hU;⟨xs,k _ _ e (.inl f.U),uN (fun _ e he q=>jQ k (f.d e (.inr he)) q) p⟩
  ha:=fun a m=>⟨k _ _ (h.ha a m).1 (.inr fun _ z=>nomatch z),k _ _ (h.ha a m).2 (.inl (f.l a m))⟩
  wf:=fun S hS=>(h.wf S hS).kept k }
theorem Bk.kept (h:Bk CB CV CD H x F vw ps fs)(k:Kept F H H'):Bk CB CV CD H' x F vw ps fs:=by
 obtain⟨L,D,U,all,M,Ps,Fs,es,us,b,i,pp,pf,f⟩:=h.ex;exact⟨⟨L,D,U,all,M,Ps,Fs,es,us,b.kept f k,Is.kept k i,cb (fun _ _ q=>Is.kept k q) pp,cb (fun _ _ q=>Is.kept k q) pf,f⟩,h.wv⟩
theorem Bk.same (h:Bk CB CV CD H x F vw ps fs)(s:aq H H'):Bk CB CV CD H' x F vw ps fs:=h.kept (.same s)
theorem Pk.wu (b:Pk CB CV CD H x L D U all M Ps Fs es us)(i:Is H L all M vw):∃ vx:List Vx,Paired (agg CV H) (M L) vx/\Paired (fun a q=>a∈all/\a.n=q.1/\aev H M a q.2) vx vw:=by
 have go:∀{xs:List V} {vw:Vw},Paired (Xz H all M) xs vw->∃ vx:List Vx,Paired (agg CV H) xs vx/\Paired (fun a q=>a∈all/\a.n=q.1/\aev H M a q.2) vx vw:=by
  intro xs vw h
  induction h with
  |nil=>exact⟨[],.nil,.nil⟩
  |cons q _ ih =>
   obtain⟨a,ha,e1,e2,e3⟩:=q;obtain⟨vx,p1,p2⟩:=ih;exact⟨a::vx,.cons ⟨e1,(b.ha a ha).1⟩ p1,.cons ⟨ha,e2,e3⟩ p2⟩
 exact go i
def abU (L D U:Addr)(all:List Vx)(e:Dd):Prop:=(e.T=L\/∃ a∈all,e.T=a.l)/\(e.B≠L/\e.B≠D/\e.B≠U/\∀ a∈all,e.B≠a.l)/\(e.A≠L/\e.A≠D/\e.A≠U/\∀ a∈all,e.A≠a.l)/\e.bs.length<=1/\e.as.length<=1
theorem Pk.lists (b:Pk CB CV CD H x L D U all M Ps Fs es us){T:Addr}(tg:T=L\/∃ a∈all,T=a.l):H T=some (.lst (M T))/\T≠D/\T≠U:=by
 rcases tg with rfl|⟨a,ha,rfl⟩
 ·exact⟨b.hL,b.LD,b.LU⟩
 ·exact⟨(b.ha a ha).2,(b.nl a ha).2.1,(b.nl a ha).2.2⟩
theorem Pk.chg (b:Pk CB CV CD H x L D U all M Ps Fs es us){T:Addr}(tg:T=L\/∃ a∈all,T=a.l){H2:Hp}(fr:∀ y o,H y=some o->y≠T->y≠D->y≠U->H2 y=some o){M':MM}(m1:∀ c,c≠T->M' c=M c)(hT:H2 T=some (.lst (M' T)))
  {dx:List V} {es':List Dd} (hD:H2 D=some (.lst dx)) (pD:Paired (pC CD H) dx es') {ux:List V} {us':List Dd} (hU:H2 U=some (.lst ux)) (pU:Paired (pC CD H) ux us') (dd':∀ e,e∈es'\/e∈us'->abU L D U all e)
  {Ps' Fs':List MM} (akt:Path Ps' es' M') (amK:Fut M' us' Fs') (wf':∀ S,S∈Ps'\/S=M'\/S∈Fs'->WF H L all S):Pk CB CV CD H2 x L D U all M' Ps' Fs' es' us'/\Kept (fun _=>False) H H2:=by
 obtain⟨hT0,TD,TU⟩:=b.lists tg;obtain⟨dx0,hD0,_⟩:=b.hD;obtain⟨ux0,UT,_⟩:=b.hU;have kN:∀ y o,H y=some o->(∀ zs,o≠.lst zs)->H2 y=some o:=fun y o hy hn=>fr y o hy
  (fun e=>by rw[e,hT0]at hy;cases hy;exact hn _ rfl) (fun e=>by rw[e,hD0]at hy;cases hy;exact hn _ rfl) (fun e=>by rw[e,UT]at hy;cases hy;exact hn _ rfl)
 have k:Kept (fun _=>False) H H2:=fun y o hy h=>kN y o hy (h.elim False.elim id);have dk:∀{v e},abU L D U all e->pC CD H v e->pC CD H2 v e:=fun {v e} ok h=>by
  have nT:∀{c:Addr},c≠L/\c≠D/\c≠U/\(∀ a∈all,c≠a.l)->c≠T:=fun {c} q z=>by
   rcases tg with rfl|⟨a,ha,rfl⟩
   ·exact q.1 z
   ·exact q.2.2.2 a ha z
  exact⟨h.1,kN _ _ h.2.1 (fun _ z=>nomatch z),fr _ _ h.2.2.1 (nT ok.2.1) ok.2.1.2.1 ok.2.1.2.2.1,fr _ _ h.2.2.2 (nT ok.2.2.1) ok.2.2.1.2.1 ok.2.2.1.2.2.1⟩
 have at_:∀{c:Addr},(c=L\/∃ a∈all,c=a.l)->H2 c=some (.lst (M' c)):=fun {c} hc=>by
  by_cases e:c=T
  ·rw[e];exact hT
  ·obtain⟨h1,h2,h3⟩:=b.lists hc;rw[m1 c e];exact fr _ _ h1 e h2 h3
 refine⟨{
      hx:=let ⟨dx,e⟩:=b.hx;⟨dx,kN _ _ e (fun _ z=>nomatch z)⟩
      hL:=at_ (.inl rfl)
      hD:=⟨_,hD,uN (fun _ e he q=>dk (dd' e (.inl he)) q) pD⟩
      hU:=⟨_,hU,uN (fun _ e he q=>dk (dd' e (.inr he)) q) pU⟩
      ha:=fun a ha=>⟨kN _ _ (b.ha a ha).1 (fun _ z=>nomatch z),at_ (.inr ⟨a,ha,rfl⟩)⟩
      LD:=b.LD,LU:=b.LU,DU:=b.DU,nl:=b.nl,ni:=b.ni,no:=b.no,dd:=dd'
      past:=akt
      fut:=amK
      wf:=fun S hS=>(wf' S hS).kept k },k⟩
theorem Pk.grow (b:Pk CB CV CD H x L D U all M Ps Fs es us){a:Vx}{H1:Hp}(s:aq H H1)(n1:H a.o=none)(n2:H a.l=none)(h1:H1 a.o=some (.ins CV a.d (voF a.n a.tm a.l)))(h2:H1 a.l=some (.lst [])):Pk CB CV CD H1 x L D U (all++[a]) M Ps Fs es us:=by
 have b1:=b.kept (F:=fun _=>True) ⟨trivial,trivial,trivial,fun _ _=>trivial,fun _ _=>⟨trivial,trivial⟩⟩ (.same s);obtain⟨dx0,hD0,pD0⟩:=b.hD;obtain⟨ux0,UT,pU0⟩:=b.hU;have nL:a.l≠L:=Ne.symm (ao b.hL n2);have nD:a.l≠D:=Ne.symm (ao hD0 n2);have nU:a.l≠U:=Ne.symm (ao UT n2);have nA:∀ c∈all,a.l≠c.l:=fun c hc=>Ne.symm (ao (b.ha c hc).2 n2);have nO:∀ c∈all,a.o≠c.o:=fun c hc=>Ne.symm (ao (b.ha c hc).1 n1);have mem:∀{c:Vx},c∈all++[a]->c∈all\/c=a:=fun h=>by simpa using h
 have wf2:∀ S,WF H1 L all S->WF H1 L (all++[a]) S:=fun S w =>
  {
   vs:=let ⟨vx,p⟩:=w.vs;⟨vx,cb (fun _ _ q=>⟨q.1,mem_append_left _ q.2⟩) p⟩
   ln:=fun c hc=>by
    rcases mem hc with hc|rfl
    ·exact w.ln c hc
    ·have e:S c.l=[]:=w.out c.l nL fun d hd=>nA d hd;rw[e];exact⟨Nat.zero_le _,fun _ z=>nomatch z⟩
   len:=w.len
   out:=fun c h h'=>w.out c h fun d hd=>h' d (mem_append_left _ hd) }
 have dds:∀{v e},pC CD H v e->e.B≠a.l/\e.A≠a.l:=fun h=>⟨ao h.2.2.1 n2,ao h.2.2.2 n2⟩;have ddn:∀ e,e∈es\/e∈us->e.B≠a.l/\e.A≠a.l:=fun e he=>by
  rcases he with he|he
  ·obtain⟨i,hi⟩:=getElem?_of_mem he;obtain⟨v,_,q⟩:=rC pD0 hi;exact dds q
  ·obtain⟨i,hi⟩:=getElem?_of_mem he;obtain⟨v,_,q⟩:=rC pU0 hi;exact dds q
 exact { b1 with
  ha:=fun c hc=>by
   rcases mem hc with hc|rfl
   ·exact b1.ha c hc
   ·refine⟨h1,?_⟩;rw[(b.wf M (.inr (.inl rfl))).out c.l nL fun d hd=>nA d hd];exact h2
  nl:=fun c hc=>by
   rcases mem hc with hc|rfl
   ·exact b1.nl c hc
   ·exact⟨nL,nD,nU⟩
  ni:=fun c hc d hd e=>by
   rcases mem hc with z1|z1 <;> rcases mem hd with z2|z2
   ·exact b1.ni c z1 d z2 e
   ·rw[z2]at e;exact absurd e.symm (nA c z1)
   ·rw[z1]at e;exact absurd e (nA d z2)
   ·rw[z1,z2]
  no:=fun c hc d hd e=>by
   rcases mem hc with z1|z1 <;> rcases mem hd with z2|z2
   ·exact b1.no c z1 d z2 e
   ·rw[z2]at e;exact absurd e.symm (nO c z1)
   ·rw[z1]at e;exact absurd e (nO d z2)
   ·rw[z1,z2]
  dd:=fun e he=>by
   obtain⟨q1,q2,q3,q4⟩:=b1.dd e he;refine⟨q1.imp id fun⟨c,hc,z⟩=>⟨c,mem_append_left _ hc,z⟩,⟨q2.1,q2.2.1,q2.2.2.1,fun c hc=>?_⟩,⟨q3.1,q3.2.1,q3.2.2.1,fun c hc=>?_⟩,q4⟩
   ·rcases mem hc with hc|rfl
    ·exact q2.2.2.2 c hc
    ·exact(ddn e he).1
   ·rcases mem hc with hc|rfl
    ·exact q3.2.2.2 c hc
    ·exact(ddn e he).2
  wf:=fun S hS=>wf2 S (b1.wf S hS) }
theorem Is.grow {a:Vx}(h:Is H L all S vw):Is H L (all++[a]) S vw:=cb (fun _ _ ⟨c,hc,q⟩=>⟨c,mem_append_left _ hc,q⟩) h
end
set_option maxHeartbeats 1000000
section
variable {CB CV CD:Addr} {H H1 H2 H':Hp} {x L D U:Addr} {all:List Vx} {M S:MM} {Ps Fs:List MM} {es us:List Dd} {F:Addr->Prop} {vw vw':Vw} {ps fs:List Vw}
theorem Bk.deed (b:Pk CB CV CD H1 x L D U all M Ps Fs es us)(i:Is H1 L all M vw)(pp:Paired (Is H1 L all) Ps ps)(f:Vu F L D U all es us)(wv:∀ v,v∈ps\/v=vw->yj v){e:Dd}(hd:pC CD H1 (.ref e.o) e)(ok:abU L D U all e)(ft:Fits e M)(w:WF H1 L all (wa e M))
  (i':Is H1 L all (wa e M) vw') (wv':yj vw') {dx:List V} (pD:Paired (pC CD H1) dx es) (fr:∀ y o,H1 y=some o->y≠e.T->y≠D->y≠U->H2 y=some o) (hT:H2 e.T=some (.lst (wa e M e.T))) (hD2:H2 D=some (.lst (dx++[.ref e.o]))) (hU2:H2 U=some (.lst [])) :
  Bk CB CV CD H2 x (fun y=>F y\/y=e.B\/y=e.A) vw' (ps++[vw]) []:=by
 obtain⟨b2,k⟩:=b.chg ok.1 fr (M':=wa e M) (fun c hc=>pE hc) hT hD2 (j6 pD hd) hU2 .nil (fun e' he=>by
  rcases he with he|he
  ·rcases mem_append.mp he with he|he
   ·exact b.dd e' (.inl he)
   ·rw[mem_singleton.mp he];exact ok
  ·cases he) (b.past.snoc ft) .nil (fun S hS=>by
  rcases hS with hS|hS|hS
  ·rcases mem_append.mp hS with hS|hS
   ·exact b.wf S (.inl hS)
   ·exact b.wf S (.inr (.inl (mem_singleton.mp hS)))
  ·rw[hS];exact w
  ·cases hS)
 refine⟨⟨L,D,U,all,_,_,_,_,_,b2,Is.kept k i',j6 (cb (fun _ _ q=>Is.kept k q) pp) (Is.kept k i),.nil,⟨.inl f.L,.inl f.D,.inl f.U,fun a ha=>.inl (f.l a ha),fun e' he=>?_⟩⟩,fun v hv=>?_⟩
 ·rcases he with he|he
  ·rcases mem_append.mp he with he|he
   ·exact⟨.inl (f.d e' (.inl he)).1,.inl (f.d e' (.inl he)).2⟩
   ·rw[mem_singleton.mp he];exact⟨.inr (.inl rfl),.inr (.inr rfl)⟩
  ·cases he
 ·rcases hv with hv|hv|hv
  ·rcases mem_append.mp hv with hv|hv
   ·exact wv v (.inl hv)
   ·exact wv v (.inr (mem_singleton.mp hv))
  ·rw[hv];exact wv'
  ·cases hv
theorem MO {α β:Type}{F:α->β->Prop}:∀{xs:List α} {x:α} {zs:List β},Paired F (xs++[x]) zs->∃ ys y,zs=ys++[y]/\Paired F xs ys/\F x y
 |[],_,_,.cons r .nil=>⟨[],_,rfl,.nil,r⟩
 |_::_,_,_,.cons r t=>by
  obtain⟨ys,y,rfl,p,q⟩:=MO t;exact⟨_::ys,y,rfl,.cons r p,q⟩
theorem Bk.aiy (b:Pk CB CV CD H x L D U all M Ps Fs es us)(i:Is H L all M vw)(pp:Paired (Is H L all) Ps ps)(pf:Paired (Is H L all) Fs fs)(f:Vu F L D U all es us)(wv:∀ v,v∈ps\/v=vw\/v∈fs->yj v){e:Dd}{es0:List Dd}(he:es=es0++[e]){dx ux:List V}(pD:Paired (pC CD H) dx es0)(hd:pC CD H (.ref e.o) e)(pU:Paired (pC CD H) ux us)
  (fr:∀ y o,H y=some o->y≠e.T->y≠D->y≠U->H2 y=some o) (hT:H2 e.T=some (.lst (unD e M e.T))) (hD2:H2 D=some (.lst dx)) (hU2:H2 U=some (.lst (ux++[.ref e.o]))) :
  ∃ ps0 v,ps=ps0++[v]/\Bk CB CV CD H2 x F v ps0 (fs++[vw]):=by
 subst he;obtain⟨Ps0,S,rfl,p0,ft,rfl⟩:=b.past.last;have ok:=b.dd e (.inl (mem_append_right _ (List.mem_singleton_self _)));rw[aks ft]at hT;obtain⟨b2,k⟩:=b.chg ok.1 fr (M':=S) (fun c hc=>(pE hc).symm) hT hD2 pD hU2 (j6 pU hd) (fun e' he=>by
  rcases he with he|he
  ·exact b.dd e' (.inl (mem_append_left _ he))
  ·rcases mem_append.mp he with he|he
   ·exact b.dd e' (.inr he)
   ·rw[mem_singleton.mp he];exact ok) p0 (Fut.snoc ft b.fut) (fun T hT=>by
  rcases hT with hT|hT|hT
  ·exact b.wf T (.inl (mem_append_left _ hT))
  ·exact b.wf T (.inl (mem_append_right _ (mem_singleton.mpr hT)))
  ·rcases mem_append.mp hT with hT|hT
   ·exact b.wf T (.inr (.inr hT))
   ·exact b.wf T (.inr (.inl (mem_singleton.mp hT))))
 obtain⟨ps0,v,rfl,pp0,iv⟩:=MO pp;refine⟨ps0,v,rfl,⟨⟨L,D,U,all,_,_,_,_,_,b2,Is.kept k iv,cb (fun _ _ q=>Is.kept k q) pp0,j6 (cb (fun _ _ q=>Is.kept k q) pf) (Is.kept k i),⟨f.L,f.D,f.U,f.l,fun e' he=>?_⟩⟩,fun u hu=>?_⟩⟩
 ·rcases he with he|he
  ·exact f.d e' (.inl (mem_append_left _ he))
  ·rcases mem_append.mp he with he|he
   ·exact f.d e' (.inr he)
   ·rw[mem_singleton.mp he];exact f.d e (.inl (mem_append_right _ (List.mem_singleton_self _)))
 ·rcases hu with hu|hu|hu
  ·exact wv u (.inl (mem_append_left _ hu))
  ·exact wv u (.inl (mem_append_right _ (mem_singleton.mpr hu)))
  ·rcases mem_append.mp hu with hu|hu
   ·exact wv u (.inr (.inr hu))
   ·exact wv u (.inr (.inl (mem_singleton.mp hu)))
theorem Bk.aiz (b:Pk CB CV CD H x L D U all M Ps Fs es us)(i:Is H L all M vw)(pp:Paired (Is H L all) Ps ps)(pf:Paired (Is H L all) Fs fs)(f:Vu F L D U all es us)(wv:∀ v,v∈ps\/v=vw\/v∈fs->yj v){e:Dd}{us0:List Dd}(he:us=us0++[e]){dx ux:List V}(pD:Paired (pC CD H) dx es)(hd:pC CD H (.ref e.o) e)(pU:Paired (pC CD H) ux us0)
  (fr:∀ y o,H y=some o->y≠e.T->y≠D->y≠U->H2 y=some o) (hT:H2 e.T=some (.lst (wa e M e.T))) (hD2:H2 D=some (.lst (dx++[.ref e.o]))) (hU2:H2 U=some (.lst ux)) :
  ∃ fs0 v,fs=fs0++[v]/\Bk CB CV CD H2 x F v (ps++[vw]) fs0:=by
 subst he;obtain⟨Fs0,rfl,ft,p0⟩:=b.fut.last;have ok:=b.dd e (.inr (mem_append_right _ (List.mem_singleton_self _)));obtain⟨b2,k⟩:=b.chg ok.1 fr (M':=wa e M) (fun c hc=>pE hc) hT hD2 (j6 pD hd) hU2 pU (fun e' he=>by
  rcases he with he|he
  ·rcases mem_append.mp he with he|he
   ·exact b.dd e' (.inl he)
   ·rw[mem_singleton.mp he];exact ok
  ·exact b.dd e' (.inr (mem_append_left _ he))) (b.past.snoc ft) p0 (fun T hT=>by
  rcases hT with hT|hT|hT
  ·rcases mem_append.mp hT with hT|hT
   ·exact b.wf T (.inl hT)
   ·exact b.wf T (.inr (.inl (mem_singleton.mp hT)))
  ·exact b.wf T (.inr (.inr (mem_append_right _ (mem_singleton.mpr hT))))
  ·exact b.wf T (.inr (.inr (mem_append_left _ hT))))
 obtain⟨fs0,v,rfl,pf0,iv⟩:=MO pf;refine⟨fs0,v,rfl,⟨⟨L,D,U,all,_,_,_,_,_,b2,Is.kept k iv,j6 (cb (fun _ _ q=>Is.kept k q) pp) (Is.kept k i),cb (fun _ _ q=>Is.kept k q) pf0,⟨f.L,f.D,f.U,f.l,fun e' he=>?_⟩⟩,fun u hu=>?_⟩⟩
 ·rcases he with he|he
  ·rcases mem_append.mp he with he|he
   ·exact f.d e' (.inl he)
   ·rw[mem_singleton.mp he];exact f.d e (.inr (mem_append_right _ (List.mem_singleton_self _)))
  ·exact f.d e' (.inr (mem_append_left _ he))
 ·rcases hu with hu|hu|hu
  ·rcases mem_append.mp hu with hu|hu
   ·exact wv u (.inl hu)
   ·exact wv u (.inr (.inl (mem_singleton.mp hu)))
  ·exact wv u (.inr (.inr (mem_append_right _ (mem_singleton.mpr hu))))
  ·exact wv u (.inr (.inr (mem_append_left _ hu)))
def bf (vw:Vw)(n:Str):Option Th:=(vw.find? fun q=>decide (q.1=n)).map (·.2)
def AO (vw:Vw)(n:Str)(th:Th):Vw:=vw.map fun q=>if q.1=n then(n,th) else q
theorem dj {n:Str}{th:Th}(h:bf vw n=some th):(n,th)∈vw:=by
 unfold bf at h;cases e:vw.find? (fun q=>decide (q.1=n)) with
 |none=>rw[e]at h;cases h
 |some q =>
  rw[e]at h;have h1:=List.mem_of_find?_eq_some e;have h2:=List.find?_some e;have h3:q.1=n:=of_decide_eq_true h2;have h4:q.2=th:=Option.some.inj h;rw[<-h3,<-h4];exact h1
theorem rF {n:Str}(h:bf vw n=none):∀ q∈vw,q.1≠n:=by
 unfold bf at h;rw[Option.map_eq_none_iff]at h;intro q hq e;exact List.find?_eq_none.mp h q hq (decide_eq_true e)
theorem Ec:∀{l:List Str} {i j:Nat} {n:Str},l.Nodup->l[i]? = some n->l[j]? = some n->i=j
 |[],_,_,_,_,h,_=>by simp at h
 |a::l,i,j,n,nd,h1,h2=>by
  obtain⟨na,nd'⟩:=List.nodup_cons.mp nd
  match i,j,h1,h2 with
  |0,0,_,_=>rfl
  |0,j+1,h1,h2 =>
   rw[List.getElem?_cons_zero]at h1;rw[List.getElem?_cons_succ]at h2;cases h1;exact absurd (mem_of_getElem? h2) na
  |i+1,0,h1,h2 =>
   rw[List.getElem?_cons_zero]at h2;rw[List.getElem?_cons_succ]at h1;cases h2;exact absurd (mem_of_getElem? h1) na
  |i+1,j+1,h1,h2 =>
   rw[List.getElem?_cons_succ]at h1 h2;rw[Ec nd' h1 h2]
theorem yj.uniq (w:yj vw){q q':Str×Th}(h:q∈vw)(h':q'∈vw)(e:q.1=q'.1):q=q':=by
 obtain⟨i,hi⟩:=getElem?_of_mem h;obtain⟨j,hj⟩:=getElem?_of_mem h';have h1:(vw.map (·.1))[i]? = some q.1:=by rw[getElem?_map,hi];rfl
 have h2:(vw.map (·.1))[j]? = some q.1:=by rw[getElem?_map,hj,e];rfl
 have:=Ec w.nd h1 h2;subst this;rw[hi]at hj;exact Option.some.inj hj
theorem yj.find (w:yj vw){n:Str}{th:Th}(h:(n,th)∈vw):bf vw n=some th:=by
 cases e:bf vw n with
 |none=>exact absurd rfl (rF e _ h)
 |some t =>
  have:=w.uniq (dj e) h rfl;rw[Prod.mk.injEq]at this;rw[this.2]
theorem MP (n:Str)(th:Th):(AO vw n th).map (·.1)=vw.map (·.1):=by
 unfold AO;rw[List.map_map];refine List.map_congr_left fun q _=>?_;show(if q.1=n then(n,th) else q).1=q.1;split
 ·next h=>exact h.symm
 ·rfl
theorem Vv {n:Str}{th:Th}{q:Str×Th}(h:q∈AO vw n th):(q=(n,th)/\∃ q'∈vw,q'.1=n)\/(q∈vw/\q.1≠n):=by
 obtain⟨q',h1,h2⟩:=mem_map.mp h;split at h2
 ·next e=>exact .inl ⟨h2.symm,q',h1,e⟩
 ·next e=>rw[<-h2];exact .inr ⟨h1,e⟩
theorem XA {n:Str}{th:Th}{q:Str×Th}(h:q∈vw)(hn:q.1≠n):q∈AO vw n th:=mem_map.mpr ⟨q,h,if_neg hn⟩
theorem aew {n:Str}{th t:Th}(h:(n,t)∈vw):(n,th)∈AO vw n th:=mem_map.mpr ⟨(n,t),h,if_pos rfl⟩
theorem yj.set (w:yj vw){n:Str}{ss ss':List Sg}(h:(n,Th.pl ss)∈vw)(h1:ss'.length<=200)(h2:∀ s∈ss',MN s):yj (AO vw n (.pl ss')) where
 nd:=by rw[MP];exact w.nd
 ld:=fun m ld lt sl tn hm=>by
  rcases Vv hm with ⟨e,_⟩|⟨hm',_⟩
  ·cases e
  ·obtain⟨⟨s0,h0⟩,r⟩:=w.ld m ld lt sl tn hm';refine⟨?_,r⟩
   by_cases e:ld=n
   ·rw[e];exact⟨ss',aew h⟩
   ·exact⟨s0,XA h0 e⟩
 gd:=fun m s0 hm=>by
  rcases Vv hm with ⟨e,_⟩|⟨hm',_⟩
  ·cases e;exact⟨h1,h2⟩
  ·exact w.gd m s0 hm'
 len:=by
  have:=congrArg List.length (MP (vw:=vw) n (.pl ss'));rw[length_map,length_map]at this;rw[this];exact w.len
theorem yj.akv (w:yj vw){n:Str}(hn:∀ q∈vw,q.1≠n)(hl:vw.length<12):yj (vw++[(n,.pl [])]) where
 nd:=by
  rw[map_append,List.nodup_append];refine⟨w.nd,by simp,?_⟩;intro a ha c hc e;obtain⟨q,hq,e1⟩:=mem_map.mp ha;have:c=n:=by simpa using hc
  exact hn q hq (by rw[e1,e,this])
 ld:=fun m ld lt sl tn hm=>by
  rcases mem_append.mp hm with hm|hm
  ·obtain⟨⟨s0,h0⟩,r⟩:=w.ld m ld lt sl tn hm;exact⟨⟨s0,mem_append_left _ h0⟩,r⟩
  ·have:=mem_singleton.mp hm;cases this
 gd:=fun m s0 hm=>by
  rcases mem_append.mp hm with hm|hm
  ·exact w.gd m s0 hm
  ·have:=mem_singleton.mp hm;cases this;exact⟨Nat.zero_le _,fun _ z=>nomatch z⟩
 len:=by rw[length_append];exact hl
theorem yj.akw (w:yj vw){n ld:Str}{lt sl:Int}{tn:Bool}{ss:List Sg}(hn:∀ q∈vw,q.1≠n)(hl:vw.length<12)(h:(ld,Th.pl ss)∈vw)(h1:0<=lt)(h2:lt<=999)(h3:1<=sl)(h4:sl<=9):yj (vw++[(n,.cn ld lt sl tn)]) where
 nd:=by
  rw[map_append,List.nodup_append];refine⟨w.nd,by simp,?_⟩;intro a ha c hc e;obtain⟨q,hq,e1⟩:=mem_map.mp ha;have:c=n:=by simpa using hc
  exact hn q hq (by rw[e1,e,this])
 ld:=fun m l2 t2 s2 n2 hm=>by
  rcases mem_append.mp hm with hm|hm
  ·obtain⟨⟨s0,h0⟩,r⟩:=w.ld m l2 t2 s2 n2 hm;exact⟨⟨s0,mem_append_left _ h0⟩,r⟩
  ·have:=mem_singleton.mp hm;cases this;exact⟨⟨ss,mem_append_left _ h⟩,h1,h2,h3,h4⟩
 gd:=fun m s0 hm=>by
  rcases mem_append.mp hm with hm|hm
  ·exact w.gd m s0 hm
  ·have:=mem_singleton.mp hm;cases this
 len:=by rw[length_append];exact hl
theorem ahy {α β γ:Type}{F:α->β->Prop}{G:α->γ->Prop}{f:β->γ}:∀{xs:List α} {ys:List β},Paired F xs ys->(∀(k:Nat) x y,xs[k]? = some x->ys[k]? = some y->F x y->G x (f y))->Paired G xs (ys.map f)
 |_,_,.nil,_=>.nil
 |_,_,.cons a b,h=>.cons (h 0 _ _ rfl rfl a) (ahy b fun k x y e1 e2=>h (k+1) x y (by simpa using e1) (by simpa using e2))
theorem Is.line (b:Pk CB CV CD H x L D U all M Ps Fs es us)(i:Is H L all M vw)(w:yj vw){a:Vx}(ha:a∈all){j:Nat}{th:Th}{ss':List Sg}(hj:(M L)[j]? = some (.ref a.o))(hm:vw[j]? = some (a.n,th))(UU:a.tm=.non){M':MM}(m1:∀ c,c≠a.l->M' c=M c)(g:pq H (M' a.l) ss'):Is H L all M' (AO vw a.n (.pl ss')):=by
 show Paired _ (M' L) _;rw[m1 L (Ne.symm (b.nl a ha).1)];refine ahy i fun k v q hk hq hvq=>?_;obtain⟨c,hc,rfl,e1,t⟩:=hvq;split
 ·next e =>
  have h1:(vw.map (·.1))[k]? = some a.n:=by rw[getElem?_map,hq,<-e];rfl
  have h2:(vw.map (·.1))[j]? = some a.n:=by rw[getElem?_map,hm];rfl
  have hkj:=Ec w.nd h1 h2;subst hkj;rw[hj]at hk;have:a.o=c.o:=V.ref.inj (Option.some.inj hk);have:=b.no a ha c hc this;subst this;exact⟨a,hc,rfl,rfl,UU,g⟩
 ·next e =>
  refine⟨c,hc,rfl,e1,?_⟩;have ne:c.l≠a.l:=fun z=>e (by rw[<-e1,b.ni c hc a ha z]);cases hq2:q.2 with
  |pl s0=>rw[hq2]at t;exact⟨t.1,by rw[m1 _ ne];exact t.2⟩
  |cn ld lt sl tn=>rw[hq2]at t;exact t
end
set_option maxHeartbeats 1000000
abbrev Sn:=Str×Int
def nj:List V:=[.str "G",.str "D",.str "s",.str "d"]
def ku:List V:=[.str "R",.str "r",.str ".",.str "3",.str "2"]
def iG (s:Sn):Bool:=if inV (.str s.1) nj=true then(if decide (0<=s.2)=true then decide (s.2<=99) else false) else(if inV (.str s.1) ku=true then decide (s.2=0) else false)
set_option maxHeartbeats 1000000
inductive Rf where
 |tD|Mi|AA|Full|dU|gT|qK|tE|Bs|jv
structure Cs where
 B:Addr
 V:Addr
 D:Addr
 on:Bool
 x:Rf->Addr
def RX (E:XK)(c:Cs)(r:Rf)(H:Hp):Prop:=c.on=true/\E (.ref (c.x r)) none H
abbrev yx (c:Cs):=Bk c.B c.V c.D
def Fr (F:Addr->Prop)(H H':Hp):Prop:=∀ y o,H y=some o->¬ F y->H' y=some o
def Gr (F F':Addr->Prop)(H:Hp):Prop:=∀ y,F' y->F y\/H y=none
theorem Gr.refl (F:Addr->Prop)(H:Hp):Gr F F H:=fun _ h=>.inl h
theorem Gr.old {F F':Addr->Prop}{H H':Hp}(s:aq H H')(g:Gr F F' H'):Gr F F' H:=fun y z=>(g y z).imp id fun q=>s.free q
def nameB (x:Str):Bool:=decide (1<=x.length)&&(decide (x.length<=8)&&x.cps.toList.all fun c=>Ph ⟨#[c]⟩ "abcdefghijklmnopqrstuvwxyz")
theorem kinds_of {k:Str}(h:inV (.str k) nj=true\/inV (.str k) ku=true):∃ d:Kd,d.str=k:=by
 have go:∀ l:List V,(∀ v∈l,∃ d:Kd,v=.str d.str)->inV (.str k) l=true->∃ d:Kd,d.str=k:=fun l hl h=>by
  unfold inV at h;obtain⟨y,hy,e⟩:=any_eq_true.mp h;obtain⟨d,rfl⟩:=hl y hy;have:d.str=k:=by simpa [eqV] using e
  exact⟨d,this⟩
 have c:∀(l:List Kd),∀ v∈l.map (fun d=>V.str d.str),∃ d:Kd,v=.str d.str:=fun l v hv=>by
  obtain⟨d,_,e⟩:=mem_map.mp hv;exact⟨d,e.symm⟩
 rcases h with h|h
 ·exact go nj (c [.G,.D,.s,.d]) h
 ·exact go ku (c [.R,.r,.dot,.three,.two]) h
theorem akx (d:Kd):inV (.str d.str) nj=d.wq:=by cases d <;> decide +kernel
theorem aky (d:Kd):inV (.str d.str) ku = !d.wq:=by cases d <;> decide +kernel
theorem Rl {sn:Sn}(h:iG sn=true):∃ s:Sg,s.1.str=sn.1/\s.2=sn.2/\MN s:=by
 unfold iG at h;split at h
 ·next h1 =>
  obtain⟨d,hd⟩:=kinds_of (.inl h1);rw[<-hd,akx]at h1;split at h
  ·next h2=>exact⟨(d,sn.2),hd,rfl,⟨(fun _=>⟨of_decide_eq_true h2,by have:=of_decide_eq_true h;show sn.2<100;omega⟩),fun z=>by rw[show d.wq=false from z]at h1;cases h1⟩⟩
  ·cases h
 ·next h1 =>
  split at h
  ·next h2 =>
   obtain⟨d,hd⟩:=kinds_of (.inr h2);rw[<-hd,aky]at h2;exact⟨(d,sn.2),hd,rfl,⟨(fun z=>by rw[show d.wq=true from z]at h2;cases h2),fun _=>of_decide_eq_true h⟩⟩
  ·cases h
def Qr:Kd->Kd
 |.three=>.two
 |.two=>.three
 |k=>k
def tF (s:Sg):Sg:=(Qr s.1,s.2)
def Ed (vw:Vw)(n:Str):List Sg:=match bf vw n with
 |some (.pl ss)=>ss
 |some (.cn ld _ _ tn)=>match bf vw ld with
  |some (.pl ss)=>if tn then ss.map tF else ss
  |_=>[]
 |none=>[]
def xX (vw:Vw)(n:Str):List Int:=match bf vw n with
 |some (.pl ss)=>(lg 3 (bB ss)).1
 |some (.cn ld _ sl tn)=>match bf vw ld with
  |some (.pl ss)=>(lg (if tn then 2 else 3) (bB (if tn then ss.map tF else ss))).1.map fun w=>sl * w
  |_=>[]
 |none=>[]
theorem yy {vw:Vw}{n:Str}{ss:List Sg}(h:bf vw n=some (.pl ss)):Ed vw n=ss:=by
 unfold Ed;rw[h]
theorem yz {vw:Vw}{n ld:Str}{lt sl:Int}{tn:Bool}{ss:List Sg}(h:bf vw n=some (.cn ld lt sl tn))(h':bf vw ld=some (.pl ss)):Ed vw n=if tn=true then ss.map tF else ss:=by
 unfold Ed;rw[h];show(match bf vw ld with|some (.pl ss)=>if tn=true then ss.map tF else ss|_=>[])=_;rw[h']
theorem MQ {vw:Vw}{n:Str}{ss:List Sg}(h:bf vw n=some (.pl ss)):xX vw n=(lg 3 (bB ss)).1:=by
 unfold xX;rw[h]
theorem MR {vw:Vw}{n ld:Str}{lt sl:Int}{tn:Bool}{ss:List Sg}(h:bf vw n=some (.cn ld lt sl tn))(h':bf vw ld=some (.pl ss)):xX vw n=(lg (if tn then 2 else 3) (bB (if tn then ss.map tF else ss))).1.map fun w=>sl * w:=by
 unfold xX;rw[h];show(match bf vw ld with|some (.pl ss)=>(lg (if tn then 2 else 3) (bB (if tn then ss.map tF else ss))).1.map fun w=>sl * w|_=>[])=_;rw[h']
theorem aiA {H H':Hp}{x dx C:Addr}(hx:H x=none)(hdx:H dx=none)(kp:∀ y o,(upd (upd H dx (.own x)) x (.ins C dx [])) y=some o->y≠x->H' y=some o):aq H H':=fun y o hy =>
 kp y o (by rw[ak (ao hy hx),ak (ao hy hdx)];exact hy) (ao hy hx)
theorem MS {H:Hp}{x dx D:Addr}{o1 o2:HO}(h:upd (upd H dx o1) x o2 D=none):H D=none:=by
 unfold upd at h;split at h
 ·cases h
 ·split at h
  ·cases h
  ·exact h
theorem Ee {H:Hp}{B A:Addr}{o:HO}(h:upd H B o A=none):H A=none:=by
 unfold upd at h;split at h
 ·cases h
 ·exact h
theorem Pl (z:Int){k:Int}(hk:0<k):∃ m:Nat,z % k=(m:Int)/\(m:Int)<k:=by
 have z1:=Int.emod_nonneg z (show k≠0 by omega);have z2:=Int.emod_lt_of_pos z hk;exact⟨(z % k).toNat,by omega,by omega⟩
theorem Bk.new {c:Cs}{H:Hp}{x dx L D U:Addr}(hx:H x=some (.ins c.B dx (Br L D U)))(hL:H L=some (.lst []))(hD:H D=some (.lst []))(hU:H U=some (.lst []))(LD:L≠D)(LU:L≠U)(DU:D≠U):yx c H x (fun y=>y=L\/y=D\/y=U) [] [] [] where
 ex:=⟨L,D,U,[],fun _=>[],[],[],[],[],
  {
   hx:=⟨dx,hx⟩,hL:=hL,hD:=⟨[],hD,.nil⟩,hU:=⟨[],hU,.nil⟩,ha:=fun _ h=>(nomatch h),LD:=LD,LU:=LU,DU:=DU,nl:=fun _ h=>(nomatch h),ni:=fun _ h=>(nomatch h),no:=fun _ h=>(nomatch h)
   dd:=fun _ h=>h.elim (fun z=>(nomatch z)) fun z=>(nomatch z)
   past:=.nil
   fut:=.nil
   wf:=fun S hS=>by
    rcases hS with hS|hS|hS
    ·cases hS
    ·subst hS;exact⟨⟨[],.nil⟩,fun _ h=>(nomatch h),Nat.zero_le _,fun _ _ _=>rfl⟩
    ·cases hS },
  .nil,.nil,.nil,⟨.inl rfl,.inr (.inl rfl),.inr (.inr rfl),fun _ h=>(nomatch h),fun _ h=>h.elim (fun z=>(nomatch z)) fun z=>(nomatch z)⟩⟩
 wv:=fun v hv=>by
  rcases hv with hv|hv|hv
  ·cases hv
  ·subst hv;exact⟨.nil,fun _ _ _ _ _ h=>(nomatch h),fun _ _ h=>(nomatch h),Nat.zero_le _⟩
  ·cases hv
theorem aiB {R:Vx->Str×Th->Prop}{vx:List Vx}{vw:Vw}(h:Paired R vx vw)(hn:∀ a q,R a q->a.n=q.1):vx.map (fun a=>V.str a.n)=vw.map (fun a=>V.str a.1):=by
 induction h with
 |nil=>rfl
 |cons r _ ih=>rw[map_cons,map_cons,ih,hn _ _ r]
theorem K4 {vx:List Vx}{vw:Vw}{R:Vx->Str×Th->Prop}(h:Paired R vx vw)(hn:∀ a q,R a q->a.n=q.1)(n:Str) :
  (vx.find? (fun a=>decide (a.n=n))=none/\bf vw n=none)\/∃ a th,∃ j:Nat,vx.find? (fun a=>decide (a.n=n))=some a/\bf vw n=some th/\R a (n,th)/\a.n=n/\vx[j]? = some a/\vw[j]? = some (n,th):=by
 induction h with
 |nil=>exact .inl ⟨rfl,rfl⟩
 | @cons a q as qs r t ih =>
  have e:=hn a q r
  by_cases hq:q.1=n
  ·refine .inr ⟨a,q.2,0,?_,?_,?_,e.trans hq,rfl,by rw[<-hq];rfl⟩
   ·rw[List.find?_cons_of_pos];exact decide_eq_true (e.trans hq)
   ·unfold bf;rw[List.find?_cons_of_pos (p:=fun q:Str×Th=>decide (q.1=n)) (decide_eq_true hq)];rfl
   ·rw[<-hq];exact r
  ·have h1:¬ decide (a.n=n)=true:=fun z=>hq (e ▸ of_decide_eq_true z);have h2:¬ decide (q.1=n)=true:=fun z=>hq (of_decide_eq_true z);have f1:(a::as).find? (fun a=>decide (a.n=n))=as.find? (fun a=>decide (a.n=n)):=List.find?_cons_of_neg h1;have f2:bf (q::qs) n=bf qs n:=by
    unfold bf;rw[List.find?_cons_of_neg (p:=fun q:Str×Th=>decide (q.1=n)) h2]
   rw[f1,f2];exact ih.imp id fun⟨a,th,j,h1,h2,h3,h4,h5,h6⟩=>⟨a,th,j+1,h1,h2,h3,h4,by simpa using h5,by simpa using h6⟩
theorem Bk.added {c:Cs}{H H1 H2 H':Hp}{x L D U:Addr}{all:List Vx}{M:MM}{Ps Fs:List MM}{es us:List Dd}{F:Addr->Prop}{vw:Vw}{ps fs:List Vw}(b:Pk c.B c.V c.D H x L D U all M Ps Fs es us)(i:Is H L all M vw)(pp:Paired (Is H L all) Ps ps)(f:Vu F L D U all es us)(wv:∀ v,v∈ps\/v=vw\/v∈fs->yj v)
  {a:Vx} {th:Th} (s1:aq H H1) (n1:H a.o=none) (n2:H a.l=none) (h1:H1 a.o=some (.ins c.V a.d (voF a.n a.tm a.l))) (h2:H1 a.l=some (.lst [])) (ht:∀ M',M' a.l=[]->aev H1 M' a th) (w':yj (vw++[(a.n,th)]))
  {e:Dd} (eT:e.T=L) (ei:e.i=(M L).length) (eb:e.bs=[]) (ea:e.as=[.ref a.o]) (s2:aq H1 H2) (nB:H1 e.B=none) (nA:H1 e.A=none) (hd:pC c.D H2 (.ref e.o) e) {ds:List V} (hD:H D=some (.lst ds)) (pD:Paired (pC c.D H) ds es)
  (fr:∀ y o,H2 y=some o->y≠L->y≠D->y≠U->H' y=some o) (hL':H' L=some (.lst (M L++[.ref a.o]))) (hD':H' D=some (.lst (ds++[.ref e.o]))) (hU':H' U=some (.lst [])) :
  ∃ F',Gr F F' H/\Fr F H H'/\yx c H' x F' (vw++[(a.n,th)]) (ps++[vw]) []:=by
 have s12:=s1.trans s2;have kT:Kept (fun _=>True) H H2:=.same s12;have b2:=(b.grow s1 n1 n2 h1 h2).kept (F:=fun _=>True) ⟨trivial,trivial,trivial,fun _ _=>trivial,fun _ _=>⟨trivial,trivial⟩⟩ (.same s2);have w2:=w'.len;rw[length_append]at w2;have ll:=bS i;have w2':vw.length+1<=12:=w2;have hM:wa e M L=M L++[.ref a.o]:=by
  unfold wa;rw[eT,gD,ei,eb,ea];simp
 have mo:∀ y,y≠L->wa e M y=M y:=fun y hy=>by
  unfold wa;exact pE (by rw[eT];exact hy)
 have wM:=b2.wf M (.inr (.inl rfl));have naL:∀ z∈all++[a],z.l≠L:=fun z hz=>(b2.nl z hz).1;obtain⟨ux,hU,_⟩:=b2.hU;have old:∀{y:Addr},H1 y=none->∀{z o},H z=some o->y≠z:=fun {y} hy {z o} hz q=>by rw[q,s1 _ _ hz]at hy;cases hy
 have oA:∀{y:Addr},H1 y=none->y≠L/\y≠D/\y≠U/\∀ z∈all++[a],y≠z.l:=fun {y} hy=>by
  obtain⟨u0,UT,_⟩:=b.hU;refine⟨old hy b.hL,old hy hD,old hy UT,fun z hz=>?_⟩;rcases mem_append.mp hz with hz|hz
  ·exact old hy (b.ha z hz).2
  ·rw[mem_singleton.mp hz];exact fun q=>by rw[q,h2]at hy;cases hy
 have ok:abU L D U (all++[a]) e:=⟨.inl eT,oA nB,oA nA,by rw[eb];simp,by rw[ea];simp⟩;have ft:Fits e M:=⟨by rw[ei,eb,eT];simp,by rw[eb];simp⟩;have wf2:WF H2 L (all++[a]) (wa e M) :=
  {
   vs:=(let ⟨vx,p⟩:=wM.vs;⟨vx++[a],by rw[hM];exact j6 p ⟨rfl,mem_append_right _ (List.mem_singleton_self _)⟩⟩)
   ln:=fun z hz=>by rw[mo _ (naL z hz)];exact wM.ln z hz
   len:=by rw[hM,length_append,ll];exact w2'
   out:=fun y h1 h2=>by rw[mo y h1];exact wM.out y h1 h2 }
 have i2:Is H2 L (all++[a]) M vw:=Is.kept kT (Is.grow i);have i':Is H2 L (all++[a]) (wa e M) (vw++[(a.n,th)]):=by
  show Paired _ (wa e M L) _;rw[hM];refine j6 ?_ ?_
  ·refine cb (fun v q hq=>?_) i2;obtain⟨z,hz,e1,e2,e3⟩:=hq;refine⟨z,hz,e1,e2,?_⟩;cases hq2:q.2 with
   |pl ss=>rw[hq2]at e3;exact⟨e3.1,by rw[mo _ (naL z hz)];exact e3.2⟩
   |cn ld lt sl tn=>rw[hq2]at e3;exact e3
  ·refine⟨a,mem_append_right _ (List.mem_singleton_self _),rfl,rfl,?_⟩;have nal:a.l≠L:=naL a (mem_append_right _ (List.mem_singleton_self _));have:=ht (wa e M) (by rw[mo _ nal];exact(b.wf M (.inr (.inl rfl))).out _ nal fun z hz q=>by rw[q,(b.ha z hz).2]at n2;cases n2);show aev H2 (wa e M) a th;cases th with
   |pl ss=>exact⟨this.1,this.2.same s2⟩
   |cn ld lt sl tn=>obtain⟨p,e1,e2⟩:=this;exact⟨p,e1,s2 _ _ e2⟩
 have B:=Bk.deed b2 i2 (cb (fun _ _ q=>Is.kept kT (Is.grow q)) pp) (F:=fun y=>F y\/y=a.l) ⟨.inl f.L,.inl f.D,.inl f.U,fun z hz=>by
   rcases mem_append.mp hz with hz|hz
   ·exact .inl (f.l z hz)
   ·rw[mem_singleton.mp hz];exact .inr rfl,fun e' he=>⟨.inl (f.d e' he).1,.inl (f.d e' he).2⟩⟩ (fun v hv=>wv v (hv.imp id .inl)) hd ok ft wf2 i' w' (uN (fun _ e' he q=>jQ (F:=fun _=>True) kT ⟨trivial,trivial⟩ q) pD) (H2:=H')
  (fun y o hy y1 y2 y3=>fr y o hy (by rw[<-eT];exact y1) y2 y3) (by rw[eT,hM];exact hL') hD' hU'
 refine⟨_,fun y hy=>?_,fun y o hy hn=>fr y o (s12 y o hy) (fun q=>hn (q ▸ f.L)) (fun q=>hn (q ▸ f.D)) (fun q=>hn (q ▸ f.U)),B⟩;rcases hy with (hy|hy)|hy|hy
 ·exact .inl hy
 ·rw[hy];exact .inr n2
 ·rw[hy];exact .inr (s1.free nB)
 ·rw[hy];exact .inr (s1.free nA)
theorem Bk.aex {c:Cs}{H H1 H':Hp}{x L D U:Addr}{all:List Vx}{M:MM}{Ps Fs:List MM}{es us:List Dd}{F:Addr->Prop}{vw:Vw}{ps fs:List Vw}(b:Pk c.B c.V c.D H x L D U all M Ps Fs es us)(i:Is H L all M vw)(pp:Paired (Is H L all) Ps ps)(f:Vu F L D U all es us)(wv:∀ v,v∈ps\/v=vw\/v∈fs->yj v)
  {a:Vx} (ha:a∈all) {j:Nat} {ss ss':List Sg} (hj:(M L)[j]? = some (.ref a.o)) (hm:vw[j]? = some (a.n,.pl ss)) (UU:a.tm=.non) {e:Dd} (eT:e.T=a.l) (ft:Fits e M) (lb:e.bs.length<=1) (la:e.as.length<=1) (s1:aq H H1) (nB:H e.B=none) (nA:H e.A=none) (hd:pC c.D H1 (.ref e.o) e)
  (g':pq H1 (wa e M a.l) ss') (gl:ss'.length<=200) (gg:∀ s∈ss',MN s) {ds:List V} (hD:H D=some (.lst ds)) (pD:Paired (pC c.D H) ds es)
  (fr:∀ y o,H1 y=some o->y≠a.l->y≠D->y≠U->H' y=some o) (hl':H' a.l=some (.lst (wa e M a.l))) (hD':H' D=some (.lst (ds++[.ref e.o]))) (hU':H' U=some (.lst [])) :
  ∃ F',Gr F F' H/\Fr F H H'/\yx c H' x F' (AO vw a.n (.pl ss')) (ps++[vw]) []:=by
 have kT:Kept (fun _=>True) H H1:=.same s1;have b2:=b.kept (F:=fun _=>True) ⟨trivial,trivial,trivial,fun _ _=>trivial,fun _ _=>⟨trivial,trivial⟩⟩ kT;have mo:∀ y,y≠a.l->wa e M y=M y:=fun y hy=>pE (by rw[eT];exact hy);have wM:=b2.wf M (.inr (.inl rfl));have wvw:=wv vw (.inr (.inl rfl));have oA:∀{y:Addr},H y=none->y≠L/\y≠D/\y≠U/\∀ z∈all,y≠z.l:=fun {y} hy=>by
  obtain⟨u0,UT,_⟩:=b.hU;exact⟨Ne.symm (ao b.hL hy),Ne.symm (ao hD hy),Ne.symm (ao UT hy),fun z hz=>Ne.symm (ao (b.ha z hz).2 hy)⟩
 have ok:abU L D U all e:=⟨.inr ⟨a,ha,eT⟩,oA nB,oA nA,lb,la⟩;have nal:L≠a.l:=Ne.symm (b.nl a ha).1;have wf2:WF H1 L all (wa e M) :=
  {
   vs:=by rw[mo L nal];exact wM.vs
   ln:=fun z hz=>by
    by_cases hza:z.l=a.l
    ·rw[hza];refine⟨by rw[bS g'];exact gl,fun v hv=>?_⟩;obtain⟨k,hk⟩:=getElem?_of_mem hv;obtain⟨sg,e1,e2⟩:=yg g' hk;exact⟨sg,e2,gg sg (mem_of_getElem? e1)⟩
    ·rw[mo _ hza];exact wM.ln z hz
   len:=by rw[mo L nal];exact wM.len
   out:=fun y h1 h2=>by rw[mo y (h2 a ha)];exact wM.out y h1 h2 }
 have i2:Is H1 L all M vw:=Is.kept kT i;have B:=Bk.deed b2 i2 (cb (fun _ _ q=>Is.kept kT q) pp) f (fun v hv=>wv v (hv.imp id .inl)) hd ok ft wf2 (Is.line b2 i2 wvw ha hj hm UU mo g') (wvw.set (mem_of_getElem? hm) gl gg) (uN (fun _ e' he q=>jQ (F:=fun _=>True) kT ⟨trivial,trivial⟩ q) pD) (H2:=H')
  (fun y o hy y1 y2 y3=>fr y o hy (by rw[<-eT];exact y1) y2 y3) (by rw[eT];exact hl') hD' hU'
 refine⟨_,fun y hy=>?_,fun y o hy hn=>fr y o (s1 y o hy) (fun q=>hn (q ▸ f.l a ha)) (fun q=>hn (q ▸ f.D)) (fun q=>hn (q ▸ f.U)),B⟩;rcases hy with hy|hy|hy
 ·exact .inl hy
 ·rw[hy];exact .inr nB
 ·rw[hy];exact .inr nA
def ThV (H:Hp)(v:V):Th->Prop
 |.pl ss=>∃ l ys,v=.ref l/\H l=some (.lst ys)/\pq H ys ss
 |.cn ld lt sl tn=>∃ p,v=.ref p/\H p=some (.tup [.str ld,.int lt,.int sl,.bl tn])
def MT (H:Hp)(kv:Key×V)(q:Str×Th):Prop:=kv.1=Sum.inr q.1/\ThV H kv.2 q.2
def uO (H:Hp)(d:Addr)(vw:Vw):Prop:=∃ kvs,H d=some (.dK kvs)/\Paired (MT H) kvs vw
theorem ThV.same {H H':Hp}(s:aq H H'){v:V}{th:Th}(h:ThV H v th):ThV H' v th:=by
 cases th with
 |pl ss=>obtain⟨l,ys,e1,e2,e3⟩:=h;exact⟨l,ys,e1,s _ _ e2,e3.same s⟩
 |cn ld lt sl tn=>obtain⟨p,e1,e2⟩:=h;exact⟨p,e1,s _ _ e2⟩
theorem MT.same {H H':Hp}(s:aq H H'){kv:Key×V}{q:Str×Th}(h:MT H kv q):MT H' kv q:=⟨h.1,h.2.same s⟩
theorem uO.same {H H':Hp}(s:aq H H'){d:Addr}{vw:Vw}(h:uO H d vw):uO H' d vw:=by
 obtain⟨kvs,e,p⟩:=h;exact⟨kvs,s _ _ e,cb (fun _ _ q=>q.same s) p⟩
theorem XB {H:Hp}{kvs:List (Key×V)}{vw:Vw}(h:Paired (MT H) kvs vw){n:Str}{th:Th}(hf:bf vw n=some th):∃ v,sV kvs (Sum.inr n)=some v/\ThV H v th:=by
 induction h with
 |nil=>cases hf
 | @cons kv q as qs r t ih =>
  by_cases hq:q.1=n
  ·have e:bf (q::qs) n=some q.2:=by
    unfold bf;rw[List.find?_cons_of_pos (p:=fun q:Str×Th=>decide (q.1=n)) (decide_eq_true hq)];rfl
   rw[e]at hf;cases hf;refine⟨kv.2,?_,r.2⟩;unfold sV;rw[List.find?_cons_of_pos (p:=fun kv:Key×V=>decide (kv.1=Sum.inr n)) (decide_eq_true (by rw[r.1,hq]))];rfl
  ·have e:bf (q::qs) n=bf qs n:=by
    unfold bf;rw[List.find?_cons_of_neg (p:=fun q:Str×Th=>decide (q.1=n)) (fun z=>hq (of_decide_eq_true z))]
   rw[e]at hf;obtain⟨v,h1,h2⟩:=ih hf;refine⟨v,?_,h2⟩;unfold sV at h1 ⊢;rw[List.find?_cons_of_neg (p:=fun kv:Key×V=>decide (kv.1=Sum.inr n)) (fun z=>hq (Sum.inr.inj (r.1.symm.trans (of_decide_eq_true z))))];exact h1
theorem uO.get {H:Hp}{d:Addr}{vw:Vw}(h:uO H d vw){n:Str}{th:Th}(hf:bf vw n=some th):∃ v,sW H d (.str n) (some v)/\ThV H v th:=by
 obtain⟨kvs,e,p⟩:=h;obtain⟨v,h1,h2⟩:=XB p hf;refine⟨v,?_,h2⟩;have:=sW.k (k:=Sum.inr n) e;rw[h1]at this;exact this
theorem uO.keys {H:Hp}{d:Addr}{vw:Vw}(h:uO H d vw):∃ kvs,H d=some (.dK kvs)/\(kvs.map fun kv=>kV kv.1)=vw.map fun q=>V.str q.1:=by
 obtain⟨kvs,e,p⟩:=h;refine⟨kvs,e,?_⟩;clear e
 induction p with
 |nil=>rfl
 |cons r _ ih=>rw[map_cons,map_cons,ih,r.1];rfl
set_option maxHeartbeats 1000000
theorem Bk.akA {CB CV CD:Addr}{H:Hp}{x:Addr}{F:Addr->Prop}{vw:Vw}{ps fs:List Vw}(h:Bk CB CV CD H x F vw ps fs):∃ F0:Addr->Prop,(∀ y,F0 y->F y)/\(∀ y,F0 y->∃ xs,H y=some (.lst xs))/\Bk CB CV CD H x F0 vw ps fs:=by
 obtain⟨L,D,U,all,M,Ps,Fs,es,us,b,i,pp,pf,f⟩:=h.ex;obtain⟨ds,hD,pD⟩:=b.hD;obtain⟨ux,hU,pU⟩:=b.hU;have dd:∀ e,e∈es\/e∈us->H e.B=some (.lst e.bs)/\H e.A=some (.lst e.as):=fun e he=>by
  rcases he with he|he
  ·obtain⟨k,hk⟩:=getElem?_of_mem he;obtain⟨v,_,q⟩:=rC pD hk;exact⟨q.2.2.1,q.2.2.2⟩
  ·obtain⟨k,hk⟩:=getElem?_of_mem he;obtain⟨v,_,q⟩:=rC pU hk;exact⟨q.2.2.1,q.2.2.2⟩
 refine⟨fun y=>y=L\/y=D\/y=U\/(∃ a∈all,y=a.l)\/∃ e,(e∈es\/e∈us)/\(y=e.B\/y=e.A),fun y hy=>?_,fun y hy=>?_,⟨⟨L,D,U,all,M,Ps,Fs,es,us,b,i,pp,pf,⟨.inl rfl,.inr (.inl rfl),.inr (.inr (.inl rfl)),fun a ha=>.inr (.inr (.inr (.inl ⟨a,ha,rfl⟩))),fun e he=>⟨.inr (.inr (.inr (.inr ⟨e,he,.inl rfl⟩))),.inr (.inr (.inr (.inr ⟨e,he,.inr rfl⟩)))⟩⟩⟩,h.wv⟩⟩
 ·rcases hy with rfl|rfl|rfl|⟨a,ha,rfl⟩|⟨e,he,rfl|rfl⟩
  ·exact f.L
  ·exact f.D
  ·exact f.U
  ·exact f.l a ha
  ·exact(f.d e he).1
  ·exact(f.d e he).2
 ·rcases hy with rfl|rfl|rfl|⟨a,ha,rfl⟩|⟨e,he,rfl|rfl⟩
  ·exact⟨_,b.hL⟩
  ·exact⟨_,hD⟩
  ·exact⟨_,hU⟩
  ·exact⟨_,(b.ha a ha).2⟩
  ·exact⟨_,(dd e he).1⟩
  ·exact⟨_,(dd e he).2⟩
structure Bq (c:Cs)(H:Hp)(x:Addr)(own:List Addr)(vw:Vw)(ps fs:List Vw):Prop where
 ex:∃ F,yx c H x F vw ps fs/\(∀ y,F y->∃ xs,H y=some (.lst xs))/\∀ a∈own,¬ F a/\∃ o,H a=some o
def amO (own:List Addr)(H H':Hp):Prop:=∀ y o,H y=some o->((∀ xs,o≠.lst xs)\/y∈own)->H' y=some o
section
variable {c:Cs} {H H' H1:Hp} {x:Addr} {own:List Addr} {vw vw':Vw} {ps ps' fs fs':List Vw} {F F':Addr->Prop}
end
set_option maxHeartbeats 1000000
structure aoa (vw:Vw):Prop where
 w:yj vw
 nm:∀ q∈vw,nameB q.1=true/\q.1 ≠ "zed"/\q.1.length<=1000
 ld:∀(i:Nat) n ld lt sl tn,vw[i]? = some (n,Th.cn ld lt sl tn)->∃ ss,(ld,Th.pl ss)∈vw.take i
 sh:∀ n ss,(n,Th.pl ss)∈vw->ss.length<=24
end Ha
set_option maxHeartbeats 1000000
namespace L2
open PySem PySem.Spec PyProof.Rows
variable {X:Cx}
def aiC:V->List V->Hp->VK->Prop:=fun x vs H Q=>∃(l:Addr)(ys:List Str)(z:Str)(j:Nat),x=.ref l/\vs=[.str z]/\H l=some (.lst (ys.map V.str))/\ys[j]? = some z/\(∀ i,i<j->ys[i]? ≠ some z)/\Q (.int j) H
theorem aey:MtM X "list.index" aiC:=by
 intro pins s σ H x vs v us Q I rx rv h;obtain⟨l,ys,k,j,rfl,rfl,hH,hj,hno,q⟩:=h;cases rx;obtain⟨u,rfl,t,rfl⟩:=rv.one;obtain⟨z,its,n,r,hl,e⟩:=I.Pf hH;have ha:=Xn r;have at_:∀{i:Nat} {y:Str},ys[i]? = some y->∃ t',its[i]? = some (.str y t'):=fun {i y} hy=>by
  obtain⟨u,hu,t',rfl⟩:=r.get (i:=i) (x:=.str y) (by rw[getElem?_map,hy];rfl);exact⟨t',hu⟩
 have ln:its.length=ys.length:=by rw[<-length_map (f:=V.str) (as:=ys)];exact hl.symm
 have hjl:j<ys.length:=(List.getElem?_eq_some_iff.mp hj).1;obtain⟨tj,ej⟩:=at_ hj;have b:sizeLine<2 ^ 60:=by decide
 have z':ys.length<=sizeLine:=by rw[<-length_map (f:=V.str) (as:=ys)];exact z
 refine call_meets F.slot_list_index ⟨_,e,rfl⟩ F.entry_list_index (F.args_list_index_2 _ _)
  (MeetsSeq.list_index l its.toArray n (.str k t) (isStrOf k) (fun y hy=>eq_isStrOf k t ha y (by simpa using hy)) j (by rw[size_toArray];omega) (by omega) ?_ ?_) ⟨e,?_⟩
 ·have:its.toArray[j]'(by rw[size_toArray];omega)=.str k tj:=by
   have:=(List.getElem?_eq_some_iff.mp ej).2
   simpa using this
  rw[this];exact beq_self_eq_true k
 ·intro i hi hlt;have hil:i<ys.length:=by omega
  have hy:ys[i]? = some ys[i]:=getElem?_eq_getElem hil;obtain⟨ti,ei⟩:=at_ hy;have:its.toArray[i]'hi=.str ys[i] ti:=by
   have:=(List.getElem?_eq_some_iff.mp ei).2
   simpa using this
  rw[this];exact beq_eq_false_iff_ne.mpr fun z=>hno i hlt (by rw[hy,z])
 ·exact⟨.int j,H,I.tok _,⟨_,rfl⟩,q⟩
end L2
namespace Ha
open PySem L2
theorem Bk.dropped {c:Cs}{H H1 H':Hp}{x L D U:Addr}{all:List Vx}{M:MM}{Ps Fs:List MM}{es us:List Dd}{F:Addr->Prop}{vw:Vw}{ps fs:List Vw}(b:Pk c.B c.V c.D H x L D U all M Ps Fs es us)(i:Is H L all M vw)(pp:Paired (Is H L all) Ps ps)(f:Vu F L D U all es us)(wv:∀ v,v∈ps\/v=vw\/v∈fs->yj v)
  {j:Nat} {v:V} (hj:(M L)[j]? = some v) (w':yj (vw.take j++vw.drop (j+1))) {e:Dd} (eT:e.T=L) (ei:e.i=j) (eb:e.bs=[v]) (ea:e.as=[]) (s1:aq H H1) (nB:H e.B=none) (nA:H e.A=none) (hd:pC c.D H1 (.ref e.o) e)
  {ds:List V} (hD:H D=some (.lst ds)) (pD:Paired (pC c.D H) ds es)
  (fr:∀ y o,H1 y=some o->y≠L->y≠D->y≠U->H' y=some o) (hL':H' L=some (.lst ((M L).take j++(M L).drop (j+1)))) (hD':H' D=some (.lst (ds++[.ref e.o]))) (hU':H' U=some (.lst [])) :
  ∃ F',Gr F F' H/\Fr F H H'/\yx c H' x F' (vw.take j++vw.drop (j+1)) (ps++[vw]) []:=by
 have kT:Kept (fun _=>True) H H1:=.same s1;have b2:=b.kept (F:=fun _=>True) ⟨trivial,trivial,trivial,fun _ _=>trivial,fun _ _=>⟨trivial,trivial⟩⟩ kT;have hjl:j<(M L).length:=(List.getElem?_eq_some_iff.mp hj).1;have hM:wa e M L=(M L).take j++(M L).drop (j+1):=by
  unfold wa;rw[eT,gD,ei,eb,ea];simp
 have mo:∀ y,y≠L->wa e M y=M y:=fun y hy=>pE (by rw[eT];exact hy);have wM:=b2.wf M (.inr (.inl rfl));have naL:∀ z∈all,z.l≠L:=fun z hz=>(b2.nl z hz).1;have oA:∀{y:Addr},H y=none->y≠L/\y≠D/\y≠U/\∀ z∈all,y≠z.l:=fun {y} hy=>by
  obtain⟨u0,UT,_⟩:=b.hU;exact⟨Ne.symm (ao b.hL hy),Ne.symm (ao hD hy),Ne.symm (ao UT hy),fun z hz=>Ne.symm (ao (b.ha z hz).2 hy)⟩
 have ok:abU L D U all e:=⟨.inl eT,oA nB,oA nA,by rw[eb];simp,by rw[ea];simp⟩;have ft:Fits e M:=by
  refine⟨by rw[ei,eb,eT];exact hjl,?_⟩;rw[eb,eT,ei];show((M L).drop j).take 1=[v];rw[List.drop_eq_getElem_cons hjl,List.take_succ_cons,List.take_zero];rw[(List.getElem?_eq_some_iff.mp hj).2]
 have wf2:WF H1 L all (wa e M) :=
  {
   vs:=(let ⟨vx,p⟩:=wM.vs;⟨vx.take j++vx.drop (j+1),by rw[hM];exact Hb (KZ j p) (KY (j+1) p)⟩)
   ln:=fun z hz=>by rw[mo _ (naL z hz)];exact wM.ln z hz
   len:=by rw[hM,length_append,length_take,length_drop];have:=wM.len;omega
   out:=fun y h1 h2=>by rw[mo y h1];exact wM.out y h1 h2 }
 have i2:Is H1 L all M vw:=Is.kept kT i;have i3:Paired (Xz H1 all (wa e M)) (M L) vw:=by
  refine cb (fun v q hq=>?_) i2;obtain⟨z,hz,e1,e2,e3⟩:=hq;refine⟨z,hz,e1,e2,?_⟩;cases hq2:q.2 with
  |pl ss=>rw[hq2]at e3;exact⟨e3.1,by rw[mo _ (naL z hz)];exact e3.2⟩
  |cn ld lt sl tn=>rw[hq2]at e3;exact e3
 have i':Is H1 L all (wa e M) (vw.take j++vw.drop (j+1)):=by
  show Paired _ (wa e M L) _;rw[hM];exact Hb (KZ j i3) (KY (j+1) i3)
 have B:=Bk.deed b2 i2 (cb (fun _ _ q=>Is.kept kT q) pp) f (fun v hv=>wv v (hv.imp id .inl)) hd ok ft wf2 i' w' (uN (fun _ e' he q=>jQ (F:=fun _=>True) kT ⟨trivial,trivial⟩ q) pD) (H2:=H')
  (fun y o hy y1 y2 y3=>fr y o hy (by rw[<-eT];exact y1) y2 y3) (by rw[eT,hM];exact hL') hD' hU'
 refine⟨_,fun y hy=>?_,fun y o hy hn=>fr y o (s1 y o hy) (fun q=>hn (q ▸ f.L)) (fun q=>hn (q ▸ f.D)) (fun q=>hn (q ▸ f.U)),B⟩;rcases hy with hy|hy|hy
 ·exact .inl hy
 ·rw[hy];exact .inr nB
 ·rw[hy];exact .inr nA
def rG (n:Str)(q:Str×Th):Bool:=match q.2 with
 |.cn ld _ _ _=>decide (ld=n)
 |.pl _=>false
def leans (vw:Vw)(n:Str):Bool:=vw.any (rG n)
def tG (vw:Vw)(n:Str):Vw:=vw.filter fun q=>!decide (q.1=n)
theorem XC {n:Str}:∀{vw:Vw},(∀ q∈vw,q.1≠n)->tG vw n=vw:=fun {vw} h =>
 List.filter_eq_self.mpr fun q hq=>by rw[decide_eq_false (h q hq)];rfl
theorem MU {n:Str}{th:Th}:∀{vw:Vw} {j:Nat},(vw.map (·.1)).Nodup->vw[j]? = some (n,th)->tG vw n=vw.take j++vw.drop (j+1)
 |[],_,_,h=>by simp at h
 |q::vw,0,nd,h=>by
  simp only [List.getElem?_cons_zero,Option.some.injEq]at h;rw[map_cons]at nd;obtain⟨n1,_⟩:=List.nodup_cons.mp nd;unfold tG;rw[List.filter_cons_of_neg (by rw[h];simp)];refine XC fun q' hq' e=>n1 ?_;rw[h];exact e ▸ mem_map.mpr ⟨q',hq',rfl⟩
 |q::vw,j+1,nd,h=>by
  rw[List.getElem?_cons_succ]at h;rw[map_cons]at nd;obtain⟨n1,n2⟩:=List.nodup_cons.mp nd;have ne:q.1≠n:=fun e=>n1 (e ▸ mem_map.mpr ⟨(n,th),mem_of_getElem? h,rfl⟩);unfold tG;rw[List.filter_cons_of_pos (by rw[decide_eq_false ne];rfl)];have:=MU n2 h;unfold tG at this;rw[this];rfl
theorem Hf {vw:Vw}{n:Str}{q:Str×Th}:q∈tG vw n ↔ q∈vw/\q.1≠n:=by
 unfold tG;rw[List.mem_filter];simp
theorem yj.dropped {vw:Vw}(w:yj vw){n:Str}(h:leans vw n=false):yj (tG vw n) where
 nd:=List.Sublist.nodup (List.Sublist.map _ List.filter_sublist) w.nd
 ld:=fun m ld lt sl tn hm=>by
  obtain⟨hm,_⟩:=Hf.mp hm;obtain⟨⟨ss,hs⟩,r⟩:=w.ld m ld lt sl tn hm;refine⟨⟨ss,Hf.mpr ⟨hs,fun e=>?_⟩⟩,r⟩;have:=List.any_eq_false.mp h _ hm;exact this (decide_eq_true e)
 gd:=fun m ss hm=>w.gd m ss (Hf.mp hm).1
 len:=Nat.le_trans (List.length_filter_le _ _) w.len
end Ha
set_option maxHeartbeats 1000000
namespace L2
open PySem PySem.Spec PyProof.Rows
theorem agi {z:Str}{g:TG}{tb:TS}{D:Ends}{σ:St}{H:Hp}(Pv:Nat->St->Hp->Prop)(h0:Pv 0 σ H)
  (hs:∀ i c σ H,z.cps[i]? = some c->Pv i σ H->g (.str ⟨#[c]⟩) σ H fun σ2 H2=>tb { D with nx:=Pv (i+1),ct:=Pv (i+1),bk:=D.nx } σ2 H2) (hd:∀ σ H,Pv z.cps.size σ H->D.nx σ H) :
  ∃ W:Nat->Nat->St->Hp->Prop,(∃ m,W 0 m σ H)/\∀ i m σ H,W i m σ H ->
   ((Its z).stop i H/\D.nx σ H)\/((Its z).go i H/\∃ N:St->Hp->Prop,(∀ σ' H',N σ' H'->∃ m',m'<m/\W (i+1) m' σ' H')/\∀ x H',(Its z).yld i H x H'->g x σ H' fun σ2 H2=>tb { D with nx:=N,ct:=N,bk:=D.nx } σ2 H2):=by
 refine⟨fun i m σ H=>m=z.cps.size-i/\i<=z.cps.size/\Pv i σ H,⟨z.cps.size,by simp,Nat.zero_le _,h0⟩,?_⟩;rintro i m σ H ⟨rfl,hi,p⟩
 by_cases hlt:i<z.cps.size
 ·refine .inr ⟨hlt,Pv (i+1),fun σ' H' p'=>⟨z.cps.size-(i+1),by omega,rfl,hlt,p'⟩,fun x H' y=>?_⟩;obtain⟨e,c,hc,rfl⟩:=y;subst e;exact hs i c σ _ hc p
 ·have e:i=z.cps.size:=by omega
  subst e;exact .inl ⟨Nat.le_refl _,hd σ H p⟩
end L2
namespace Ha
open PySem L2
def A4 (ks:List Kd):Nat->Nat->Nat
 |0,_=>0
 |p+1,met=>if(if(ks.getD p .dot).small=true then met else met+1)=2 then p else A4 ks p (if(ks.getD p .dot).small=true then met else met+1)
def Qs (wide:Bool)(k:Kd):Bool:=if wide=true then k.meas else k.parting
def Qt (ks:List Kd)(i:Nat)(wide:Bool):Nat:=i+((ks.drop i).takeWhile fun k=>!Qs wide k).length
def XD (wide:Bool):List V:=if wide=true then [.str "3",.str "2"] else [.str ".",.str "3",.str "2"]
theorem aez (wide:Bool)(k:Kd):inV (.str k.str) (XD wide)=Qs wide k:=by cases wide <;> cases k <;> decide +kernel
def XE (ss:List Sg)(i b:Nat)(ch:List Sg):List V:=[.int (A4 (bB ss) i 0:Nat),.int (Qt (bB ss) b (ch.any fun s=>s.1.meas):Nat)]
theorem Vy {p:Kd->Bool}:∀{l:List Kd} {j:Nat} {k:Kd},(∀ m x,m<j->l[m]? = some x->p x=true)->l[j]? = some k->p k=false->(l.takeWhile p).length=j
 |[],_,_,_,h,_=>by simp at h
 |x::l,0,k,_,h,hk=>by
  simp only [List.getElem?_cons_zero,Option.some.injEq]at h;rw[h,List.takeWhile_cons_of_neg (by rw[hk];decide)];rfl
 |x::l,j+1,k,hi,h,hk=>by
  rw[List.takeWhile_cons_of_pos (hi 0 x (Nat.succ_pos _) rfl),length_cons,Vy (l:=l) (j:=j) (fun m y hm hy=>hi (m+1) y (Nat.succ_lt_succ hm) (by simpa using hy)) (by simpa using h) hk]
theorem Qu {p:Kd->Bool}:∀{l:List Kd},(∀(m:Nat)(x:Kd),l[m]? = some x->p x=true)->(l.takeWhile p).length=l.length
 |[],_=>rfl
 |x::l,h=>by
  rw[List.takeWhile_cons_of_pos (h 0 x rfl),length_cons,length_cons,Qu (l:=l) fun m y hy=>h (m+1) y (by simpa using hy)]
theorem agj {ks:List Kd}{i j:Nat}{wide:Bool}{k:Kd}(hi:∀ m x,m<j->ks[i+m]? = some x->Qs wide x=false)(h:ks[i+j]? = some k)(hk:Qs wide k=true):Qt ks i wide=i+j:=by
 unfold Qt;rw[Vy (j:=j) (k:=k) (fun m x hm hx=>by rw[getElem?_drop]at hx;rw[hi m x hm hx];rfl) (by rw[getElem?_drop];exact h) (by rw[hk];rfl)]
theorem aeA {ks:List Kd}{i:Nat}{wide:Bool}(hl:i<=ks.length)(hi:∀(m:Nat)(x:Kd),ks[i+m]? = some x->Qs wide x=false):Qt ks i wide=ks.length:=by
 unfold Qt;rw[Qu (fun m x hx=>by rw[getElem?_drop]at hx;rw[hi m x hx];rfl),length_drop];omega
def kdOf (k:Str):Kd:=if k = "G" then .G else if k = "D" then .D else if k = "R" then .R else if k = "s" then .s else if k = "d" then .d else if k = "r" then .r else if k = "." then .dot else if k = "3" then .three else .two
theorem aeB (k:Kd):kdOf k.str=k:=by cases k <;> decide +kernel
def MV (s:Sn):Sg:=(kdOf s.1,s.2)
theorem Ef {s:Sg}{n:Sn}(h1:s.1.str=n.1)(h2:s.2=n.2):MV n=s:=by
 unfold MV;rw[<-h1,<-h2,aeB]
theorem aeC {n:Sn}(h:iG n=true):(MV n).1.str=n.1/\(MV n).2=n.2/\MN (MV n):=by
 obtain⟨s,h1,h2,g⟩:=Rl h;rw[Ef h1 h2];exact⟨h1,h2,g⟩
inductive Wy where
 |put|cut|swap|add|canon|drop|undo|qL
 deriving DecidableEq
def Wy.str:Wy->Str
 |.put=>"put" | .cut=>"cut" | .swap=>"swap" | .add=>"add" | .canon=>"canon" | .drop=>"drop" | .undo=>"undo" | .qL=>"redo"
structure De where
 wy:Wy
 n:Str
 ld:Str
 pl:Int
 sg:Sn
 lt:Int
 sl:Int
 tn:Bool
structure DeS (H:Hp)(v:V)(d:De):Prop where
 ex:∃ p xs,v=.ref p/\H p=some (.tup xs)/\xs[0]? = some (.str d.wy.str)/\xs[1]? = some (.str d.n)/\(d.wy=.put\/d.wy=.swap->∃ ps,xs[4]? = some (.ref ps)/\H ps=some (.tup [.str d.sg.1,.int d.sg.2]))/\(d.wy=.canon->xs[2]? = some (.str d.ld)/\xs[5]? = some (.int d.lt)/\xs[6]? = some (.int d.sl)/\xs[7]? = some (.bl d.tn))
def yA (H:Hp)(v:V)(d:De):Prop:=∃ p ps,v=.ref p/\H p=some (.tup [.str d.wy.str,.str d.n,.str d.ld,.int d.pl,.ref ps,.int d.lt,.int d.sl,.bl d.tn])/\H ps=some (.tup [.str d.sg.1,.int d.sg.2])
theorem yA.short {H:Hp}{v:V}{d:De}(h:yA H v d):DeS H v d:=by
 obtain⟨p,ps,e,h1,h2⟩:=h;exact⟨p,_,e,h1,rfl,rfl,fun _=>⟨ps,rfl,h2⟩,fun _=>⟨rfl,rfl,rfl,rfl⟩⟩
theorem yA.same {H H':Hp}(s:aq H H'){v:V}{d:De}(h:yA H v d):yA H' v d:=by
 obtain⟨p,ps,e,h1,h2⟩:=h;exact⟨p,ps,e,s _ _ h1,s _ _ h2⟩
def DvR (H:Hp)(v:V)(vw:Vw):Prop:=∃ d,v=.ref d/\uO H d vw
theorem DvR.same {H H':Hp}(s:aq H H'){v:V}{vw:Vw}(h:DvR H v vw):DvR H' v vw:=by
 obtain⟨d,e,h⟩:=h;exact⟨d,e,h.same s⟩
structure Std where
 vw:Vw
 ps:List Vw
 fs:List Vw
def Vz (H:Hp)(v:V)(st:Std):Prop:=∃ p d a b xs ys,v=.ref p/\H p=some (.tup [.ref d,.ref a,.ref b])/\uO H d st.vw/\H a=some (.lst xs)/\Paired (DvR H) xs st.ps/\H b=some (.lst ys)/\Paired (DvR H) ys st.fs
theorem Vz.same {H H':Hp}(s:aq H H'){v:V}{st:Std}(h:Vz H v st):Vz H' v st:=by
 obtain⟨p,d,a,b,xs,ys,e,h1,h2,h3,h4,h5,h6⟩:=h;exact⟨p,d,a,b,xs,ys,e,s _ _ h1,h2.same s,s _ _ h3,cb (fun _ _ q=>q.same s) h4,s _ _ h5,cb (fun _ _ q=>q.same s) h6⟩
def ig (lt sl:Int):Prop:=0<=lt/\lt<=999/\1<=sl/\sl<=9
instance (lt sl:Int):Decidable (ig lt sl):=by unfold ig;exact inferInstance
def c9 (vw:Vw)(n:Str):Option Rf:=if nameB n=false then some .Mi else if(bf vw n).isSome then some .AA else if 12<=vw.length then some .Full else none
def iH (vw:Vw)(ld:Str)(lt sl:Int):Option Rf:=match bf vw ld with
 |none=>some .dU
 |some (.cn _ _ _ _)=>some .gT
 |some (.pl _)=>if ig lt sl then none else some .tE
def oY (vw:Vw)(n:Str):Option Rf:=match bf vw n with
 |none=>some .dU
 |some _=>if leans vw n=true then some .Bs else none
def qM (vw:Vw)(wy:Wy)(n:Str)(at_:Int)(sg:Sn):Option Rf:=match bf vw n with
 |none=>some .dU
 |some (.cn _ _ _ _)=>some .gT
 |some (.pl ss)=>if at_<0\/(ss.length:Int)+(if wy=.put then 1 else 0)<=at_ then some .qK else if wy≠.cut/\iG sg=false then some .tD else if wy=.put/\200<=ss.length then some .Full else none
def ij (st:Std)(d:De)(at_:Int):Option Rf:=match d.wy with
 |.undo=>if st.ps=[] then some .jv else none
 |.qL=>if st.fs=[] then some .jv else none
 |.drop=>oY st.vw d.n
 |.add=>c9 st.vw d.n
 |.canon=>match c9 st.vw d.n with
  |some r=>some r
  |none=>iH st.vw d.ld d.lt d.sl
 |w=>qM st.vw w d.n at_ d.sg
def fW (ss:List Sg)(wy:Wy)(sg:Sn)(i:Nat):List Sg:=match wy with
 |.cut=>ss.take i++[]++ss.drop (i+1)
 |.swap=>ss.take i++[MV sg]++ss.drop (i+1)
 |_=>ss.take i++[MV sg]++ss.drop i
def rH (vw:Vw)(n:Str):List Sg:=match bf vw n with
 |some (.pl ss)=>ss
 |_=>[]
def ik (st:Std)(d:De)(at_:Int):Std:=match d.wy with
 |.undo=>⟨st.ps.getLast?.getD [],st.ps.dropLast,st.fs++[st.vw]⟩
 |.qL=>⟨st.fs.getLast?.getD [],st.ps++[st.vw],st.fs.dropLast⟩
 |.drop=>⟨tG st.vw d.n,st.ps++[st.vw],[]⟩
 |.add=>⟨st.vw++[(d.n,.pl [])],st.ps++[st.vw],[]⟩
 |.canon=>⟨st.vw++[(d.n,.cn d.ld d.lt d.sl d.tn)],st.ps++[st.vw],[]⟩
 |w=>⟨AO st.vw d.n (.pl (fW (rH st.vw d.n) w d.sg at_.toNat)),st.ps++[st.vw],[]⟩
def rJ (H:Hp)(st:Std)(d:De)(at_:Int)(v:V):Prop:=match d.wy with
 |.put=>∃ w,v=.ref w/\H w=some (.tup (XE (fW (rH st.vw d.n) .put d.sg at_.toNat) at_.toNat (at_.toNat+1) [MV d.sg]))
 |.cut=>∃ w,v=.ref w/\∃ s,(rH st.vw d.n)[at_.toNat]? = some s/\H w=some (.tup (XE (fW (rH st.vw d.n) .cut d.sg at_.toNat) at_.toNat at_.toNat [s]))
 |.swap=>∃ w,v=.ref w/\∃ s,(rH st.vw d.n)[at_.toNat]? = some s/\H w=some (.tup (XE (fW (rH st.vw d.n) .swap d.sg at_.toNat) at_.toNat (at_.toNat+1) [s,MV d.sg]))
 |_=>v=.non
def Rf.str:Rf->Str
 |.tD=>"BadSign" | .Mi=>"BadName" | .AA=>"NameTaken" | .Full=>"Full" | .dU=>"NoVoice" | .gT=>"NotPlain" | .qK=>"NoPlace" | .tE=>"BadTerm" | .Bs=>"Leaned" | .jv=>"NoMore"
def Lw:Option Rf->Str
 |none=>""
 |some r=>r.str
def Eg (vw:Vw)(n:Str):Int:=match bf vw n with
 |some (.pl ss)=>ss.length
 |_=>5
def cf (vw:Vw)(d:De):Int:=if d.pl % 16=7 then([-1,-Eg vw d.n-1,Eg vw d.n+40,10 ^ 12].getD (d.pl / 16 % 4).toNat 0) else d.pl / 16 % (Eg vw d.n+2)
theorem cg {K:Frag}{H:Hp}{p:Addr}{xs:List V}{i:Nat}{v:V}{Q:VK}(h:H p=some (.tup xs))(e:xs[i]? = some v)(q:Q v H):QZ K (.ref p) (.int (i:Int)) H Q\/Q0 K (.ref p) (.int (i:Int)) H Q\/Q1 (.ref p) (.int (i:Int)) H Q:=.inr (.inl ⟨p,_,i,v,rfl,rfl,uG.of h,D3 e,q⟩)
theorem XF {H:Hp}{kvs:List (Key×V)}{vw:Vw}(h:Paired (MT H) kvs vw){n:Str}(hf:bf vw n=none):sV kvs (Sum.inr n)=none:=by
 cases e:sV kvs (Sum.inr n) with
 |none=>rfl
 |some v =>
  have hm:=af7 e;obtain⟨kv,hk,hk2⟩:=mem_map.mp hm;obtain⟨i,hi⟩:=getElem?_of_mem hk;obtain⟨q,hq,r⟩:=yg h hi;exact absurd (Sum.inr.inj (r.1.symm.trans hk2)) (rF hf q (mem_of_getElem? hq))
theorem uO.look {H:Hp}{d:Addr}{vw:Vw}(h:uO H d vw)(n:Str):(bf vw n=none/\sW H d (.str n) none)\/∃ th v,bf vw n=some th/\sW H d (.str n) (some v)/\ThV H v th:=by
 cases e:bf vw n with
 |none =>
  obtain⟨kvs,e1,p⟩:=h;have:=sW.k (k:=Sum.inr n) e1;rw[XF p e]at this;exact .inl ⟨rfl,this⟩
 |some th =>
  obtain⟨v,h1,h2⟩:=h.get e;exact .inr ⟨th,v,rfl,h1,h2⟩
theorem uO.len {H:Hp}{d:Addr}{vw:Vw}(h:uO H d vw):∃ kvs,H d=some (.dK kvs)/\kvs.length=vw.length:=by
 obtain⟨kvs,e,p⟩:=h;exact⟨kvs,e,bS p⟩
theorem VA {H H':Hp}{a:Addr}{y:V}{r:Option V}(s:aq H H')(h:sW H a y r):sW H' a y r:=by
 have rd:∀{u},Rd H a u->Rd H' a u:=fun z=>z.imp (fun e=>s _ _ e) fun⟨o,e⟩=>⟨o,s _ _ e⟩;rcases h with ⟨kvs,k,e,e2,e3⟩|⟨kvs,k,b,e,e2,e3,e4⟩
 ·exact .inl ⟨kvs,k,rd e,e2,e3⟩
 ·exact .inr ⟨kvs,k,b,rd e,e2,s _ _ e3,e4⟩
theorem lK {vw:Vw}{wy:Wy}{n:Str}{a:Int}{sg:Sn}(h:bf vw n=none):qM vw wy n a sg=some .dU:=by unfold qM;rw[h]
theorem rK {vw:Vw}{wy:Wy}{n ld:Str}{a lt sl:Int}{tn:Bool}{sg:Sn}(h:bf vw n=some (.cn ld lt sl tn)):qM vw wy n a sg=some .gT:=by unfold qM;rw[h]
theorem rL {vw:Vw}{wy:Wy}{n:Str}{a:Int}{sg:Sn}{ss:List Sg}(h:bf vw n=some (.pl ss)):qM vw wy n a sg=if a<0\/(ss.length:Int)+(if wy=.put then 1 else 0)<=a then some .qK else if wy≠.cut/\iG sg=false then some .tD else if wy=.put/\200<=ss.length then some .Full else none:=by unfold qM;rw[h]
theorem kn (a b:Wy):decide (V.str a.str=V.str b.str)=decide (a=b):=by cases a <;> cases b <;> decide +kernel
def oZ:List Str:=["G","D","R","s","d","r",".","3","2","g",""]
theorem aeD {k:Str}(h:k∈oZ):(decide (k.length=1)&&Ph k "GDRsdr.32")=(inV (.str k) nj||inV (.str k) ku)/\(inV (.str k) nj=true->Ph k "Rr.32" = false)/\(inV (.str k) ku=true->Ph k "Rr.32" = true/\inV (.str k) nj=false):=by
 have:oZ.all (fun k=>decide ((decide (k.length=1)&&Ph k "GDRsdr.32")=(inV (.str k) nj||inV (.str k) ku))&&(!inV (.str k) nj || !Ph k "Rr.32")&&(!inV (.str k) ku||(Ph k "Rr.32" && !inV (.str k) nj)))=true:=by lk
 have:=all_eq_true.mp this k h;simp only [Bool.and_eq_true,decide_eq_true_eq,Bool.or_eq_true,Bool.not_eq_true']at this;obtain⟨⟨h1,h2⟩,h3⟩:=this;refine⟨h1,fun z=>?_,fun z=>?_⟩
 ·rcases h2 with h2|h2
  ·rw[z]at h2;cases h2
  ·exact h2
 ·rcases h3 with h3|h3
  ·rw[z]at h3;cases h3
  ·exact h3
theorem aiE {k:Str}(h:k∈oZ):k.length<=1:=by
 have:oZ.all (fun k=>decide (k.length<=1))=true:=by lk
 exact of_decide_eq_true (all_eq_true.mp this k h)
def VB (s:Sn):Bool:=decide (s.1.length=1)&&(Ph s.1 "GDRsdr.32" && (decide (0<=s.2)&&decide (s.2<100)))
theorem abV {s:Sn}(h:s.1∈oZ):(!VB s||(!decide (s.2=0)&&Ph s.1 "Rr.32")) = !iG s:=by
 obtain⟨h1,h2,h3⟩:=aeD h;unfold VB iG;rw[<-Bool.and_assoc,h1];cases e1:inV (.str s.1) nj with
 |true =>
  rw[h2 e1,Bool.and_false,Bool.or_false,Bool.true_or,Bool.true_and]
  by_cases a:0<=s.2
  ·rw[decide_eq_true a,Bool.true_and];simp only [if_true]
   congr 1
   exact decide_eq_decide.mpr (by omega)
  ·rw[decide_eq_false a];simp
 |false =>
  rw[Bool.false_or];cases e2:inV (.str s.1) ku with
  |true =>
   rw[(h3 e2).1,Bool.and_true,Bool.true_and]
   by_cases a:s.2=0
   ·rw[a];decide
   ·rw[decide_eq_false a];simp[a]
  |false=>simp
structure abW (d:De):Prop where
 nl:d.n.length<=1000
 ll:d.ld.length<=1000
 sk:d.sg.1∈oZ
end Ha
set_option maxHeartbeats 1000000
local macro_rules | `(tactic| tm_up) => `(tactic| repeat w_up)
local macro_rules | `(tactic| w_up) => `(tactic| first
 |refine⟨_,rfl,?_⟩
 |refine⟨_,_,rfl,rfl,⟨by decide,by decide⟩,?_⟩
 |refine⟨_,_,rfl,rfl,(by first|decide|(show(0:Int)<_;decide)),?_⟩
 |refine .inl ⟨_,_,rfl,rfl,.inr ⟨by decide,by decide⟩,?_⟩
 |refine⟨_,_,rfl,rfl,?_⟩
 |refine .inl ⟨_,_,rfl,rfl,?_⟩
 |refine .inl ⟨rfl,?_⟩
 |refine .inr ⟨_,_,rfl,rfl,?_⟩
 |refine Ha.ix0 (by assumption) ?_
 |refine Ha.ix1 (by assumption) ?_)
namespace Ha
open PySem L2
def top (i:Nat):Stmt:=PySem.Challenge.pw_noteworth_k34_whole_way_back.main.body.getD i (.Pass ⟨0,0,0,0⟩)
abbrev fN:Stmt:=inClass (top 61) 0
abbrev qU:Stmt:=top 68
abbrev lh:Stmt:=top 63
abbrev lj:Stmt:=top 65
abbrev bG:Stmt:=top 66
abbrev qV:Stmt:=top 64
abbrev qW:Stmt:=top 67
abbrev qX:Stmt:=top 71
abbrev eQ:Stmt:=top 69
abbrev dW:Stmt:=top 70
abbrev eR:Stmt:=top 72
abbrev lp:Stmt:=top 73
abbrev lq:Stmt:=inClass (top 54) 2
abbrev jw:Stmt:=inClass (top 61) 7
abbrev qY:Stmt:=inClass (top 54) 1
abbrev jx:Stmt:=inClass (top 61) 8
abbrev fO:Stmt:=top 74
abbrev nk:Stmt:=top 75
abbrev qZ:Stmt:=top 55
abbrev jR:Stmt:=inClass (top 61) 9
abbrev bY:Stmt:=inClass (top 61) 16
abbrev cu:Stmt:=inClass (top 61) 17
abbrev b9:Stmt:=inClass (top 61) 18
abbrev gU:Stmt:=inClass (top 61) 14
abbrev fP:Stmt:=inClass (top 54) 0
abbrev iR:Stmt:=inClass (top 61) 15
abbrev eS:Stmt:=inClass (top 53) 0
abbrev cj:Stmt:=inClass (top 61) 2
abbrev bU:Stmt:=top 56
abbrev Hg:Stmt:=top 21
abbrev cN:Stmt:=top 57
abbrev AB:Stmt:=top 22
abbrev q0:Stmt:=top 58
abbrev nq:Stmt:=top 59
abbrev gW:Stmt:=top 23
abbrev vv:Stmt:=top 60
abbrev gE:Stmt:=inClass (top 61) 4
abbrev jy:Stmt:=inClass (top 61) 5
abbrev fX:Stmt:=inClass (top 61) 6
abbrev dm:Stmt:=inClass (top 61) 1
abbrev hZ:Stmt:=inClass (top 61) 3
abbrev kJ:Stmt:=top 76
abbrev nt:Stmt:=top 77
abbrev ip:Stmt:=inClass (top 61) 12
abbrev q8:Stmt:=top 84
abbrev q9:Stmt:=top 86
abbrev vy:Stmt:=top 85
abbrev nC:Stmt:=top 26
abbrev rb:Stmt:=top 37
abbrev iS:Stmt:=top 36
abbrev cB:Stmt:=top 38
abbrev Hh:Stmt:=top 27
abbrev fQ:Stmt:=top 39
abbrev eU:Stmt:=top 40
abbrev dX:Stmt:=top 41
abbrev dY:Stmt:=top 42
abbrev jS:Stmt:=top 43
abbrev rf:Stmt:=top 44
abbrev vz:Stmt:=top 45
abbrev vA:Stmt:=top 28
abbrev dB:Stmt:=inClass (top 61) 10
abbrev fY:Stmt:=inClass (top 61) 11
abbrev lr:Stmt:=top 78
abbrev vB:Stmt:=top 80
abbrev rg:Stmt:=top 81
abbrev AD:Stmt:=top 82
abbrev vC:Stmt:=top 83
abbrev lu:Stmt:=top 79
abbrev nE:Stmt:=top 87
abbrev yB:Stmt:=top 88
theorem Hi:aH ["self"] ["self"] (ah fN):=⟨rfl,rfl,rfl,by lk,rfl,by lk,by lk⟩
theorem MW:aH ["_law_cell","_law_some"] ["_law_cell"] (ah qU):=⟨rfl,rfl,rfl,by lk,rfl,by lk,by lk⟩
theorem Rm:aH ["_law_script","_law_k"] ["_law_script","_law_k"] (ah lh):=⟨rfl,rfl,rfl,by lk,rfl,by lk,by lk⟩
theorem Eh:aH ["_law_number","_law_kind"] ["_law_number"] (ah lj):=⟨rfl,rfl,rfl,by lk,rfl,by lk,by lk⟩
theorem bZ:aH ["_law_number","_law_names","_law_ways","_law_way","_law_name","_law_leader","_law_sign","_law_later"] ["_law_number"] (ah bG):=⟨rfl,rfl,rfl,by lk,rfl,by lk,by lk⟩
theorem Bt:aH ["_law_seed","_law_k","_law_one","_law_two"] ["_law_seed","_law_k"] (ah qV):=⟨rfl,rfl,rfl,by lk,rfl,by lk,by lk⟩
theorem iq:aH ["_law_script","_law_at","_law_many","_law_seed","_law_base_here","_law_row","_law_left","_law_k","_law_cell","_law_number"] ["_law_script","_law_at","_law_many"] (ah qW):=⟨rfl,rfl,rfl,by lk,rfl,by lk,by lk⟩
theorem MX:aH ["_law_voices","_law_deed","_law_size"] ["_law_voices","_law_deed"] (ah qX):=⟨rfl,rfl,rfl,by lk,rfl,by lk,by lk⟩
theorem tH:aH ["_law_voices","_law_name","_law_sign"] ["_law_voices","_law_name"] (ah eQ):=⟨rfl,rfl,rfl,by lk,rfl,by lk,by lk⟩
theorem rM:aH ["_law_voices","_law_deed","_law_fine"] ["_law_voices","_law_deed"] (ah dW):=⟨rfl,rfl,rfl,by lk,rfl,by lk,by lk⟩
theorem je:aH ["_law_voices","_law_deed","_law_way","_law_name","_law_sign","_law_at","_law_fine"] ["_law_voices","_law_deed"] (ah eR):=⟨rfl,rfl,rfl,by lk,rfl,by lk,by lk⟩
theorem qN:aH ["_law_stand","_law_deed","_law_voices","_law_led","_law_why"] ["_law_stand","_law_deed"] (ah lp):=⟨rfl,rfl,rfl,by lk,rfl,by lk,by lk⟩
theorem Rn:aH ["self"] ["self"] (ah lq):=⟨rfl,rfl,rfl,by lk,rfl,by lk,by lk⟩
theorem Ei:aH ["self","deed"] ["self"] (ah jw):=⟨rfl,rfl,rfl,by lk,rfl,by lk,by lk⟩
theorem XG:aH ["self"] ["self"] (ah qY):=⟨rfl,rfl,rfl,by lk,rfl,by lk,by lk⟩
theorem Ej:aH ["self","deed"] ["self"] (ah jx):=⟨rfl,rfl,rfl,by lk,rfl,by lk,by lk⟩
theorem Hj:aH ["_law_line","_law_deed","_law_at"] ["_law_line","_law_deed","_law_at"] (ah fO):=⟨rfl,rfl,rfl,by lk,rfl,by lk,by lk⟩
theorem pF:aH ["_law_stand","_law_deed","_law_voices","_law_past","_law_future","_law_other"] ["_law_stand","_law_deed"] (ah nk):=⟨rfl,rfl,rfl,by lk,rfl,by lk,by lk⟩
theorem XH:aH ["name"] ["name"] (ah qZ):=⟨rfl,rfl,rfl,by lk,rfl,by lk,by lk⟩
theorem Pm:aH ["self"] ["self"] (ah jR):=⟨rfl,rfl,rfl,by lk,rfl,by lk,by lk⟩
theorem Bu:aH ["self","name"] ["self","name"] (ah bY):=⟨rfl,rfl,rfl,by lk,rfl,by lk,by lk⟩
theorem pG:aH ["self","name","voice"] ["self","name"] (ah cu):=⟨rfl,rfl,rfl,by lk,rfl,by lk,by lk⟩
theorem qA:aH ["self","name","voice"] ["self","name"] (ah b9):=⟨rfl,rfl,rfl,by lk,rfl,by lk,by lk⟩
theorem Lx:aH ["self","deed"] ["self","deed"] (ah gU):=⟨rfl,rfl,rfl,by lk,rfl,by lk,by lk⟩
theorem Hk:aH ["self","things","at","before","after"] ["self","things","at","before","after"] (ah fP):=⟨rfl,rfl,rfl,by lk,rfl,by lk,by lk⟩
theorem MY:aH ["self","voice"] ["self","voice"] (ah iR):=⟨rfl,rfl,rfl,by lk,rfl,by lk,by lk⟩
theorem Ek:aH ["self","name","terms"] ["self","name","terms"] (ah eS):=⟨rfl,rfl,rfl,by lk,rfl,by lk,by lk⟩
theorem El:aH ["self","name","leader","later","slow","is_turned"] ["self","name","leader","later","slow","is_turned"] (ah cj):=⟨rfl,rfl,rfl,by lk,rfl,by lk,by lk⟩
theorem wx:aH ["at","last"] ["at","last"] (ah bU):=⟨rfl,rfl,rfl,by lk,rfl,by lk,by lk⟩
theorem Ro:aH ["sign","kind","tone"] ["sign"] (ah Hg):=⟨rfl,rfl,rfl,by lk,rfl,by lk,by lk⟩
theorem Bv:aH ["sign"] ["sign"] (ah cN):=⟨rfl,rfl,rfl,by lk,rfl,by lk,by lk⟩
theorem aeE:aH ["sign"] ["sign"] (ah AB):=⟨rfl,rfl,rfl,by lk,rfl,by lk,by lk⟩
theorem wz:aH ["line","at","met","place"] ["line","at"] (ah q0):=⟨rfl,rfl,rfl,by lk,rfl,by lk,by lk⟩
theorem K5:aH ["line","first","kinds","place"] ["line","first","kinds"] (ah nq):=⟨rfl,rfl,rfl,by lk,rfl,by lk,by lk⟩
theorem Ly:aH ["sign"] ["sign"] (ah gW):=⟨rfl,rfl,rfl,by lk,rfl,by lk,by lk⟩
theorem Qv:aH ["line","at","behind","changed","kinds"] ["line","at","behind","changed"] (ah vv):=⟨rfl,rfl,rfl,by lk,rfl,by lk,by lk⟩
theorem K6:aH ["self","name","at","sign","signs"] ["self","name","at","sign"] (ah gE):=⟨rfl,rfl,rfl,by lk,rfl,by lk,by lk⟩
theorem yC:aH ["self","name","at","signs","sign"] ["self","name","at"] (ah jy):=⟨rfl,rfl,rfl,by lk,rfl,by lk,by lk⟩
theorem wA:aH ["self","name","at","sign","signs","before"] ["self","name","at","sign"] (ah fX):=⟨rfl,rfl,rfl,by lk,rfl,by lk,by lk⟩
theorem Em:aH ["self","name"] ["self","name"] (ah dm):=⟨rfl,rfl,rfl,by lk,rfl,by lk,by lk⟩
theorem En:aH ["self","name","dropped"] ["self","name"] (ah hZ):=⟨rfl,rfl,rfl,by lk,rfl,by lk,by lk⟩
theorem aa1:aH ["_law_book","_law_deed","_law_at","_law_way","_law_name"] ["_law_book","_law_deed","_law_at"] (ah kJ):=⟨rfl,rfl,rfl,by lk,rfl,by lk,by lk⟩
theorem XI:aH ["_law_book","_law_deed","_law_at"] ["_law_book","_law_deed","_law_at"] (ah nt):=⟨rfl,rfl,rfl,by lk,rfl,by lk,by lk⟩
theorem Pn:aH ["self","name"] ["self","name"] (ah ip):=⟨rfl,rfl,rfl,by lk,rfl,by lk,by lk⟩
theorem XJ:aH ["_law_found"] ["_law_found"] (ah q8):=⟨rfl,rfl,rfl,by lk,rfl,by lk,by lk⟩
theorem Bx:aH ["_law_found","_law_due","_law_one","_law_other"] ["_law_found","_law_due"] (ah q9):=⟨rfl,rfl,rfl,by lk,rfl,by lk,by lk⟩
theorem Qw:aH ["_law_found","_law_due","_law_k"] ["_law_found","_law_due"] (ah vy):=⟨rfl,rfl,rfl,by lk,rfl,by lk,by lk⟩
theorem pH:aH ["line","begin","found","measure","sign"] ["line","begin"] (ah nC):=⟨rfl,rfl,rfl,by lk,rfl,by lk,by lk⟩
theorem XM:aH ["line","at"] ["line","at"] (ah rb):=⟨rfl,rfl,rfl,by lk,rfl,by lk,by lk⟩
theorem MZ:aH ["kind","measure"] ["kind","measure"] (ah iS):=⟨rfl,rfl,rfl,by lk,rfl,by lk,by lk⟩
theorem eG:aH ["line","begin","found","at","measure"] ["line","begin"] (ah cB):=⟨rfl,rfl,rfl,by lk,rfl,by lk,by lk⟩
theorem wB:aH ["line","begin","found","first","at","sign","measure"] ["line","begin"] (ah Hh):=⟨rfl,rfl,rfl,by lk,rfl,by lk,by lk⟩
theorem Hl:aH ["line","found","first"] ["line","found","first"] (ah fQ):=⟨rfl,rfl,rfl,by lk,rfl,by lk,by lk⟩
theorem Eo:aH ["line","behind"] ["line","behind"] (ah eU):=⟨rfl,rfl,rfl,by lk,rfl,by lk,by lk⟩
theorem By:aH ["line","found","first","behind"] ["line","found","first","behind"] (ah dX):=⟨rfl,rfl,rfl,by lk,rfl,by lk,by lk⟩
theorem Bz:aH ["line","found","first","behind"] ["line","found","first","behind"] (ah dY):=⟨rfl,rfl,rfl,by lk,rfl,by lk,by lk⟩
theorem A5:aH ["line","found","first","behind","rest"] ["line","found","first","behind"] (ah jS):=⟨rfl,rfl,rfl,by lk,rfl,by lk,by lk⟩
theorem rN:aH ["line","begin","found","loose_runs","first","behind"] ["line","begin"] (ah rf):=⟨rfl,rfl,rfl,by lk,rfl,by lk,by lk⟩
theorem abX:aH ["line","begin"] ["line","begin"] (ah vz):=⟨rfl,rfl,rfl,by lk,rfl,by lk,by lk⟩
theorem abY:aH ["line"] ["line"] (ah vA):=⟨rfl,rfl,rfl,by lk,rfl,by lk,by lk⟩
theorem b5:aH ["self","name","terms","leader","later","slow","is_turned","heard"] ["self","name"] (ah dB):=⟨rfl,rfl,rfl,by lk,rfl,by lk,by lk⟩
theorem ir:aH ["self","name","terms","leader","later","slow","is_turned","begin"] ["self","name"] (ah fY):=⟨rfl,rfl,rfl,by lk,rfl,by lk,by lk⟩
theorem lL:aH ["_law_voices","_law_name","_law_thing","_law_told","_law_sign","_law_kind"] ["_law_voices","_law_name"] (ah lr):=⟨rfl,rfl,rfl,by lk,rfl,by lk,by lk⟩
theorem rh:aH ["_law_line","_law_begin","_law_told","_law_now","_law_at","_law_kind"] ["_law_line","_law_begin"] (ah vB):=⟨rfl,rfl,rfl,by lk,rfl,by lk,by lk⟩
theorem rO:aH ["_law_line","_law_begin","_law_told","_law_now","_law_sign"] ["_law_line","_law_begin"] (ah rg):=⟨rfl,rfl,rfl,by lk,rfl,by lk,by lk⟩
theorem vD:aH ["_law_line","_law_told","_law_low","_law_high","_law_rest","_law_behind_here","_law_after","_law_left","_law_right"] ["_law_line","_law_told","_law_low","_law_high"] (ah AD):=⟨rfl,rfl,rfl,by lk,rfl,by lk,by lk⟩
theorem lx:aH ["_law_line","_law_begin","_law_told","_law_three_here","_law_left","_law_low","_law_high"] ["_law_line","_law_begin"] (ah vC):=⟨rfl,rfl,rfl,by lk,rfl,by lk,by lk⟩
theorem wC:aH ["_law_voices","_law_name","_law_thing","_law_line"] ["_law_voices","_law_name"] (ah lu):=⟨rfl,rfl,rfl,by lk,rfl,by lk,by lk⟩
theorem tI:aH ["_law_book","_law_voices","_law_told","_law_name","_law_terms"] ["_law_book","_law_voices"] (ah nE):=⟨rfl,rfl,rfl,by lk,rfl,by lk,by lk⟩
theorem lM:aH ["_law_script","_law_deeds_here","_law_book","_law_stand","_law_deed","_law_at","_law_why","_law_stood","_law_look","_law_k"] ["_law_script"] (ah yB):=⟨rfl,rfl,rfl,by lk,rfl,by lk,by lk⟩
theorem Rp:(["_law_name","_law_cell","_law_some"]:List Str).Nodup:=by lk
theorem M0:(["_law_name","_law_stand","_law_deed","_law_voices","_law_led","_law_why"]:List Str).Nodup:=by lk
theorem Rq:(["letter","name"]:List Str).Nodup:=by lk
theorem Lz:(["voice","self"]:List Str).Nodup:=by lk
theorem VC:(["sign","line","at","behind","changed","kinds"]:List Str).Nodup:=by lk
theorem M3:(["voice","self","name","dropped"]:List Str).Nodup:=by lk
theorem K7:(["kind","tone","line"]:List Str).Nodup:=by lk
theorem M4:(["worth","self","name","terms","leader","later","slow","is_turned","begin"]:List Str).Nodup:=by lk
theorem M5:(["_law_worth","_law_voices","_law_name","_law_thing","_law_line"]:List Str).Nodup:=by lk
theorem aeF:(["_law_one","_law_script","_law_deeds_here","_law_book","_law_stand","_law_deed","_law_at","_law_why","_law_stood","_law_look","_law_k"]:List Str).Nodup:=by lk
def yD:List (Str×Pos):=[("ann",⟨306,18,306,23⟩),("bo",⟨306,25,306,29⟩),("cy",⟨306,31,306,35⟩),("dora",⟨306,37,306,43⟩),("a",⟨306,45,306,48⟩),("zzzzzzzz",⟨306,50,306,60⟩),("ann",⟨306,62,306,67⟩),("Ann",⟨306,69,306,74⟩),("",⟨306,76,306,78⟩),("toolongby",⟨306,80,306,91⟩)]
def jz:List (Str×Pos):=[("put",⟨307,17,307,22⟩),("put",⟨307,24,307,29⟩),("put",⟨307,31,307,36⟩),("put",⟨307,38,307,43⟩),("put",⟨307,45,307,50⟩),("swap",⟨307,52,307,58⟩),("swap",⟨307,60,307,66⟩),("cut",⟨307,68,307,73⟩),("cut",⟨307,75,307,80⟩),("add",⟨307,82,307,87⟩),("canon",⟨307,89,307,96⟩),("canon",⟨307,98,307,105⟩),("drop",⟨307,107,307,113⟩)]
theorem Hm {X:Cx}:Ax X [(Expr.Constant (.int 100) 0 ⟨320,27,320,30⟩)] (au (tC (V.int 100)) bp):=js MA uJ
theorem Hn {X:Cx}:Ax X [(Expr.Constant (.str "G") 0 ⟨320,22,320,25⟩),(Expr.Constant (.int 100) 0 ⟨320,27,320,30⟩)] (au (tC (V.str "G")) (au (tC (V.int 100)) bp)):=js G7 Hm
theorem Ho {X:Cx}:Lv X (Expr.Tuple [(Expr.Constant (.str "G") 0 ⟨320,22,320,25⟩),(Expr.Constant (.int 100) 0 ⟨320,27,320,30⟩)] 0 ⟨320,21,320,31⟩) (c8 (au (tC (V.str "G")) (au (tC (V.int 100)) bp))):=Bl Hn
theorem Hq {X:Cx}:Ax X [(Expr.Constant (.int 1) 0 ⟨320,39,320,40⟩)] (au (tC (V.int 1)) bp):=js MA uJ
theorem Hr {X:Cx}:Ax X [(Expr.Constant (.str "R") 0 ⟨320,34,320,37⟩),(Expr.Constant (.int 1) 0 ⟨320,39,320,40⟩)] (au (tC (V.str "R")) (au (tC (V.int 1)) bp)):=js G7 Hq
theorem Hs {X:Cx}:Lv X (Expr.Tuple [(Expr.Constant (.str "R") 0 ⟨320,34,320,37⟩),(Expr.Constant (.int 1) 0 ⟨320,39,320,40⟩)] 0 ⟨320,33,320,41⟩) (c8 (au (tC (V.str "R")) (au (tC (V.int 1)) bp))):=Bl Hr
theorem Ht {X:Cx}:Ax X [(Expr.Constant (.int 0) 0 ⟨320,49,320,50⟩)] (au (tC (V.int 0)) bp):=js MA uJ
theorem Hu {X:Cx}:Ax X [(Expr.Constant (.str "g") 0 ⟨320,44,320,47⟩),(Expr.Constant (.int 0) 0 ⟨320,49,320,50⟩)] (au (tC (V.str "g")) (au (tC (V.int 0)) bp)):=js G7 Ht
theorem Hv {X:Cx}:Lv X (Expr.Tuple [(Expr.Constant (.str "g") 0 ⟨320,44,320,47⟩),(Expr.Constant (.int 0) 0 ⟨320,49,320,50⟩)] 0 ⟨320,43,320,51⟩) (c8 (au (tC (V.str "g")) (au (tC (V.int 0)) bp))):=Bl Hu
theorem Ep {X:Cx}:Ax X [(Expr.UnaryOp .USub (Expr.Constant (.int 1) 0 ⟨320,60,320,61⟩) ⟨320,59,320,61⟩)] (au (tUn (rU fun i=>V.int (-i)) (tC (V.int 1))) bp):=ael air uJ
theorem Er {X:Cx}:Ax X [(Expr.Constant (.str "s") 0 ⟨320,54,320,57⟩),(Expr.UnaryOp .USub (Expr.Constant (.int 1) 0 ⟨320,60,320,61⟩) ⟨320,59,320,61⟩)] (au (tC (V.str "s")) (au (tUn (rU fun i=>V.int (-i)) (tC (V.int 1))) bp)):=js G7 Ep
theorem Es {X:Cx}:Lv X (Expr.Tuple [(Expr.Constant (.str "s") 0 ⟨320,54,320,57⟩),(Expr.UnaryOp .USub (Expr.Constant (.int 1) 0 ⟨320,60,320,61⟩) ⟨320,59,320,61⟩)] 0 ⟨320,53,320,62⟩) (c8 (au (tC (V.str "s")) (au (tUn (rU fun i=>V.int (-i)) (tC (V.int 1))) bp))):=Bl Er
theorem Et {X:Cx}:Ax X [(Expr.Constant (.int 0) 0 ⟨320,69,320,70⟩)] (au (tC (V.int 0)) bp):=js MA uJ
theorem Eu {X:Cx}:Ax X [(Expr.Constant (.str "") 0 ⟨320,65,320,67⟩),(Expr.Constant (.int 0) 0 ⟨320,69,320,70⟩)] (au (tC (V.str "")) (au (tC (V.int 0)) bp)):=js G7 Et
theorem Ew {X:Cx}:Lv X (Expr.Tuple [(Expr.Constant (.str "") 0 ⟨320,65,320,67⟩),(Expr.Constant (.int 0) 0 ⟨320,69,320,70⟩)] 0 ⟨320,64,320,71⟩) (c8 (au (tC (V.str "")) (au (tC (V.int 0)) bp))):=Bl Eu
theorem Ex {X:Cx}:Ax X [(Expr.Constant (.int 3) 0 ⟨320,79,320,80⟩)] (au (tC (V.int 3)) bp):=js MA uJ
theorem Ey {X:Cx}:Ax X [(Expr.Constant (.str "3") 0 ⟨320,74,320,77⟩),(Expr.Constant (.int 3) 0 ⟨320,79,320,80⟩)] (au (tC (V.str "3")) (au (tC (V.int 3)) bp)):=js G7 Ex
theorem Ez {X:Cx}:Lv X (Expr.Tuple [(Expr.Constant (.str "3") 0 ⟨320,74,320,77⟩),(Expr.Constant (.int 3) 0 ⟨320,79,320,80⟩)] 0 ⟨320,73,320,81⟩) (c8 (au (tC (V.str "3")) (au (tC (V.int 3)) bp))):=Bl Ey
theorem EA {X:Cx}:Ax X [(Expr.Tuple [(Expr.Constant (.str "3") 0 ⟨320,74,320,77⟩),(Expr.Constant (.int 3) 0 ⟨320,79,320,80⟩)] 0 ⟨320,73,320,81⟩)] (au (c8 (au (tC (V.str "3")) (au (tC (V.int 3)) bp))) bp):=vj Ez uJ
theorem EB {X:Cx}:Ax X [(Expr.Tuple [(Expr.Constant (.str "") 0 ⟨320,65,320,67⟩),(Expr.Constant (.int 0) 0 ⟨320,69,320,70⟩)] 0 ⟨320,64,320,71⟩),(Expr.Tuple [(Expr.Constant (.str "3") 0 ⟨320,74,320,77⟩),(Expr.Constant (.int 3) 0 ⟨320,79,320,80⟩)] 0 ⟨320,73,320,81⟩)] (au (c8 (au (tC (V.str "")) (au (tC (V.int 0)) bp))) (au (c8 (au (tC (V.str "3")) (au (tC (V.int 3)) bp))) bp)):=vj Ew EA
theorem EC {X:Cx}:Ax X [(Expr.Tuple [(Expr.Constant (.str "s") 0 ⟨320,54,320,57⟩),(Expr.UnaryOp .USub (Expr.Constant (.int 1) 0 ⟨320,60,320,61⟩) ⟨320,59,320,61⟩)] 0 ⟨320,53,320,62⟩),(Expr.Tuple [(Expr.Constant (.str "") 0 ⟨320,65,320,67⟩),(Expr.Constant (.int 0) 0 ⟨320,69,320,70⟩)] 0 ⟨320,64,320,71⟩),(Expr.Tuple [(Expr.Constant (.str "3") 0 ⟨320,74,320,77⟩),(Expr.Constant (.int 3) 0 ⟨320,79,320,80⟩)] 0 ⟨320,73,320,81⟩)] (au (c8 (au (tC (V.str "s")) (au (tUn (rU fun i=>V.int (-i)) (tC (V.int 1))) bp))) (au (c8 (au (tC (V.str "")) (au (tC (V.int 0)) bp))) (au (c8 (au (tC (V.str "3")) (au (tC (V.int 3)) bp))) bp))):=vj Es EB
theorem ED {X:Cx}:Ax X [(Expr.Tuple [(Expr.Constant (.str "g") 0 ⟨320,44,320,47⟩),(Expr.Constant (.int 0) 0 ⟨320,49,320,50⟩)] 0 ⟨320,43,320,51⟩),(Expr.Tuple [(Expr.Constant (.str "s") 0 ⟨320,54,320,57⟩),(Expr.UnaryOp .USub (Expr.Constant (.int 1) 0 ⟨320,60,320,61⟩) ⟨320,59,320,61⟩)] 0 ⟨320,53,320,62⟩),(Expr.Tuple [(Expr.Constant (.str "") 0 ⟨320,65,320,67⟩),(Expr.Constant (.int 0) 0 ⟨320,69,320,70⟩)] 0 ⟨320,64,320,71⟩),(Expr.Tuple [(Expr.Constant (.str "3") 0 ⟨320,74,320,77⟩),(Expr.Constant (.int 3) 0 ⟨320,79,320,80⟩)] 0 ⟨320,73,320,81⟩)] (au (c8 (au (tC (V.str "g")) (au (tC (V.int 0)) bp))) (au (c8 (au (tC (V.str "s")) (au (tUn (rU fun i=>V.int (-i)) (tC (V.int 1))) bp))) (au (c8 (au (tC (V.str "")) (au (tC (V.int 0)) bp))) (au (c8 (au (tC (V.str "3")) (au (tC (V.int 3)) bp))) bp)))):=vj Hv EC
theorem EF {X:Cx}:Ax X [(Expr.Tuple [(Expr.Constant (.str "R") 0 ⟨320,34,320,37⟩),(Expr.Constant (.int 1) 0 ⟨320,39,320,40⟩)] 0 ⟨320,33,320,41⟩),(Expr.Tuple [(Expr.Constant (.str "g") 0 ⟨320,44,320,47⟩),(Expr.Constant (.int 0) 0 ⟨320,49,320,50⟩)] 0 ⟨320,43,320,51⟩),(Expr.Tuple [(Expr.Constant (.str "s") 0 ⟨320,54,320,57⟩),(Expr.UnaryOp .USub (Expr.Constant (.int 1) 0 ⟨320,60,320,61⟩) ⟨320,59,320,61⟩)] 0 ⟨320,53,320,62⟩),(Expr.Tuple [(Expr.Constant (.str "") 0 ⟨320,65,320,67⟩),(Expr.Constant (.int 0) 0 ⟨320,69,320,70⟩)] 0 ⟨320,64,320,71⟩),(Expr.Tuple [(Expr.Constant (.str "3") 0 ⟨320,74,320,77⟩),(Expr.Constant (.int 3) 0 ⟨320,79,320,80⟩)] 0 ⟨320,73,320,81⟩)] (au (c8 (au (tC (V.str "R")) (au (tC (V.int 1)) bp))) (au (c8 (au (tC (V.str "g")) (au (tC (V.int 0)) bp))) (au (c8 (au (tC (V.str "s")) (au (tUn (rU fun i=>V.int (-i)) (tC (V.int 1))) bp))) (au (c8 (au (tC (V.str "")) (au (tC (V.int 0)) bp))) (au (c8 (au (tC (V.str "3")) (au (tC (V.int 3)) bp))) bp))))):=vj Hs ED
theorem EG {X:Cx}:Ax X [(Expr.Tuple [(Expr.Constant (.str "G") 0 ⟨320,22,320,25⟩),(Expr.Constant (.int 100) 0 ⟨320,27,320,30⟩)] 0 ⟨320,21,320,31⟩),(Expr.Tuple [(Expr.Constant (.str "R") 0 ⟨320,34,320,37⟩),(Expr.Constant (.int 1) 0 ⟨320,39,320,40⟩)] 0 ⟨320,33,320,41⟩),(Expr.Tuple [(Expr.Constant (.str "g") 0 ⟨320,44,320,47⟩),(Expr.Constant (.int 0) 0 ⟨320,49,320,50⟩)] 0 ⟨320,43,320,51⟩),(Expr.Tuple [(Expr.Constant (.str "s") 0 ⟨320,54,320,57⟩),(Expr.UnaryOp .USub (Expr.Constant (.int 1) 0 ⟨320,60,320,61⟩) ⟨320,59,320,61⟩)] 0 ⟨320,53,320,62⟩),(Expr.Tuple [(Expr.Constant (.str "") 0 ⟨320,65,320,67⟩),(Expr.Constant (.int 0) 0 ⟨320,69,320,70⟩)] 0 ⟨320,64,320,71⟩),(Expr.Tuple [(Expr.Constant (.str "3") 0 ⟨320,74,320,77⟩),(Expr.Constant (.int 3) 0 ⟨320,79,320,80⟩)] 0 ⟨320,73,320,81⟩)] (au (c8 (au (tC (V.str "G")) (au (tC (V.int 100)) bp))) (au (c8 (au (tC (V.str "R")) (au (tC (V.int 1)) bp))) (au (c8 (au (tC (V.str "g")) (au (tC (V.int 0)) bp))) (au (c8 (au (tC (V.str "s")) (au (tUn (rU fun i=>V.int (-i)) (tC (V.int 1))) bp))) (au (c8 (au (tC (V.str "")) (au (tC (V.int 0)) bp))) (au (c8 (au (tC (V.str "3")) (au (tC (V.int 3)) bp))) bp)))))):=vj Ho EF
theorem EH {X:Cx}:Lv X (Expr.List [(Expr.Tuple [(Expr.Constant (.str "G") 0 ⟨320,22,320,25⟩),(Expr.Constant (.int 100) 0 ⟨320,27,320,30⟩)] 0 ⟨320,21,320,31⟩),(Expr.Tuple [(Expr.Constant (.str "R") 0 ⟨320,34,320,37⟩),(Expr.Constant (.int 1) 0 ⟨320,39,320,40⟩)] 0 ⟨320,33,320,41⟩),(Expr.Tuple [(Expr.Constant (.str "g") 0 ⟨320,44,320,47⟩),(Expr.Constant (.int 0) 0 ⟨320,49,320,50⟩)] 0 ⟨320,43,320,51⟩),(Expr.Tuple [(Expr.Constant (.str "s") 0 ⟨320,54,320,57⟩),(Expr.UnaryOp .USub (Expr.Constant (.int 1) 0 ⟨320,60,320,61⟩) ⟨320,59,320,61⟩)] 0 ⟨320,53,320,62⟩),(Expr.Tuple [(Expr.Constant (.str "") 0 ⟨320,65,320,67⟩),(Expr.Constant (.int 0) 0 ⟨320,69,320,70⟩)] 0 ⟨320,64,320,71⟩),(Expr.Tuple [(Expr.Constant (.str "3") 0 ⟨320,74,320,77⟩),(Expr.Constant (.int 3) 0 ⟨320,79,320,80⟩)] 0 ⟨320,73,320,81⟩)] ⟨320,20,320,82⟩) (sS (au (c8 (au (tC (V.str "G")) (au (tC (V.int 100)) bp))) (au (c8 (au (tC (V.str "R")) (au (tC (V.int 1)) bp))) (au (c8 (au (tC (V.str "g")) (au (tC (V.int 0)) bp))) (au (c8 (au (tC (V.str "s")) (au (tUn (rU fun i=>V.int (-i)) (tC (V.int 1))) bp))) (au (c8 (au (tC (V.str "")) (au (tC (V.int 0)) bp))) (au (c8 (au (tC (V.str "3")) (au (tC (V.int 3)) bp))) bp))))))):=Xq EG
@[irreducible] def gX:Expr:=(Expr.List [(Expr.Tuple [(Expr.Constant (.str "G") 0 ⟨320,22,320,25⟩),(Expr.Constant (.int 100) 0 ⟨320,27,320,30⟩)] 0 ⟨320,21,320,31⟩),(Expr.Tuple [(Expr.Constant (.str "R") 0 ⟨320,34,320,37⟩),(Expr.Constant (.int 1) 0 ⟨320,39,320,40⟩)] 0 ⟨320,33,320,41⟩),(Expr.Tuple [(Expr.Constant (.str "g") 0 ⟨320,44,320,47⟩),(Expr.Constant (.int 0) 0 ⟨320,49,320,50⟩)] 0 ⟨320,43,320,51⟩),(Expr.Tuple [(Expr.Constant (.str "s") 0 ⟨320,54,320,57⟩),(Expr.UnaryOp .USub (Expr.Constant (.int 1) 0 ⟨320,60,320,61⟩) ⟨320,59,320,61⟩)] 0 ⟨320,53,320,62⟩),(Expr.Tuple [(Expr.Constant (.str "") 0 ⟨320,65,320,67⟩),(Expr.Constant (.int 0) 0 ⟨320,69,320,70⟩)] 0 ⟨320,64,320,71⟩),(Expr.Tuple [(Expr.Constant (.str "3") 0 ⟨320,74,320,77⟩),(Expr.Constant (.int 3) 0 ⟨320,79,320,80⟩)] 0 ⟨320,73,320,81⟩)] ⟨320,20,320,82⟩)
theorem M6 {X:Cx}:Lv X gX (sS (au (c8 (au (tC (V.str "G")) (au (tC (V.int 100)) bp))) (au (c8 (au (tC (V.str "R")) (au (tC (V.int 1)) bp))) (au (c8 (au (tC (V.str "g")) (au (tC (V.int 0)) bp))) (au (c8 (au (tC (V.str "s")) (au (tUn (rU fun i=>V.int (-i)) (tC (V.int 1))) bp))) (au (c8 (au (tC (V.str "")) (au (tC (V.int 0)) bp))) (au (c8 (au (tC (V.str "3")) (au (tC (V.int 3)) bp))) bp))))))):=by unfold gX;exact EH
@[irreducible] def lN:TE:=(sS (au (c8 (au (tC (V.str "G")) (au (tC (V.int 100)) bp))) (au (c8 (au (tC (V.str "R")) (au (tC (V.int 1)) bp))) (au (c8 (au (tC (V.str "g")) (au (tC (V.int 0)) bp))) (au (c8 (au (tC (V.str "s")) (au (tUn (rU fun i=>V.int (-i)) (tC (V.int 1))) bp))) (au (c8 (au (tC (V.str "")) (au (tC (V.int 0)) bp))) (au (c8 (au (tC (V.str "3")) (au (tC (V.int 3)) bp))) bp)))))))
theorem tJ:lN=(sS (au (c8 (au (tC (V.str "G")) (au (tC (V.int 100)) bp))) (au (c8 (au (tC (V.str "R")) (au (tC (V.int 1)) bp))) (au (c8 (au (tC (V.str "g")) (au (tC (V.int 0)) bp))) (au (c8 (au (tC (V.str "s")) (au (tUn (rU fun i=>V.int (-i)) (tC (V.int 1))) bp))) (au (c8 (au (tC (V.str "")) (au (tC (V.int 0)) bp))) (au (c8 (au (tC (V.str "3")) (au (tC (V.int 3)) bp))) bp))))))):=by unfold lN;rfl
theorem M7 {X:Cx}:Lv X gX lN:=by rw[tJ];exact M6
theorem M8 {X:Cx}:PE X gX lN:=M7.out
theorem XN {X:Cx}:Lv X (Expr.List [] ⟨569,22,569,24⟩) (sS bp):=Xq uJ
theorem XO {X:Cx}:Lv X (Expr.List [] ⟨569,26,569,28⟩) (sS bp):=Xq uJ
theorem XQ {X:Cx}:Ax X [(Expr.List [] ⟨569,26,569,28⟩)] (au (sS bp) bp):=Vg XO uJ
theorem XR {X:Cx}:Ax X [(Expr.List [] ⟨569,22,569,24⟩),(Expr.List [] ⟨569,26,569,28⟩)] (au (sS bp) (au (sS bp) bp)):=Vg XN XQ
theorem XT {X:Cx}:Ax X [(Expr.Dict [] [] ⟨569,18,569,20⟩),(Expr.List [] ⟨569,22,569,24⟩),(Expr.List [] ⟨569,26,569,28⟩)] (au Bm (au (sS bp) (au (sS bp) bp))):=aek af8 XR
theorem XU {X:Cx}:Lv X (Expr.Tuple [(Expr.Dict [] [] ⟨569,18,569,20⟩),(Expr.List [] ⟨569,22,569,24⟩),(Expr.List [] ⟨569,26,569,28⟩)] 0 ⟨569,17,569,29⟩) (c8 (au Bm (au (sS bp) (au (sS bp) bp)))):=Bl XT
@[irreducible] def pI:Expr:=(Expr.Tuple [(Expr.Dict [] [] ⟨569,18,569,20⟩),(Expr.List [] ⟨569,22,569,24⟩),(Expr.List [] ⟨569,26,569,28⟩)] 0 ⟨569,17,569,29⟩)
theorem aeG {X:Cx}:Lv X pI (c8 (au Bm (au (sS bp) (au (sS bp) bp)))):=by unfold pI;exact XU
theorem AQ (p:Pos)(l:Nat)(env:Env):swapsWith pI (some (.Name "_law_stand" p)) l env=pure false:=by unfold pI;rfl
@[irreducible] def EI:TE:=(c8 (au Bm (au (sS bp) (au (sS bp) bp))))
theorem K8:EI=(c8 (au Bm (au (sS bp) (au (sS bp) bp)))):=by unfold EI;rfl
theorem aeH {X:Cx}:Lv X pI EI:=by rw[K8];exact aeG
theorem aeI {X:Cx}:PE X pI EI:=aeH.out
set_option genInjectivity false in
set_option genSizeOf false in
structure Adr where
 cY:Addr
 pT:FuncData
 nF:Addr
 Hw:FuncData
 jA:Addr
 yE:FuncData
 jB:Addr
 yF:FuncData
 jC:Addr
 yG:FuncData
 nG:Addr
 Hy:FuncData
 nH:Addr
 Hz:FuncData
 nI:Addr
 HA:FuncData
 dq:Addr
 nJ:FuncData
 cO:Addr
 lO:FuncData
 dr:Addr
 nK:FuncData
 jD:Addr
 yH:FuncData
 h8:Addr
 yI:FuncData
 fZ:Addr
 yJ:FuncData
 ly:Addr
 HB:FuncData
 f6:Addr
 yK:FuncData
 d3:Addr
 pV:FuncData
 kK:Addr
 BA:FuncData
 nM:Addr
 HC:FuncData
 f7:Addr
 wD:FuncData
 bD:Addr
 lP:FuncData
 bI:Addr
 j8:FuncData
 bE:Addr
 kL:FuncData
 dC:Addr
 rP:FuncData
 cZ:Addr
 pW:FuncData
 eL:Addr
 uP:FuncData
 cI:Addr
 nN:FuncData
 bL:Addr
 jT:FuncData
 jf:Addr
 eX:Tok
 eY:Tok
 bH:Addr
 iX:FuncData
 BB:Addr
 XW:FuncData
 cz:Addr
 lQ:FuncData
 wF:Addr
 Rr:FuncData
 nP:Addr
 HD:FuncData
 kM:Addr
 BC:FuncData
 eZ:Addr
 rQ:FuncData
 rR:Addr
 M9:FuncData
 d4:Addr
 BD:FuncData
 gF:Addr
 BE:FuncData
 dD:Addr
 yL:FuncData
 ck:Addr
 nQ:FuncData
 eM:Addr
 yM:FuncData
 j9:Addr
 XX:FuncData
 lz:Addr
 HE:FuncData
 eI:Addr
 wG:FuncData
 nR:Addr
 HF:FuncData
 nS:Addr
 HG:FuncData
 rS:Addr
 Na:FuncData
 kO:Addr
 wH:FuncData
 tK:Addr
 lR:Tok
 nV:Addr
 HH:FuncData
 gG:Addr
 uQ:FuncData
 bV:Addr
 iY:FuncData
 BF:Addr
 Rt:FuncData
 Mj:Addr
 yN:Tok
 d5:Addr
 pX:FuncData
 dt:Addr
 nW:FuncData
 cP:Addr
 lS:FuncData
 cQ:Addr
 lT:FuncData
 iu:Addr
 wI:FuncData
 nX:Addr
 HI:FuncData
 rT:Addr
 EJ:FuncData
 AE:Addr
 rV:Tok
 rW:Addr
 Nb:FuncData
 cA:Addr
 tL:FuncData
 dE:Addr
 yO:FuncData
 jE:Addr
 yP:FuncData
 rX:Addr
 Nc:FuncData
 nY:Addr
 HJ:FuncData
 wJ:Addr
 Ru:FuncData
 rY:Addr
 Nd:FuncData
 jF:Addr
 yQ:FuncData
 kP:Addr
 BG:FuncData
 Nf:Addr
 aeJ:FuncData
 eN:Addr
 gH:Addr
 d6:Addr
 c6:Addr
 du:Addr
 e8:Addr
 lU:Tok
 dF:Addr
 dG:Addr
 cm:Addr
 qO:Tok
 jg:Tok
 kx:Tok
 lV:Tok
 AF:Tok
 lW:Tok
 o5:Tok
 qP:Tok
 EK:Tok
 AG:Tok
 dA:Addr
 bq:Addr
 ba:Addr
 bj:Addr
 aZ:Addr
 aQ:Addr
 cv:Addr
 a6:Addr
 aT:Addr
 a7:Addr
 a8:Addr
 a9:Addr
 bo:Addr
structure Txt (K:Frag)(w:World)(mg:Str->Option Value)(t:Adr):Prop where
 ky:jo K "__init__" "Book.__init__" fN t.cY t.pT
 pY:Binds K t.pT ["self"] []
 vE:jo K "_law_begun" "_law_begun" qU t.nF t.Hw
 HK:Binds K t.Hw ["_law_cell"] []
 XY:mg "_law_begun"=some (.ref t.nF)
 gb:jo K "_law_cell_at" "_law_cell_at" lh t.jA t.yE
 jG:Binds K t.yE ["_law_script","_law_k"] []
 lX:mg "_law_cell_at"=some (.ref t.jA)
 pJ:jo K "_law_sign_by" "_law_sign_by" lj t.jB t.yF
 yR:Binds K t.yF ["_law_number"] []
 Rv:mg "_law_sign_by"=some (.ref t.jB)
 lB:jo K "_law_deed_by" "_law_deed_by" bG t.jC t.yG
 tM:Binds K t.yG ["_law_number"] []
 EL:mg "_law_deed_by"=some (.ref t.jC)
 nZ:jo K "_law_mixed" "_law_mixed" qV t.nG t.Hy
 vF:Binds K t.Hy ["_law_seed","_law_k"] []
 BH:mg "_law_mixed"=some (.ref t.nG)
 vG:jo K "_law_deeds" "_law_deeds" qW t.nH t.Hz
 HL:Binds K t.Hz ["_law_script","_law_at","_law_many"] []
 XZ:mg "_law_deeds"=some (.ref t.nH)
 n0:jo K "_law_place" "_law_place" qX t.nI t.HA
 vH:Binds K t.HA ["_law_voices","_law_deed"] []
 BI:mg "_law_place"=some (.ref t.nI)
 gY:jo K "_law_name_refused" "_law_name_refused" eQ t.dq t.nJ
 n5:Binds K t.nJ ["_law_voices","_law_name"] []
 EM:mg "_law_name_refused"=some (.ref t.dq)
 gf:jo K "_law_canon_refused" "_law_canon_refused" dW t.cO t.lO
 lY:Binds K t.lO ["_law_voices","_law_deed"] []
 BJ:mg "_law_canon_refused"=some (.ref t.cO)
 gZ:jo K "_law_line_refused" "_law_line_refused" eR t.dr t.nK
 n6:Binds K t.nK ["_law_voices","_law_deed"] []
 EN:mg "_law_line_refused"=some (.ref t.dr)
 pK:jo K "_law_refused" "_law_refused" lp t.jD t.yH
 yS:Binds K t.yH ["_law_stand","_law_deed"] []
 Rw:mg "_law_refused"=some (.ref t.jD)
 tN:jo K "undo" "Deed.undo" lq t.h8 t.yI
 yT:Binds K t.yI ["self"] []
 Rx:Meth K t.bq "undo" t.h8
 tO:jo K "undo" "Book.undo" jw t.fZ t.yJ
 tP:Binds K t.yJ ["self"] []
 EO:Meth K t.ba "undo" t.fZ
 AH:jo K "do" "Deed.do" qY t.ly t.HB
 AI:Binds K t.HB ["self"] []
 Ng:Meth K t.bq "do" t.ly
 tQ:jo K "redo" "Book.redo" jx t.f6 t.yK
 tR:Binds K t.yK ["self"] []
 ER:Meth K t.ba "redo" t.f6
 iI:jo K "_law_line_behind" "_law_line_behind" fO t.d3 t.pV
 pZ:Binds K t.pV ["_law_line","_law_deed","_law_at"] []
 HM:mg "_law_line_behind"=some (.ref t.d3)
 rZ:jo K "_law_behind" "_law_behind" nk t.kK t.BA
 BK:Binds K t.BA ["_law_stand","_law_deed"] []
 VD:mg "_law_behind"=some (.ref t.kK)
 vI:jo K "is_name" "is_name" qZ t.nM t.HC
 HN:Binds K t.HC ["name"] []
 X0:mg "is_name"=some (.ref t.nM)
 qQ:jo K "names" "Book.names" jR t.f7 t.wD
 jU:Binds K t.wD ["self"] []
 o6:Meth K t.ba "names" t.f7
 jh:jo K "refuse_new" "Book.refuse_new" bY t.bD t.lP
 ji:Binds K t.lP ["self","name"] []
 r0:Meth K t.ba "refuse_new" t.bD
 gM:jo K "voice_called" "Book.voice_called" cu t.bI t.j8
 cw:Binds K t.j8 ["self","name"] []
 dH:Meth K t.ba "voice_called" t.bI
 iw:jo K "plain_voice" "Book.plain_voice" b9 t.bE t.kL
 dw:Binds K t.kL ["self","name"] []
 gN:Meth K t.ba "plain_voice" t.bE
 lZ:jo K "perform" "Book.perform" gU t.dC t.rP
 e9:Binds K t.rP ["self","deed"] []
 iJ:Meth K t.ba "perform" t.dC
 kA:jo K "__init__" "Deed.__init__" fP t.cZ t.pW
 d7:Binds K t.pW ["self","things","at","before","after"] []
 o7:jo K "put_in" "Book.put_in" iR t.eL t.uP
 o8:Binds K t.uP ["self","voice"] []
 yU:Meth K t.ba "put_in" t.eL
 jV:jo K "__init__" "Voice.__init__" eS t.cI t.nN
 jW:Binds K t.nN ["self","name","terms"] []
 g5:My K "add_canon" "Book.add_canon" cj t.bL t.jT (.ref t.jf)
 l4:Binds K t.jT ["self","name","leader","later","slow","is_turned"] [.int 0 t.eX,.int 1 t.eY,.bool false]
 n8:Binds K t.jT ["self","name","leader","later","slow","is_turned"] []
 tS:Meth K t.ba "add_canon" t.bL
 bW:jo K "refuse_other_places" "refuse_other_places" bU t.bH t.iX
 dc:Binds K t.iX ["at","last"] []
 ix:mg "refuse_other_places"=some (.ref t.bH)
 Nh:jo K "good" "good" Hg t.BB t.XW
 X1:Binds K t.XW ["sign"] []
 agk:mg "good"=some (.ref t.BB)
 dZ:jo K "refuse_bad_sign" "refuse_bad_sign" cN t.cz t.lQ
 jj:Binds K t.lQ ["sign"] []
 r6:mg "refuse_bad_sign"=some (.ref t.cz)
 AJ:jo K "small" "small" AB t.wF t.Rr
 Ml:Binds K t.Rr ["sign"] []
 VE:mg "small"=some (.ref t.wF)
 vJ:jo K "low_end" "low_end" q0 t.nP t.HD
 HP:Binds K t.HD ["line","at"] []
 X2:mg "low_end"=some (.ref t.nP)
 r9:jo K "high_end" "high_end" nq t.kM t.BC
 BL:Binds K t.BC ["line","first","kinds"] []
 VF:mg "high_end"=some (.ref t.kM)
 g6:jo K "sets_measure" "sets_measure" gW t.eZ t.rQ
 l8:Binds K t.rQ ["sign"] []
 xY:mg "sets_measure"=some (.ref t.eZ)
 sd:jo K "window" "window" vv t.rR t.M9
 yV:Binds K t.M9 ["line","at","behind","changed"] []
 HQ:mg "window"=some (.ref t.rR)
 wK:jo K "put" "Book.put" gE t.d4 t.BD
 BM:Binds K t.BD ["self","name","at","sign"] []
 VG:Meth K t.ba "put" t.d4
 wL:jo K "cut" "Book.cut" jy t.gF t.BE
 BN:Binds K t.BE ["self","name","at"] []
 VH:Meth K t.ba "cut" t.gF
 tT:jo K "swap" "Book.swap" fX t.dD t.yL
 yW:Binds K t.yL ["self","name","at","sign"] []
 Ry:Meth K t.ba "swap" t.dD
 jX:jo K "add_voice" "Book.add_voice" dm t.ck t.nQ
 n9:Binds K t.nQ ["self","name"] []
 ES:Meth K t.ba "add_voice" t.ck
 tU:jo K "drop" "Book.drop" hZ t.eM t.yM
 yX:Binds K t.yM ["self","name"] []
 Rz:Meth K t.ba "drop" t.eM
 Ni:jo K "_law_do" "_law_do" kJ t.j9 t.XX
 X3:Binds K t.XX ["_law_book","_law_deed","_law_at"] []
 agl:mg "_law_do"=some (.ref t.j9)
 oa:jo K "_law_tried" "_law_tried" nt t.lz t.HE
 vK:Binds K t.HE ["_law_book","_law_deed","_law_at"] []
 BO:mg "_law_tried"=some (.ref t.lz)
 qR:jo K "canon" "Book.canon" ip t.eI t.wG
 jY:Binds K t.wG ["self","name"] []
 o9:Meth K t.ba "canon" t.eI
 lC:jo K "_law_whole" "_law_whole" q8 t.nR t.HF
 rj:Binds K t.HF ["_law_found"] []
 wN:mg "_law_whole"=some (.ref t.nR)
 vL:jo K "_law_signs" "_law_signs" q9 t.nS t.HG
 HR:Binds K t.HG ["_law_found","_law_due"] []
 X4:mg "_law_signs"=some (.ref t.nS)
 yY:jo K "_law_nums" "_law_nums" vy t.rS t.Na
 Nj:Binds K t.Na ["_law_found","_law_due"] []
 abZ:mg "_law_nums"=some (.ref t.rS)
 kQ:My K "measures" "measures" nC t.kO t.wH (.ref t.tK)
 K9:Binds K t.wH ["line","begin"] [.int 3 t.lR]
 wO:Binds K t.wH ["line","begin"] []
 La:mg "measures"=some (.ref t.kO)
 fR:jo K "kind_at" "kind_at" rb t.nV t.HH
 iT:Binds K t.HH ["line","at"] []
 jH:mg "kind_at"=some (.ref t.nV)
 ko:jo K "plain_worth" "plain_worth" iS t.gG t.uQ
 uR:Binds K t.uQ ["kind","measure"] []
 Nk:mg "plain_worth"=some (.ref t.gG)
 df:jo K "worths_without_runs" "worths_without_runs" cB t.bV t.iY
 iZ:Binds K t.iY ["line","begin"] []
 wQ:mg "worths_without_runs"=some (.ref t.bV)
 HS:My K "runs" "runs" Hh t.BF t.Rt (.ref t.Mj)
 aa2:Binds K t.Rt ["line","begin"] [.int 3 t.yN]
 X5:Binds K t.Rt ["line","begin"] []
 agm:mg "runs"=some (.ref t.BF)
 fS:jo K "has_left_note" "has_left_note" fQ t.d5 t.pX
 kB:Binds K t.pX ["line","found","first"] []
 vM:mg "has_left_note"=some (.ref t.d5)
 eV:jo K "has_right_note" "has_right_note" eU t.dt t.nW
 jZ:Binds K t.nW ["line","behind"] []
 tV:mg "has_right_note"=some (.ref t.dt)
 gh:jo K "settle_one_over" "settle_one_over" dX t.cP t.lS
 l9:Binds K t.lS ["line","found","first","behind"] []
 BP:mg "settle_one_over"=some (.ref t.cP)
 gi:jo K "settle_two_over" "settle_two_over" dY t.cQ t.lT
 ma:Binds K t.lT ["line","found","first","behind"] []
 BQ:mg "settle_two_over"=some (.ref t.cQ)
 md:jo K "settle_run" "settle_run" jS t.iu t.wI
 wR:Binds K t.wI ["line","found","first","behind"] []
 Po:mg "settle_run"=some (.ref t.iu)
 vN:jo K "reading" "reading" rf t.nX t.HI
 HU:Binds K t.HI ["line","begin"] []
 X6:mg "reading"=some (.ref t.nX)
 se:My K "worths" "worths" vz t.rT t.EJ (.ref t.AE)
 Qx:Binds K t.EJ ["line","begin"] [.int 3 t.rV]
 ET:Binds K t.EJ ["line","begin"] []
 Qy:mg "worths"=some (.ref t.rT)
 vO:jo K "turned" "turned" vA t.rW t.Nb
 EU:Binds K t.Nb ["line"] []
 Qz:mg "turned"=some (.ref t.rW)
 pL:jo K "line" "Book.line" dB t.cA t.tL
 jI:Binds K t.tL ["self","name"] []
 me:Meth K t.ba "line" t.cA
 tW:jo K "kept" "Book.kept" fY t.dE t.yO
 tX:Binds K t.yO ["self","name"] []
 EV:Meth K t.ba "kept" t.dE
 lD:jo K "_law_line_of" "_law_line_of" lr t.jE t.yP
 tY:Binds K t.yP ["_law_voices","_law_name"] []
 EW:mg "_law_line_of"=some (.ref t.jE)
 yZ:jo K "_law_base" "_law_base" vB t.rX t.Nc
 Nl:Binds K t.Nc ["_law_line","_law_begin"] []
 ab0:mg "_law_base"=some (.ref t.rX)
 vP:jo K "_law_three" "_law_three" rg t.nY t.HJ
 HV:Binds K t.HJ ["_law_line","_law_begin"] []
 X7:mg "_law_three"=some (.ref t.nY)
 EX:jo K "_law_run" "_law_run" AD t.wJ t.Ru
 RA:Binds K t.Ru ["_law_line","_law_told","_law_low","_law_high"] []
 aeK:mg "_law_run"=some (.ref t.wJ)
 vQ:jo K "_law_read" "_law_read" vC t.rY t.Nd
 EY:Binds K t.Nd ["_law_line","_law_begin"] []
 QA:mg "_law_read"=some (.ref t.rY)
 pM:jo K "_law_kept_of" "_law_kept_of" lu t.jF t.yQ
 y8:Binds K t.yQ ["_law_voices","_law_name"] []
 RB:mg "_law_kept_of"=some (.ref t.jF)
 jJ:jo K "_law_stands" "_law_stands" nE t.kP t.BG
 og:Binds K t.BG ["_law_book","_law_voices"] []
 tZ:mg "_law_stands"=some (.ref t.kP)
 aa3:jo K "law" "law" yB t.Nf t.aeJ
 ahA:Binds K t.aeJ ["_law_script"] []
 amR:mg "law"=some (.ref t.Nf)
 aiF:mg "all"=none
 aeL:mg "any"=none
 aa4:mg "bool"=none
 agn:mg "dict"=none
 EZ:mg "enumerate"=none
 HW:mg "int"=none
 bu:mg "isinstance"=none
 bO:mg "len"=none
 iy:mg "list"=none
 aiG:mg "max"=none
 aiH:mg "min"=none
 mf:mg "range"=none
 aiI:mg "str"=none
 Nm:mg "tuple"=none
 aeM:mg "zip"=none
 A6:mg "GREAT_KINDS"=some (.ref t.eN)
 A7:∀ H,uG K H t.eN [.str "G",.str "D",.str "R"]
 Pp:mg "SMALL_KINDS"=some (.ref t.gH)
 Pq:∀ H,uG K H t.gH [.str "s",.str "d",.str "r"]
 LB:mg "PARTING_KINDS"=some (.ref t.d6)
 LC:∀ H,uG K H t.d6 [.str ".",.str "3",.str "2"]
 xZ:mg "MEASURE_KINDS"=some (.ref t.c6)
 x3:∀ H,uG K H t.c6 [.str "3",.str "2"]
 HX:mg "SOUNDING_KINDS"=some (.ref t.du)
 HY:∀ H,uG K H t.du [.str "G",.str "D",.str "s",.str "d"]
 Nn:mg "SILENT_KINDS"=some (.ref t.e8)
 Np:∀ H,uG K H t.e8 [.str "R",.str "r",.str ".",.str "3",.str "2"]
 Nq:mg "HIGHEST_TONE"=some (.int 99 t.lU)
 Nr:mg "TURNED_KINDS"=some (.ref t.dF)
 LF:KD K w t.dF [("3",.str "2"),("2",.str "3")]
 Nt:mg "PLAIN_WORTHS"=some (.ref t.dG)
 LG:KD K w t.dG [("G",.int 3),("D",.int 2),("R",.int 3),("s",.int 1),("d",.int 1),("r",.int 1),(".",.int 0),("3",.int 0),("2",.int 0)]
 vR:mg "TWOFOLD_WORTHS"=some (.ref t.cm)
 t7:KD K w t.cm [("G",.int 2),("R",.int 2)]
 RC:mg "FULL_WORTH"=some (.int 3 t.qO)
 jk:mg "SHORTENED_WORTH"=some (.int 2 t.jg)
 LH:mg "DOUBLED_WORTH"=some (.int 2 t.kx)
 Nu:mg "DOTTED_WORTH"=some (.int 3 t.lV)
 ab1:mg "LETTERS"=some (.str "abcdefghijklmnopqrstuvwxyz" t.AF)
 Nv:mg "LONGEST_NAME"=some (.int 8 t.lW)
 Pr:mg "MOST_VOICES"=some (.int 12 t.o5)
 RD:mg "MOST_SIGNS"=some (.int 200 t.qP)
 aeN:mg "LATEST"=some (.int 999 t.EK)
 ab2:mg "SLOWEST"=some (.int 9 t.AG)
 VI:mg "Voice"=some (.ref t.dA)
 VJ:Mk K t.dA t.cI
 gj:W8 K t.dA
 gI:j7 K t.dA "name"
 cR:j7 K t.dA "terms"
 cC:j7 K t.dA "signs"
 E2:mg "Deed"=some (.ref t.bq)
 E3:Mk K t.bq t.cZ
 gk:W8 K t.bq
 fb:j7 K t.bq "things"
 iA:j7 K t.bq "at"
 fc:j7 K t.bq "before"
 gJ:j7 K t.bq "after"
 ago:mg "Book"=some (.ref t.ba)
 agp:Mk K t.ba t.cY
 aN:W8 K t.ba
 bT:j7 K t.ba "voices"
 eJ:j7 K t.ba "done"
 cS:j7 K t.ba "undone"
 HZ:mg "NoMore"=some (.ref t.bj)
 Nw:mg "BadName"=some (.ref t.aZ)
 E4:mg "NameTaken"=some (.ref t.aQ)
 RE:mg "Full"=some (.ref t.cv)
 Nx:mg "NoVoice"=some (.ref t.a6)
 Lb:mg "NotPlain"=some (.ref t.aT)
 Ny:mg "BadTerm"=some (.ref t.a7)
 Nz:mg "NoPlace"=some (.ref t.a8)
 NA:mg "BadSign"=some (.ref t.a9)
 QB:mg "Leaned"=some (.ref t.bo)
 QC:ExA K t.bj
 X8:ExA K t.aZ
 RF:ExA K t.aQ
 aa5:ExA K t.cv
 X9:ExA K t.a6
 VL:ExA K t.aT
 Ya:ExA K t.a7
 Yb:ExA K t.a8
 Yc:ExA K t.a9
 ab3:ExA K t.bo
 gm:exmOne K (.ref t.bj) (.ref t.aZ)=some false
 eh:exmOne K (.ref t.bj) (.ref t.aQ)=some false
 jK:exmOne K (.ref t.bj) (.ref t.cv)=some false
 gn:exmOne K (.ref t.bj) (.ref t.a6)=some false
 ff:exmOne K (.ref t.bj) (.ref t.aT)=some false
 gp:exmOne K (.ref t.bj) (.ref t.a8)=some false
 gq:exmOne K (.ref t.bj) (.ref t.a9)=some false
 gs:exmOne K (.ref t.bj) (.ref t.a7)=some false
 g7:exmOne K (.ref t.bj) (.ref t.bo)=some false
 g8:exmOne K (.ref t.bj) (.ref t.bj)=some true
 fg:exmOne K (.ref t.aZ) (.ref t.aZ)=some true
 dJ:exmOne K (.ref t.aQ) (.ref t.aZ)=some false
 cT:exmOne K (.ref t.aQ) (.ref t.aQ)=some true
 iK:exmOne K (.ref t.cv) (.ref t.aZ)=some false
 gu:exmOne K (.ref t.cv) (.ref t.aQ)=some false
 mh:exmOne K (.ref t.cv) (.ref t.cv)=some true
 fh:exmOne K (.ref t.a6) (.ref t.aZ)=some false
 dM:exmOne K (.ref t.a6) (.ref t.aQ)=some false
 iL:exmOne K (.ref t.a6) (.ref t.cv)=some false
 fi:exmOne K (.ref t.a6) (.ref t.a6)=some true
 en:exmOne K (.ref t.aT) (.ref t.aZ)=some false
 dg:exmOne K (.ref t.aT) (.ref t.aQ)=some false
 g9:exmOne K (.ref t.aT) (.ref t.cv)=some false
 eo:exmOne K (.ref t.aT) (.ref t.a6)=some false
 dN:exmOne K (.ref t.aT) (.ref t.aT)=some true
 fk:exmOne K (.ref t.a7) (.ref t.aZ)=some false
 dO:exmOne K (.ref t.a7) (.ref t.aQ)=some false
 iN:exmOne K (.ref t.a7) (.ref t.cv)=some false
 fm:exmOne K (.ref t.a7) (.ref t.a6)=some false
 eA:exmOne K (.ref t.a7) (.ref t.aT)=some false
 fo:exmOne K (.ref t.a7) (.ref t.a8)=some false
 fq:exmOne K (.ref t.a7) (.ref t.a9)=some false
 fu:exmOne K (.ref t.a7) (.ref t.a7)=some true
 fA:exmOne K (.ref t.a8) (.ref t.aZ)=some false
 dP:exmOne K (.ref t.a8) (.ref t.aQ)=some false
 iO:exmOne K (.ref t.a8) (.ref t.cv)=some false
 fB:exmOne K (.ref t.a8) (.ref t.a6)=some false
 eB:exmOne K (.ref t.a8) (.ref t.aT)=some false
 fD:exmOne K (.ref t.a8) (.ref t.a8)=some true
 fE:exmOne K (.ref t.a9) (.ref t.aZ)=some false
 dQ:exmOne K (.ref t.a9) (.ref t.aQ)=some false
 iP:exmOne K (.ref t.a9) (.ref t.cv)=some false
 fF:exmOne K (.ref t.a9) (.ref t.a6)=some false
 eC:exmOne K (.ref t.a9) (.ref t.aT)=some false
 fG:exmOne K (.ref t.a9) (.ref t.a8)=some false
 fH:exmOne K (.ref t.a9) (.ref t.a9)=some true
 gw:exmOne K (.ref t.bo) (.ref t.aZ)=some false
 eD:exmOne K (.ref t.bo) (.ref t.aQ)=some false
 jL:exmOne K (.ref t.bo) (.ref t.cv)=some false
 gx:exmOne K (.ref t.bo) (.ref t.a6)=some false
 fI:exmOne K (.ref t.bo) (.ref t.aT)=some false
 gy:exmOne K (.ref t.bo) (.ref t.a8)=some false
 gA:exmOne K (.ref t.bo) (.ref t.a9)=some false
 gB:exmOne K (.ref t.bo) (.ref t.a7)=some false
 hG:exmOne K (.ref t.bo) (.ref t.bo)=some true
def cs (t:Adr):Cs:=⟨t.ba,t.dA,t.bq,true,fun r=>match r with
 |.tD=>t.a9
 |.Mi=>t.aZ
 |.AA=>t.aQ
 |.Full=>t.cv
 |.dU=>t.a6
 |.gT=>t.aT
 |.qK=>t.a8
 |.tE=>t.a7
 |.Bs=>t.bo
 |.jv=>t.bj⟩
inductive E5 (C:Addr)(vs:List V)(H:Hp)(Q:VK)(E:XK):Prop
 |mk (x dx:Addr) (eO:vs=[.ref x]) (eP:H x=some (.ins C dx [])) (hX:∀(L D U:Addr)(H':Hp),(∀ y o,H y=some o->y≠x->H' y=some o)->H L=none->H D=none->H U=none->L≠D->L≠U->D≠U->H' x=some (.ins C dx (Br L D U))->H' L=some (.lst [])->H' D=some (.lst [])->H' U=some (.lst [])->Q .non H'):E5 C vs H Q E
variable {P:Program} {w:World} {K:Frag} {mg:Str->Option Value} {base:Heap} {t:Adr}
theorem Ia (T:Txt K w mg t):bA P w K mg base k9 (0+1) t.cY t.pT ["self"] (E5 t.ba):=by
 refine T.ky.ok Hi (fun vs H Q E h=>?_) (fun cdv A outer s H vs Q E hr h=>?_)
 ·obtain⟨_,_,rfl,_⟩:=h;rfl
 ·obtain⟨x,dx,rfl,hx,q⟩:=h;refine aS (af (uI (pv 0) (bx ag) rfl) (af (uI (pv 0) (bx ag) rfl) (aj (uI (pv 0) (bx ag) rfl)))) ?_;refine⟨big (by show 0<=1000;omega),fun L hL=>?_⟩;have xL:x≠L:=ao hx hL;refine⟨_,rfl,x,_,dx,_,rfl,by rw[ak xL];exact hx,T.aN,T.bT,by show 0<1000;decide,?_⟩;refine⟨big (by show 0<=1000;omega),fun D hD=>?_⟩;have xD:x≠D:=ao ae hD;have DL:L≠D:=ao (show upd (upd H L (.lst [])) x _ L=some (.lst []) by rw[ak (Ne.symm xL)];exact ae) hD;have hD0:H D=none:=by rw[ak (Ne.symm xD),ak (Ne.symm DL)]at hD;exact hD
  refine⟨_,rfl,x,_,dx,_,rfl,by rw[ak xD];exact ae,T.aN,T.eJ,by rw[Rk];show 1<1000;decide,?_⟩;refine⟨big (by show 0<=1000;omega),fun U hU=>?_⟩;have xU:x≠U:=ao ae hU;have DU:D≠U:=by
   rintro rfl;rw[ak (Ne.symm xU),ae]at hU;cases hU
  have LU:L≠U:=by
   rintro rfl;rw[ak (Ne.symm xU),ak DL,ak (Ne.symm xU),ae]at hU;cases hU
  have UT:H U=none:=by rw[ak (Ne.symm xU),ak (Ne.symm DU),ak (Ne.symm xU),ak (Ne.symm LU)]at hU;exact hU
  refine⟨_,rfl,x,_,dx,_,rfl,by rw[ak xU];exact ae,T.aN,T.cS,by rw[Rk,aaY];show 2<1000;decide,?_⟩;rw[Rk,aaY,agf];refine q L D U _ (fun y o hy ny=>?_) hL hD0 UT DL LU DU ae ?_ ?_ ?_
  ·rw[ak ny,ak (ao hy UT),ak ny,ak (ao hy hD0),ak ny,ak (ao hy hL)];exact hy
  ·rw[ak (Ne.symm xL),ak LU,ak (Ne.symm xL),ak DL,ak (Ne.symm xL)];exact ae
  ·rw[ak (Ne.symm xD),ak DU,ak (Ne.symm xD)];exact ae
  ·rw[ak (Ne.symm xU)];exact ae
theorem yA.write {H:Hp}{l:Addr}{xs:List V}{o:HO}(hl:H l=some (.lst xs)){y:V}{d:De}(h:yA H y d):yA (upd H l o) y d:=by
 obtain⟨p,ps,e,h1,h2⟩:=h;exact⟨p,ps,e,by rw[ak (j3 h1 hl (by intro z;cases z))];exact h1,by rw[ak (j3 h2 hl (by intro z;cases z))];exact h2⟩
def i0 (H:Hp)(xs:List V)(oh:List De):Prop:=Paired (yA H) xs oh/\∀ d∈oh,abW d
theorem i0.same {H H':Hp}(s:aq H H'){xs:List V}{oh:List De}(h:i0 H xs oh):i0 H' xs oh:=⟨cb (fun _ _ q=>q.same s) h.1,h.2⟩
theorem i0.write {H:Hp}{l:Addr}{zs:List V}{o:HO}(hl:H l=some (.lst zs)){xs:List V}{oh:List De}(h:i0 H xs oh):i0 (upd H l o) xs oh:=⟨cb (fun _ _ q=>q.write hl) h.1,h.2⟩
theorem i0.snoc {H:Hp}{xs:List V}{oh:List De}{v:V}{d:De}(h:i0 H xs oh)(e:yA H v d)(ok:abW d):i0 H (xs++[v]) (oh++[d]):=⟨j6 h.1 e,fun x hx=>by
 rcases mem_append.mp hx with hx|hx
 ·exact h.2 x hx
 ·rw[mem_singleton.mp hx];exact ok⟩
theorem i0.app {H:Hp}{xs ys:List V}{oh dfs:List De}(h:i0 H xs oh)(k:i0 H ys dfs):i0 H (xs++ys) (oh++dfs):=⟨Hb h.1 k.1,fun x hx=>by
 rcases mem_append.mp hx with hx|hx
 ·exact h.2 x hx
 ·exact k.2 x hx⟩
theorem i0.nil {H:Hp}:i0 H [] []:=⟨.nil,fun _ h=>nomatch h⟩
def nm3:List Str:=["ann","cy","bo"]
theorem agq {n:Str}(h:n∈nm3):n.length<=1000:=by
 have:nm3.all (fun n=>decide (n.length<=1000))=true:=by lk
 exact of_decide_eq_true (all_eq_true.mp this n h)
theorem e00:(Str.ofString "").length<=1000:=by lk
theorem es0:Str.ofString "s" ∈ oZ:=by lk
inductive NB (vs:List V)(H:Hp)(Q:VK)(E:XK):Prop
 |mk (c:Int) (eO:vs=[.int c]) (eP:∀(l:Addr)(xs:List V)(oh:List De)(H':Hp),H l=none->aq H H'->H' l=some (.lst xs)->i0 H' xs oh->oh.length<=3->Q (.ref l) H'):NB vs H Q E
theorem Yd (T:Txt K w mg t):bA P w K mg base k9 (0+1) t.nF t.Hw ["_law_cell"] NB:=by
 refine T.vE.ok MW (fun vs H Q E h=>?_) (fun cdv A outer s H vs Q E hr h=>?_)
 ·obtain⟨_,rfl,_⟩:=h;rfl
 ·obtain⟨c,rfl,q⟩:=h;refine aS (af (aK (i:=1) MW.nd rfl (Or.inl rfl) (rA (wk.or (Bf.or Bg)) (bx (aa ax (aa ax (aa ax ag)))) wj (lJ (aI c7 (pv 0) ai)))) (aj (aw (qF (cn:=["_law_name"]) rfl (fV.of rfl) (gL (pv 1)) (fun _=>(aU (i:=0) Rp rfl (Or.inl rfl))) (fun _=>yq) (fun _=>(b8 (aa ax (aa (pv 0) (aa ax (aa ai (aa (b8 (aa ax (aa ai ag))) (aa ai (aa ai (aa fK ag)))))))))))))) ?_;refine⟨by show 3<=sizeLine;decide,fun m0 hm0=>?_⟩;have e3:[V.str "ann",V.str "cy",V.str "bo"]=nm3.map V.str:=rfl;rw[e3];have S1:=aq.upd (o:=.lst (nm3.map V.str)) hm0;have k1:=ae (H:=H) (a:=m0) (o:=.lst (nm3.map V.str));generalize upd H m0 (.lst (nm3.map V.str))=H1 at S1 k1;tm_up;obtain⟨m,hm,hm4⟩:=Pl c (k:=4) (by decide);rw[hm];refine .inl ⟨m0,_,rfl,aX.of k1,fun m1 hm1=>?_⟩;rw[aet,<-List.map_take];have S2:=aq.upd (o:=.lst ((nm3.take m).map V.str)) hm1;have k2:=ae (H:=H1) (a:=m1) (o:=.lst ((nm3.take m).map V.str));generalize upd H1 m1 (.lst ((nm3.take m).map V.str))=H2 at S2 k2;have S12:=S1.trans S2;have l3:(nm3.take m).length<=3:=by rw[length_take];show min m 3<=3;omega
  refine⟨_,rfl,m1,rfl,⟨_,aX.of k2⟩,fun D b hD=>?_⟩;refine jP (K:=K) (xs:=(nm3.take m).map V.str) (fun i ys σ H'=>∃(v:Option V)(oh:List De),σ=[v,some (.int c),some (.ref m1)]/\aq H2 H'/\H' D=some (.lst ys)/\i0 H' ys oh/\oh.length=i) ⟨none,[],rfl,aq.upd hD,ae,i0.nil,rfl⟩ ?_ ?_ ?_
  ·rintro i ys σ H' ⟨v,oh,rfl,s2,_⟩;exact aX.of (s2 _ _ k2)
  ·rintro i ys y σ H' hy ⟨v,oh,rfl,s2,UW,dd,dl⟩ N hN;obtain⟨n,hn,rfl⟩:∃ n,n∈nm3/\y=.str n:=by
    rw[getElem?_map]at hy;cases e:(nm3.take m)[i]? with
    |none=>rw[e]at hy;cases hy
    |some z=>rw[e]at hy;exact⟨z,List.mem_of_mem_take (mem_of_getElem? e),(Option.some.inj hy).symm⟩
   have hi:i<(nm3.take m).length:=by
    have:=(List.getElem?_eq_some_iff.mp hy).1
    rwa [length_map]at this
   have yl:=bS dd.1;refine kG ?_;refine⟨_,rfl,by show 2<=sizeLine;decide,fun p0 hp0=>?_⟩;have S3:=aq.upd (o:=.tup [V.str "s",V.int 0]) hp0;have k3:=ae (H:=H') (a:=p0) (o:=.tup [V.str "s",V.int 0]);generalize upd H' p0 (.tup [V.str "s",V.int 0])=H3 at S3 k3;refine⟨by show 8<=sizeLine;decide,fun p1 hp1=>?_⟩;have S4:=aq.upd (o:=.tup [V.str "add",V.str n,V.str "",V.int 0,V.ref p0,V.int 0,V.int 1,V.bl false]) hp1;have k4:=ae (H:=H3) (a:=p1) (o:=.tup [V.str "add",V.str n,V.str "",V.int 0,V.ref p0,V.int 0,V.int 1,V.bl false]);generalize upd H3 p1 (.tup [V.str "add",V.str n,V.str "",V.int 0,V.ref p0,V.int 0,V.int 1,V.bl false])=H4 at S4 k4;have S34:=S3.trans S4;refine⟨S34 _ _ UW,aW (by omega),hN _ _ _ ⟨_,oh++[⟨.add,n,"",0,("s",0),0,1,false⟩],rfl,eF (s2.trans S34) hD,ae,?_,by rw[length_append,dl];rfl⟩⟩;refine i0.write (S34 _ _ UW) (i0.snoc (dd.same S34) ⟨p1,p0,rfl,k4,S4 _ _ k3⟩ ⟨agq hn,e00,es0⟩)
  ·rintro ys σ H' ⟨v,oh,rfl,s2,UW,dd,dl⟩;rw[length_map]at dl;exact q D ys oh H' (S12.free hD) (S12.trans s2) UW dd (by omega)
def y9 (ns:List Int)(k:Nat):Int:=ns.getD k 0
inductive E6 (K:Frag)(vs:List V)(H:Hp)(Q:VK)(E:XK):Prop
 |mk (a:Addr) (ns:List Int) (k:Nat) (eO:vs=[.ref a,.int (k:Int)]) (eP:aX K H a (ns.map V.int)) (hX:ns.length<=63) (kC:Q (.int (y9 ns k)) H):E6 K vs H Q E
theorem E7 (T:Txt K w mg t):bA P w K mg base k9 (0+1) t.jA t.yE ["_law_script","_law_k"] (E6 K):=by
 refine T.gb.ok Rm (fun vs H Q E h=>?_) (fun cdv A outer s H vs Q E hr h=>?_)
 ·obtain⟨a,ns,k,rfl,_⟩:=h;rfl
 ·obtain⟨a,ns,k,rfl,hS,hl,q⟩:=h;refine aS (af (aO (ar qz (pv 1) (aJ (abx rfl) rfl T.aiH ah7 (aa ai (aa (aJ (aE.or aF) rfl T.bO bM (aa (pv 0) ag)) ag))) (az _)) (aj (aw (aC av (pv 0) (pv 1) (fun _ _=>rfl)))) aB) (aj (aw ai))) ?_;refine⟨_,rfl,_,rfl,.inl ⟨_,_,rfl,.inl hS,_,_,rfl,_,_,rfl,rfl,_,rfl,?_⟩⟩;rw[length_map];refine aY (fun h=>?_) (fun h=>?_)
  ·have hk:k<ns.length:=by
    have:=of_decide_eq_true h;split at this <;> omega
   have e:(ns.map V.int)[k]? = some (V.int (y9 ns k)):=by
    rw[getElem?_map,getElem?_eq_getElem hk];unfold y9;rw[List.getD_eq_getElem?_getD,getElem?_eq_getElem hk];rfl
   exact⟨_,rfl,_,rfl,.inl ⟨_,_,_,_,rfl,rfl,hS,D3 e,q⟩⟩
  ·have hk:ns.length<=k:=by
    have h':¬((k:Int)<if(ns.length:Int)<63 then(ns.length:Int) else 63):=fun z=>h (decide_eq_true z);split at h' <;> omega
   have e:y9 ns k=0:=by
    unfold y9;rw[List.getD_eq_getElem?_getD,List.getElem?_eq_none hk];rfl
   rw[e]at q;exact q
def l24:List Kd:=[.G,.G,.G,.G,.G,.s,.s,.s,.s,.s,.s,.s,.s,.s,.d,.d,.r,.r,.D,.R,.dot,.dot,.three,.two]
theorem akD:(Str.ofString "GGGGGsssssssssddrrDR..32").cps.toList=l24.map Kd.cp:=by lk
theorem VM (k:Kd):Ph k.str "GDsd"=k.wq:=by cases k <;> decide +kernel
inductive E8 (vs:List V)(H:Hp)(Q:VK)(E:XK):Prop
 |mk (m:Int) (eO:vs=[.int m]) (eP:∀(p:Addr)(s:Sg),MN s->H p=none->Q (.ref p) (upd H p (.tup [.str s.1.str,.int s.2]))):E8 vs H Q E
theorem RG (T:Txt K w mg t):bA P w K mg base k9 (0+1) t.jB t.yF ["_law_number"] E8:=by
 refine T.pJ.ok Eh (fun vs H Q E h=>?_) (fun cdv A outer s H vs Q E hr h=>?_)
 ·obtain⟨_,rfl,_⟩:=h;rfl
 ·obtain⟨m,rfl,q⟩:=h;refine aS (af (aK (i:=1) Eh.nd rfl (Or.inl rfl) (aC av ax (aI c7 (pv 0) ai) (fun _ _=>rfl))) (af (aO (ar (cW.or cV) (pv 1) ax rfl) (aj (aw (b8 (aa (pv 1) (aa (aI c7 (aI fU (pv 0) ai) ai) ag))))) aB) (aj (aw (b8 (aa (pv 1) (aa ai ag))))))) ?_;obtain⟨k,hk⟩:∃ k,l24[(m % 24).toNat]? = some k:=by
   have h1:(m % 24).toNat<l24.length:=by
    show _<24;omega
   exact⟨_,getElem?_eq_getElem h1⟩
  have hat:atI (Str.ofString "GGGGGsssssssssddrrDR..32").cps.toList (m % 24)=some k.cp:=by
   have e0:m % 24=(((m % 24).toNat:Nat):Int):=by omega
   rw[e0,akD];exact D3 (by rw[getElem?_map,hk];rfl)
  refine⟨_,rfl,_,_,rfl,rfl,(by decide:(0:Int)<24),.inr (.inr ⟨_,_,_,rfl,rfl,(by lk),hat,?_⟩)⟩;rw[<-akn k];tm_up;refine aY (fun h=>?_) (fun h=>?_)
  ·have h4:k.wq=true:=by rw[<-VM];exact h
   tm_up;refine⟨(by show 2<=sizeLine;decide),fun p hp=>?_⟩;exact q p (k,m / 24 % 100) ⟨fun _=>by show 0<=m / 24 % 100/\m / 24 % 100<100;omega,fun z=>by rw[h4]at z;cases z⟩ hp
  ·have h4:k.wq=false:=by
    rw[<-VM];exact Bool.eq_false_iff.mpr h
   tm_up;refine⟨(by show 2<=sizeLine;decide),fun p hp=>?_⟩;exact q p (k,0) ⟨(fun z=>by rw[h4]at z;cases z),fun _=>rfl⟩ hp
theorem aeO {a b:TS}{D:Ends}{σ:St}{H:Hp}{rt:VK}{bk ct:St->Hp->Prop}(h:afK a b D σ H):Ends.nx { nx:=afK a b D,rt:=rt,bk:=bk,ct:=ct } σ H:=h
def LI:List Str:=["ann","bo","cy","dora","a","zzzzzzzz","ann","Ann","","toolongby"]
theorem VN {n:Str}(h:n∈LI):n.length<=1000:=by
 have:LI.all (fun n=>decide (n.length<=1000))=true:=by lk
 exact of_decide_eq_true (all_eq_true.mp this n h)
def ab4:List Wy:=[.put,.put,.put,.put,.put,.swap,.swap,.cut,.cut,.add,.canon,.canon,.drop,.undo,.undo,.qL]
theorem strAtD {l:List Str}{m:Nat}(h:m<l.length):∃ n,n∈l/\(l.map V.str)[m]? = some (.str n):=⟨l[m],List.getElem_mem h,by rw[getElem?_map,getElem?_eq_getElem h];rfl⟩
theorem akE (k:Kd):k.str∈oZ:=by
 have:oZ.contains k.str=true:=by cases k <;> decide +kernel
 exact List.contains_iff_mem.mp this
inductive E9 (vs:List V)(H:Hp)(Q:VK)(E:XK):Prop
 |mk (m:Int) (eO:vs=[.int m]) (eP:∀(p:Addr)(de:De)(H':Hp),aq H H'->yA H' (.ref p) de->abW de->Q (.ref p) H'):E9 vs H Q E
set_option maxHeartbeats 8000000 in
theorem RH (T:Txt K w mg t):bA P w K mg base k9 (0+2) t.jC t.yG ["_law_number"] E9:=by
 have VO:=RG (P:=P) (base:=base) T;refine T.lB.ok bZ (fun vs H Q E h=>?_) (fun cdv A outer s H vs Q E hr h=>?_)
 ·obtain⟨_,rfl,_⟩:=h;rfl
 ·obtain⟨m,rfl,q⟩:=h;obtain⟨x6,x8⟩:∃ v:List (Str×Pos),v=yD:=⟨_,rfl⟩;obtain⟨x9,ya⟩:∃ v:List (Str×Pos),v=jz:=⟨_,rfl⟩;have hbody:ay bG=Stmt.Assign [Expr.Name "_law_names" ⟨306,4,306,14⟩] (Expr.List (x6.map fun c=>Expr.Constant (.str c.1) 0 c.2) ⟨306,17,306,92⟩) ⟨306,4,306,92⟩::Stmt.Assign [Expr.Name "_law_ways" ⟨307,4,307,13⟩] (Expr.List (x9.map fun c=>Expr.Constant (.str c.1) 0 c.2) ⟨307,16,307,114⟩) ⟨307,4,307,114⟩::(ay bG).getD 2 (.Pass ⟨0,0,0,0⟩)::(ay bG).getD 3 (.Pass ⟨0,0,0,0⟩)::(ay bG).getD 4 (.Pass ⟨0,0,0,0⟩)::(ay bG).getD 5 (.Pass ⟨0,0,0,0⟩)::(ay bG).getD 6 (.Pass ⟨0,0,0,0⟩)::(ay bG).getD 7 (.Pass ⟨0,0,0,0⟩)::(ay bG).getD 8 (.Pass ⟨0,0,0,0⟩)::(ay bG).getD 9 (.Pass ⟨0,0,0,0⟩)::(ay bG).getD 10 (.Pass ⟨0,0,0,0⟩)::ais ((ay bG).getD 11 (.Pass ⟨0,0,0,0⟩)) gX::(ay bG).drop 12:=by subst x8;subst ya;unfold gX;rfl
  rw[hbody];refine aS (af (Ve (i:=1) x6 bZ.nd rfl (Or.inl rfl)) (af (Ve (i:=2) x9 bZ.nd rfl (Or.inl rfl)) (af (aK (i:=3) bZ.nd rfl (Or.inl rfl) (aC av (aI (bP.or (aM.or bR)) (pv 2) (bx (aa ax (aa ax (aa ax ag))))) (aI c7 (pv 0) ai) (fun _ _=>rfl))) (af (aK (i:=0) bZ.nd rfl (Or.inl rfl) (aI fU (pv 0) ai)) (af (aK (i:=4) bZ.nd rfl (Or.inl rfl) (aC av (pv 1) (aI c7 (pv 0) ai) (fun _ _=>rfl))) (af (nh (aO (ar (bg.or (aR (aA hr))) (aI c7 (aI fU (pv 0) ai) ai) ai (az _)) (aj (aK (i:=4) bZ.nd rfl (Or.inl rfl) (aC av (pv 1) (aI c7 (aI fU (pv 0) ai) ai) (fun _ _=>rfl)))) aB)) (af (aK (i:=0) bZ.nd rfl (Or.inl rfl) (aI fU (pv 0) ai)) (af (aK (i:=5) bZ.nd rfl (Or.inl rfl) (aC av (pv 1) (aI c7 (pv 0) ai) (fun _ _=>rfl))) (af (nh (aO (ar (bg.or (aR (aA hr))) (aI c7 (aI fU (pv 0) ai) ai) ai (az _)) (aj (aK (i:=5) bZ.nd rfl (Or.inl rfl) (aC av (pv 1) (aI c7 (aI fU (pv 0) ai) ai) (fun _ _=>rfl)))) aB)) (af (aK (i:=0) bZ.nd rfl (Or.inl rfl) (aI fU (pv 0) ai)) (af (aK (i:=6) bZ.nd rfl (Or.inl rfl) (aD VO (hr.mono (by decide)) rfl T.Rv T.pJ.kp T.yR .nil aP (aa (pv 0) ag))) (af (nh (aO (ar (bg.or (aR (aA hr))) (aI c7 (aI fU (pv 0) ai) ai) ai (az _)) (aj (aK (i:=6) bZ.nd rfl (Or.inl rfl) (aC av M8 (aI c7 (aI fU (pv 0) ai) ai) (fun _ _=>rfl)))) aB)) (af (aK (i:=7) bZ.nd rfl (Or.inl rfl) (aI eW (aI c7 (aI fU (pv 0) ai) ai) ai)) (aj (aw (b8 (aa (pv 3) (aa (pv 4) (aa (pv 5) (aa (aI fU (pv 0) ai) (aa (pv 6) (aa (pv 7) (aa (aI c7 (aI fU (pv 0) ai) ai) (aa (bQ (bg.or (aR (aA hr))) (aI c7 (pv 0) ai) ai (az _)) ag)))))))))))))))))))))))) ?_;subst x8;subst ya;refine ie fun N hN=>?_;refine⟨by show 10<=sizeLine;decide,fun m0 hm0=>?_⟩;have e10:(yD.map fun c=>V.str c.1)=LI.map V.str:=rfl;rw[e10];have S1:=aq.upd (o:=.lst (LI.map V.str)) hm0;have k1:=ae (H:=H) (a:=m0) (o:=.lst (LI.map V.str));generalize upd H m0 (.lst (LI.map V.str))=H1 at S1 k1;refine hN _ _ ?_;clear hN N;refine ie fun N hN=>?_;refine⟨by show 13<=sizeLine;decide,fun m1 hm1=>?_⟩;have S2:=aq.upd (o:=.lst (jz.map fun c=>V.str c.1)) hm1;have k2:=ae (H:=H1) (a:=m1) (o:=.lst (jz.map fun c=>V.str c.1));generalize upd H1 m1 (.lst (jz.map fun c=>V.str c.1))=H2 at S2 k2;refine hN _ _ ?_;clear hN N;refine ie fun N hN=>?_;refine⟨_,rfl,big (by show 3<=1000;omega),fun m2 hm2=>?_⟩;have S3:=aq.upd (o:=.lst [V.str "undo",V.str "undo",V.str "redo"]) hm2;have k3:=ae (H:=H2) (a:=m2) (o:=.lst [V.str "undo",V.str "undo",V.str "redo"]);generalize upd H2 m2 (.lst [V.str "undo",V.str "undo",V.str "redo"])=H3 at S3 k3;refine .inr (.inr ⟨m1,m2,_,_,rfl,rfl,S3 _ _ k2,k3,by show 16<=sizeLine;decide,fun m3 hm3=>?_⟩);have e16:(jz.map fun c=>V.str c.1)++[V.str "undo",V.str "undo",V.str "redo"]=ab4.map fun w=>V.str w.str:=rfl;rw[e16];have S4:=aq.upd (o:=.lst (ab4.map fun w=>V.str w.str)) hm3;have k4:=ae (H:=H3) (a:=m3) (o:=.lst (ab4.map fun w=>V.str w.str));generalize upd H3 m3 (.lst (ab4.map fun w=>V.str w.str))=H4 at S4 k4;have S14:=((S1.trans S2).trans S3).trans S4;have k5:=S4 _ _ (S3 _ _ (S2 _ _ k1));tm_up;obtain⟨j,hj,apA⟩:=Pl m (k:=16) (by decide);obtain⟨wy,ewy⟩:∃ wy:Wy,(ab4.map fun w=>V.str w.str)[j]? = some (.str wy.str):=⟨_,by rw[getElem?_map,getElem?_eq_getElem (show j<ab4.length by show j<16;omega)];rfl⟩;refine Rc (aX.of k4) (n:=j) hj ewy ?_;refine hN _ _ ?_;clear hN N S1 S2 S3 S4 k1 k2 k3 k4 hm0 hm1 hm2 hm3 e10 e16;refine ie fun N hN=>?_;tm_up;refine hN _ _ ?_;clear hN N;generalize m / 16=n1;refine ie fun N hN=>?_;tm_up;obtain⟨i1,hi1,aiK⟩:=Pl n1 (k:=7) (by decide);obtain⟨nm,hnm,enm⟩:=strAtD (l:=LI) (m:=i1) (by show i1<10;omega);refine Rc (aX.of k5) (n:=i1) hi1 enm ?_;refine hN _ _ ?_;clear hN N;refine⟨fun σ H'=>∃ nm,nm∈LI/\σ=[some (.int n1),some (.ref m0),some (.ref m1),some (.str wy.str),some (.str nm),none,none,none]/\H'=H4,?_,?_⟩
  ·tm_up;refine aY (fun _=>?_) (fun _=>?_)
   ·tm_up;obtain⟨i2,hi2,aeP⟩:=Pl (n1 / 56) (k:=10) (by decide);obtain⟨nm',hnm',amT⟩:=strAtD (l:=LI) (m:=i2) (by show i2<10;omega);exact Rc (aX.of k5) (n:=i2) hi2 amT ⟨nm',hnm',rfl,rfl⟩
   ·exact⟨nm,hnm,rfl,rfl⟩
  clear hnm enm hi1 aiK i1 nm;rintro _ H' ⟨nm,hnm,rfl,eH⟩;have eH:=eH.symm;subst eH;refine aeO ?_;refine ie fun N hN=>?_;tm_up;refine hN _ _ ?_;clear hN N;generalize n1 / 560=n2;refine ie fun N hN=>?_;tm_up;obtain⟨i1,hi1,aiK⟩:=Pl n2 (k:=4) (by decide);obtain⟨ld,Pc,eld⟩:=strAtD (l:=LI) (m:=i1) (by show i1<10;omega);refine Rc (aX.of k5) (n:=i1) hi1 eld ?_;refine hN _ _ ?_;clear hN N;refine⟨fun σ H'=>∃ ld,ld∈LI/\σ=[some (.int n2),some (.ref m0),some (.ref m1),some (.str wy.str),some (.str nm),some (.str ld),none,none]/\H'=H4,?_,?_⟩
  ·tm_up;refine aY (fun _=>?_) (fun _=>?_)
   ·tm_up;obtain⟨i2,hi2,aeP⟩:=Pl (n2 / 24) (k:=10) (by decide);obtain⟨ld',amU,amV⟩:=strAtD (l:=LI) (m:=i2) (by show i2<10;omega);exact Rc (aX.of k5) (n:=i2) hi2 amV ⟨ld',amU,rfl,rfl⟩
   ·exact⟨ld,Pc,rfl,rfl⟩
  clear Pc eld hi1 aiK i1 ld;rintro _ H' ⟨ld,Pc,rfl,eH⟩;have eH:=eH.symm;subst eH;refine aeO ?_;refine ie fun N hN=>?_;tm_up;refine hN _ _ ?_;clear hN N;generalize n2 / 240=n3;refine ie fun N hN=>?_;tm_up;intro p0 s0 g0 hp0;have S5:=aq.upd (o:=.tup [V.str s0.1.str,V.int s0.2]) hp0;have k6:=ae (H:=H4) (a:=p0) (o:=.tup [V.str s0.1.str,V.int s0.2]);generalize upd H4 p0 (.tup [V.str s0.1.str,V.int s0.2])=H5 at S5 k6;refine hN _ _ ?_;clear hN N;refine⟨fun σ H'=>∃(ps:Addr)(sg:Sn),σ=[some (.int n3),some (.ref m0),some (.ref m1),some (.str wy.str),some (.str nm),some (.str ld),some (.ref ps),none]/\aq H5 H'/\H' ps=some (.tup [.str sg.1,.int sg.2])/\sg.1∈oZ,?_,?_⟩
  ·tm_up;refine aY (fun _=>?_) (fun _=>?_)
   ·rw[tJ];refine⟨by show 2<=sizeLine;decide,fun c0 hc0=>?_⟩;have T0:=aq.upd (o:=.tup [V.str "G",V.int (100)]) hc0;have t0:=ae (H:=H5) (a:=c0) (o:=.tup [V.str "G",V.int (100)]);generalize upd H5 c0 (.tup [V.str "G",V.int (100)])=G0 at T0 t0;refine⟨by show 2<=sizeLine;decide,fun c1 hc1=>?_⟩;have T1:=aq.upd (o:=.tup [V.str "R",V.int (1)]) hc1;have t1:=ae (H:=G0) (a:=c1) (o:=.tup [V.str "R",V.int (1)]);generalize upd G0 c1 (.tup [V.str "R",V.int (1)])=G1 at T1 t1;refine⟨by show 2<=sizeLine;decide,fun c2 hc2=>?_⟩;have T2:=aq.upd (o:=.tup [V.str "g",V.int (0)]) hc2;have t2:=ae (H:=G1) (a:=c2) (o:=.tup [V.str "g",V.int (0)]);generalize upd G1 c2 (.tup [V.str "g",V.int (0)])=G2 at T2 t2;refine⟨1,rfl,by show 2<=sizeLine;decide,fun c3 hc3=>?_⟩;have T3:=aq.upd (o:=.tup [V.str "s",V.int (-1)]) hc3;have t3:=ae (H:=G2) (a:=c3) (o:=.tup [V.str "s",V.int (-1)]);generalize upd G2 c3 (.tup [V.str "s",V.int (-1)])=G3 at T3 t3;refine⟨by show 2<=sizeLine;decide,fun c4 hc4=>?_⟩;have T4:=aq.upd (o:=.tup [V.str "",V.int (0)]) hc4;have t4:=ae (H:=G3) (a:=c4) (o:=.tup [V.str "",V.int (0)]);generalize upd G3 c4 (.tup [V.str "",V.int (0)])=G4 at T4 t4;refine⟨by show 2<=sizeLine;decide,fun c5 hc5=>?_⟩;have T5:=aq.upd (o:=.tup [V.str "3",V.int (3)]) hc5;have t5:=ae (H:=G4) (a:=c5) (o:=.tup [V.str "3",V.int (3)]);generalize upd G4 c5 (.tup [V.str "3",V.int (3)])=G5 at T5 t5;refine⟨by show 6<=sizeLine;decide,fun l hl=>?_⟩;have T6:=aq.upd (o:=.lst [V.ref c0,V.ref c1,V.ref c2,V.ref c3,V.ref c4,V.ref c5]) hl;tm_up;obtain⟨i2,hi2,aeP⟩:=Pl (n3 / 21600) (k:=6) (by decide);have SS:=(((((T0.trans T1).trans T2).trans T3).trans T4).trans T5).trans T6
    match i2,hi2,aeP with
    |0,hi2,_=>exact Rc (aX.of ae) (n:=0) hi2 rfl ⟨c0,("G",100),rfl,SS,T6 _ _ (T5 _ _ (T4 _ _ (T3 _ _ (T2 _ _ (T1 _ _ t0))))),by lk⟩
    |1,hi2,_=>exact Rc (aX.of ae) (n:=1) hi2 rfl ⟨c1,("R",1),rfl,SS,T6 _ _ (T5 _ _ (T4 _ _ (T3 _ _ (T2 _ _ t1)))),by lk⟩
    |2,hi2,_=>exact Rc (aX.of ae) (n:=2) hi2 rfl ⟨c2,("g",0),rfl,SS,T6 _ _ (T5 _ _ (T4 _ _ (T3 _ _ t2))),by lk⟩
    |3,hi2,_=>exact Rc (aX.of ae) (n:=3) hi2 rfl ⟨c3,("s",-1),rfl,SS,T6 _ _ (T5 _ _ (T4 _ _ t3)),by lk⟩
    |4,hi2,_=>exact Rc (aX.of ae) (n:=4) hi2 rfl ⟨c4,("",0),rfl,SS,T6 _ _ (T5 _ _ t4),by lk⟩
    |5,hi2,_=>exact Rc (aX.of ae) (n:=5) hi2 rfl ⟨c5,("3",3),rfl,SS,T6 _ _ t5,by lk⟩
    |i2+6,_,aeP=>exact absurd aeP (by omega)
   ·exact⟨p0,(s0.1.str,s0.2),rfl,aq.refl _,k6,akE _⟩
  rintro _ H6 ⟨ps,sg,rfl,S6,hps,hsk⟩;tm_up;refine⟨by show 8<=sizeLine;decide,fun pd hpd=>?_⟩;have S7:=aq.upd (o:=.tup [V.str wy.str,V.str nm,V.str ld,V.int (n3 / 129600),V.ref ps,V.int (n3 / 7 % 1003-1),V.int (n3 / 7021 % 11),V.bl (decide (V.int (n3 % 2)=V.int 1))]) hpd;exact q pd ⟨wy,nm,ld,n3 / 129600,sg,n3 / 7 % 1003-1,n3 / 7021 % 11,decide (V.int (n3 % 2)=V.int 1)⟩ _ (((S14.trans S5).trans S6).trans S7) ⟨pd,ps,rfl,ae,S7 _ _ hps⟩ ⟨VN hnm,VN Pc,hsk⟩
inductive NC (vs:List V)(H:Hp)(Q:VK)(E:XK):Prop
 |mk (seed k:Int) (eO:vs=[.int seed,.int k]) (eP:∀ r:Int,0<=r->r<65521->Q (.int r) H):NC vs H Q E
theorem Ye (T:Txt K w mg t):bA P w K mg base k9 (0+1) t.nG t.Hy ["_law_seed","_law_k"] NC:=by
 refine T.nZ.ok Bt (fun vs H Q E h=>?_) (fun cdv A outer s H vs Q E hr h=>?_)
 ·obtain⟨_,_,rfl,_⟩:=h;rfl
 ·obtain⟨seed,k,rfl,q⟩:=h;refine aS (af (aK (i:=2) Bt.nd rfl (Or.inl rfl) (aI c7 (aI (bP.or (aM.or bR)) (aI (bP.or (aM.or bR)) (aI (nc.or ng) (aI c7 (pv 0) ai) ai) (aI (nc.or ng) (pv 1) ai)) ai) ai)) (af (aK (i:=3) Bt.nd rfl (Or.inl rfl) (aI c7 (aI (bP.or (aM.or bR)) (aI (bP.or (aM.or bR)) (aI (nc.or ng) (pv 2) (pv 2)) (aI (nc.or ng) (pv 1) ai)) (aI c7 (aI fU (pv 0) ai) ai)) ai)) (aj (aw (aI c7 (aI (bP.or (aM.or bR)) (aI fU (aI (nc.or ng) (pv 3) (pv 3)) ai) (pv 3)) ai))))) ?_;have p2:(2:Int) ^ 64=18446744073709551616:=by decide
  refine⟨_,rfl,_,_,rfl,rfl,(by decide:(0:Int)<1000003),.inl ⟨_,_,rfl,rfl,.inr ⟨by decide,by decide⟩,_,rfl,.inl ⟨_,_,rfl,rfl,.inr ⟨by decide,by decide⟩,.inl ⟨_,_,rfl,rfl,.inl ⟨_,_,rfl,rfl,_,_,rfl,rfl,(by decide:(0:Int)<1000033),?_⟩⟩⟩⟩⟩;generalize hone:(seed % 1000003 * 48271+k * 30011+17) % 1000033=one;have b1:0<=one/\one<1000033:=by omega
  refine⟨_,rfl,_,rfl,.inl ⟨_,_,rfl,rfl,.inl ⟨by rw[p2];omega,by rw[p2];omega⟩,_,rfl,.inl ⟨_,_,rfl,rfl,.inr ⟨by decide,by decide⟩,.inl ⟨_,_,rfl,rfl,_,rfl,_,_,rfl,rfl,⟨by decide,by decide⟩,_,_,rfl,rfl,(by decide:(0:Int)<997),.inl ⟨_,_,rfl,rfl,_,_,rfl,rfl,(by decide:(0:Int)<999983),?_⟩⟩⟩⟩⟩;generalize apD:(one * one+k * 613+seed / 1000003 % 997) % 999983=two;have b2:0<=two/\two<999983:=by omega
  refine⟨_,rfl,_,rfl,.inl ⟨_,_,rfl,rfl,.inl ⟨by rw[p2];omega,by rw[p2];omega⟩,_,_,rfl,rfl,⟨by decide,by decide⟩,_,rfl,.inl ⟨_,_,rfl,rfl,_,_,rfl,rfl,(by decide:(0:Int)<65521),?_⟩⟩⟩;exact q _ (by omega) (by omega)
inductive ND (K:Frag)(vs:List V)(H:Hp)(Q:VK)(E:XK):Prop
 |mk (a:Addr) (ns:List Int) (k m:Nat) (eO:vs=[.ref a,.int (k:Int),.int (m:Int)]) (eP:aX K H a (ns.map V.int)) (hX:ns.length<=63) (kC:m<=48) (rq:∀(l:Addr)(xs:List V)(oh:List De)(H':Hp),H l=none->aq H H'->H' l=some (.lst xs)->i0 H' xs oh->oh.length<=88->Q (.ref l) H'):ND K vs H Q E
theorem Yf (T:Txt K w mg t):bA P w K mg base k9 (0+3) t.nH t.Hz ["_law_script","_law_at","_law_many"] (ND K):=by
 have lE:=E7 (P:=P) (base:=base) T;have Lc:=RH (P:=P) (base:=base) T;have Ib:=Ye (P:=P) (base:=base) T;refine T.vG.ok iq (fun vs H Q E h=>?_) (fun cdv A outer s H vs Q E hr h=>?_)
 ·obtain⟨_,_,_,_,rfl,_⟩:=h;rfl
 ·obtain⟨a,ns,k,m,rfl,hS,hl,hm,q⟩:=h;refine aS (af (aK (i:=3) iq.nd rfl (Or.inl rfl) (aD lE (hr.mono (by decide)) rfl T.lX T.gb.kp T.jG .nil aP (aa (pv 0) (aa (pv 1) ag)))) (af (aK (i:=4) iq.nd rfl (Or.inl rfl) (aI (nc.or ng) (aI (nc.or ng) ai ai) ai)) (af (aK (i:=5) iq.nd rfl (Or.inl rfl) (bx ag)) (af (aK (i:=6) iq.nd rfl (Or.inl rfl) (aI eW (pv 3) (aI W5 ai ai))) (af (Mp PassesOwn.never (bN (PW.pt (cJ (ar aaC (pv 6) ai (az _)) (dy (ar qz (aJ (aE.or aF) rfl T.bO bM (aa (pv 5) ag)) ai (az _)))))) (af (bc (jr plainAttrs_list slot_list_append type_list_append bK (pv 5) (aa (aD Lc (hr.mono (by decide)) rfl T.EL T.lB.kp T.tM .nil aP (aa (aI c7 (pv 6) (pv 4)) ag)) ag))) (aj (aK (i:=6) iq.nd rfl (Or.inl rfl) (aI aej (pv 6) (pv 4)))))) (af (aO (ar aaD (pv 3) (aI W5 ai ai) (az _)) (aj (aw (pv 5))) aB) (af (gR PassesOwn.never rfl (m9 rfl T.mf (aa (pv 2) ag)) (aU (i:=7) iq.nd rfl (Or.inl rfl)) (af (aK (i:=8) iq.nd rfl (Or.inl rfl) (aI (bP.or (aM.or bR)) (pv 3) (aI (nc.or ng) ai (aD lE (hr.mono (by decide)) rfl T.lX T.gb.kp T.jG .nil aP (aa (pv 0) (aa (aI (bP.or (aM.or bR)) (aI (bP.or (aM.or bR)) (pv 1) ai) (pv 7)) ag)))))) (af (aK (i:=9) iq.nd rfl (Or.inl rfl) (aI (bP.or (aM.or bR)) (aD Ib (hr.mono (by decide)) rfl T.BH T.nZ.kp T.vF .nil aP (aa (pv 8) (aa (pv 7) ag))) (aI (nc.or ng) ai (aD Ib (hr.mono (by decide)) rfl T.BH T.nZ.kp T.vF .nil aP (aa (pv 8) (aa (aI (bP.or (aM.or bR)) (pv 7) ai) ag)))))) (aj (bc (jr plainAttrs_list slot_list_append type_list_append bK (pv 5) (aa (aD Lc (hr.mono (by decide)) rfl T.EL T.lB.kp T.tM .nil aP (aa (aI (bP.or (aM.or bR)) (pv 9) (aI (nc.or ng) (aI (nc.or ng) ai ai) (aD Ib (hr.mono (by decide)) rfl T.BH T.nZ.kp T.vF .nil aP (aa (pv 8) (aa (aI (bP.or (aM.or bR)) (pv 7) ai) ag))))) ag)) ag))))))) (aj (aw (pv 5)))))))))) ?_;refine⟨_,rfl,_,rfl,a,ns,k,rfl,hS,hl,?_⟩;tm_up;refine⟨big (by show 0<=1000;omega),fun l hl0=>?_⟩;tm_up;refine⟨fun mm σ H'=>∃(left:Int)(xs:List V)(oh:List De),σ=[some (.ref a),some (.int (k:Int)),some (.int (m:Int)),some (.int (y9 ns k)),some (.int (65521 * 65521 * 65521)),some (.ref l),some (.int left),none,none,none]/\aq H H'/\H' l=some (.lst xs)/\i0 H' xs oh/\mm=40-oh.length/\oh.length<=40,
   ⟨40,_,[],[],rfl,aq.upd hl0,ae,i0.nil,rfl,Nat.zero_le _⟩,?_⟩
  rintro mm σ H' ⟨left,xs,oh,rfl,s1,h1,dd,rfl,hlen⟩;have xl:=bS dd.1;refine kh (decide (0<left)&&decide ((oh.length:Int)<40)) ?_ ?_
  ·tm_up;refine aY (fun h=>?_) (fun h=>?_)
   ·refine⟨_,rfl,.inl ⟨l,_,rfl,.inl (aX.of h1),?_⟩⟩;tm_up;rw[xl];exact⟨by rw[h,Bool.true_and],rfl⟩
   ·exact⟨by rw[Bool.eq_false_iff.mpr h];rfl,rfl⟩
  refine aY (fun h40=>?_) (fun _=>?_)
  ·have apF:oh.length<40:=by
    have:=of_decide_eq_true (Bool.and_eq_true_iff.mp h40).2;omega
   refine⟨fun σ' H'=>∃ m',m'<40-oh.length/\∃(left:Int)(xs:List V)(oh:List De),σ'=[some (.ref a),some (.int (k:Int)),some (.int (m:Int)),some (.int (y9 ns k)),some (.int (65521 * 65521 * 65521)),some (.ref l),some (.int left),none,none,none]/\aq H H'/\H' l=some (.lst xs)/\i0 H' xs oh/\m'=40-oh.length/\oh.length<=40,fun _ _ h=>h,?_⟩;refine⟨_,rfl,.inl ⟨rfl,_,aX.of h1⟩,?_⟩;tm_up;intro p de H2 s2 hde ok;refine⟨l,_,_,rfl,rfl,s2 _ _ h1,aW (by omega),?_⟩;tm_up;refine⟨40-(oh.length+1),by omega,_,xs++[.ref p],oh++[de],rfl,eF (s1.trans s2) hl0,ae,i0.write (s2 _ _ h1) (i0.snoc (dd.same s2) hde ok),by rw[length_append];rfl,by rw[length_append];show _+1<=_;omega⟩
  ·refine aeO ?_;tm_up;refine aY (fun _=>?_) (fun _=>?_)
   ·exact⟨_,rfl,q l xs oh H' hl0 s1 h1 dd (by omega)⟩
   tm_up;refine⟨by omega,by omega,?_⟩;refine kZ (n:=((m:Int)).toNat) (fun i σ H'=>∃(u v x:Option V)(xs:List V)(oh:List De),σ=[some (.ref a),some (.int (k:Int)),some (.int (m:Int)),some (.int (y9 ns k)),some (.int (65521 * 65521 * 65521)),some (.ref l),some (.int left),u,v,x]/\aq H H'/\H' l=some (.lst xs)/\i0 H' xs oh/\oh.length<=40+i) ⟨none,none,none,xs,oh,rfl,s1,h1,dd,by omega⟩ ?_ ?_
   ·clear xl hlen h1 s1 dd;rintro i σ H1 hi ⟨u,v,x,xs,oh,rfl,s1,h1,dd,dl⟩;have xl:=bS dd.1;tm_up;refine⟨a,ns,k+1+i,?_,s1.seq hS,hl,?_⟩
    ·show [V.ref a,V.int ((k:Int)+1+(0+(i:Int)))]=[V.ref a,V.int ((k+1+i:Nat):Int)];have e:(k:Int)+1+(0+(i:Int))=((k+1+i:Nat):Int):=by omega
     rw[e]
    tm_up;refine⟨.inl ⟨by decide,by decide⟩,.inl ⟨_,_,rfl,rfl,?_⟩⟩;tm_up;refine⟨_,_,rfl,fun r1 h10 h11=>?_⟩;tm_up;refine⟨_,_,rfl,fun r2 h20 h21=>?_⟩;refine .inl ⟨_,_,rfl,rfl,.inl ⟨by decide,by decide⟩,.inl ⟨_,_,rfl,rfl,?_⟩⟩;refine⟨_,rfl,.inl ⟨rfl,_,aX.of h1⟩,?_⟩;tm_up;refine⟨_,_,rfl,fun r3 h30 h31=>?_⟩;refine .inl ⟨_,_,rfl,rfl,.inl ⟨by decide,by decide⟩,.inl ⟨_,_,rfl,rfl,?_⟩⟩;refine⟨_,rfl,fun p de H2 s2 hde ok=>?_⟩;refine⟨l,_,_,rfl,rfl,s2 _ _ h1,aW (by omega),?_⟩;refine⟨_,_,_,xs++[.ref p],oh++[de],rfl,eF (s1.trans s2) hl0,ae,i0.write (s2 _ _ h1) (i0.snoc (dd.same s2) hde ok),by rw[length_append];show _+1<=_;omega⟩
   ·rintro σ H1 ⟨u,v,x,xs,oh,rfl,s1,h1,dd,dl⟩;exact⟨_,rfl,q l xs oh H1 hl0 s1 h1 dd (by omega)⟩
inductive NF (vs:List V)(H:Hp)(Q:VK)(E:XK):Prop
 |mk (d:Addr) (v:V) (vw:Vw) (de:De) (eO:vs=[.ref d,v]) (eP:uO H d vw) (hX:yA H v de) (kC:∀ H',aq H H'->Q (.int (cf vw de)) H'):NF vs H Q E
theorem BR (T:Txt K w mg t):bA P w K mg base k9 (0+1) t.nI t.HA ["_law_voices","_law_deed"] NF:=by
 refine T.n0.ok MX (fun vs H Q E h=>?_) (fun cdv A outer s H vs Q E hr h=>?_)
 ·obtain⟨_,_,_,_,rfl,_⟩:=h;rfl
 ·obtain⟨d,v,vw,de,rfl,hd,⟨p,ps,rfl,hp,hps⟩,q⟩:=h;refine aS (af (aK (i:=2) MX.nd rfl (Or.inl rfl) (cK (d8 (bh (aJ d9 rfl T.bu br (aa (aeg (j5 hr) (pv 0) (aC av (pv 1) ai (fun _ _=>rfl)) (b8 ag) ⟨rfl,rfl,rfl,rfl⟩) (aa (gK (v:=.ty "list") rfl T.iy ia rfl) ag)))) (aJ (aE.or aF) rfl T.bO bM (aa (jc (j5 hr) (pv 0) (aC av (pv 1) ai (fun _ _=>rfl)) (fun _ _=>rfl)) ag)) ai))) (af (aO (ar (bg.or (aR (aA hr))) (aI c7 (aC av (pv 1) ai (fun _ _=>rfl)) ai) ai (az _)) (aj (aw (aC av (bx (aa (A0 uH ai) (aa (aI eW (A0 uH (pv 2)) ai) (aa (aI (bP.or (aM.or bR)) (pv 2) ai) (aa (aI W5 ai ai) ag))))) (aI c7 (aI fU (aC av (pv 1) ai (fun _ _=>rfl)) ai) ai) (fun _ _=>rfl)))) aB) (aj (aw (aI c7 (aI fU (aC av (pv 1) ai (fun _ _=>rfl)) ai) (aI (bP.or (aM.or bR)) (pv 2) ai)))))) ?_;refine⟨fun v H'=>v=.int (Eg vw de.n)/\aq H H',?_,?_⟩
  ·refine⟨_,rfl,d,rfl,.inl (let ⟨kvs,e,_⟩:=hd;⟨kvs,.inl e⟩),_,rfl,cg (i:=1) hp rfl ?_⟩;refine⟨by show 0<=sizeLine;decide,fun t0 ht0=>?_⟩;have s0:=aq.upd (o:=.tup []) ht0;have h0:=ae (H:=H) (a:=t0) (o:=.tup []);generalize upd H t0 (.tup [])=H1 at s0 h0;unfold Eg;rcases (hd.same s0).look de.n with ⟨f1,g1⟩|⟨th,v1,f1,g1,t1⟩
   ·rw[f1];exact⟨_,g1,_,_,_,_,rfl,iV.tup h0,rfl,_,rfl,bF ⟨rfl,s0⟩⟩
   rw[f1];cases th with
   |cn ld lt sl tn =>
    obtain⟨pt,rfl,QD⟩:=t1;exact⟨_,g1,_,_,_,_,rfl,iV.tup QD,rfl,_,rfl,bF ⟨rfl,s0⟩⟩
   |pl ss =>
    obtain⟨l,ys,rfl,hl,g⟩:=t1;refine⟨_,g1,_,_,_,_,rfl,iV.lst hl,rfl,_,rfl,cX ?_⟩;refine⟨_,rfl,_,rfl,cg (i:=1) (s0 _ _ hp) rfl ⟨d,_,rfl,g1,.inl ⟨l,ys,rfl,.inl (aX.of hl),?_,s0⟩⟩⟩;rw[bS g]
  ·rintro _ H1 ⟨rfl,s1⟩;have sz0:0<=Eg vw de.n:=by
    unfold Eg;split
    ·omega
    ·decide
   have hp1:=s1 _ _ hp;unfold cf at q;refine⟨_,rfl,cg (i:=3) hp1 rfl ?_⟩;tm_up;refine aY (fun h1=>?_) (fun h1=>?_)
   ·rw[if_pos (V.int.inj (of_decide_eq_true h1))]at q;tm_up;refine⟨by show 4<=sizeLine;decide,fun l hl=>?_⟩;refine⟨_,rfl,cg (i:=3) (aq.upd hl _ _ hp1) rfl ?_⟩;tm_up;obtain⟨m,hm,hm4⟩:=Pl (de.pl / 16) (k:=4) (by decide);rw[hm,Int.toNat_natCast]at q;have sl:=aq.upd (o:=.lst [V.int (-1),V.int (-Eg vw de.n-1),V.int (Eg vw de.n+40),V.int (10 ^ 12)]) hl;refine Rc (aX.of ae) (n:=m) hm ?_ (q _ (s1.trans sl))
    match m,hm4 with
    |0,_=>rfl
    |1,_=>rfl
    |2,_=>rfl
    |3,_=>rfl
    |m+4,h=>exact absurd h (by omega)
   ·rw[if_neg (fun z=>h1 (decide_eq_true (congrArg V.int z)))]at q;refine⟨_,rfl,cg (i:=3) hp1 rfl ?_⟩;tm_up;exact⟨by omega,q _ s1⟩
inductive ua (vs:List V)(H:Hp)(Q:VK)(E:XK):Prop
 |mk (d:Addr) (vw:Vw) (n:Str) (eO:vs=[.ref d,.str n]) (eP:uO H d vw) (hX:n.length<=1000) (kC:vw.length<=12) (rq:Q (.str (Lw (c9 vw n))) H):ua vs H Q E
theorem Fb (T:Txt K w mg t):bA P w K mg base k9 (0+1) t.dq t.nJ ["_law_voices","_law_name"] ua:=by
 refine T.gY.ok tH (fun vs H Q E h=>?_) (fun cdv A outer s H vs Q E hr h=>?_)
 ·obtain⟨_,_,_,rfl,_⟩:=h;rfl
 ·obtain⟨d,vw,n,rfl,hd,hn,hw,q⟩:=h;refine aS (af (aO (bN (PW.pt (j4 (ar qz (aJ (aE.or aF) rfl T.bO bM (aa (pv 1) ag)) ai (az _)) (h9 (ar aaC (aJ (aE.or aF) rfl T.bO bM (aa (pv 1) ag)) ai (az _)))))) (aj (aw ax)) aB) (af (gR PassesOwn.never rfl (adO (pv 1)) (aU (i:=2) tH.nd rfl (Or.inl rfl)) (aj (aO (ar (qD.or qE) (pv 2) ax rfl) (aj (aw ax)) aB))) (af (aO (QU (ain (j5 hr) (pv 1) (pv 0))) (aj (aw ax)) aB) (aj (aw (cK (d8 (ar (bg.or (aR (aA hr))) (aJ abQ rfl T.bO bM (aa (pv 0) ag)) ai (az _)) ax ax))))))) ?_;have xb:n.length<=sizeLine:=Nat.le_trans hn (by decide);unfold c9 at q;refine kh (!(decide (1<=n.length)&&decide (n.length<=8))) ?_ ?_
  ·refine⟨_,rfl,.inr ⟨_,rfl,xb,?_⟩⟩;tm_up;refine aY (fun h1=>?_) (fun h1=>?_)
   ·have h1:=of_decide_eq_true h1;rw[decide_eq_false (show ¬ 1<=n.length by omega)];exact⟨rfl,rfl⟩
   ·have h1:1<=n.length:=Nat.lt_of_not_le fun z=>h1 (decide_eq_true (by omega));rw[decide_eq_true h1];refine⟨_,rfl,.inr ⟨_,rfl,xb,?_⟩⟩;tm_up;refine⟨?_,rfl⟩;rw[Bool.true_and,<-decide_not];exact decide_eq_decide.mpr (by omega)
  refine aY (fun h1=>?_) (fun h1=>?_)
  ·have hb:nameB n=false:=by
    unfold nameB;cases e1:decide (1<=n.length) with
    |false=>rfl
    |true =>
     rw[e1]at h1;cases e2:decide (n.length<=8) with
     |false=>rfl
     |true=>rw[e2]at h1;cases h1
   rw[if_pos hb]at q;exact q
  have hb1:(decide (1<=n.length)&&decide (n.length<=8))=true:=by
   cases z:(decide (1<=n.length)&&decide (n.length<=8)) with
   |true=>rfl
   |false=>rw[z]at h1;exact absurd rfl h1
  obtain⟨hb2,hb3⟩:=Bool.and_eq_true_iff.mp hb1;tm_up;refine agi (z:=n) (fun i σ H'=>∃ v,σ=[some (.ref d),some (.str n),v]/\H'=H/\∀(j:Nat) c,j<i->n.cps[j]? = some c->Ph ⟨#[c]⟩ "abcdefghijklmnopqrstuvwxyz"=true) ⟨none,rfl,rfl,fun j c hj=>by omega⟩ ?_ ?_
  ·rintro i c σ H1 hc ⟨v,rfl,eH,hin⟩;have eH:=eH.symm;subst eH;tm_up;refine aY (fun h2=>?_) (fun h2=>?_)
   ·have hb:nameB n=false:=by
     unfold nameB;rw[hb2,hb3,Bool.true_and,Bool.true_and];refine List.all_eq_false.mpr ⟨c,?_,?_⟩
     ·exact mem_of_getElem? (i:=i) (by simpa using hc)
     ·show ¬(!(Builtin.Str.occurrences _ _ 0 _ 1).isEmpty)=true;intro z;rw[z]at h2;cases h2
    rw[if_pos hb]at q;exact q
   ·refine⟨_,rfl,rfl,fun j c' hj hc'=>?_⟩;rcases Nat.lt_or_ge j i with z|z
    ·exact hin j c' z hc'
    ·have e:j=i:=by omega
     subst e;rw[hc]at hc';cases hc';show(!(Builtin.Str.occurrences _ _ 0 _ 1).isEmpty)=true;cases z:(Builtin.Str.occurrences (Str.ofString "abcdefghijklmnopqrstuvwxyz") ⟨#[c]⟩ 0 (Str.ofString "abcdefghijklmnopqrstuvwxyz").length 1).isEmpty with
     |false=>rfl
     |true=>exact absurd (show(!!(Builtin.Str.occurrences (Str.ofString "abcdefghijklmnopqrstuvwxyz") ⟨#[c]⟩ 0 (Str.ofString "abcdefghijklmnopqrstuvwxyz").length 1).isEmpty)=true by rw[z];rfl) h2
  ·rintro σ H1 ⟨v,rfl,eH,hin⟩;have eH:=eH.symm;subst eH;have hb:¬ nameB n=false:=by
    unfold nameB;rw[hb2,hb3,Bool.true_and,Bool.true_and];intro z;obtain⟨c,hc,hc2⟩:=List.all_eq_false.mp z;obtain⟨j,hj⟩:=getElem?_of_mem hc;have hj':n.cps[j]? = some c:=by simpa using hj
    exact hc2 (hin j c (Array.getElem?_eq_some_iff.mp hj').1 hj')
   rw[if_neg hb]at q;tm_up;rcases hd.look n with ⟨f1,g1⟩|⟨th,v1,f1,g1,_⟩
   ·rw[f1,if_neg (by simp)]at q;refine⟨d,_,rfl,g1,_,rfl,bF ?_⟩;obtain⟨kvs,hk,kl⟩:=hd.len;refine AN (.str (if 12<=vw.length then "Full" else "")) ?_ ?_
    ·tm_up;refine⟨d,kvs,rfl,hk,?_⟩;tm_up;refine aY (fun h2=>?_) (fun h2=>?_)
     ·have:=V.int.inj (of_decide_eq_true h2);rw[if_pos (by omega)];exact⟨rfl,rfl⟩
     ·rw[if_neg (fun z=>h2 (decide_eq_true (congrArg V.int (by omega))))];exact⟨rfl,rfl⟩
    ·by_cases hl:12<=vw.length
     ·rw[if_pos hl]at q ⊢;exact q
     ·rw[if_neg hl]at q ⊢;exact q
   ·rw[f1,if_pos (show(some th).isSome=true from rfl)]at q;exact⟨d,_,rfl,g1,_,rfl,cX q⟩
inductive sf (vs:List V)(H:Hp)(Q:VK)(E:XK):Prop
 |mk (d:Addr) (v:V) (vw:Vw) (de:De) (eO:vs=[.ref d,v]) (eP:uO H d vw) (hX:yA H v de) (kC:Q (.str (Lw (iH vw de.ld de.lt de.sl))) H):sf vs H Q E
theorem BS (T:Txt K w mg t):bA P w K mg base k9 (0+1) t.cO t.lO ["_law_voices","_law_deed"] sf:=by
 refine T.gf.ok rM (fun vs H Q E h=>?_) (fun cdv A outer s H vs Q E hr h=>?_)
 ·obtain⟨_,_,_,_,rfl,_⟩:=h;rfl
 ·obtain⟨d,v,vw,de,rfl,hd,⟨p,ps,rfl,hp,hps⟩,q⟩:=h;refine aS (af (aO (QU (G9 (j5 hr) (aC av (pv 1) ai (fun _ _=>rfl)) (pv 0))) (aj (aw ax)) aB) (af (aO (cF (bh (aJ d9 rfl T.bu br (aa (jc (j5 hr) (pv 0) (aC av (pv 1) ai (fun _ _=>rfl)) (fun _ _=>rfl)) (aa (gK (v:=.ty "list") rfl T.iy ia rfl) ag))))) (aj (aw ax)) aB) (af (aK (i:=2) rM.nd rfl (Or.inl rfl) (cK (iU (bQ vf ai (aC av (pv 1) ai (fun _ _=>rfl)) (az _)) (iU (bQ qz (aC av (pv 1) ai (fun _ _=>rfl)) ai (az _)) (iU (bQ qz ai (aC av (pv 1) ai (fun _ _=>rfl)) (az _)) (lF (bQ qz (aC av (pv 1) ai (fun _ _=>rfl)) ai (az _)))))))) (aj (aw (cK (d8 (bh (pv 2)) ax ax))))))) ?_;unfold iH at q;refine⟨_,rfl,cg (i:=2) hp rfl ?_⟩;rcases hd.look de.ld with ⟨f1,g1⟩|⟨th,v1,f1,g1,t1⟩
  ·rw[f1]at q;exact⟨_,rfl,d,_,rfl,g1,_,rfl,cX q⟩
  rw[f1]at q;refine⟨_,rfl,d,_,rfl,g1,_,rfl,bF ?_⟩;refine⟨_,rfl,_,rfl,cg (i:=2) hp rfl ?_⟩;refine⟨d,_,rfl,g1,?_⟩;cases th with
  |cn ld lt sl tn =>
   obtain⟨pt,rfl,QD⟩:=t1;exact⟨_,_,_,_,rfl,iV.tup QD,rfl,_,rfl,cX q⟩
  |pl ss =>
   obtain⟨l,ys,rfl,hl,_⟩:=t1;refine⟨_,_,_,_,rfl,iV.lst hl,rfl,_,rfl,bF ?_⟩;refine AN (.bl (decide (ig de.lt de.sl))) ?_ ?_
   ·refine⟨_,rfl,cg (i:=5) hp rfl ?_⟩;tm_up;refine aY (fun h1=>?_) (fun h1=>?_)
    rotate_left
    ·rw[decide_eq_false (fun z:ig de.lt de.sl=>h1 (decide_eq_true z.1))];exact⟨rfl,rfl⟩
    refine⟨_,rfl,cg (i:=5) hp rfl ?_⟩;tm_up;refine aY (fun h2=>?_) (fun h2=>?_)
    rotate_left
    ·rw[decide_eq_false (fun z:ig de.lt de.sl=>h2 (decide_eq_true (by have:=z.2.1;omega)))];exact⟨rfl,rfl⟩
    refine⟨_,rfl,cg (i:=6) hp rfl ?_⟩;tm_up;refine aY (fun h3=>?_) (fun h3=>?_)
    rotate_left
    ·rw[decide_eq_false (fun z:ig de.lt de.sl=>h3 (decide_eq_true (by have:=z.2.2.1;omega)))];exact⟨rfl,rfl⟩
    refine⟨_,rfl,cg (i:=6) hp rfl ?_⟩;tm_up;refine⟨congrArg V.bl (decide_eq_decide.mpr ⟨fun z=>⟨of_decide_eq_true h1,?_,?_,?_⟩,fun z=>?_⟩),rfl⟩
    ·have:=of_decide_eq_true h2;omega
    ·have:=of_decide_eq_true h3;omega
    ·omega
    ·have:=z.2.2.2;omega
   ·refine AN (.str (Lw (if ig de.lt de.sl then none else some .tE))) ?_ q;refine⟨_,rfl,_,rfl,?_⟩
    by_cases z:ig de.lt de.sl
    ·rw[decide_eq_true z,if_pos z];exact cX ⟨rfl,rfl⟩
    ·rw[decide_eq_false z,if_neg z];exact bF ⟨rfl,rfl⟩
inductive ub (vs:List V)(H:Hp)(Q:VK)(E:XK):Prop
 |mk (d:Addr) (v:V) (vw:Vw) (de:De) (eO:vs=[.ref d,v]) (eP:uO H d vw) (hX:yA H v de) (kC:abW de) (rq:(de.wy=.put\/de.wy=.cut\/de.wy=.swap)) (QX:(∀ n ss,(n,Th.pl ss)∈vw->ss.length<=200)) (h6_:∀ H',aq H H'->Q (.str (Lw (qM vw de.wy de.n (cf vw de) de.sg))) H'):ub vs H Q E
theorem Fc (T:Txt K w mg t):bA P w K mg base k9 (0+2) t.dr t.nK ["_law_voices","_law_deed"] ub:=by
 have vS:=BR (P:=P) (base:=base) T;refine T.gZ.ok je (fun vs H Q E h=>?_) (fun cdv A outer s H vs Q E hr h=>?_)
 ·obtain⟨_,_,_,_,rfl,_⟩:=h;rfl
 ·obtain⟨d,v,vw,de,rfl,hd,⟨p,ps,rfl,hp,hps⟩,ok,hwy,agr,q⟩:=h;refine aS (af (af9 (i:=2) (j:=3) (k:=4) rfl je.nd rfl rfl rfl (by decide) (by decide) (by decide) rfl rfl rfl (aa (aC av (pv 1) ai (fun _ _=>rfl)) (aa (aC av (pv 1) ai (fun _ _=>rfl)) (aa (aC av (pv 1) ai (fun _ _=>rfl)) ag))) rfl) (af (aO (QU (G9 (j5 hr) (pv 3) (pv 0))) (aj (aw ax)) aB) (af (aO (cF (bh (aJ d9 rfl T.bu br (aa (jc (j5 hr) (pv 0) (pv 3) (fun _ _=>rfl)) (aa (gK (v:=.ty "list") rfl T.iy ia rfl) ag))))) (aj (aw ax)) aB) (af (aK (i:=5) je.nd rfl (Or.inl rfl) (aD vS (hr.mono (by decide)) rfl T.BI T.n0.kp T.vH .nil aP (aa (pv 0) (aa (pv 1) ag)))) (af (aO (bN (PW.pt (j4 (ar qz (pv 5) ai (az _)) (h9 (ar aaD (pv 5) (aI (bP.or (aM.or bR)) (aJ (aE.or aF) rfl T.bO bM (aa (jc (j5 hr) (pv 0) (pv 3) (fun _ _=>rfl)) ag)) (fM (vg.or kg) rfl T.HW G6 (aa (bQ (bg.or (aR (aA hr))) (pv 2) ax (az _)) ag))) (az _)))))) (aj (aw ax)) aB) (af (aK (i:=6) je.nd rfl (Or.inl rfl) (cK (iU (bQ (bg.or (aR (aA hr))) (aJ (aE.or aF) rfl T.bO bM (aa (aC av (pv 4) ai (fun _ _=>rfl)) ag)) ai (az _)) (iU (bQ (cW.or cV) (aC av (pv 4) ai (fun _ _=>rfl)) ax rfl) (iU (bQ vf ai (aC av (pv 4) ai (fun _ _=>rfl)) (az _)) (lF (bQ qz (aC av (pv 4) ai (fun _ _=>rfl)) ai (az _)))))))) (af (aO (bN (PW.pt (cJ (ar (rp.or (kE (aA hr))) (pv 2) ax (az _)) (dy (bN (PW.pt (j4 (cF (bh (pv 6))) (h9 (bN (PW.pt (cJ (ar (rp.or (kE (aA hr))) (aC av (pv 4) ai (fun _ _=>rfl)) ai (az _)) (dy (ar (cW.or cV) (aC av (pv 4) ai (fun _ _=>rfl)) ax rfl))))))))))))) (aj (aw ax)) aB) (aj (aw (cK (d8 (bN (PW.pt (cJ (ar (bg.or (aR (aA hr))) (pv 2) ax (az _)) (dy (ar (bg.or (aR (aA hr))) (aJ (aE.or aF) rfl T.bO bM (aa (jc (j5 hr) (pv 0) (pv 3) (fun _ _=>rfl)) ag)) ai (az _)))))) ax ax))))))))))) ?_;refine⟨_,rfl,cg (i:=0) hp rfl ⟨_,rfl,cg (i:=1) hp rfl ⟨_,rfl,cg (i:=4) hp rfl ⟨_,_,_,rfl,?_⟩⟩⟩⟩;rcases hd.look de.n with ⟨f1,g1⟩|⟨th,v1,f1,g1,t1⟩
  ·rw[lK f1]at q;exact⟨_,rfl,_,rfl,d,_,rfl,g1,_,rfl,cX (q _ (aq.refl _))⟩
  refine⟨_,rfl,_,rfl,d,_,rfl,g1,_,rfl,bF ?_⟩;refine⟨_,rfl,_,rfl,d,_,rfl,g1,?_⟩;cases th with
  |cn ld lt sl tn =>
   obtain⟨pt,rfl,QD⟩:=t1;rw[rK f1]at q;exact⟨_,_,_,_,rfl,iV.tup QD,rfl,_,rfl,cX (q _ (aq.refl _))⟩
  |pl ss =>
   obtain⟨l,ys,rfl,hl,g⟩:=t1;rw[rL f1]at q;have yl:=bS g;refine⟨_,_,_,_,rfl,iV.lst hl,rfl,_,rfl,bF ?_⟩;refine⟨_,rfl,_,rfl,d,_,vw,de,rfl,hd,⟨p,ps,rfl,hp,hps⟩,fun H1 s1=>?_⟩;have hl1:=s1 _ _ hl;have ab5:=s1 _ _ hps;have g2:=VA s1 g1;refine kh (decide (cf vw de<0\/(ss.length:Int)+(if de.wy=.put then 1 else 0)<=cf vw de)) ?_ ?_
   ·tm_up;refine aY (fun h1=>?_) (fun h1=>?_)
    ·rw[decide_eq_true (show cf vw de<0\/_ from .inl (of_decide_eq_true h1))];exact⟨rfl,rfl⟩
    refine⟨_,rfl,_,rfl,_,rfl,d,_,rfl,g2,.inl ⟨l,ys,rfl,.inl (aX.of hl1),?_⟩⟩;tm_up;refine .inl (.inr ⟨_,rfl,?_⟩);tm_up;refine⟨?_,rfl⟩;rw[show decide (V.str de.wy.str=V.str (Str.ofString "put"))=decide (de.wy=.put) from kn de.wy .put,yl];have h1':¬ cf vw de<0:=fun z=>h1 (decide_eq_true z);refine decide_eq_decide.mpr ?_
    by_cases z:de.wy=.put
    ·rw[decide_eq_true z,if_pos rfl,if_pos z];exact⟨.inr,fun y=>y.resolve_left h1'⟩
    ·rw[decide_eq_false z,if_neg (by decide),if_neg z];exact⟨.inr,fun y=>y.resolve_left h1'⟩
   refine aY (fun h1=>?_) (fun h1=>?_)
   ·rw[if_pos (of_decide_eq_true h1)]at q;exact q _ s1
   rw[if_neg (fun z=>h1 (decide_eq_true z))]at q;refine AN (.bl (VB de.sg)) ?_ ?_
   ·refine⟨_,rfl,cg (i:=0) ab5 rfl (.inr ⟨_,rfl,Nat.le_trans (aiE ok.sk) (by decide),?_⟩)⟩;unfold VB;refine .inl ⟨rfl,_,rfl,?_⟩;have e1:decide (V.int (de.sg.1.length:Int)=V.int 1)=decide (de.sg.1.length=1):=decide_eq_decide.mpr ⟨fun z=>by have:=V.int.inj z;omega,fun z=>congrArg V.int (by omega)⟩;rw[e1];cases b1:decide (de.sg.1.length=1) with
    |false=>exact bF ⟨rfl,rfl⟩
    |true =>
     refine cX ?_;refine⟨_,rfl,cg (i:=0) ab5 rfl ?_⟩;tm_up;show(if Ph de.sg.1 "GDRsdr.32" = true then _ else _);cases b2:Ph de.sg.1 "GDRsdr.32" with
     |false=>exact bF ⟨rfl,rfl⟩
     |true =>
      refine cX ?_;refine⟨_,rfl,cg (i:=1) ab5 rfl ?_⟩;tm_up;cases b3:decide (0<=de.sg.2) with
      |false=>exact bF ⟨rfl,rfl⟩
      |true =>
       refine cX ?_;refine⟨_,rfl,cg (i:=1) ab5 rfl ?_⟩;tm_up;exact⟨rfl,rfl⟩
   refine kh (decide (de.wy≠.cut/\iG de.sg=false)) ?_ ?_
   ·tm_up;rw[show decide (V.str de.wy.str=V.str (Str.ofString "cut"))=decide (de.wy=.cut) from kn de.wy .cut]
    by_cases z:de.wy=.cut
    ·rw[decide_eq_true z,decide_eq_false (show ¬(de.wy≠.cut/\iG de.sg=false) from fun y=>y.1 z)];exact bF ⟨rfl,rfl⟩
    rw[decide_eq_false z];refine cX ?_;refine kh (!iG de.sg) ?_ ?_
    ·rw[<-abV ok.sk];refine⟨_,rfl,_,rfl,?_⟩;cases b1:VB de.sg with
     |false=>exact cX ⟨rfl,rfl⟩
     |true =>
      refine bF ?_;refine kh (!decide (de.sg.2=0)&&Ph de.sg.1 "Rr.32") ?_ ⟨rfl,rfl⟩;refine⟨_,rfl,cg (i:=1) ab5 rfl ?_⟩;tm_up;have e1:decide (V.int de.sg.2=V.int 0)=decide (de.sg.2=0):=decide_eq_decide.mpr ⟨fun z=>V.int.inj z,fun z=>congrArg V.int z⟩;rw[e1];cases b2:decide (de.sg.2=0) with
      |true=>exact bF ⟨rfl,rfl⟩
      |false =>
       refine cX ?_;refine⟨_,rfl,cg (i:=0) ab5 rfl ?_⟩;tm_up;exact⟨rfl,rfl⟩
    ·refine⟨?_,rfl⟩;cases hg:iG de.sg with
     |true=>exact(decide_eq_false (fun y=>nomatch y.2)).symm
     |false=>exact(decide_eq_true (show de.wy≠.cut/\_ from⟨z,rfl⟩)).symm
   refine aY (fun h2=>?_) (fun h2=>?_)
   ·rw[if_pos (of_decide_eq_true h2)]at q;exact q _ s1
   rw[if_neg (fun z=>h2 (decide_eq_true z))]at q;refine AN (.str (Lw (if de.wy=.put/\200<=ss.length then some .Full else none))) ?_ (q _ s1);refine kh (decide (de.wy=.put/\200<=ss.length)) ?_ ?_
   ·tm_up;rw[show decide (V.str de.wy.str=V.str (Str.ofString "put"))=decide (de.wy=.put) from kn de.wy .put]
    by_cases z:de.wy=.put
    ·rw[decide_eq_true z];refine cX ?_;refine⟨_,rfl,_,rfl,d,_,rfl,g2,.inl ⟨l,ys,rfl,.inl (aX.of hl1),?_⟩⟩;tm_up;refine⟨decide_eq_decide.mpr ⟨fun y=>⟨z,?_⟩,fun y=>congrArg V.int ?_⟩,rfl⟩
     ·have:=V.int.inj y;omega
     ·have h2:=agr _ _ (dj f1);have:=y.2;omega
    ·rw[decide_eq_false z,decide_eq_false (fun y=>z y.1)];exact bF ⟨rfl,rfl⟩
   by_cases z:de.wy=.put/\200<=ss.length
   ·rw[decide_eq_true z,if_pos z];exact cX ⟨rfl,rfl⟩
   ·rw[decide_eq_false z,if_neg z];exact bF ⟨rfl,rfl⟩
theorem vT {st:Std}{d:De}{a:Int}(h:d.wy=.put\/d.wy=.cut\/d.wy=.swap):ij st d a=qM st.vw d.wy d.n a d.sg:=by
 unfold ij;rcases h with h|h|h <;> rw[h]
theorem aa7 (o:Option Rf):(decide (V.str (Lw o)=V.str (Str.ofString "")))=o.isNone:=by
 cases o with
 |none=>decide +kernel
 |some r=>cases r <;> decide +kernel
theorem aeQ {H:Hp}{xs:List V}{ws:List Vw}(h:Paired (DvR H) xs ws):xs.isEmpty=decide (ws=[]):=by
 cases h with
 |nil=>rfl
 |cons _ _=>exact(decide_eq_false (fun z=>nomatch z)).symm
inductive Fd (vs:List V)(H:Hp)(Q:VK)(E:XK):Prop
 |mk (v1 v2:V) (st:Std) (de:De) (eO:vs=[v1,v2]) (eP:Vz H v1 st) (hX:yA H v2 de) (kC:abW de) (rq:yj st.vw) (QX:∀ H',aq H H'->Q (.str (Lw (ij st de (cf st.vw de)))) H'):Fd vs H Q E
theorem RI (T:Txt K w mg t):bA P w K mg base k9 (0+3) t.jD t.yH ["_law_stand","_law_deed"] Fd:=by
 have Ic:=Fb (P:=P) (base:=base) T;have Fe:=BS (P:=P) (base:=base) T;have Ie:=Fc (P:=P) (base:=base) T;refine T.pK.ok qN (fun vs H Q E h=>?_) (fun cdv A outer s H vs Q E hr h=>?_)
 ·obtain⟨_,_,_,_,rfl,_⟩:=h;rfl
 ·obtain⟨v1,v2,st,de,rfl,⟨p,d,a,b,xs,ys,rfl,hp,hd,ha,px,hb,py⟩,hde,ok,w,q⟩:=h;obtain⟨p2,ps2,rfl,hp2,Yg⟩:=id hde;refine aS (af (aK (i:=2) qN.nd rfl (Or.inr rfl) (aC av (pv 0) ai (fun _ _=>rfl))) (af (aO (ar (bg.or (aR (aA hr))) (aC av (pv 1) ai (fun _ _=>rfl)) ax (az _)) (aj (aw (cK (d8 (ar (Mz (aA hr)) (aC av (pv 0) ai (fun _ _=>rfl)) (bx ag) (az _)) ax ax)))) aB) (af (aO (ar (bg.or (aR (aA hr))) (aC av (pv 1) ai (fun _ _=>rfl)) ax (az _)) (aj (aw (cK (d8 (ar (Mz (aA hr)) (aC av (pv 0) ai (fun _ _=>rfl)) (bx ag) (az _)) ax ax)))) aB) (af (aO (ar (bg.or (aR (aA hr))) (aC av (pv 1) ai (fun _ _=>rfl)) ax (az _)) (af (aO (QU (G9 (j5 hr) (aC av (pv 1) ai (fun _ _=>rfl)) (pv 2))) (aj (aw ax)) aB) (af (Xp (i:=3) qN.nd rfl rfl (cn:=["_law_name"]) rfl (fV.of rfl) (gL (fM wo rfl T.iy ia (aa (pv 2) ag))) (fun _=>(aU (i:=0) M0 rfl (Or.inl rfl))) (fun _=>(adL (bN (PW.pt (cJ (bh (aJ d9 rfl T.bu br (aa (jc (j5 hr) (pv 3) (pv 0) (fun _ _=>rfl)) (aa (gK (v:=.ty "tuple") rfl T.Nm Mx rfl) ag)))) (dy (ar (bg.or (aR (aA hr))) (aC av (jc (j5 hr) (pv 3) (pv 0) (fun _ _=>rfl)) ai (fun _ _=>rfl)) (aC av (pv 2) ai (fun _ _=>rfl)) (az _)))))))) (fun _=>(pv 0))) (aj (aw (cK (d8 (ar (Mz (aA hr)) (pv 3) (bx ag) (az _)) ax ax)))))) aB) (af (aO (ar (cW.or cV) (aC av (pv 1) ai (fun _ _=>rfl)) (bx (aa ax (aa ax (aa ax ag)))) rfl) (aj (aw (aD Ie (hr.mono (by decide)) rfl T.EN T.gZ.kp T.n6 .nil aP (aa (pv 2) (aa (pv 1) ag))))) aB) (af (aK (i:=4) qN.nd rfl (Or.inl rfl) (aD Ic (hr.mono (by decide)) rfl T.EM T.gY.kp T.n5 .nil aP (aa (pv 2) (aa (aC av (pv 1) ai (fun _ _=>rfl)) ag)))) (af (aO (bN (PW.pt (j4 (ar (rp.or (kE (aA hr))) (pv 4) ax (az _)) (h9 (ar (bg.or (aR (aA hr))) (aC av (pv 1) ai (fun _ _=>rfl)) ax (az _)))))) (aj (aw (pv 4))) aB) (aj (aw (aD Fe (hr.mono (by decide)) rfl T.BJ T.gf.kp T.lY .nil aP (aa (pv 2) (aa (pv 1) ag)))))))))))) ?_;have wl:=w.len;refine⟨_,rfl,cg (i:=0) hp rfl ?_⟩;refine⟨_,rfl,cg (i:=0) hp2 rfl ?_⟩;tm_up;rw[show decide (V.str de.wy.str=V.str (Str.ofString "undo"))=decide (de.wy=.undo) from kn de.wy .undo]
  by_cases z1:de.wy=.undo
  ·rw[decide_eq_true z1];refine cX ?_;have e0:ij st de (cf st.vw de)=if st.ps=[] then some .jv else none:=by unfold ij;rw[z1]
   rw[e0]at q;refine⟨fun v H'=>v=.str (Lw (if st.ps=[] then some .jv else none))/\aq H H',?_,fun v H' ⟨e1,e2⟩=>by rw[e1];exact q _ e2⟩;refine⟨_,rfl,cg (i:=1) hp rfl ?_⟩;refine⟨big (by show 0<=1000;omega),fun e1 he1=>?_⟩;have s0:=aq.upd (o:=.lst []) he1;refine⟨a,e1,xs,rfl,rfl,aX.of (s0 _ _ ha),aX.of ae,_,rfl,?_⟩;rw[aeQ px]
   by_cases zz:st.ps=[]
   ·rw[decide_eq_true zz,if_pos zz];exact cX ⟨rfl,s0⟩
   ·rw[decide_eq_false zz,if_neg zz];exact bF ⟨rfl,s0⟩
  rw[decide_eq_false z1];refine bF ?_;refine⟨_,rfl,cg (i:=0) hp2 rfl ?_⟩;tm_up;rw[show decide (V.str de.wy.str=V.str (Str.ofString "redo"))=decide (de.wy=.qL) from kn de.wy .qL]
  by_cases z2:de.wy=.qL
  ·rw[decide_eq_true z2];refine cX ?_;have e0:ij st de (cf st.vw de)=if st.fs=[] then some .jv else none:=by unfold ij;rw[z2]
   rw[e0]at q;refine⟨fun v H'=>v=.str (Lw (if st.fs=[] then some .jv else none))/\aq H H',?_,fun v H' ⟨e1,e2⟩=>by rw[e1];exact q _ e2⟩;refine⟨_,rfl,cg (i:=2) hp rfl ?_⟩;refine⟨big (by show 0<=1000;omega),fun e1 he1=>?_⟩;have s0:=aq.upd (o:=.lst []) he1;refine⟨b,e1,ys,rfl,rfl,aX.of (s0 _ _ hb),aX.of ae,_,rfl,?_⟩;rw[aeQ py]
   by_cases zz:st.fs=[]
   ·rw[decide_eq_true zz,if_pos zz];exact cX ⟨rfl,s0⟩
   ·rw[decide_eq_false zz,if_neg zz];exact bF ⟨rfl,s0⟩
  rw[decide_eq_false z2];refine bF ?_;refine⟨_,rfl,cg (i:=0) hp2 rfl ?_⟩;tm_up;rw[show decide (V.str de.wy.str=V.str (Str.ofString "drop"))=decide (de.wy=.drop) from kn de.wy .drop]
  by_cases z3:de.wy=.drop
  ·rw[decide_eq_true z3];refine cX ?_;have e0:ij st de (cf st.vw de)=oY st.vw de.n:=by unfold ij;rw[z3]
   rw[e0]at q;unfold oY at q;refine⟨_,rfl,cg (i:=1) hp2 rfl ?_⟩;rcases hd.look de.n with ⟨f1,g1⟩|⟨th,v1,f1,g1,t1⟩
   ·rw[f1]at q;exact⟨_,rfl,d,_,rfl,g1,_,rfl,cX (q _ (aq.refl _))⟩
   rw[f1]at q;refine⟨_,rfl,d,_,rfl,g1,_,rfl,bF ?_⟩;obtain⟨kvs,hk,ek⟩:=hd.keys;refine⟨_,rfl,rfl,d,kvs,rfl,.inl hk,fun l0 hl0=>?_⟩;rw[ek];have s1:=aq.upd (o:=.lst (st.vw.map fun q=>V.str q.1)) hl0;have h1:=ae (H:=H) (a:=l0) (o:=.lst (st.vw.map fun q=>V.str q.1));generalize upd H l0 (.lst (st.vw.map fun q=>V.str q.1))=H1 at s1 h1;refine⟨l0,rfl,⟨_,aX.of h1⟩,fun D b0 hD=>?_⟩;refine jP (K:=K) (xs:=st.vw.map fun q=>V.str q.1) (fun i zs σ H'=>∃ v,σ=[v,some (.ref p),some (.ref p2),some (.ref d),none,none]/\aq H1 H'/\H' D=some (.lst zs)/\zs=((st.vw.take i).filter (rG de.n)).map fun q=>V.str q.1) ⟨none,rfl,aq.upd hD,ae,rfl⟩ ?_ ?_ ?_
   ·rintro i zs σ H' ⟨v,rfl,s2,_⟩;exact aX.of (s2 _ _ h1)
   ·rintro i zs y σ H' hy ⟨v,rfl,s2,UW,rfl⟩ N hN;obtain⟨⟨m,th⟩,hq,rfl⟩:∃ qn,st.vw[i]? = some qn/\y=.str qn.1:=by
     rw[getElem?_map]at hy;cases e:st.vw[i]? with
     |none=>rw[e]at hy;cases hy
     |some z=>rw[e]at hy;exact⟨z,rfl,(Option.some.inj hy).symm⟩
    have hm:=mem_of_getElem? hq;have hi:i<st.vw.length:=(List.getElem?_eq_some_iff.mp hq).1;have s12:=s1.trans s2;obtain⟨v',g',t'⟩:=(hd.same s12).get (w.find hm);unfold Ql;refine kh (rG de.n (m,th)) ?_ ?_
    ·refine⟨_,rfl,_,rfl,d,_,rfl,g',?_⟩;cases th with
     |pl ss =>
      obtain⟨l,zs,rfl,hl,_⟩:=t';exact⟨_,_,_,_,rfl,iV.lst hl,rfl,_,rfl,bF ⟨rfl,rfl⟩⟩
     |cn ld lt sl tn =>
      obtain⟨pt,rfl,QD⟩:=t';refine⟨_,_,_,_,rfl,iV.tup QD,rfl,_,rfl,cX ?_⟩;refine⟨_,rfl,_,rfl,d,_,rfl,g',cg (i:=0) QD rfl ?_⟩;refine⟨_,rfl,cg (i:=1) (s12 _ _ hp2) rfl ?_⟩;refine .inl ⟨rfl,_,rfl,?_,rfl⟩;exact decide_eq_decide.mpr ⟨fun z=>V.str.inj z,fun z=>congrArg V.str z⟩
    have e4:(st.vw.take (i+1)).filter (rG de.n)=(st.vw.take i).filter (rG de.n)++(if rG de.n (m,th)=true then [(m,th)] else []):=by
     rw[take_succ,hq,List.filter_append]
     congr 1
     show List.filter _ [(m,th)]=_;cases hb3:rG de.n (m,th) with
     |true=>rw[List.filter_cons_of_pos hb3];rfl
     |false=>rw[List.filter_cons_of_neg (by rw[hb3];decide)];rfl
    cases hb2:rG de.n (m,th) with
    |true =>
     rw[hb2,if_pos rfl]at e4;refine cX ⟨_,rfl,UW,?_,hN _ _ _ ⟨_,rfl,eF s2 hD,ae,?_⟩⟩
     ·rw[length_map];refine aW (Nat.le_trans (List.length_filter_le _ _) ?_);rw[length_take];omega
     ·rw[e4,map_append];rfl
    |false =>
     rw[hb2,if_neg (by decide),append_nil]at e4;exact bF (hN _ _ _ ⟨_,rfl,s2,UW,by rw[e4]⟩)
   ·rintro zs σ H' ⟨v,rfl,s2,UW,rfl⟩;rw[length_map,take_length]at UW;refine⟨fun v LJ=>v=.str (Lw (if leans st.vw de.n=true then some .Bs else none))/\aq H' LJ,?_,fun v LJ ⟨e1,e2⟩=>by rw[e1];exact q _ ((s1.trans s2).trans e2)⟩;refine⟨_,rfl,big (by show 0<=1000;omega),fun e1 he1=>?_⟩;have s0:=aq.upd (o:=.lst []) he1;refine⟨D,e1,_,rfl,rfl,aX.of (s0 _ _ UW),aX.of ae,_,rfl,?_⟩;have e5:(((st.vw.filter (rG de.n)).map fun q=>V.str q.1).isEmpty=true) ↔ leans st.vw de.n=false:=by
     rw[List.isEmpty_iff,List.map_eq_nil_iff,List.filter_eq_nil_iff];exact⟨fun z=>List.any_eq_false.mpr z,fun z=>List.any_eq_false.mp z⟩
    refine aY (fun z=>?_) (fun z=>?_)
    ·rw[e5.mp z];exact⟨rfl,s0⟩
    ·cases zl:leans st.vw de.n with
     |false=>exact absurd (e5.mpr zl) z
     |true=>exact⟨rfl,s0⟩
  rw[decide_eq_false z3];refine bF ?_;refine⟨_,rfl,cg (i:=0) hp2 rfl ?_⟩;refine⟨big (by show 3<=1000;omega),fun l0 hl0=>?_⟩;have s1:=aq.upd (o:=.lst [V.str "put",V.str "cut",V.str "swap"]) hl0;have h1:=ae (H:=H) (a:=l0) (o:=.lst [V.str "put",V.str "cut",V.str "swap"]);generalize upd H l0 (.lst [V.str "put",V.str "cut",V.str "swap"])=H1 at s1 h1;refine .inl ⟨l0,_,rfl,.inl (aX.of h1),rfl,rfl,_,rfl,?_⟩;have hd1:=hd.same s1;have akG:=hde.same s1;have akH:=s1 _ _ hp2;rw[show inV (V.str de.wy.str) [V.str "put",V.str "cut",V.str "swap"]=decide (de.wy=.put\/de.wy=.cut\/de.wy=.swap) by cases de.wy <;> decide +kernel]
  by_cases z4:de.wy=.put\/de.wy=.cut\/de.wy=.swap
  ·rw[decide_eq_true z4];refine cX ?_;rw[vT z4]at q;refine⟨_,rfl,_,rfl,d,_,st.vw,de,rfl,hd1,akG,ok,z4,fun n ss hm=>(w.gd n ss hm).1,fun H2 s2=>q _ (s1.trans s2)⟩
  rw[decide_eq_false z4];refine bF ?_;refine⟨_,rfl,_,rfl,cg (i:=1) akH rfl ?_⟩;refine⟨d,st.vw,de.n,rfl,hd1,ok.nl,wl,?_⟩;have z5:de.wy=.add\/de.wy=.canon:=by
   cases hw:de.wy with
   |put=>exact absurd (.inl hw) z4
   |cut=>exact absurd (.inr (.inl hw)) z4
   |swap=>exact absurd (.inr (.inr hw)) z4
   |add=>exact .inl rfl
   |canon=>exact .inr rfl
   |drop=>exact absurd hw z3
   |undo=>exact absurd hw z1
   |qL=>exact absurd hw z2
  refine kh (!(c9 st.vw de.n).isNone||decide (de.wy=.add)) ?_ ?_
  ·tm_up;rw[aa7];cases hn:(c9 st.vw de.n).isNone with
   |false=>exact cX ⟨rfl,rfl⟩
   |true =>
    refine bF ?_;refine⟨_,rfl,cg (i:=0) akH rfl ?_⟩;tm_up;exact⟨kn de.wy .add,rfl⟩
  cases hn:c9 st.vw de.n with
  |some r =>
   have e0:ij st de (cf st.vw de)=some r:=by
    unfold ij;rcases z5 with z|z <;> rw[z]
    ·exact hn
    ·show(match c9 st.vw de.n with|some r=>some r|none=>_)=_;rw[hn]
   rw[e0]at q;exact cX ⟨_,rfl,q _ s1⟩
  |none =>
   rcases z5 with z|z
   ·have e0:ij st de (cf st.vw de)=none:=by
     unfold ij;rw[z];exact hn
    rw[e0]at q;rw[decide_eq_true z];exact cX ⟨_,rfl,q _ s1⟩
   ·have e0:ij st de (cf st.vw de)=iH st.vw de.ld de.lt de.sl:=by
     unfold ij;rw[z];show(match c9 st.vw de.n with|some r=>some r|none=>_)=_;rw[hn]
    rw[e0]at q;rw[decide_eq_false (show ¬ de.wy=.add by rw[z];decide)];exact bF ⟨_,rfl,_,rfl,d,_,st.vw,de,rfl,hd1,akG,q _ s1⟩
inductive Ff (C:Addr)(vs:List V)(H:Hp)(Q:VK)(E:XK):Prop
 |mk (x dx T_ B A:Addr) (i:Nat) (xs bs as:List V) (eO:vs=[.ref x]) (eP:H x=some (.ins C dx (K0 T_ (i:Int) B A))) (hX:H T_=some (.lst xs)) (kC:H B=some (.lst bs)) (rq:H A=some (.lst as)) (QX:T_≠B) (h6_:i+as.length<=xs.length) (h7_:xs.length+bs.length<=1000) (h8_:Q .non (upd H T_ (.lst (xs.take i++bs++xs.drop (i+as.length))))):Ff C vs H Q E
theorem wU (T:Txt K w mg t):bA P w K mg base k9 (0+1) t.h8 t.yI ["self"] (Ff t.bq):=by
 refine T.tN.ok Rn (fun vs H Q E h=>?_) (fun cdv A outer s H vs Q E hr h=>?_)
 ·obtain⟨_,_,_,_,_,_,_,_,_,rfl,_⟩:=h;rfl
 ·obtain⟨x,dx,T_,B,A_,i,xs,bs,as,rfl,hx,hT,hB,hA,hne,hi,hz,q⟩:=h;refine aS (aj (kD (b7 (pv 0) rfl) (Vh (b7 (pv 0) rfl) (lJ (b7 (pv 0) rfl)) (lJ (aI (bP.or (aM.or bR)) (b7 (pv 0) rfl) (aJ (aE.or aF) rfl T.bO bM (aa (b7 (pv 0) rfl) ag))))))) ?_;refine⟨_,rfl,x,_,dx,_,_,rfl,hx,T.gk,T.fc,ML _ _ _ _,?_⟩;refine⟨_,rfl,x,_,dx,_,_,rfl,hx,T.gk,T.fb,MK _ _ _ _,?_⟩;refine⟨_,rfl,x,_,dx,_,_,rfl,hx,T.gk,T.iA,Ri _ _ _ _,_,rfl,?_⟩;refine⟨_,rfl,x,_,dx,_,_,rfl,hx,T.gk,T.iA,Ri _ _ _ _,?_⟩;refine⟨_,rfl,x,_,dx,_,_,rfl,hx,T.gk,T.gJ,Qp _ _ _ _,?_⟩;refine .inl ⟨A_,as,rfl,.inl (aX.of hA),.inl ⟨_,_,rfl,rfl,_,rfl,?_⟩⟩;refine⟨T_,B,xs,bs,(i:Int),((i+as.length:Nat):Int),rfl,rfl,rfl,by simp,hT,hB,hne,by omega,by omega,by omega,Nat.le_trans hz (by decide),?_⟩;rw[Int.toNat_natCast,Int.toNat_natCast];exact q
inductive Fg (c:Cs)(vs:List V)(H:Hp)(Q:VK)(E:XK):Prop
 |mk (x:Addr) (F:Addr->Prop) (vw:Vw) (ps fs:List Vw) (eO:vs=[.ref x]) (eP:yx c H x F vw ps fs) (hX:ps.length+fs.length<=900) (kC:(ps=[]->∀ H',aq H H'->RX E c .jv H')) (rq:(∀ ps0 v,ps=ps0++[v]->∀ H',Fr F H H'->yx c H' x F v ps0 (fs++[vw])->Q .non H')):Fg c vs H Q E
theorem Fh (T:Txt K w mg t):bA P w K mg base (iE P w) (0+2) t.fZ t.yJ ["self"] (Fg (cs t)):=by
 have za:=wU (P:=P) (base:=base) T;refine T.tO.Q5 Ei (fun vs H Q E h=>?_) (fun cdv A outer s H vs Q E hr h=>?_)
 ·obtain⟨_,_,_,_,_,rfl,_⟩:=h;rfl
 ·obtain⟨x,F,vw,ps,fs,rfl,B,hps,q1,q2⟩:=h;refine aS (af (aO (ar (Mz (aA hr)) (b7 (pv 0) rfl) (bx ag) (az _)) (aj (iF (X:=(cL (iE P w) P w K mg base ["self","deed"] "Book.undo" (ah jw) t.fZ cdv A outer s H E)) (fun _ _ z=>z) rfl T.QC.exc rfl T.HZ (aa ax ag))) aB) (af (aK (i:=1) Ei.nd rfl (Or.inl rfl) (Q3 plainAttrs_list slot_list_pop type_list_pop adF (b7 (pv 0) rfl))) (af (bc (lI (pv 1) T.gk T.Rx za (hr.mono (by decide)) T.yT .nil aP)) (aj (bc (jr plainAttrs_list slot_list_append type_list_append bK (b7 (pv 0) rfl) (aa (pv 1) ag))))))) ?_;obtain⟨L,D,U,all,M,Ps,Fs,es,us,b,iM,pp,pf,f⟩:=B.ex;obtain⟨dx,hx⟩:=b.hx;obtain⟨ds,hD,pD⟩:=b.hD;have dl:=bS pD;have pl:=bS pp;have pe:=b.past.len;refine⟨_,rfl,x,_,dx,_,_,rfl,hx,T.aN,T.eJ,Ea _ _ _,big (by show 0<=1000;omega),fun e0 he0=>?_⟩;have s0:=aq.upd (o:=.lst []) he0;refine⟨D,e0,ds,rfl,rfl,aX.of (s0 _ _ hD),aX.of ae,_,rfl,?_⟩;generalize upd H e0 (.lst [])=H0 at s0;refine aY (fun h=>?_) (fun h=>?_)
  ·have hds:ds=[]:=List.isEmpty_iff.mp h;rw[hds]at dl;have hp0:ps=[]:=List.length_eq_zero_iff.mp (by rw[<-pl,pe,<-dl];rfl);have q:=q1 hp0 H0 s0;exact⟨by show 1<=sizeLine;decide,q.2⟩
  have hne:ds≠[]:=fun z=>h (by rw[z];rfl);obtain⟨ds0,v,rfl⟩:∃ ds0 v,ds=ds0++[v]:=⟨ds.dropLast,ds.getLast hne,(List.dropLast_concat_getLast hne).symm⟩;obtain⟨es0,e,he,pD0,hd⟩:=MO pD;have hvo:=hd.1;subst hvo;have B0:=B.same s0;have b0:=b.kept f (.same s0);have hd0:pC t.bq H0 (.ref e.o) e:=jQ (F:=fun _=>True) (.same s0) ⟨trivial,trivial⟩ hd;have ok:=b.dd e (.inl (by rw[he];exact mem_append_right _ (List.mem_singleton_self _)));obtain⟨hT,TD,TU⟩:=b0.lists ok.1;have nTB:e.T≠e.B:=by
   rcases ok.1 with z|⟨a,ha,z⟩
   ·rw[z];exact Ne.symm ok.2.1.1
   ·rw[z];exact Ne.symm (ok.2.1.2.2.2 a ha)
  obtain⟨Ps0,S,_,_,ft,hMS⟩:=(he ▸ b.past).last;have fit:e.i+e.as.length<=(M e.T).length:=by rw[hMS];exact agh ft
  have hx0:=s0 _ _ hx;have hD0:=s0 _ _ hD;obtain⟨ux,UT,pU⟩:=b0.hU;have amY:(M e.T).length<=200:=by
   rcases ok.1 with z|⟨a,ha,z⟩
   ·rw[z];exact Nat.le_trans (b.wf M (.inr (.inl rfl))).len (by decide)
   ·rw[z];exact((b.wf M (.inr (.inl rfl))).ln a ha).1
  refine⟨_,rfl,x,_,dx,_,_,rfl,hx0,T.aN,T.eJ,Ea _ _ _,?_⟩;refine⟨.inl ⟨rfl,_,aX.of hD0⟩,D,ds0++[V.ref e.o],V.ref e.o,rfl,rfl,hD0,by simp,?_⟩;rw[List.dropLast_concat];have nD:∀{y C d fs},H0 y=some (.ins C d fs)->y≠D:=fun hy=>j3 hy hD0 (by intro z;cases z);have nT:∀{y C d fs},H0 y=some (.ins C d fs)->y≠e.T:=fun hy=>j3 hy hT (by intro z;cases z);have r1:∀{y o},H0 y=some o->y≠D->upd H0 D (.lst ds0) y=some o:=fun hy hn=>by rw[ak hn];exact hy
  refine⟨_,rfl,e.o,e.d,_,rfl,r1 hd0.2.1 (nD hd0.2.1),Vr _ _ _ _,?_⟩;refine⟨e.o,e.d,e.T,e.B,e.A,e.i,M e.T,e.bs,e.as,rfl,r1 hd0.2.1 (nD hd0.2.1),r1 hT TD,r1 hd0.2.2.1 ok.2.1.2.1,r1 hd0.2.2.2 ok.2.2.1.2.1,nTB,fit,by have:=ok.2.2.2.1;omega,?_⟩;have r2:∀{y o},H0 y=some o->y≠D->y≠e.T->upd (upd H0 D (.lst ds0)) e.T (.lst ((M e.T).take e.i++e.bs++(M e.T).drop (e.i+e.as.length))) y=some o:=fun hy hn hn'=>by rw[ak hn',ak hn];exact hy
  refine⟨_,rfl,x,_,dx,_,_,rfl,r2 hx0 (nD hx0) (nT hx0),T.aN,T.cS,wt _ _ _,?_⟩;have hU1:=r2 UT (Ne.symm b.DU) (Ne.symm TU);have ul:=bS pU;have fl:=bS pf;have fe:=b.fut.len;refine⟨.inl ⟨rfl,_,aX.of hU1⟩,_,rfl,U,_,_,rfl,rfl,hU1,aW (by omega),?_⟩;obtain⟨ps0,v,e1,B2⟩:=Bk.aiy b0 (Is.kept (F:=F) (.same s0) iM) (cb (fun _ _ q=>Is.kept (F:=F) (.same s0) q) pp) (cb (fun _ _ q=>Is.kept (F:=F) (.same s0) q) pf) f B.wv he (uN (fun _ e' _ q=>jQ (F:=fun _=>True) (.same s0) ⟨trivial,trivial⟩ q) pD0) hd0 pU
   (H2:=upd (upd (upd H0 D (.lst ds0)) e.T (.lst ((M e.T).take e.i++e.bs++(M e.T).drop (e.i+e.as.length)))) U (.lst (ux++[.ref e.o]))) (fun y o hy y1 y2 y3=>by rw[ak y3];exact r2 hy y2 y1) (by rw[ak TU,ae];exact congrArg (fun z=>some (HO.lst z)) gD.symm) (by rw[ak b.DU,ak (Ne.symm TD),ae]) ae
  refine q2 ps0 v e1 _ (fun y o hy hn=>?_) B2;have fT:F e.T:=by
   rcases ok.1 with z|⟨a,ha,z⟩
   ·rw[z];exact f.L
   ·rw[z];exact f.l a ha
  rw[ak (show y≠U from fun z=>hn (z ▸ f.U))];exact r2 (s0 _ _ hy) (fun z=>hn (z ▸ f.D)) (fun z=>hn (z ▸ fT))
inductive NG (C:Addr)(vs:List V)(H:Hp)(Q:VK)(E:XK):Prop
 |mk (x dx T_ B A:Addr) (i:Nat) (xs bs as:List V) (eO:vs=[.ref x]) (eP:H x=some (.ins C dx (K0 T_ (i:Int) B A))) (hX:H T_=some (.lst xs)) (kC:H B=some (.lst bs)) (rq:H A=some (.lst as)) (QX:T_≠A) (h6_:i+bs.length<=xs.length) (h7_:xs.length+as.length<=1000) (h8_:Q .non (upd H T_ (.lst (xs.take i++as++xs.drop (i+bs.length))))):NG C vs H Q E
theorem NH (T:Txt K w mg t):bA P w K mg base k9 (0+1) t.ly t.HB ["self"] (NG t.bq):=by
 refine T.AH.ok XG (fun vs H Q E h=>?_) (fun cdv A outer s H vs Q E hr h=>?_)
 ·obtain⟨_,_,_,_,_,_,_,_,_,rfl,_⟩:=h;rfl
 ·obtain⟨x,dx,T_,B,A_,i,xs,bs,as,rfl,hx,hT,hB,hA,hne,hi,hz,q⟩:=h;refine aS (aj (kD (b7 (pv 0) rfl) (Vh (b7 (pv 0) rfl) (lJ (b7 (pv 0) rfl)) (lJ (aI (bP.or (aM.or bR)) (b7 (pv 0) rfl) (aJ (aE.or aF) rfl T.bO bM (aa (b7 (pv 0) rfl) ag))))))) ?_;refine⟨_,rfl,x,_,dx,_,_,rfl,hx,T.gk,T.gJ,Qp _ _ _ _,?_⟩;refine⟨_,rfl,x,_,dx,_,_,rfl,hx,T.gk,T.fb,MK _ _ _ _,?_⟩;refine⟨_,rfl,x,_,dx,_,_,rfl,hx,T.gk,T.iA,Ri _ _ _ _,_,rfl,?_⟩;refine⟨_,rfl,x,_,dx,_,_,rfl,hx,T.gk,T.iA,Ri _ _ _ _,?_⟩;refine⟨_,rfl,x,_,dx,_,_,rfl,hx,T.gk,T.fc,ML _ _ _ _,?_⟩;refine .inl ⟨B,bs,rfl,.inl (aX.of hB),.inl ⟨_,_,rfl,rfl,_,rfl,?_⟩⟩;refine⟨T_,A_,xs,as,(i:Int),((i+bs.length:Nat):Int),rfl,rfl,rfl,by simp,hT,hA,hne,by omega,by omega,by omega,Nat.le_trans hz (by decide),?_⟩;rw[Int.toNat_natCast,Int.toNat_natCast];exact q
inductive Fi (c:Cs)(vs:List V)(H:Hp)(Q:VK)(E:XK):Prop
 |mk (x:Addr) (F:Addr->Prop) (vw:Vw) (ps fs:List Vw) (eO:vs=[.ref x]) (eP:yx c H x F vw ps fs) (hX:ps.length+fs.length<=900) (kC:(fs=[]->∀ H',aq H H'->RX E c .jv H')) (rq:(∀ fs0 v,fs=fs0++[v]->∀ H',Fr F H H'->yx c H' x F v (ps++[vw]) fs0->Q .non H')):Fi c vs H Q E
theorem Fj (T:Txt K w mg t):bA P w K mg base (iE P w) (0+2) t.f6 t.yK ["self"] (Fi (cs t)):=by
 have Ig:=NH (P:=P) (base:=base) T;refine T.tQ.Q5 Ej (fun vs H Q E h=>?_) (fun cdv A outer s H vs Q E hr h=>?_)
 ·obtain⟨_,_,_,_,_,rfl,_⟩:=h;rfl
 ·obtain⟨x,F,vw,ps,fs,rfl,B,hps,q1,q2⟩:=h;refine aS (af (aO (ar (Mz (aA hr)) (b7 (pv 0) rfl) (bx ag) (az _)) (aj (iF (X:=(cL (iE P w) P w K mg base ["self","deed"] "Book.redo" (ah jx) t.f6 cdv A outer s H E)) (fun _ _ z=>z) rfl T.QC.exc rfl T.HZ (aa ax ag))) aB) (af (aK (i:=1) Ej.nd rfl (Or.inl rfl) (Q3 plainAttrs_list slot_list_pop type_list_pop adF (b7 (pv 0) rfl))) (af (bc (lI (pv 1) T.gk T.Ng Ig (hr.mono (by decide)) T.AI .nil aP)) (aj (bc (jr plainAttrs_list slot_list_append type_list_append bK (b7 (pv 0) rfl) (aa (pv 1) ag))))))) ?_;obtain⟨L,D,U,all,M,Ps,Fs,es,us,b,iM,pp,pf,f⟩:=B.ex;obtain⟨dx,hx⟩:=b.hx;obtain⟨ux,hU,pU⟩:=b.hU;have ul:=bS pU;have fl:=bS pf;have fe:=b.fut.len;refine⟨_,rfl,x,_,dx,_,_,rfl,hx,T.aN,T.cS,wt _ _ _,big (by show 0<=1000;omega),fun e0 he0=>?_⟩;have s0:=aq.upd (o:=.lst []) he0;refine⟨U,e0,ux,rfl,rfl,aX.of (s0 _ _ hU),aX.of ae,_,rfl,?_⟩;generalize upd H e0 (.lst [])=H0 at s0;refine aY (fun h=>?_) (fun h=>?_)
  ·have hds:ux=[]:=List.isEmpty_iff.mp h;rw[hds]at ul;have hp0:fs=[]:=List.length_eq_zero_iff.mp (by rw[<-fl,fe,<-ul];rfl);have q:=q1 hp0 H0 s0;exact⟨by show 1<=sizeLine;decide,q.2⟩
  have hne:ux≠[]:=fun z=>h (by rw[z];rfl);obtain⟨ux0,v,rfl⟩:∃ ux0 v,ux=ux0++[v]:=⟨ux.dropLast,ux.getLast hne,(List.dropLast_concat_getLast hne).symm⟩;obtain⟨us0,e,he,pU0,hd⟩:=MO pU;have hvo:=hd.1;subst hvo;have b0:=b.kept f (.same s0);have hd0:pC t.bq H0 (.ref e.o) e:=jQ (F:=fun _=>True) (.same s0) ⟨trivial,trivial⟩ hd;have ok:=b.dd e (.inr (by rw[he];exact mem_append_right _ (List.mem_singleton_self _)));obtain⟨hT,TD,TU⟩:=b0.lists ok.1;have nTA:e.T≠e.A:=by
   rcases ok.1 with z|⟨a,ha,z⟩
   ·rw[z];exact Ne.symm ok.2.2.1.1
   ·rw[z];exact Ne.symm (ok.2.2.1.2.2.2 a ha)
  obtain⟨Fs0,_,ft,_⟩:=(he ▸ b.fut).last;have fit:=ft.1;have hx0:=s0 _ _ hx;have UT:=s0 _ _ hU;obtain⟨ds,hD0,pD⟩:=b0.hD;have amY:(M e.T).length<=200:=by
   rcases ok.1 with z|⟨a,ha,z⟩
   ·rw[z];exact Nat.le_trans (b.wf M (.inr (.inl rfl))).len (by decide)
   ·rw[z];exact((b.wf M (.inr (.inl rfl))).ln a ha).1
  refine⟨_,rfl,x,_,dx,_,_,rfl,hx0,T.aN,T.cS,wt _ _ _,?_⟩;refine⟨.inl ⟨rfl,_,aX.of UT⟩,U,ux0++[V.ref e.o],V.ref e.o,rfl,rfl,UT,by simp,?_⟩;rw[List.dropLast_concat];have nU:∀{y C d fs},H0 y=some (.ins C d fs)->y≠U:=fun hy=>j3 hy UT (by intro z;cases z);have nT:∀{y C d fs},H0 y=some (.ins C d fs)->y≠e.T:=fun hy=>j3 hy hT (by intro z;cases z);have r1:∀{y o},H0 y=some o->y≠U->upd H0 U (.lst ux0) y=some o:=fun hy hn=>by rw[ak hn];exact hy
  refine⟨_,rfl,e.o,e.d,_,rfl,r1 hd0.2.1 (nU hd0.2.1),Qq _ _ _ _,?_⟩;refine⟨e.o,e.d,e.T,e.B,e.A,e.i,M e.T,e.bs,e.as,rfl,r1 hd0.2.1 (nU hd0.2.1),r1 hT TU,r1 hd0.2.2.1 ok.2.1.2.2.1,r1 hd0.2.2.2 ok.2.2.1.2.2.1,nTA,fit,by have:=ok.2.2.2.2;omega,?_⟩;have r2:∀{y o},H0 y=some o->y≠U->y≠e.T->upd (upd H0 U (.lst ux0)) e.T (.lst ((M e.T).take e.i++e.as++(M e.T).drop (e.i+e.bs.length))) y=some o:=fun hy hn hn'=>by rw[ak hn',ak hn];exact hy
  refine⟨_,rfl,x,_,dx,_,_,rfl,r2 hx0 (nU hx0) (nT hx0),T.aN,T.eJ,Ea _ _ _,?_⟩;have hD1:=r2 hD0 b.DU (Ne.symm TD);have dl:=bS pD;have pl:=bS pp;have pe:=b.past.len;refine⟨.inl ⟨rfl,_,aX.of hD1⟩,_,rfl,D,_,_,rfl,rfl,hD1,aW (by omega),?_⟩;obtain⟨fs0,v,e1,B2⟩:=Bk.aiz b0 (Is.kept (F:=F) (.same s0) iM) (cb (fun _ _ q=>Is.kept (F:=F) (.same s0) q) pp) (cb (fun _ _ q=>Is.kept (F:=F) (.same s0) q) pf) f B.wv he pD hd0 (uN (fun _ e' _ q=>jQ (F:=fun _=>True) (.same s0) ⟨trivial,trivial⟩ q) pU0)
   (H2:=upd (upd (upd H0 U (.lst ux0)) e.T (.lst ((M e.T).take e.i++e.as++(M e.T).drop (e.i+e.bs.length)))) D (.lst (ds++[.ref e.o]))) (fun y o hy y1 y2 y3=>by rw[ak y2];exact r2 hy y3 y1) (by rw[ak TD,ae];exact congrArg (fun z=>some (HO.lst z)) gD.symm) ae (by rw[ak (Ne.symm b.DU),ak (Ne.symm TU),ae])
  refine q2 fs0 v e1 _ (fun y o hy hn=>?_) B2;have fT:F e.T:=by
   rcases ok.1 with z|⟨a,ha,z⟩
   ·rw[z];exact f.L
   ·rw[z];exact f.l a ha
  rw[ak (show y≠D from fun z=>hn (z ▸ f.D))];exact r2 (s0 _ _ hy) (fun z=>hn (z ▸ f.U)) (fun z=>hn (z ▸ fT))
inductive vU (K:Frag)(vs:List V)(H:Hp)(Q:VK)(E:XK):Prop
 |mk (l:Addr) (v:V) (ys:List V) (ss:List Sg) (de:De) (i:Nat) (eO:vs=[.ref l,v,.int (i:Int)]) (eP:H l=some (.lst ys)) (hX:pq H ys ss) (kC:ss.length<=200) (rq:yA H v de) (QX:(de.wy=.put\/de.wy=.cut\/de.wy=.swap)) (h6_:(de.wy≠.cut->iG de.sg=true)) (h7_:i<=ss.length) (h8_:(de.wy≠.put->i<ss.length)) (h9_:∀(l':Addr)(ys':List V)(H':Hp),H l'=none->aq H H'->H' l'=some (.lst ys')->pq H' ys' (fW ss de.wy de.sg i)->Q (.ref l') H'):vU K vs H Q E
theorem Ih (T:Txt K w mg t):bA P w K mg base k9 (0+1) t.d3 t.pV ["_law_line","_law_deed","_law_at"] (vU K):=by
 refine T.iI.ok Hj (fun vs H Q E h=>?_) (fun cdv A outer s H vs Q E hr h=>?_)
 ·obtain⟨_,_,_,_,_,_,rfl,_⟩:=h;rfl
 ·obtain⟨l,v,ys,ss,de,i,rfl,hl,g,agr,hde,hwy,hgd,hi,hi2,q⟩:=h;obtain⟨p2,ps2,rfl,hp2,Yg⟩:=id hde;refine aS (af (aO (ar (bg.or (aR (aA hr))) (aC av (pv 1) ai (fun _ _=>rfl)) ax (az _)) (aj (aw (aI (bP.or (aM.or bR)) (rA (wk.or (Bf.or Bg)) (pv 0) wj (lJ (pv 2))) (rA (wk.or (Bf.or Bg)) (pv 0) (lJ (aI (bP.or (aM.or bR)) (pv 2) ai)) wj)))) aB) (aj (aw (aI (bP.or (aM.or bR)) (aI (bP.or (aM.or bR)) (rA (wk.or (Bf.or Bg)) (pv 0) wj (lJ (pv 2))) (bx (aa (aC av (pv 1) ai (fun _ _=>rfl)) ag))) (rA (wk.or (Bf.or Bg)) (pv 0) (lJ (aI (bP.or (aM.or bR)) (pv 2) (fM (vg.or kg) rfl T.HW G6 (aa (bQ (bg.or (aR (aA hr))) (aC av (pv 1) ai (fun _ _=>rfl)) ax (az _)) ag)))) wj))))) ?_;have yl:=bS g;refine⟨_,rfl,cg (i:=0) hp2 rfl ?_⟩;tm_up;rw[show decide (V.str de.wy.str=V.str (Str.ofString "cut"))=decide (de.wy=.cut) from kn de.wy .cut]
  by_cases z1:de.wy=.cut
  ·rw[decide_eq_true z1];refine cX ?_;have hi3:=hi2 (by rw[z1];decide);refine⟨_,rfl,_,rfl,i,rfl,.inl ⟨l,ys,rfl,aX.of hl,fun c1 hc1=>?_⟩⟩;rw[aet];have S1:=aq.upd (o:=.lst (ys.take i)) hc1;have k1:=ae (H:=H) (a:=c1) (o:=.lst (ys.take i));generalize upd H c1 (.lst (ys.take i))=H15 at S1 k1;refine⟨_,rfl,_,rfl,.inl ⟨_,_,rfl,rfl,_,rfl,.inl ⟨l,ys,rfl,aX.of (S1 _ _ hl),fun c4 hc4=>?_⟩⟩⟩;rw[show D2 ys (some ((i:Int)+1)) none=ys.drop (i+1) from aaV ys (i+1) (by omega)];have S4:=aq.upd (o:=.lst (ys.drop (i+1))) hc4;have k4:=ae (H:=H15) (a:=c4) (o:=.lst (ys.drop (i+1)));generalize upd H15 c4 (.lst (ys.drop (i+1)))=H16 at S4 k4;refine .inr (.inr ⟨c1,c4,_,_,rfl,rfl,S4 _ _ k1,k4,?_,fun c5 hc5=>?_⟩)
   ·exact big (by simp only [length_take,length_drop];omega)
   have S5:=aq.upd (o:=.lst (ys.take i++ys.drop (i+1))) hc5;have SS:=(S1.trans S4).trans S5;refine q c5 _ _ ((S1.trans S4).free hc5) SS ae (pq.same SS ?_);unfold fW;rw[z1];show pq H _ (ss.take i++[]++ss.drop (i+1));rw[append_nil];exact Hb (KZ i g) (KY (i+1) g)
  ·rw[decide_eq_false z1];refine bF ?_;refine⟨_,rfl,_,rfl,i,rfl,.inl ⟨l,ys,rfl,aX.of hl,fun c1 hc1=>?_⟩⟩;rw[aet];have S1:=aq.upd (o:=.lst (ys.take i)) hc1;have k1:=ae (H:=H) (a:=c1) (o:=.lst (ys.take i));generalize upd H c1 (.lst (ys.take i))=H13 at S1 k1;refine⟨_,rfl,cg (i:=4) (S1 _ _ hp2) rfl ?_⟩;refine⟨big (by show 1<=1000;omega),fun c2 hc2=>?_⟩;have S2:=aq.upd (o:=.lst [V.ref ps2]) hc2;have k2:=ae (H:=H13) (a:=c2) (o:=.lst [V.ref ps2]);generalize upd H13 c2 (.lst [V.ref ps2])=H14 at S2 k2;refine .inr (.inr ⟨c1,c2,_,_,rfl,rfl,S2 _ _ k1,k2,?_,fun c3 hc3=>?_⟩)
   ·exact big (by rw[length_take];show _+1<=1000;omega)
   have S3':=aq.upd (o:=.lst (ys.take i++[V.ref ps2])) hc3;have k3:=ae (H:=H14) (a:=c3) (o:=.lst (ys.take i++[V.ref ps2]));generalize upd H14 c3 (.lst (ys.take i++[V.ref ps2]))=H15 at S3' k3;have SS:=(S1.trans S2).trans S3';have g15:=g.same SS;obtain⟨es1,es2,_⟩:=aeC (hgd z1);have am2:Vm H15 (.ref ps2) (MV de.sg):=⟨ps2,rfl,by rw[es1,es2];exact SS _ _ Yg⟩;refine⟨_,rfl,_,rfl,_,rfl,cg (i:=0) (SS _ _ hp2) rfl ?_⟩;tm_up;refine .inl (.inr ⟨_,rfl,?_⟩);rw[show decide (V.str de.wy.str=V.str (Str.ofString "swap"))=decide (de.wy=.swap) from kn de.wy .swap];obtain⟨k,hk,hkb,hki⟩:∃ k:Nat,((i:Int)+(if decide (de.wy=.swap)=true then 1 else 0))=((i+k:Nat):Int)/\fW ss de.wy de.sg i=ss.take i++[MV de.sg]++ss.drop (i+k)/\i+k<=ss.length:=by
    by_cases z2:de.wy=.swap
    ·refine⟨1,by rw[decide_eq_true z2,if_pos rfl];omega,by unfold fW;rw[z2],hi2 (by rw[z2];decide)⟩
    ·have z3:de.wy=.put:=by rcases hwy with z|z|z;exact z;exact absurd z z1;exact absurd z z2
     refine⟨0,by rw[decide_eq_false z2,if_neg (by decide)];omega,by unfold fW;rw[z3];rfl,hi⟩
   rw[hkb]at q;refine .inl ⟨_,_,rfl,rfl,_,rfl,.inl ⟨l,ys,rfl,aX.of (SS _ _ hl),fun c4 hc4=>?_⟩⟩;rw[show D2 ys (some ((i:Int)+(if decide (de.wy=.swap)=true then 1 else 0))) none=ys.drop (i+k) by rw[hk];exact aaV ys (i+k) (by omega)];have S4:=aq.upd (o:=.lst (ys.drop (i+k))) hc4;have k4:=ae (H:=H15) (a:=c4) (o:=.lst (ys.drop (i+k)));generalize upd H15 c4 (.lst (ys.drop (i+k)))=H16 at S4 k4;refine .inr (.inr ⟨c3,c4,_,_,rfl,rfl,S4 _ _ k3,k4,?_,fun c5 hc5=>?_⟩)
   ·exact big (by simp only [length_append,length_take,length_drop,List.length_singleton];omega)
   have S5:=aq.upd (o:=.lst (ys.take i++[V.ref ps2]++ys.drop (i+k))) hc5;exact q c5 _ _ ((SS.trans S4).free hc5) ((SS.trans S4).trans S5) ae (pq.same (S4.trans S5) (Hb (Hb (KZ i g15) (.cons am2 .nil)) (KY (i+k) g15)))
structure Bw (c:Cs)(H0 H:Hp)(x:Addr)(own:List Addr)(vw:Vw)(ps fs:List Vw):Prop where
 ex:∃ F,yx c H x F vw ps fs/\(∀ y,F y->∃ xs,H y=some (.lst xs))/\(∀ y,F y->H0 y=none)/\∀ a∈own,¬ F a/\∃ o,H a=some o
 sm:aq H0 H
section
variable {c:Cs} {H0 H H' H1:Hp} {x:Addr} {own:List Addr} {vw vw':Vw} {ps ps' fs fs':List Vw} {F F':Addr->Prop}
theorem Bw.mk' (b:yx c H' x F' vw' ps' fs')(sm:aq H0 H)(hF:∀ y,F y->∃ xs,H y=some (.lst xs))(h0:∀ y,F y->H0 y=none)(ho:∀ a∈own,¬ F a/\∃ o,H a=some o)(g:Gr F F' H)(fr:Fr F H H'):Bw c H0 H' x own vw' ps' fs'/\amO own H H':=by
 obtain⟨F0,h1,h2,b0⟩:=b.akA;refine⟨⟨⟨F0,b0,h2,fun y z=>?_,fun a ha=>?_⟩,fun y o e=>fr y o (sm y o e) fun z=>?_⟩,fun y o e k=>fr y o e fun z=>?_⟩
 ·rcases g y (h1 y z) with q|q
  ·exact h0 y q
  ·exact sm.free q
 ·obtain⟨n,o,e⟩:=ho a ha;refine⟨fun z=>?_,o,fr a o e n⟩;rcases g a (h1 a z) with q|q
  ·exact n q
  ·rw[e]at q;cases q
 ·rw[h0 y z]at e;cases e
 ·rcases k with k|k
  ·obtain⟨xs,q⟩:=hF y z;rw[e]at q;cases q;exact k _ rfl
  ·exact(ho y k).1 z
theorem Bw.same (h:Bw c H0 H x own vw ps fs)(s:aq H H'):Bw c H0 H' x own vw ps fs:=by
 obtain⟨F,b,hF,h0,ho⟩:=h.ex;exact⟨⟨F,b.same s,fun y z=>let ⟨xs,e⟩:=hF y z;⟨xs,s _ _ e⟩,h0,fun a ha=>⟨(ho a ha).1,let ⟨o,e⟩:=(ho a ha).2;⟨o,s _ _ e⟩⟩⟩,h.sm.trans s⟩
theorem Bw.wv (h:Bw c H0 H x own vw ps fs):yj vw:=by
 obtain⟨F,b,_⟩:=h.ex;exact b.wv vw (.inr (.inl rfl))
theorem Bw.hx (h:Bw c H0 H x own vw ps fs):∃ dx L D U,H x=some (.ins c.B dx (Br L D U)):=by
 obtain⟨F,b,_⟩:=h.ex;obtain⟨L,D,U,all,M,Ps,Fs,es,us,b,_⟩:=b.ex;obtain⟨dx,e⟩:=b.hx;exact⟨dx,L,D,U,e⟩
theorem Bw.new {dx L D U:Addr}(hx:H' x=some (.ins c.B dx (Br L D U)))(hL:H' L=some (.lst []))(hD:H' D=some (.lst []))(hU:H' U=some (.lst []))(LD:L≠D)(LU:L≠U)(DU:D≠U)(s:aq H H')(nL:H L=none)(nD:H D=none)(nU:H U=none):Bw c H H' x [] [] [] []:=by
 refine⟨⟨_,Bk.new hx hL hD hU LD LU DU,fun y hy=>?_,fun y hy=>?_,fun a ha=>nomatch ha⟩,s⟩
 ·rcases hy with rfl|rfl|rfl
  ·exact⟨_,hL⟩
  ·exact⟨_,hD⟩
  ·exact⟨_,hU⟩
 ·rcases hy with rfl|rfl|rfl
  ·exact nL
  ·exact nD
  ·exact nU
end
def mix (H0 H H':Hp):Hp:=fun y=>match H y with
 |none=>H' y
 |some (.lst _)=>H0 y
 |some o=>some o
section
variable {H0 H H' LJ:Hp}
theorem uc (s:aq H0 H):aq H0 (mix H0 H H'):=fun y o e=>by
 unfold mix;rw[s _ _ e];cases o with
 |lst xs=>exact e
 |_=>rfl
theorem gC {y:Addr}{o:HO}(n:H y=none)(e:H' y=some o):mix H0 H H' y=some o:=by
 unfold mix;rw[n];exact e
theorem ud (s:aq H H'){y:Addr}{o:HO}(e:H' y=some o)(k:∀ xs,o≠.lst xs):mix H0 H H' y=some o:=by
 unfold mix;cases h:H y with
 |none=>exact e
 |some u =>
  have:o=u:=Option.some.inj (e.symm.trans (s _ _ h));subst this;cases o with
  |lst xs=>exact absurd rfl (k xs)
  |_=>rfl
theorem ags (s0:aq H0 H)(s:aq H H'):aq (mix H0 H H') H':=fun y o e=>by
 unfold mix at e;cases h:H y with
 |none=>rw[h]at e;exact e
 |some u =>
  rw[h]at e;cases u with
  |lst xs=>exact s _ _ (s0 _ _ e)
  |_=>exact(s _ _ h).trans e
theorem aeR (s:aq H' LJ):aq (mix H0 H H') (mix H0 H LJ):=fun y o e=>by
 unfold mix at e ⊢;cases h:H y with
 |none=>rw[h]at e;exact s _ _ e
 |some u =>
  rw[h]at e;cases u with
  |lst xs=>exact e
  |_=>exact e
theorem Bw.mix {c:Cs}{x:Addr}{vw:Vw}{ps fs:List Vw}(h:Bw c H0 H x [] vw ps fs)(s:aq H H'):Bw c (Ha.mix H0 H H') H' x [] vw ps fs:=by
 obtain⟨F,b,hF,h0,ho⟩:=h.ex;refine⟨⟨F,b.same s,fun y z=>let ⟨xs,e⟩:=hF y z;⟨xs,s _ _ e⟩,fun y hy=>?_,fun a ha=>nomatch ha⟩,ags h.sm s⟩;obtain⟨xs,e⟩:=hF y hy;unfold Ha.mix;rw[e];exact h0 y hy
end
theorem aa8 {vw:Vw}{n:Str}(h:c9 vw n=none):nameB n=true/\bf vw n=none/\vw.length<12:=by
 unfold c9 at h;split at h
 ·cases h
 ·next h1 =>
  split at h
  ·cases h
  ·next h2 =>
   split at h
   ·cases h
   ·next h3=>exact⟨by simpa using h1,by cases e:bf vw n with|none=>rfl|some _=>rw[e]at h2;exact absurd rfl h2,by omega⟩
theorem aiM {H:Hp}{n:Str}{kvs:List (Key×V)}{vw:Vw}(h:Paired (MT H) kvs vw):Paired (MT H) (MC kvs (Sum.inr n)) (tG vw n):=by
 unfold MC tG
 induction h with
 |nil=>exact .nil
 | @cons kv q as qs r t ih =>
  by_cases e:q.1=n
  ·rw[List.filter_cons_of_neg (by rw[r.1,e];simp),List.filter_cons_of_neg (by rw[decide_eq_true e];simp)];exact ih
  ·rw[List.filter_cons_of_pos (by rw[r.1];exact decide_eq_true fun z=>e (Sum.inr.inj z)),List.filter_cons_of_pos (by rw[decide_eq_false e];rfl)];exact .cons r ih
theorem akI {H:Hp}{n:Str}{v:V}{th:Th}{kvs:List (Key×V)}{vw:Vw}(h:Paired (MT H) kvs vw)(hs:(sV kvs (Sum.inr n)).isSome=true)(hv:ThV H v th):Paired (MT H) (putK kvs (Sum.inr n) v) (AO vw n th):=by
 unfold putK;rw[yv,if_pos hs];clear hs;unfold AO
 induction h with
 |nil=>exact .nil
 | @cons kv q as qs r t ih =>
  refine .cons ?_ ih;show MT H (if kv.1=Sum.inr n then(kv.1,v) else kv) (if q.1=n then(n,th) else q)
  by_cases e:q.1=n
  ·rw[if_pos (r.1.trans (congrArg Sum.inr e)),if_pos e];exact⟨r.1.trans (congrArg Sum.inr e),hv⟩
  ·rw[if_neg (fun z=>e (Sum.inr.inj (r.1.symm.trans z))),if_neg e];exact r
theorem RJ {α β:Type}{F:α->β->Prop}:∀{ys:List α} {vs:List β} {q:β},Paired F ys (vs++[q])->∃ ys0 y,ys=ys0++[y]/\Paired F ys0 vs/\F y q
 |_,[],_,.cons r .nil=>⟨[],_,rfl,.nil,r⟩
 |_,_::vs,_,.cons r t=>by
  obtain⟨ys0,y,rfl,h1,h2⟩:=RJ t;exact⟨_::ys0,y,rfl,.cons r h1,h2⟩
theorem VP (xs:List V)(v:V):D2 (xs++[v]) none (some (-1))=xs:=by
 unfold D2;have e:HT.m6 (xs++[v]).length (xs++[v]).length (some (-1))=xs.length:=by
  rw[length_append];show HT.m6 (xs.length+1) (xs.length+1) (some (-1))=xs.length;unfold HT.m6
  first|omega|(simp;omega)|(split <;> omega)
 rw[HT.Mr,e,Nat.sub_zero,List.drop_zero,List.take_left'];rfl
theorem ahB {α:Type}{l:List α}(h:l≠[]):∃ l0 x,l=l0++[x]:=⟨l.dropLast,l.getLast h,(List.dropLast_concat_getLast h).symm⟩
inductive Ld (vs:List V)(H:Hp)(Q:VK)(E:XK):Prop
 |mk (v1 v2:V) (st:Std) (de:De) (H0:Hp) (eO:vs=[v1,v2]) (eP:aq H0 H) (hX:Vz H0 v1 st) (kC:yA H v2 de) (rq:abW de) (QX:yj st.vw) (h6_:st.ps.length+st.fs.length<=900) (h7_:ij st de (cf st.vw de)=none) (h8_:∀ v' H',aq H H'->Vz (mix H0 H H') v' (ik st de (cf st.vw de))->Q v' H'):Ld vs H Q E
theorem VQ (T:Txt K w mg t):bA P w K mg base k9 (0+2) t.kK t.BA ["_law_stand","_law_deed"] Ld:=by
 have LK:=Ih (P:=P) (base:=base) T;have vS:=BR (P:=P) (base:=base) T;refine T.rZ.ok pF (fun vs H Q E h=>?_) (fun cdv A outer s H vs Q E hr h=>?_)
 ·obtain⟨_,_,_,_,_,rfl,_⟩:=h;rfl
 ·obtain⟨v1,v2,st,de,H0',rfl,s0,⟨p,d,a,b,xs,ys,rfl,hp',hd',ha',px',hb',py'⟩,hde,ok,w,hlen,ho,q⟩:=h;obtain⟨p2,ps2,rfl,hp2,Yg⟩:=id hde;have hp:=s0 _ _ hp';have hd:=hd'.same s0;have ha:=s0 _ _ ha';have hb:=s0 _ _ hb';have mo:∀{H'},aq H0' (mix H0' H H'):=fun {H'}=>uc s0;refine aS (af (kD (pv 0) (rl rfl (bC (aU (i:=2) pF.nd rfl (Or.inl rfl)) (bC (aU (i:=3) pF.nd rfl (Or.inl rfl)) (bC (aU (i:=4) pF.nd rfl (Or.inl rfl)) lG))))) (af (aO (ar (bg.or (aR (aA hr))) (aC av (pv 1) ai (fun _ _=>rfl)) ax (az _)) (aj (aw (b8 (aa (aC av (pv 3) (A0 uH ai) (fun _ _=>rfl)) (aa (rA (wk.or (Bf.or Bg)) (pv 3) wj (lJ (A0 uH ai))) (aa (aI (bP.or (aM.or bR)) (pv 4) (bx (aa (pv 2) ag))) ag)))))) aB) (af (aO (ar (bg.or (aR (aA hr))) (aC av (pv 1) ai (fun _ _=>rfl)) ax (az _)) (aj (aw (b8 (aa (aC av (pv 4) (A0 uH ai) (fun _ _=>rfl)) (aa (aI (bP.or (aM.or bR)) (pv 3) (bx (aa (pv 2) ag))) (aa (rA (wk.or (Bf.or Bg)) (pv 4) wj (lJ (A0 uH ai))) ag)))))) aB) (af (aK (i:=5) pF.nd rfl (Or.inl rfl) (fM Xt rfl T.agn afU (aa (pv 2) ag))) (af (nh (aO (ar (bg.or (aR (aA hr))) (aC av (pv 1) ai (fun _ _=>rfl)) ax (az _)) (aj (bc (aeh (pv 5) (aC av (pv 1) ai (fun _ _=>rfl)) ⟨rfl,rfl,rfl,rfl⟩))) (aj (aO (ar (bg.or (aR (aA hr))) (aC av (pv 1) ai (fun _ _=>rfl)) ax (az _)) (aj (Q9 (j5 hr) (pv 5) (aC av (pv 1) ai (fun _ _=>rfl)) (bx ag) rfl)) (aj (aO (ar (bg.or (aR (aA hr))) (aC av (pv 1) ai (fun _ _=>rfl)) ax (az _)) (aj (Q9 (j5 hr) (pv 5) (aC av (pv 1) ai (fun _ _=>rfl)) (b8 (aa (aC av (pv 1) ai (fun _ _=>rfl)) (aa (aC av (pv 1) ai (fun _ _=>rfl)) (aa (aC av (pv 1) ai (fun _ _=>rfl)) (aa (aC av (pv 1) ai (fun _ _=>rfl)) ag))))) rfl)) (aj (Q9 (j5 hr) (pv 5) (aC av (pv 1) ai (fun _ _=>rfl)) (aD LK (hr.mono (by decide)) rfl T.HM T.iI.kp T.pZ .nil aP (aa (jc (j5 hr) (pv 2) (aC av (pv 1) ai (fun _ _=>rfl)) (fun _ _=>rfl)) (aa (pv 1) (aa (aD vS (hr.mono (by decide)) rfl T.BI T.n0.kp T.vH .nil aP (aa (pv 2) (aa (pv 1) ag))) ag)))) rfl)))))))) (aj (aw (b8 (aa (pv 5) (aa (aI (bP.or (aM.or bR)) (pv 3) (bx (aa (pv 2) ag))) (aa (bx ag) ag))))))))))) ?_;have wl:=w.len;have xl:=bS px';have yl:=bS py';refine⟨_,rfl,p,_,rfl,uG.of hp,rfl,_,_,rfl,_,_,rfl,_,_,rfl,rfl,?_⟩;refine⟨_,rfl,cg (i:=0) hp2 rfl ?_⟩;tm_up;rw[show decide (V.str de.wy.str=V.str (Str.ofString "undo"))=decide (de.wy=.undo) from kn de.wy .undo]
  by_cases z1:de.wy=.undo
  ·rw[decide_eq_true z1];refine cX ?_;have hne:st.ps≠[]:=fun z=>by unfold ij at ho;rw[z1]at ho;simp[z]at ho
   obtain⟨ps0,v0,eps⟩:=ahB hne;rw[eps]at px';obtain⟨xs0,x0,rfl,px0,⟨d0,rfl,hd0⟩⟩:=RJ px';have eb:ik st de (cf st.vw de)=⟨v0,ps0,st.fs++[st.vw]⟩:=by
    unfold ik;rw[z1,eps];simp
   rw[eb]at q;refine⟨_,rfl,1,rfl,.inl ⟨a,_,-1,_,rfl,rfl,aX.of ha,Mu _ _,?_⟩⟩;refine⟨_,rfl,_,rfl,-1,rfl,.inl ⟨a,_,rfl,aX.of ha,fun c1 hc1=>?_⟩⟩;rw[VP];have S1:=aq.upd (o:=.lst xs0) hc1;have k1:=ae (H:=H) (a:=c1) (o:=.lst xs0);generalize upd H c1 (.lst xs0)=H1 at S1 k1;refine⟨_,rfl,_,rfl,big (by show 1<=1000;omega),fun c2 hc2=>?_⟩;have S2:=aq.upd (o:=.lst [V.ref d]) hc2;have k2:=ae (H:=H1) (a:=c2) (o:=.lst [V.ref d]);generalize upd H1 c2 (.lst [V.ref d])=H2 at S2 k2;refine .inr (.inr ⟨b,c2,ys,_,rfl,rfl,S2 _ _ (S1 _ _ hb),k2,big (by show _+1<=1000;omega),fun c3 hc3=>?_⟩);have S3:=aq.upd (o:=.lst (ys++[V.ref d])) hc3;have k3:=ae (H:=H2) (a:=c3) (o:=.lst (ys++[V.ref d]));generalize upd H2 c3 (.lst (ys++[V.ref d]))=H3 at S3 k3;refine⟨by show 3<=sizeLine;decide,fun t0 ht0=>?_⟩;have S4:=aq.upd (o:=.tup [V.ref d0,V.ref c1,V.ref c3]) ht0;have S13:=(S1.trans S2).trans S3;have SS:=S13.trans S4;exact q _ _ SS ⟨t0,d0,c1,c3,_,_,rfl,ud SS ae (fun _ z=>nomatch z),hd0.same mo,gC hc1 (S4 _ _ (S3 _ _ (S2 _ _ k1))),cb (fun _ _ z=>z.same mo) px0,gC ((S1.trans S2).free hc3) (S4 _ _ k3),j6 (cb (fun _ _ z=>z.same mo) py') ⟨d,rfl,hd'.same mo⟩⟩
  rw[decide_eq_false z1];refine bF ?_;refine⟨_,rfl,cg (i:=0) hp2 rfl ?_⟩;tm_up;rw[show decide (V.str de.wy.str=V.str (Str.ofString "redo"))=decide (de.wy=.qL) from kn de.wy .qL]
  by_cases z2:de.wy=.qL
  ·rw[decide_eq_true z2];refine cX ?_;have hne:st.fs≠[]:=fun z=>by unfold ij at ho;rw[z2]at ho;simp[z]at ho
   obtain⟨fs0,v0,efs⟩:=ahB hne;rw[efs]at py';obtain⟨ys0,y0,rfl,py0,⟨d0,rfl,hd0⟩⟩:=RJ py';have eb:ik st de (cf st.vw de)=⟨v0,st.ps++[st.vw],fs0⟩:=by
    unfold ik;rw[z2,efs];simp
   rw[eb]at q;refine⟨_,rfl,1,rfl,.inl ⟨b,_,-1,_,rfl,rfl,aX.of hb,Mu _ _,?_⟩⟩;refine⟨_,rfl,_,rfl,big (by show 1<=1000;omega),fun c2 hc2=>?_⟩;have S2:=aq.upd (o:=.lst [V.ref d]) hc2;have k2:=ae (H:=H) (a:=c2) (o:=.lst [V.ref d]);generalize upd H c2 (.lst [V.ref d])=H2 at S2 k2;refine .inr (.inr ⟨a,c2,xs,_,rfl,rfl,S2 _ _ ha,k2,big (by show _+1<=1000;omega),fun c3 hc3=>?_⟩);have S3:=aq.upd (o:=.lst (xs++[V.ref d])) hc3;have k3:=ae (H:=H2) (a:=c3) (o:=.lst (xs++[V.ref d]));generalize upd H2 c3 (.lst (xs++[V.ref d]))=H3 at S3 k3;refine⟨_,rfl,_,rfl,-1,rfl,.inl ⟨b,_,rfl,aX.of (S3 _ _ (S2 _ _ hb)),fun c1 hc1=>?_⟩⟩;rw[VP];have S1:=aq.upd (o:=.lst ys0) hc1;have k1:=ae (H:=H3) (a:=c1) (o:=.lst ys0);generalize upd H3 c1 (.lst ys0)=H1 at S1 k1;refine⟨by show 3<=sizeLine;decide,fun t0 ht0=>?_⟩;have S4:=aq.upd (o:=.tup [V.ref d0,V.ref c3,V.ref c1]) ht0;have SS:=((S2.trans S3).trans S1).trans S4;exact q _ _ SS ⟨t0,d0,c3,c1,_,_,rfl,ud SS ae (fun _ z=>nomatch z),hd0.same mo,gC (S2.free hc3) (S4 _ _ (S1 _ _ k3)),j6 (cb (fun _ _ z=>z.same mo) px') ⟨d,rfl,hd'.same mo⟩,gC ((S2.trans S3).free hc1) (S4 _ _ k1),cb (fun _ _ z=>z.same mo) py0⟩
  rw[decide_eq_false z2];refine bF ?_;obtain⟨kvs,hk',pk⟩:=id hd';have hk:=s0 _ _ hk';have kl:=bS pk;refine⟨_,rfl,d,kvs,rfl,.inl hk,fun l0 hl0=>?_⟩;have S0:=aq.upd (o:=.dK kvs) hl0;have k0:=ae (H:=H) (a:=l0) (o:=.dK kvs);have fz:∀{X:Hp} {o:HO},aq H X->aq H (upd X l0 o):=fun s=>eF s hl0;generalize upd H l0 (.dK kvs)=H0 at S0 k0;refine⟨fun σ H'=>σ=[some (.ref p),some (.ref p2),some (.ref d),some (.ref a),some (.ref b),some (.ref l0)]/\aq H H'/\uO (mix H0' H H') l0 (ik st de (cf st.vw de)).vw,?_,?_⟩
  ·refine⟨_,rfl,cg (i:=0) (S0 _ _ hp2) rfl ?_⟩;tm_up;rw[show decide (V.str de.wy.str=V.str (Str.ofString "drop"))=decide (de.wy=.drop) from kn de.wy .drop]
   by_cases z3:de.wy=.drop
   ·rw[decide_eq_true z3];refine cX ?_;have eb:(ik st de (cf st.vw de)).vw=tG st.vw de.n:=by unfold ik;rw[z3]
    rw[eb];have hs:∃ v,sV kvs (Sum.inr de.n)=some v:=by
     have ho':oY st.vw de.n=none:=by unfold ij at ho;rw[z3]at ho;exact ho
     unfold oY at ho';cases ef:bf st.vw de.n with
     |none=>rw[ef]at ho';cases ho'
     |some th=>obtain⟨v,e,_⟩:=XB pk ef;exact⟨v,e⟩
    obtain⟨v,hv⟩:=hs;refine⟨_,rfl,l0,rfl,.inl ⟨kvs,.inl k0⟩,_,rfl,cg (i:=1) (S0 _ _ hp2) rfl ?_⟩;exact⟨kvs,Sum.inr de.n,v,k0,rfl,hv,rfl,fz S0,_,gC hl0 ae,cb (fun _ _ z=>z.same mo) (aiM pk)⟩
   rw[decide_eq_false z3];refine bF ?_;refine⟨_,rfl,cg (i:=0) (S0 _ _ hp2) rfl ?_⟩;tm_up;rw[show decide (V.str de.wy.str=V.str (Str.ofString "add"))=decide (de.wy=.add) from kn de.wy .add]
   by_cases z4:de.wy=.add
   ·rw[decide_eq_true z4];refine cX ?_;have eb:(ik st de (cf st.vw de)).vw=st.vw++[(de.n,.pl [])]:=by unfold ik;rw[z4]
    rw[eb];have hn:c9 st.vw de.n=none:=by unfold ij at ho;rw[z4]at ho;exact ho
    have hv:=XF pk (aa8 hn).2.1;refine⟨big (by show 0<=1000;omega),fun c1 hc1=>?_⟩;have S1:=aq.upd (o:=.lst []) hc1;have k1:=ae (H:=H0) (a:=c1) (o:=.lst []);have n1:c1≠l0:=Ne.symm (ao k0 hc1);generalize upd H0 c1 (.lst [])=H1 at S1 k1;refine⟨_,rfl,_,rfl,cg (i:=1) (S1 _ _ (S0 _ _ hp2)) rfl ?_⟩;refine⟨l0,_,rfl,Xr.k (k:=Sum.inr de.n) (S1 _ _ k0) (aW (by omega)),rfl,fz (S0.trans S1),_,gC hl0 ae,?_⟩;rw[Vi _ hv];exact j6 (cb (fun _ _ z=>z.same mo) pk) ⟨rfl,c1,[],rfl,gC (S0.free hc1) (by rw[ak n1];exact k1),.nil⟩
   rw[decide_eq_false z4];refine bF ?_;refine⟨_,rfl,cg (i:=0) (S0 _ _ hp2) rfl ?_⟩;tm_up;rw[show decide (V.str de.wy.str=V.str (Str.ofString "canon"))=decide (de.wy=.canon) from kn de.wy .canon]
   by_cases z5:de.wy=.canon
   ·rw[decide_eq_true z5];refine cX ?_;have eb:(ik st de (cf st.vw de)).vw=st.vw++[(de.n,.cn de.ld de.lt de.sl de.tn)]:=by unfold ik;rw[z5]
    rw[eb];have hn:c9 st.vw de.n=none:=by
     unfold ij at ho;rw[z5]at ho;cases hn:c9 st.vw de.n with
     |none=>rfl
     |some r =>
      have ho:(match c9 st.vw de.n with|some r=>some r|none=>iH st.vw de.ld de.lt de.sl)=none:=ho;rw[hn]at ho;cases ho
    have hv:=XF pk (aa8 hn).2.1;refine⟨_,rfl,cg (i:=2) (S0 _ _ hp2) rfl ⟨_,rfl,cg (i:=5) (S0 _ _ hp2) rfl ⟨_,rfl,cg (i:=6) (S0 _ _ hp2) rfl ⟨_,rfl,cg (i:=7) (S0 _ _ hp2) rfl ?_⟩⟩⟩⟩;refine⟨by show 4<=sizeLine;decide,fun c1 hc1=>?_⟩;have S1:=aq.upd (o:=.tup [V.str de.ld,V.int de.lt,V.int de.sl,V.bl de.tn]) hc1;have k1:=ae (H:=H0) (a:=c1) (o:=.tup [V.str de.ld,V.int de.lt,V.int de.sl,V.bl de.tn]);have n1:c1≠l0:=Ne.symm (ao k0 hc1);generalize upd H0 c1 (.tup [V.str de.ld,V.int de.lt,V.int de.sl,V.bl de.tn])=H1 at S1 k1;refine⟨_,rfl,_,rfl,cg (i:=1) (S1 _ _ (S0 _ _ hp2)) rfl ?_⟩;refine⟨l0,_,rfl,Xr.k (k:=Sum.inr de.n) (S1 _ _ k0) (aW (by omega)),rfl,fz (S0.trans S1),_,gC hl0 ae,?_⟩;rw[Vi _ hv];exact j6 (cb (fun _ _ z=>z.same mo) pk) ⟨rfl,c1,rfl,gC (S0.free hc1) (by rw[ak n1];exact k1)⟩
   rw[decide_eq_false z5];refine bF ?_;have z6:de.wy=.put\/de.wy=.cut\/de.wy=.swap:=by
    cases hw:de.wy with
    |put=>exact .inl rfl
    |cut=>exact .inr (.inl rfl)
    |swap=>exact .inr (.inr rfl)
    |add=>exact absurd hw z4
    |canon=>exact absurd hw z5
    |drop=>exact absurd hw z3
    |undo=>exact absurd hw z1
    |qL=>exact absurd hw z2
   have eb:(ik st de (cf st.vw de)).vw=AO st.vw de.n (.pl (fW (rH st.vw de.n) de.wy de.sg (cf st.vw de).toNat)):=by
    unfold ik;rcases z6 with z|z|z <;> rw[z]
   rw[eb];rw[vT z6]at ho;rcases hd.look de.n with ⟨f1,_⟩|⟨th,v1,f1,g1,t1⟩
   ·rw[lK f1]at ho;cases ho
   cases th with
   |cn ld lt sl tn =>
    rw[rK f1]at ho;cases ho
   |pl ss =>
    rw[rL f1]at ho;have ep:rH st.vw de.n=ss:=by unfold rH;rw[f1]
    rw[ep];obtain⟨l,zs,rfl,hl,g⟩:=t1;have agr:=(w.gd _ _ (dj f1)).1
    by_cases y1:cf st.vw de<0\/(ss.length:Int)+(if de.wy=.put then 1 else 0)<=cf st.vw de
    ·rw[if_pos y1]at ho;cases ho
    rw[if_neg y1]at ho
    by_cases y2:de.wy≠.cut/\iG de.sg=false
    ·rw[if_pos y2]at ho;cases ho
    have hgd:de.wy≠.cut->iG de.sg=true:=fun z=>by
     cases e:iG de.sg with
     |true=>rfl
     |false=>exact absurd ⟨z,e⟩ y2
    obtain⟨i,hi⟩:∃ i:Nat,cf st.vw de=(i:Int):=⟨(cf st.vw de).toNat,by omega⟩;rw[hi]at y1;have hi1:i<=ss.length:=by
     by_cases z:de.wy=.put
     ·rw[if_pos z]at y1;omega
     ·rw[if_neg z]at y1;omega
    have hi2:de.wy≠.put->i<ss.length:=fun z=>by rw[if_neg z]at y1;omega
    refine⟨_,rfl,_,rfl,cg (i:=1) (S0 _ _ hp2) rfl ⟨d,_,rfl,VA S0 g1,_,rfl,_,rfl,_,rfl,?_⟩⟩;refine⟨d,_,st.vw,de,rfl,hd.same S0,hde.same S0,fun H1 S1=>?_⟩;rw[hi,Int.toNat_natCast];have S01:=S0.trans S1;refine⟨l,_,zs,ss,de,i,rfl,S01 _ _ hl,g.same S01,agr,hde.same S01,z6,hgd,hi1,hi2,fun l' ys' H2 nl' S2 hl' g'=>?_⟩;have S02:=S01.trans S2;have n1:l'≠l0:=j3 hl' (S2 _ _ (S1 _ _ k0)) (by intro z;cases z);refine⟨_,rfl,_,rfl,cg (i:=1) (S02 _ _ hp2) rfl ?_⟩;refine⟨l0,_,rfl,Xr.k (k:=Sum.inr de.n) (S2 _ _ (S1 _ _ k0)) (aW (by omega)),rfl,fz S02,_,gC hl0 ae,?_⟩;obtain⟨v2,e2,_⟩:=XB pk f1;refine akI (cb (fun _ _ z=>z.same mo) pk) (by rw[e2];rfl) ⟨l',ys',rfl,gC (S01.free nl') (by rw[ak n1];exact hl'),?_⟩;refine cb (fun _ _ ⟨z,e1,e2⟩=>⟨z,e1,ud (fz S02) ?_ (fun _ q=>nomatch q)⟩) g';rw[ak (j3 e2 (S2 _ _ (S1 _ _ k0)) (by intro z;cases z))];exact e2
  rintro _ H1 ⟨rfl,S1,dv1⟩;have eb2:(ik st de (cf st.vw de)).ps=st.ps++[st.vw]/\(ik st de (cf st.vw de)).fs=[]:=by
   unfold ik;cases hw:de.wy with
   |undo=>exact absurd hw z1
   |qL=>exact absurd hw z2
   |_=>exact⟨rfl,rfl⟩
  refine⟨_,rfl,_,rfl,_,rfl,big (by show 1<=1000;omega),fun c2 hc2=>?_⟩;have S2:=aq.upd (o:=.lst [V.ref d]) hc2;have k2:=ae (H:=H1) (a:=c2) (o:=.lst [V.ref d]);generalize upd H1 c2 (.lst [V.ref d])=H2 at S2 k2;refine .inr (.inr ⟨a,c2,xs,_,rfl,rfl,S2 _ _ (S1 _ _ ha),k2,big (by show _+1<=1000;omega),fun c3 hc3=>?_⟩);have S3:=aq.upd (o:=.lst (xs++[V.ref d])) hc3;have k3:=ae (H:=H2) (a:=c3) (o:=.lst (xs++[V.ref d]));generalize upd H2 c3 (.lst (xs++[V.ref d]))=H3 at S3 k3;refine⟨big (by show 0<=1000;omega),fun c4 hc4=>?_⟩;have S4:=aq.upd (o:=.lst []) hc4;have k4:=ae (H:=H3) (a:=c4) (o:=.lst []);generalize upd H3 c4 (.lst [])=H4 at S4 k4;refine⟨by show 3<=sizeLine;decide,fun t0 ht0=>?_⟩;have S5:=aq.upd (o:=.tup [V.ref l0,V.ref c3,V.ref c4]) ht0;have S15:=((S2.trans S3).trans S4).trans S5;have SS:=S1.trans S15;refine q _ _ SS ⟨t0,l0,c3,c4,_,_,rfl,ud SS ae (fun _ z=>nomatch z),dv1.same (aeR S15),gC ((S1.trans S2).free hc3) (S5 _ _ (S4 _ _ k3)),?_,gC (((S1.trans S2).trans S3).free hc4) (S5 _ _ k4),?_⟩
  ·rw[eb2.1];exact j6 (cb (fun _ _ z=>z.same mo) px') ⟨d,rfl,hd'.same mo⟩
  ·rw[eb2.2];exact .nil
inductive NI (vs:List V)(H:Hp)(Q:VK)(E:XK):Prop
 |mk (x:Str) (eO:vs=[.str x]) (eP:x.length<=1000) (hX:∀ H',aq H H'->Q (.bl (nameB x)) H'):NI vs H Q E
theorem Yh (T:Txt K w mg t):bA P w K mg base k9 (0+1) t.nM t.HC ["name"] NI:=by
 refine T.vI.ok XH (fun vs H Q E h=>?_) (fun cdv A outer s H vs Q E hr h=>?_)
 ·obtain⟨_,rfl,_⟩:=h;rfl
 ·obtain⟨x,rfl,hx,q⟩:=h;refine aS (aj (aw (cK (iU (U3 vf vf ai (aJ (aE.or aF) rfl T.bO bM (aa (pv 0) ag)) (cy (v:=.int 8) rfl T.Nv ⟨_,rfl⟩)) (lF (aJ ad9 rfl T.aiF aia (aa (qF (cn:=["letter"]) rfl (fV.of rfl) (adO (pv 0)) (fun _=>(aU (i:=0) Rq rfl (Or.inl rfl))) (fun _=>yq) (fun _=>(bQ (cW.or cV) (pv 0) (cy (v:=.str "abcdefghijklmnopqrstuvwxyz") rfl T.ab1 ⟨_,rfl⟩) rfl))) ag))))))) ?_;have xb:x.length<=sizeLine:=Nat.le_trans hx (by decide);refine⟨fun v H'=>v=.bl (nameB x)/\aq H H',?_,fun _ _ ⟨e1,e2⟩=>by rw[e1];exact q _ e2⟩;unfold nameB;refine⟨_,rfl,.inr ⟨_,rfl,xb,_,_,rfl,rfl,_,rfl,?_⟩⟩;refine aY (fun h1=>?_) (fun h1=>?_)
  rotate_left
  ·have e1:decide (1<=x.length)=false:=decide_eq_false fun z=>h1 (decide_eq_true (by omega));rw[e1];exact⟨_,rfl,bF ⟨rfl,aq.refl _⟩⟩
  have e1:decide (1<=x.length)=true:=decide_eq_true (by have:=of_decide_eq_true h1;omega);rw[e1,Bool.true_and];refine⟨_,_,rfl,rfl,_,rfl,?_⟩;refine aY (fun h2=>?_) (fun h2=>?_)
  rotate_left
  ·have e2:decide (x.length<=8)=false:=decide_eq_false fun z=>h2 (decide_eq_true (by omega));rw[e2];exact⟨rfl,aq.refl _⟩
  have n2:x.length<=8:=by have:=of_decide_eq_true h2;omega
  have e2:decide (x.length<=8)=true:=decide_eq_true n2;rw[e2,Bool.true_and];refine⟨_,rfl,_,rfl,fun D b hD=>?_⟩;refine adY (fun i ys σ H'=>∃ v,σ=[v,some (.str x)]/\H'=upd H D (.lst ys)/\ys=((x.cps.toList.take i).map fun c=>Ph ⟨#[c]⟩ "abcdefghijklmnopqrstuvwxyz").map V.bl/\i<=x.cps.size) ⟨none,rfl,rfl,rfl,Nat.zero_le _⟩ ?_ ?_
  ·rintro i ys c σ H' hc ⟨v,rfl,rfl,rfl,hi⟩ N hN;have hi2:i<x.cps.size:=(Array.getElem?_eq_some_iff.mp hc).1;have hcm:x.cps.toList[i]? = some c:=by simpa using hc
   have sz:x.cps.size<=8:=n2;refine kG ?_;refine⟨_,rfl,.inr ⟨_,_,rfl,rfl,ae,?_,?_⟩⟩
   ·rw[length_map,length_map,length_take];exact aW (by omega)
   ·refine hN _ _ _ ⟨_,rfl,dS,?_,hi2⟩;rw[take_succ,hcm,map_append,map_append];rfl
  ·rintro ys σ H' ⟨v,rfl,rfl,rfl,hi⟩;refine⟨rfl,D,_,rfl,aX.of ae,?_,aq.upd hD⟩;rw[show x.cps.size=x.cps.toList.length from rfl,take_length];refine congrArg V.bl ?_;rw[List.all_map];rfl
inductive A8 (c:Cs)(vs:List V)(H:Hp)(Q:VK)(E:XK):Prop
 |mk (x:Addr) (F:Addr->Prop) (vw:Vw) (ps fs:List Vw) (eO:vs=[.ref x]) (eP:yx c H x F vw ps fs) (hX:∀(l:Addr)(H':Hp),H l=none->aq H H'->H' l=some (.lst (vw.map fun a=>V.str a.1))->Q (.ref l) H'):A8 c vs H Q E
theorem uS (T:Txt K w mg t):bA P w K mg base k9 (0+1) t.f7 t.wD ["self"] (A8 (cs t)):=by
 refine T.qQ.ok Pm (fun vs H Q E h=>?_) (fun cdv A outer s H vs Q E hr h=>?_)
 ·obtain⟨_,_,_,_,_,rfl,_⟩:=h;rfl
 ·obtain⟨x,F,vw,ps,fs,rfl,B,q⟩:=h;refine aS (aj (aw (qF (cn:=["voice"]) rfl (fV.of rfl) (gL (b7 (pv 0) rfl)) (fun _=>(aU (i:=0) Lz rfl (Or.inl rfl))) (fun _=>yq) (fun _=>(b7 (pv 0) rfl))))) ?_;obtain⟨L,D,U,all,M,Ps,Fs,es,us,b,i,pp,pf,f⟩:=B.ex;obtain⟨dx,hx⟩:=b.hx;obtain⟨vx,g,gv⟩:=b.wu i;have hL:=b.hL;have xl:=bS g;have vl:=bS gv;have ln:=(b.wf M (.inr (.inl rfl))).len;have hn:=aiB gv fun _ _ r=>r.2.1;refine⟨_,rfl,x,_,dx,_,_,rfl,hx,T.aN,T.bT,kI _ _ _,L,rfl,⟨_,aX.of hL⟩,fun D' b' hD'=>?_⟩;refine jP (K:=K) (xs:=M L) (fun i ys σ H'=>∃ v,σ=[v,some (.ref x)]/\H'=upd H D' (.lst ys)/\ys=(vx.take i).map fun a=>V.str a.n) ⟨none,rfl,rfl,by simp⟩ ?_ ?_ ?_
  ·rintro i ys σ H' ⟨v,rfl,rfl,_⟩;exact jO (aX.of hL) hD'
  ·rintro i ys y σ H' hy ⟨v,rfl,rfl,rfl⟩ N hN;obtain⟨a,e1,rfl,ha⟩:=yg g hy;have hi:i<vx.length:=(List.getElem?_eq_some_iff.mp e1).1;refine kG ?_;refine⟨_,rfl,a.o,_,a.d,_,_,rfl,by rw[ak (ao ha hD')];exact ha,T.gj,T.gI,Vq _ _ _,ae,?_,?_⟩
   ·rw[length_map,length_take];exact aW (by omega)
   ·refine hN _ _ _ ⟨_,rfl,dS,?_⟩;rw[take_succ,e1];simp
  ·rintro ys σ H' ⟨v,rfl,rfl,rfl⟩;rw[xl,take_length,hn];exact q D' _ hD' (aq.upd hD') ae
theorem aeS {x:Str}{l:List V}(h:inV (.str x) l=true):V.str x∈l:=by
 unfold inV at h;obtain⟨y,hy,e⟩:=any_eq_true.mp h;cases y with
 |str z =>
  have:z=x:=by simpa [eqV] using e
  rw[<-this];exact hy
 |_=>simp[eqV]at e
theorem Yi {x:Str}{l:List V}(h:V.str x∈l):inV (.str x) l=true:=by
 unfold inV;exact any_eq_true.mpr ⟨_,h,by simp[eqV]⟩
theorem Le {vw:Vw}{n:Str}(h:c9 vw n=none):nameB n=true/\bf vw n=none/\vw.length<12:=by
 unfold c9 at h;split at h
 ·cases h
 ·next h1 =>
  split at h
  ·cases h
  ·next h2 =>
   split at h
   ·cases h
   ·next h3=>exact⟨by simpa using h1,by cases e:bf vw n with|none=>rfl|some _=>rw[e]at h2;exact absurd rfl h2,by omega⟩
inductive si (c:Cs)(vs:List V)(H:Hp)(Q:VK)(E:XK):Prop
 |mk (x:Addr) (F:Addr->Prop) (vw:Vw) (ps fs:List Vw) (n:Str) (eO:vs=[.ref x,.str n]) (eP:yx c H x F vw ps fs) (hX:n.length<=1000) (kC:match c9 vw n with
 |some r=>∀ H',aq H H'->RX E c r H'
 |none=>∀ H',aq H H'->Q .non H'):si c vs H Q E
theorem sj (T:Txt K w mg t):bA P w K mg base (iE P w) (0+2) t.bD t.lP ["self","name"] (si (cs t)):=by
 have ab6:=Yh (P:=P) (base:=base) T;have j0:=uS (P:=P) (base:=base) T;refine T.jh.Q5 Bu (fun vs H Q E h=>?_) (fun cdv A outer s H vs Q E hr h=>?_)
 ·obtain⟨_,_,_,_,_,_,rfl,_⟩:=h;rfl
 ·obtain⟨x,F,vw,ps,fs,n,rfl,B,hlen,q⟩:=h;refine aS (af (aO (cF (bh (aD ab6 (hr.mono (by decide)) rfl T.X0 T.vI.kp T.HN .nil aP (aa (pv 1) ag)))) (aj (iF (X:=(cL (iE P w) P w K mg base ["self","name"] "Book.refuse_new" (ah bY) t.bD cdv A outer s H E)) (fun _ _ z=>z) rfl T.X8.exc rfl T.Nw (aa ax ag))) aB) (af (aO (ar (cW.or cV) (pv 1) (lI (pv 0) T.aN T.o6 j0 (hr.mono (by decide)) T.jU .nil aP) rfl) (aj (iF (X:=(cL (iE P w) P w K mg base ["self","name"] "Book.refuse_new" (ah bY) t.bD cdv A outer s H E)) (fun _ _ z=>z) rfl T.RF.exc rfl T.E4 (aa ax ag))) aB) (aj (aO (ar aaD (aJ (aE.or aF) rfl T.bO bM (aa (b7 (pv 0) rfl) ag)) (cy (v:=.int 12) rfl T.Pr ⟨_,rfl⟩) (az _)) (aj (iF (X:=(cL (iE P w) P w K mg base ["self","name"] "Book.refuse_new" (ah bY) t.bD cdv A outer s H E)) (fun _ _ z=>z) rfl T.aa5.exc rfl T.RE (aa ax ag))) aB)))) ?_;refine⟨_,rfl,n,rfl,hlen,fun H1 s1=>?_⟩;unfold c9 at q;refine⟨_,rfl,?_⟩;cases hnb:nameB n with
  |false =>
   rw[if_pos hnb]at q;have q:=q H1 s1;exact cX ⟨by show 1<=sizeLine;decide,q.2⟩
  |true =>
   rw[if_neg (by rw[hnb];decide)]at q;refine bF ?_;have B1:=B.same s1;obtain⟨L,D,U,all,M,Ps,Fs,es,us,b,i,pp,pf,f⟩:=B1.ex;obtain⟨dx,hx⟩:=b.hx;refine⟨_,rfl,_,rfl,x,dx,_,rfl,hx,qI _ _ _,?_⟩;refine⟨x,F,vw,ps,fs,rfl,B1,fun l H2 hl s2 hl2=>?_⟩;refine .inl ⟨l,_,rfl,.inl (aX.of hl2),rfl,?_,_,rfl,?_⟩
   ·rw[List.all_map];exact all_eq_true.mpr fun _ _=>rfl
   have mem:inV (.str n) (vw.map fun a=>V.str a.1)=true ↔ (bf vw n).isSome=true:=by
    constructor
    ·intro h;obtain⟨a,ha,e⟩:=mem_map.mp (aeS h);cases e2:bf vw n with
     |some _=>rfl
     |none=>exact absurd (V.str.inj e) (rF e2 a ha)
    ·intro h;cases e2:bf vw n with
     |none=>rw[e2]at h;cases h
     |some th=>exact Yi (mem_map.mpr ⟨_,dj e2,rfl⟩)
   refine aY (fun h=>?_) (fun h=>?_)
   ·rw[if_pos (mem.mp h)]at q;have q:=q H2 (s1.trans s2);exact⟨by show 1<=sizeLine;decide,q.2⟩
   rw[if_neg (fun z=>h (mem.mpr z))]at q;refine⟨_,rfl,x,_,dx,_,_,rfl,s2 _ _ hx,T.aN,T.bT,kI _ _ _,?_⟩;refine .inl ⟨L,M L,rfl,.inl (aX.of (s2 _ _ b.hL)),?_⟩;refine⟨_,_,rfl,rfl,_,rfl,?_⟩;have ll:=bS i;refine aY (fun h=>?_) (fun h=>?_)
   ·have h':=of_decide_eq_true h;rw[if_pos (by omega)]at q;have q:=q H2 (s1.trans s2);exact⟨by show 1<=sizeLine;decide,q.2⟩
   ·rw[if_neg (fun z=>h (decide_eq_true (by omega)))]at q;exact q _ (s1.trans s2)
inductive pN (c:Cs)(vs:List V)(H:Hp)(Q:VK)(E:XK):Prop
 |mk (x dx L D U:Addr) (xs:List V) (vx:List Vx) (n:Str) (eO:vs=[.ref x,.str n]) (eP:H x=some (.ins c.B dx (Br L D U))) (hX:H L=some (.lst xs)) (kC:Paired (agg c.V H) xs vx) (rq:match vx.find? (fun a=>decide (a.n=n)) with
 |none=>RX E c .dU H
 |some a=>Q (.ref a.o) H):pN c vs H Q E
theorem ab7 {vx:List Vx}{n:Str}:∀{i:Nat},(∀ j a,j<i->vx[j]? = some a->a.n≠n)->∀{b},vx[i]? = some b->b.n=n->vx.find? (fun a=>decide (a.n=n))=some b:=by
 induction vx with
 |nil=>intro i _ b h;simp at h
 |cons v vs ih =>
  intro i hi b hb he;cases i with
  |zero =>
   simp at hb;subst hb;exact List.find?_cons_of_pos (decide_eq_true he)
  |succ i =>
   have h0:=hi 0 v (by omega) rfl;have h1:(v::vs).find? (fun a=>decide (a.n=n))=vs.find? (fun a=>decide (a.n=n)):=List.find?_cons_of_neg (fun z=>h0 (of_decide_eq_true z));rw[h1];exact ih (i:=i) (fun j a hj ha=>hi (j+1) a (Nat.succ_lt_succ hj) (by simpa using ha)) (by simpa using hb) he
theorem dR (T:Txt K w mg t):bA P w K mg base (iE P w) (0+1) t.bI t.j8 ["self","name"] (pN (cs t)):=by
 refine T.gM.Q5 pG (fun vs H Q E h=>?_) (fun cdv A outer s H vs Q E hr h=>?_)
 ·obtain⟨_,_,_,_,_,_,_,_,rfl,_⟩:=h;rfl
 ·obtain⟨x,dx,L,D,U,xs,vx,n,rfl,hx,hL,g,q⟩:=h;refine aS (af (aiu (gR PassesOwn.never rfl (gL (b7 (pv 0) rfl)) (aU (i:=2) pG.nd rfl (Or.inl rfl)) (aj (aO (ar (bg.or (aR (aA hr))) (b7 (pv 2) rfl) (pv 1) (az _)) (aj (aw (pv 2))) aB)))) (aj (iF (X:=(cL (iE P w) P w K mg base ["self","name","voice"] "Book.voice_called" (ah cu) t.bI cdv A outer s H E)) (fun _ _ z=>z) rfl T.X9.exc rfl T.Nx (aa ax ag)))) ?_;have xl:=bS g;refine⟨_,rfl,x,_,dx,_,_,rfl,hx,T.aN,T.bT,kI _ _ _,L,rfl,⟨_,aX.of hL⟩,rm (K:=K) (xs:=xs) (fun i σ H'=>∃ v,σ=[some (.ref x),some (.str n),v]/\H'=H/\∀ j a,j<i->vx[j]? = some a->a.n≠n) ⟨none,rfl,rfl,fun j a hj=>by omega⟩ ?_ ?_ ?_⟩
  ·rintro i σ H1 _ ⟨v,rfl,eH,_⟩;rw[eH];exact aX.of hL
  ·rintro i y σ H1 hy ⟨v,rfl,eH,hi⟩;have eH:=eH.symm;subst eH;obtain⟨b,e1,rfl,hb⟩:=yg g hy;refine⟨_,rfl,b.o,_,b.d,_,_,rfl,hb,T.gj,T.gI,Vq _ _ _,?_⟩;refine⟨_,rfl,.inl ⟨rfl,_,rfl,?_⟩⟩;refine aY (fun h=>?_) (fun h=>?_)
   ·have e:b.n=n:=V.str.inj (of_decide_eq_true h);rw[ab7 hi e1 e]at q;exact⟨_,rfl,q⟩
   ·refine⟨_,rfl,rfl,fun j a hj ha=>?_⟩;rcases Nat.lt_or_ge j i with z|z
    ·exact hi j a z ha
    ·have hij:j=i:=by omega
     rw[hij,e1]at ha;cases ha;exact fun z=>h (decide_eq_true (congrArg V.str z))
  ·rintro σ H1 ⟨v,rfl,eH,hi⟩;have eH:=eH.symm;subst eH;have hn:vx.find? (fun a=>decide (a.n=n))=none:=List.find?_eq_none.mpr fun a ha z=>by
    obtain⟨j,hj⟩:=getElem?_of_mem ha;have hjl:j<vx.length:=(List.getElem?_eq_some_iff.mp hj).1;exact hi j a (by omega) hj (of_decide_eq_true z)
   rw[hn]at q;exact⟨by show 1<=sizeLine;decide,q.2⟩
inductive qB (c:Cs)(vs:List V)(H:Hp)(Q:VK)(E:XK):Prop
 |mk (x dx L D U:Addr) (xs:List V) (vx:List Vx) (n:Str) (eO:vs=[.ref x,.str n]) (eP:H x=some (.ins c.B dx (Br L D U))) (hX:H L=some (.lst xs)) (kC:Paired (agg c.V H) xs vx) (rq:match vx.find? (fun a=>decide (a.n=n)) with
 |none=>RX E c .dU H
 |some a=>(a.tm=.non->Q (.ref a.o) H)/\(∀ p,a.tm=.ref p->RX E c .gT H)/\(a.tm=.non\/∃ p,a.tm=.ref p)):qB c vs H Q E
theorem gO (T:Txt K w mg t):bA P w K mg base (iE P w) (0+2) t.bE t.kL ["self","name"] (qB (cs t)):=by
 have bJ:=dR (P:=P) (base:=base) T;refine T.iw.Q5 qA (fun vs H Q E h=>?_) (fun cdv A outer s H vs Q E hr h=>?_)
 ·obtain⟨_,_,_,_,_,_,_,_,rfl,_⟩:=h;rfl
 ·obtain⟨x,dx,L,D,U,xs,vx,n,rfl,hx,hL,g,q⟩:=h;refine aS (af (aK (i:=2) qA.nd rfl (Or.inl rfl) (bX (X:=(cL (iE P w) P w K mg base ["self","name","voice"] "Book.plain_voice" (ah b9) t.bE cdv A outer s H E)) (pv 0) T.aN T.dH bJ (hr.mono (by decide)) T.cw .nil (fun _ _ z=>Or.inl z) (aa (pv 1) ag))) (af (aO (ar QW (b7 (pv 2) rfl) jq (az _)) (aj (iF (X:=(cL (iE P w) P w K mg base ["self","name","voice"] "Book.plain_voice" (ah b9) t.bE cdv A outer s H E)) (fun _ _ z=>z) rfl T.VL.exc rfl T.Lb (aa ax ag))) aB) (aj (aw (pv 2))))) ?_;refine⟨_,rfl,x,dx,_,rfl,hx,ee _ _ _,_,rfl,x,dx,L,D,U,xs,vx,n,rfl,hx,hL,g,?_⟩;cases hf:vx.find? (fun a=>decide (a.n=n)) with
  |none =>
   rw[hf]at q;exact q
  |some a =>
   rw[hf]at q;obtain⟨q1,q2,q3⟩:=q;obtain⟨j,hj⟩:=getElem?_of_mem (List.mem_of_find?_eq_some hf);obtain⟨v,hv,rfl,ha⟩:=rC g hj;refine⟨_,rfl,a.o,_,a.d,_,_,rfl,ha,T.gj,T.cR,Az _ _ _,?_⟩;rcases q3 with e|⟨p,e⟩
   ·rw[e];refine⟨rfl,_,rfl,?_⟩;exact aY (fun h=>absurd h (by decide)) (fun _=>⟨_,rfl,q1 e⟩)
   ·have q:=q2 p e;rw[e];refine⟨rfl,_,rfl,?_⟩;exact aY (fun _=>⟨by show 1<=sizeLine;decide,q.2⟩) (fun h=>absurd (show(!decide (V.ref p=V.non))=true by rw[decide_eq_false (fun z=>nomatch z)];rfl) h)
inductive yb (CB CD:Addr)(vs:List V)(H:Hp)(Q:VK)(E:XK):Prop
 |mk (x dx L D U d dd T_ B A:Addr) (i:Nat) (ds us xs bs as:List V) (eO:vs=[.ref x,.ref d]) (eP:H x=some (.ins CB dx (Br L D U))) (hX:H D=some (.lst ds)) (kC:H U=some (.lst us)) (rq:H d=some (.ins CD dd (K0 T_ (i:Int) B A))) (QX:H T_=some (.lst xs)) (h6_:H B=some (.lst bs)) (h7_:H A=some (.lst as)) (h8_:T_≠A) (h9_:T_≠D) (am5:T_≠U) (apO:D≠U) (apP:i+bs.length<=xs.length) (apQ:xs.length+as.length<=1000) (apR:ds.length<=900) (apS:Q .non (upd (upd (upd H T_ (.lst (xs.take i++as++xs.drop (i+bs.length)))) D (.lst (ds++[.ref d]))) U (.lst []))):yb CB CD vs H Q E
theorem iQ (T:Txt K w mg t):bA P w K mg base k9 (0+2) t.dC t.rP ["self","deed"] (yb t.ba t.bq):=by
 have Ig:=NH (P:=P) (base:=base) T;refine T.lZ.ok Lx (fun vs H Q E h=>?_) (fun cdv A outer s H vs Q E hr h=>?_)
 ·obtain⟨_,_,_,_,_,_,_,_,_,_,_,_,_,_,_,_,rfl,_⟩:=h;rfl
 ·obtain⟨x,dx,L,D,U,d,dd,T_,B,A_,i,ds,us,xs,bs,as,rfl,hx,hD,hU,hd,hT,hB,hA,n1,n2,n3,n4,hi,hz,hds,q⟩:=h;refine aS (af (bc (lI (pv 1) T.gk T.Ng Ig (hr.mono (by decide)) T.AI .nil aP)) (af (bc (jr plainAttrs_list slot_list_append type_list_append bK (b7 (pv 0) rfl) (aa (pv 1) ag))) (aj (bc (Q3 plainAttrs_list PySem.F.slot_list_clear PySem.F.type_list_clear adH (b7 (pv 0) rfl)))))) ?_;have xT:x≠T_:=j3 hx hT (by intro z;cases z);have xD:x≠D:=j3 hx hD (by intro z;cases z);refine⟨_,rfl,d,dd,_,rfl,hd,Qq _ _ _ _,?_⟩;refine⟨d,dd,T_,B,A_,i,xs,bs,as,rfl,hd,hT,hB,hA,n1,hi,hz,?_⟩;refine⟨_,rfl,x,_,dx,_,_,rfl,by rw[ak xT];exact hx,T.aN,T.eJ,Ea _ _ _,?_⟩;refine⟨.inl ⟨rfl,_,aX.of (show upd H T_ _ D=some (.lst ds) by rw[ak (Ne.symm n2)];exact hD)⟩,_,rfl,D,_,_,rfl,rfl,by rw[ak (Ne.symm n2)];exact hD,aW (by omega),?_⟩;refine⟨_,rfl,x,_,dx,_,_,rfl,by rw[ak xD,ak xT];exact hx,T.aN,T.cS,wt _ _ _,?_⟩;have hU2:upd (upd H T_ (.lst (xs.take i++as++xs.drop (i+bs.length)))) D (.lst (ds++[.ref d])) U=some (.lst us):=by rw[ak (Ne.symm n4),ak (Ne.symm n3)];exact hU
  exact⟨.inl ⟨rfl,_,aX.of hU2⟩,U,_,rfl,rfl,hU2,q⟩
inductive Fl (C:Addr)(vs:List V)(H:Hp)(Q:VK)(E:XK):Prop
 |mk (x dx:Addr) (T_:Addr) (i:Int) (B A:Addr) (eO:vs=[.ref x,.ref T_,.int i,.ref B,.ref A]) (eP:H x=some (.ins C dx [])) (hX:Q .non (upd H x (.ins C dx (K0 T_ i B A)))):Fl C vs H Q E
theorem hI (T:Txt K w mg t):bA P w K mg base k9 (0+1) t.cZ t.pW ["self","things","at","before","after"] (Fl t.bq):=by
 refine T.kA.ok Hk (fun vs H Q E h=>?_) (fun cdv A outer s H vs Q E hr h=>?_)
 ·obtain⟨_,_,_,_,_,_,rfl,_⟩:=h;rfl
 ·obtain⟨x,dx,T_,i,B,A_,rfl,hx,q⟩:=h;refine aS (af (uI (pv 0) (pv 1) rfl) (af (uI (pv 0) (pv 2) rfl) (af (uI (pv 0) (pv 3) rfl) (aj (uI (pv 0) (pv 4) rfl))))) ?_;refine⟨_,rfl,_,rfl,x,_,dx,_,rfl,hx,T.gk,T.fb,by show 0<1000;decide,?_⟩;refine⟨_,rfl,_,rfl,x,_,dx,_,rfl,ae,T.gk,T.iA,by rw[Mh];show 1<1000;decide,?_⟩;refine⟨_,rfl,_,rfl,x,_,dx,_,rfl,ae,T.gk,T.fc,by rw[Mh,Rj];show 2<1000;decide,?_⟩;refine⟨_,rfl,_,rfl,x,_,dx,_,rfl,ae,T.gk,T.gJ,by rw[Mh,Rj,aaX];show 3<1000;decide,?_⟩;rw[Mh,Rj,aaX,age];simp only [dS];exact q
inductive zb (c:Cs)(vs:List V)(H:Hp)(Q:VK)(E:XK):Prop
 |mk (x dx L D U v:Addr) (xs ds us:List V) (eO:vs=[.ref x,.ref v]) (eP:H x=some (.ins c.B dx (Br L D U))) (hX:H L=some (.lst xs)) (kC:H D=some (.lst ds)) (rq:H U=some (.lst us)) (QX:L≠D) (h6_:L≠U) (h7_:D≠U) (h8_:xs.length<=12) (h9_:ds.length<=900) (am5:∀(e:Dd)(H1 H':Hp),e.T=L->e.i=xs.length->e.bs=[]->e.as=[.ref v]->aq H H1->H e.B=none->H e.A=none->pC c.D H1 (.ref e.o) e->(∀ y o,H1 y=some o->y≠L->y≠D->y≠U->H' y=some o)->H' L=some (.lst (xs++[.ref v]))->H' D=some (.lst (ds++[.ref e.o]))->H' U=some (.lst [])->Q .non H'):zb c vs H Q E
theorem zc (T:Txt K w mg t):bA P w K mg base k9 (0+3) t.eL t.uP ["self","voice"] (zb (cs t)):=by
 have cU:=iQ (P:=P) (base:=base) T;have cE:=hI (P:=P) (base:=base) T;refine T.o7.ok MY (fun vs H Q E h=>?_) (fun cdv A outer s H vs Q E hr h=>?_)
 ·obtain⟨_,_,_,_,_,_,_,_,_,rfl,_⟩:=h;rfl
 ·obtain⟨x,dx,L,D,U,v,xs,ds,us,rfl,hx,hL,hD,hU,n1,n2,n3,hxs,hds,q⟩:=h;refine aS (aj (bc (kq (pv 0) T.aN T.iJ cU (hr.mono (by decide)) T.e9 .nil aP (aa (we T.E3 cE (hr.mono (by decide)) rfl T.E2 T.d7 .nil aP (aa (b7 (pv 0) rfl) (aa (aJ (aE.or aF) rfl T.bO bM (aa (b7 (pv 0) rfl) ag)) (aa (bx ag) (aa (bx (aa (pv 1) ag)) ag))))) ag)))) ?_;refine⟨_,rfl,x,dx,_,rfl,hx,ju _ _ _,?_⟩;refine⟨_,rfl,x,_,dx,_,_,rfl,hx,T.aN,T.bT,kI _ _ _,?_⟩;refine⟨_,rfl,x,_,dx,_,_,rfl,hx,T.aN,T.bT,kI _ _ _,?_⟩;refine .inl ⟨L,xs,rfl,.inl (aX.of hL),?_⟩;refine⟨big (by show 0<=1000;omega),fun B hB=>?_⟩;refine⟨_,rfl,big (by show 1<=1000;omega),fun A_ hA=>?_⟩;have Yj:=Ee hA;have LA:L≠A_:=ao (aq.upd (o:=.lst []) hB _ _ hL) hA;have sB:=(aq.upd (o:=.lst []) hB).trans (aq.upd (o:=.lst [V.ref v]) hA);have hB2:=aq.upd (o:=.lst [V.ref v]) hA _ _ (ae (H:=H) (a:=B) (o:=.lst []));have RK:=ae (H:=upd H B (.lst [])) (a:=A_) (o:=.lst [V.ref v]);generalize upd (upd H B (.lst [])) A_ (.lst [V.ref v])=H2 at sB hB2 RK;intro d dd nd ndd ne;refine⟨d,dd,L,(xs.length:Int),B,A_,rfl,ae,rfl,?_⟩;rw[dS];have s3:aq H2 (upd (upd H2 dd (.own d)) d (.ins t.bq dd (K0 L (xs.length:Int) B A_))):=fun y o hy=>by
   rw[ak (ao hy nd),ak (ao hy ndd)];exact hy
  have RL:=ae (H:=upd H2 dd (.own d)) (a:=d) (o:=.ins t.bq dd (K0 L (xs.length:Int) B A_));generalize upd (upd H2 dd (.own d)) d (.ins t.bq dd (K0 L (xs.length:Int) B A_))=H3 at s3 RL;have s4:=sB.trans s3;refine⟨x,dx,L,D,U,d,dd,L,B,A_,xs.length,ds,us,xs,[],[.ref v],rfl,s4 _ _ hx,s4 _ _ hD,s4 _ _ hU,RL,s4 _ _ hL,s3 _ _ hB2,s3 _ _ RK,LA,n1,n2,n3,by simp,by simp;omega,hds,?_⟩;refine q ⟨d,dd,L,xs.length,B,A_,[],[.ref v]⟩ H3 _ rfl rfl rfl rfl s4 hB Yj ⟨rfl,RL,s3 _ _ hB2,s3 _ _ RK⟩ (fun y o hy y1 y2 y3=>?_) ?_ ?_ ae
  ·rw[ak y3,ak y2,ak y1];exact hy
  ·rw[ak n2,ak n1,ae];simp
  ·rw[ak n3,ae]
inductive A9 (C:Addr)(vs:List V)(H:Hp)(Q:VK)(E:XK):Prop
 |mk (x dx:Addr) (n:Str) (tm:V) (eO:vs=[.ref x,.str n,tm]) (eP:H x=some (.ins C dx [])) (hX:∀(L:Addr)(H':Hp),(∀ y o,H y=some o->y≠x->H' y=some o)->H L=none->L≠x->H' x=some (.ins C dx (voF n tm L))->H' L=some (.lst [])->Q .non H'):A9 C vs H Q E
theorem ue (T:Txt K w mg t):bA P w K mg base k9 (0+1) t.cI t.nN ["self","name","terms"] (A9 t.dA):=by
 refine T.jV.ok Ek (fun vs H Q E h=>?_) (fun cdv A outer s H vs Q E hr h=>?_)
 ·obtain⟨_,_,_,_,rfl,_⟩:=h;rfl
 ·obtain⟨x,dx,n,tm,rfl,hx,q⟩:=h;refine aS (af (uI (pv 0) (pv 1) rfl) (af (uI (pv 0) (pv 2) rfl) (aj (uI (pv 0) (bx ag) rfl)))) ?_;refine⟨_,rfl,_,rfl,x,_,dx,_,rfl,hx,T.gj,T.gI,by show 0<1000;decide,?_⟩;refine⟨_,rfl,_,rfl,x,_,dx,_,rfl,ae,T.gj,T.cR,by rw[Rh];show 1<1000;decide,?_⟩;refine⟨big (by show 0<=1000;omega),fun L hL=>?_⟩;rw[dS]at hL;have nx:x≠L:=fun e=>by rw[<-e,ae]at hL;cases hL
  have hL0:H L=none:=by rw[ak (Ne.symm nx)]at hL;exact hL
  refine⟨_,rfl,x,_,dx,_,rfl,by rw[ak nx,dS];exact ae,T.gj,T.cC,by rw[Rh,aaW];show 2<1000;decide,?_⟩;rw[Rh,aaW,agd];simp only [dS];refine q L _ (fun y o hy ny=>?_) hL0 (Ne.symm nx) ae ?_
  ·rw[ak ny,ak (ao hy hL0),ak ny];exact hy
  ·rw[ak (Ne.symm nx)];exact ae
inductive uf (c:Cs)(vs:List V)(H:Hp)(Q:VK)(E:XK):Prop
 |mk (x:Addr) (F:Addr->Prop) (vw:Vw) (ps fs:List Vw) (n ld:Str) (lt sl:Int) (tn:Bool) (eO:vs=[.ref x,.str n,.str ld,.int lt,.int sl,.bl tn]) (eP:yx c H x F vw ps fs) (hX:n.length<=1000) (kC:ps.length<=900) (rq:match c9 vw n with
 |some r=>∀ H',aq H H'->RX E c r H'
 |none=>match bf vw ld with
  |none=>∀ H',aq H H'->RX E c .dU H'
  |some (.cn _ _ _ _)=>∀ H',aq H H'->RX E c .gT H'
  |some (.pl _)=>(¬ ig lt sl->∀ H',aq H H'->RX E c .tE H')/\(ig lt sl->∀ F' H',Gr F F' H->Fr F H H'->yx c H' x F' (vw++[(n,.cn ld lt sl tn)]) (ps++[vw]) []->Q .non H')):uf c vs H Q E
theorem Fm (T:Txt K w mg t):bA P w K mg base (iE P w) (0+4) t.bL t.jT ["self","name","leader","later","slow","is_turned"] (uf (cs t)):=by
 have mi:=sj (P:=P) (base:=base) T;have cG:=gO (P:=P) (base:=base) T;have uT:=zc (P:=P) (base:=base) T;have oi:=ue (P:=P) (base:=base) T;refine T.g5.Q5 El (fun vs H Q E h=>?_) (fun cdv A outer s H vs Q E hr h=>?_)
 ·obtain⟨_,_,_,_,_,_,_,_,_,_,rfl,_⟩:=h;rfl
 ·obtain⟨x,F,vw,ps,fs,n,ld,lt,sl,tn,rfl,B,hlen,hps,q⟩:=h;refine aS (af (bc (bX (X:=(cL (iE P w) P w K mg base ["self","name","leader","later","slow","is_turned"] "Book.add_canon" (ah cj) t.bL cdv A outer s H E)) (pv 0) T.aN T.r0 mi (hr.mono (by decide)) T.ji .nil (fun _ _ z=>Or.inl z) (aa (pv 1) ag))) (af (bc (bX (X:=(cL (iE P w) P w K mg base ["self","name","leader","later","slow","is_turned"] "Book.add_canon" (ah cj) t.bL cdv A outer s H E)) (pv 0) T.aN T.gN cG (hr.mono (by decide)) T.dw .nil (fun _ _ z=>Or.inl z) (aa (pv 2) ag))) (af (aO (cF (bN (PW.pt (cJ (D0 vf vf ai (pv 3) (cy (v:=.int 999) rfl T.aeN ⟨_,rfl⟩)) (dy (D0 vf vf ai (pv 4) (cy (v:=.int 9) rfl T.ab2 ⟨_,rfl⟩))))))) (aj (iF (X:=(cL (iE P w) P w K mg base ["self","name","leader","later","slow","is_turned"] "Book.add_canon" (ah cj) t.bL cdv A outer s H E)) (fun _ _ z=>z) rfl T.Ya.exc rfl T.Ny (aa ax ag))) aB) (aj (bc (kq (pv 0) T.aN T.yU uT (hr.mono (by decide)) T.o8 .nil aP (aa (we T.VJ oi (hr.mono (by decide)) rfl T.VI T.jW .nil aP (aa (pv 1) (aa (b8 (aa (pv 2) (aa (pv 3) (aa (pv 4) (aa (pv 5) ag))))) ag))) ag))))))) ?_;obtain⟨L,D,U,all,M,Ps,Fs,es,us,b,i,pp,pf,f⟩:=B.ex;obtain⟨dx,hx⟩:=b.hx;have wv:=B.wv vw (.inr (.inl rfl));refine⟨_,rfl,x,dx,_,rfl,hx,tw _ _ _,_,rfl,x,F,vw,ps,fs,n,rfl,B,hlen,?_⟩;cases ho:c9 vw n with
  |some r =>
   rw[ho]at q;intro H' s';have q:=q H' s';exact q
  |none =>
   rw[ho]at q;obtain⟨_,hf,aiO⟩:=Le ho;intro H1 s1;have b1:=b.kept f (.same s1);have i1:Is H1 L all M vw:=Is.kept (F:=F) (.same s1) i;obtain⟨vx,g,gv⟩:=b1.wu i1;have hx1:=s1 _ _ hx;refine⟨_,rfl,x,dx,_,rfl,hx1,ic _ _ _,_,rfl,x,dx,L,D,U,M L,vx,ld,rfl,hx1,b1.hL,g,?_⟩;rcases K4 gv (fun _ _ r=>r.2.1) ld with ⟨f1,f2⟩|⟨a,th,j,f1,f2,r,an,fj,fw⟩
   ·rw[f1];rw[f2]at q;have q:=q H1 s1;exact q
   rw[f1];rw[f2]at q;cases th with
   |cn ld2 lt2 sl2 tn2 =>
    obtain⟨pt,QD,_⟩:=r.2.2;have q:=q H1 s1;refine⟨(fun z=>by rw[QD]at z;cases z),(fun _ _=>q),.inr ⟨pt,QD⟩⟩
   |pl ss =>
    obtain⟨UU,hg⟩:=r.2.2;obtain⟨q1,q2⟩:=q;refine⟨fun _=>?_,(fun pz z=>by rw[UU]at z;cases z),.inl UU⟩;refine⟨fun bb H'=>bb=decide (ig lt sl)/\H'=H1,?_,?_⟩
    ·refine⟨_,rfl,_,_,rfl,rfl,_,rfl,?_⟩;refine aY (fun h1=>?_) (fun h1=>?_)
     rotate_left
     ·have e:decide (ig lt sl)=false:=decide_eq_false fun z=>h1 (decide_eq_true z.1);rw[e];exact⟨_,rfl,bF ⟨rfl,rfl⟩⟩
     refine⟨_,_,rfl,rfl,_,rfl,?_⟩;refine aY (fun h2=>?_) (fun h2=>?_)
     rotate_left
     ·have e:decide (ig lt sl)=false:=decide_eq_false fun z=>h2 (decide_eq_true z.2.1);rw[e];exact⟨rfl,rfl⟩
     refine⟨_,rfl,_,_,rfl,rfl,_,rfl,?_⟩;refine aY (fun h3=>?_) (fun h3=>?_)
     rotate_left
     ·have e:decide (ig lt sl)=false:=decide_eq_false fun z=>h3 (decide_eq_true z.2.2.1);rw[e];exact⟨_,rfl,rfl,rfl⟩
     refine⟨_,_,rfl,rfl,_,rfl,?_,rfl⟩;refine decide_eq_decide.mpr ⟨fun z=>⟨of_decide_eq_true h1,of_decide_eq_true h2,of_decide_eq_true h3,z⟩,fun z=>z.2.2.2⟩
    intro bb H1' ⟨e1,e2⟩;rw[e1,e2]
    by_cases hok:ig lt sl
    rotate_left
    ·rw[decide_eq_false hok];have q:=q1 hok H1 s1;exact cX ⟨by show 1<=sizeLine;decide,q.2⟩
    rw[decide_eq_true hok];refine bF ?_;obtain⟨ds,hD,pD⟩:=b1.hD;obtain⟨ux,hU,pU⟩:=b1.hU;have ll:=bS i;have dl:=bS pD;have pl:=bS pp;have pe:=b.past.len;refine⟨_,rfl,x,dx,_,rfl,hx1,A3 _ _ _,_,rfl,_,rfl,_,rfl,_,rfl,_,rfl,(by show 4<=sizeLine;decide),fun tp htp=>?_⟩;have st:=aq.upd (o:=.tup [V.str ld,V.int lt,V.int sl,V.bl tn]) htp;have akL:=ae (H:=H1) (a:=tp) (o:=.tup [V.str ld,V.int lt,V.int sl,V.bl tn]);generalize upd H1 tp (.tup [V.str ld,V.int lt,V.int sl,V.bl tn])=H1t at st akL;intro v dv nv ndv ne;refine⟨v,dv,n,.ref tp,rfl,ae,fun l H2 kp hl hlv hv2 hl2=>⟨rfl,?_⟩⟩;have s2t:aq H1t H2:=fun y o hy=>kp y o (by rw[ak (ao hy nv),ak (ao hy ndv)];exact hy) (ao hy nv);have s2:=st.trans s2t;have hl1:H1 l=none:=st.free (MS hl);refine⟨x,dx,L,D,U,v,M L,ds,ux,rfl,s2 _ _ hx1,s2 _ _ b1.hL,s2 _ _ hD,s2 _ _ hU,b.LD,b.LU,b.DU,by omega,by omega,fun e H3 H' eT ei eb ea s3 nB nA hd fr hL' hD' hU'=>?_⟩;obtain⟨F',gr,fr',B'⟩:=Bk.added b1 i1 (cb (fun _ _ q=>Is.kept (F:=F) (.same s1) q) pp) f B.wv (a:=⟨v,dv,n,.ref tp,l⟩) (th:=.cn ld lt sl tn) s2 (st.free nv) hl1 hv2 hl2 (fun M' h0=>⟨tp,rfl,s2t _ _ akL⟩) (wv.akw (rF hf) aiO (dj f2) hok.1 hok.2.1 hok.2.2.1 hok.2.2.2) eT ei eb ea s3 nB nA hd hD pD fr hL' hD' hU';exact q2 hok F' H' (gr.old s1) (fun y o hy hn=>fr' y o (s1 y o hy) hn) B'
inductive mj (c:Cs)(vs:List V)(H:Hp)(Q:VK)(E:XK):Prop
 |mk (i n:Int) (eO:vs=[.int i,.int n]) (eP:((0<=i/\i<=n->Q .non H)/\(¬(0<=i/\i<=n)->RX E c .qK H))):mj c vs H Q E
theorem iB (T:Txt K w mg t):bA P w K mg base (iE P w) (0+1) t.bH t.iX ["at","last"] (mj (cs t)):=by
 refine T.bW.Q5 wx (fun vs H Q E h=>?_) (fun cdv A outer s H vs Q E hr h=>?_)
 ·obtain⟨_,_,rfl,_⟩:=h;rfl
 ·obtain⟨i,n,rfl,q1,q2⟩:=h;refine aS (aj (aO (cF (D0 vf vf ai (pv 0) (pv 1))) (aj (iF (X:=(cL (iE P w) P w K mg base ["at","last"] "refuse_other_places" (ah bU) t.bH cdv A outer s H E)) (fun _ _ z=>z) rfl T.Yb.exc rfl T.Nz (aa ax ag))) aB)) ?_;refine⟨_,rfl,_,_,rfl,rfl,_,rfl,?_⟩;refine aY (fun h0=>?_) (fun h0=>?_)
  ·refine⟨_,rfl,_,_,rfl,rfl,_,rfl,?_⟩;refine aY (fun h=>?_) (fun h=>?_)
   ·have h':(!decide (i<=n))=true:=h;have q:=q2 fun z=>by rw[decide_eq_true z.2]at h';cases h'
    exact⟨by show 1<=sizeLine;decide,q.2⟩
   ·have h':¬(!decide (i<=n))=true:=h;refine q1 ⟨of_decide_eq_true h0,?_⟩
    by_cases z:i<=n
    ·exact z
    ·exact absurd (by rw[decide_eq_false z];rfl) h'
  ·have q:=q2 fun z=>h0 (decide_eq_true z.1);exact⟨_,rfl,cX ⟨by show 1<=sizeLine;decide,q.2⟩⟩
inductive aa9 (vs:List V)(H:Hp)(Q:VK)(E:XK):Prop
 |mk (p:Addr) (s:Sn) (eO:vs=[.ref p]) (eP:H p=some (.tup [.str s.1,.int s.2])) (hX:Q (.bl (iG s)) H):aa9 vs H Q E
theorem agu (T:Txt K w mg t):bA P w K mg base k9 (0+1) t.BB t.XW ["sign"] aa9:=by
 refine T.Nh.ok Ro (fun vs H Q E h=>?_) (fun cdv A outer s H vs Q E hr h=>?_)
 ·obtain⟨_,_,rfl,_⟩:=h;rfl
 ·obtain⟨p,s,rfl,hp,q⟩:=h;unfold iG at q;refine aS (af (kD (pv 0) (rl rfl (bC (aU (i:=1) Ro.nd rfl (Or.inl rfl)) (bC (aU (i:=2) Ro.nd rfl (Or.inl rfl)) lG)))) (af (aO (ar (cW.or cV) (pv 1) (cy (v:=.ref t.du) rfl T.HX rfl) rfl) (aj (aw (U3 vf vf ai (pv 2) (cy (v:=.int 99) rfl T.Nq ⟨_,rfl⟩)))) aB) (aj (aw (cK (iU (bQ (cW.or cV) (pv 1) (cy (v:=.ref t.e8) rfl T.Nn rfl) rfl) (lF (bQ (bg.or (aR (aA hr))) (pv 2) ai (az _))))))))) ?_;refine⟨_,rfl,_,_,rfl,uG.of hp,rfl,_,_,rfl,_,_,rfl,rfl,_,rfl,.inl ⟨_,_,rfl,.inr (T.HY _),rfl,rfl,_,rfl,?_⟩⟩;refine aY (fun h=>?_) (fun h=>?_)
  ·rw[if_pos (show inV (.str s.1) nj=true from h)]at q;refine⟨_,rfl,_,_,rfl,rfl,_,rfl,?_⟩;refine aY (fun h2=>?_) (fun h2=>?_)
   ·rw[if_pos h2]at q;exact⟨_,_,rfl,rfl,q⟩
   ·rw[if_neg h2]at q;exact q
  ·rw[if_neg (show ¬ inV (.str s.1) nj=true from h)]at q;refine⟨fun v H'=>v=.bl (if inV (V.str s.fst) ku=true then decide (s.snd=0) else false)/\H'=H,?_,fun _ _ ⟨e1,e2⟩=>by rw[e1,e2];exact q⟩;refine⟨_,rfl,.inl ⟨_,_,rfl,.inr (T.Np _),rfl,rfl,_,rfl,?_⟩⟩;refine aY (fun h2=>?_) (fun h2=>?_)
   ·rw[if_pos (show inV (.str s.1) ku=true from h2)];refine⟨_,rfl,.inl ⟨rfl,?_⟩⟩;rw[gS];exact⟨rfl,rfl⟩
   ·rw[if_neg (show ¬ inV (.str s.1) ku=true from h2)];exact⟨rfl,rfl⟩
inductive sq (c:Cs)(vs:List V)(H:Hp)(Q:VK)(E:XK):Prop
 |mk (p:Addr) (s:Sn) (eO:vs=[.ref p]) (eP:H p=some (.tup [.str s.1,.int s.2])) (hX:((iG s=true->Q .non H)/\(iG s=false->RX E c .tD H))):sq c vs H Q E
theorem sr (T:Txt K w mg t):bA P w K mg base (iE P w) (0+2) t.cz t.lQ ["sign"] (sq (cs t)):=by
 have aiP:=agu (P:=P) (base:=base) T;refine T.dZ.Q5 Bv (fun vs H Q E h=>?_) (fun cdv A outer s H vs Q E hr h=>?_)
 ·obtain⟨_,_,rfl,_⟩:=h;rfl
 ·obtain⟨p,g,rfl,hp,q1,q2⟩:=h;refine aS (aj (aO (cF (bh (aD aiP (hr.mono (by decide)) rfl T.agk T.Nh.kp T.X1 .nil aP (aa (pv 0) ag)))) (aj (iF (X:=(cL (iE P w) P w K mg base ["sign"] "refuse_bad_sign" (ah cN) t.cz cdv A outer s H E)) (fun _ _ z=>z) rfl T.Yc.exc rfl T.NA (aa ax ag))) aB)) ?_;refine⟨_,rfl,p,g,rfl,hp,_,rfl,?_⟩;cases hg:iG g with
  |true=>exact bF (q1 hg)
  |false =>
   have q:=q2 hg;exact cX ⟨by show 1<=sizeLine;decide,q.2⟩
inductive VR (vs:List V)(H:Hp)(Q:VK)(E:XK):Prop
 |mk (p:Addr) (s:Sg) (eO:vs=[.ref p]) (eP:H p=some (.tup [.str s.1.str,.int s.2])) (hX:Q (.bl s.1.small) H):VR vs H Q E
theorem Fn (k:Kd):inV (.str k.str) [.str "s",.str "d",.str "r"]=k.small:=by cases k <;> decide +kernel
theorem VS (T:Txt K w mg t):bA P w K mg base k9 (0+1) t.wF t.Rr ["sign"] VR:=by
 refine T.AJ.ok aeE (fun vs H Q E h=>?_) (fun cdv A outer s H vs Q E hr h=>?_)
 ·obtain⟨_,_,rfl,_⟩:=h;rfl
 ·obtain⟨p,s,rfl,hp,q⟩:=h;rw[<-Fn]at q;refine aS (aj (aw (bQ (cW.or cV) (aC av (pv 0) ai (fun _ _=>rfl)) (cy (v:=.ref t.gH) rfl T.Pp rfl) rfl))) ?_;tm_up;exact .inl ⟨_,_,rfl,.inr (T.Pq _),rfl,rfl,q⟩
theorem Yk (ks:List Kd)(p met:Nat):A4 ks (p+1) met=if(if(ks.getD p .dot).small=true then met else met+1)=2 then p else A4 ks p (if(ks.getD p .dot).small=true then met else met+1):=rfl
inductive NJ (K:Frag)(vs:List V)(H:Hp)(Q:VK)(E:XK):Prop
 |mk (l:Addr) (xs:List V) (ss:List Sg) (i:Nat) (eO:vs=[.ref l,.int (i:Int)]) (eP:aX K H l xs) (hX:pq H xs ss) (kC:ss.length<=200) (rq:i<=ss.length) (QX:Q (.int (A4 (bB ss) i 0:Nat)) H):NJ K vs H Q E
theorem Yl (T:Txt K w mg t):bA P w K mg base k9 (0+2) t.nP t.HD ["line","at"] (NJ K):=by
 have RM:=VS (P:=P) (base:=base) T;refine T.vJ.ok wz (fun vs H Q E h=>?_) (fun cdv A outer s H vs Q E hr h=>?_)
 ·obtain⟨_,_,_,_,rfl,_⟩:=h;rfl
 ·obtain⟨l,xs,ss,i,rfl,hS,g,hl,hi,q⟩:=h;refine aS (af (aK (i:=2) wz.nd rfl (Or.inl rfl) ai) (af (gR PassesOwn.never rfl (abM rfl T.mf (aa (aI eW (pv 1) ai) (aa (A0 uH ai) (aa (A0 uH ai) ag)))) (aU (i:=3) wz.nd rfl (Or.inl rfl)) (af (nh (aO (cF (bh (aD RM (hr.mono (by decide)) rfl T.VE T.AJ.kp T.Ml .nil aP (aa (aC av (pv 0) (pv 3) (fun _ _=>rfl)) ag)))) (aj (ahS (i:=2) wz.nd rfl (Or.inl rfl) ai ahT)) aB)) (aj (aO (ar (bg.or (aR (aA hr))) (pv 2) ai (az _)) (aj (aw (pv 3))) aB)))) (aj (aw ai)))) ?_;tm_up;have xl:=bS g;refine⟨(i:Int)-1,-1,rfl,⟨by omega,by omega,by omega,by omega⟩,aea (fun j σ H'=>∃(met:Nat)(v:Option V),σ=[some (.ref l),some (.int (i:Int)),some (.int (met:Int)),v]/\H'=H/\met<2/\A4 (bB ss) i 0=A4 (bB ss) (i-j) met) ⟨0,none,rfl,rfl,by decide,rfl⟩ ?_ ?_⟩
  ·rintro j σ H1 hj ⟨met,v,rfl,eH,hm2,hgo⟩;have eH:=eH.symm;subst eH;obtain⟨sg,hsg⟩:∃ sg,ss[i-1-j]? = some sg:=⟨_,getElem?_eq_getElem (by omega)⟩;have hk:(bB ss).getD (i-1-j) .dot=sg.1:=by rw[List.getD_eq_getElem?_getD,getElem?_map,hsg];rfl
   have hij:i-j=(i-1-j)+1:=by omega
   refine⟨fun σ H'=>σ=[some (.ref l),some (.int (i:Int)),some (.int ((if sg.1.small=true then met else met+1:Nat):Int)),some (.int ((i:Int)-1-(j:Int)))]/\H'=H,?_,?_⟩
   ·tm_up;refine Pj hS g (n:=i-1-j) (by omega) hsg fun b hb=>?_;refine⟨b,sg,rfl,hb,?_⟩;refine⟨_,rfl,?_⟩;refine aY (fun hc=>?_) (fun hc=>?_)
    ·have hc':sg.1.small=false:=by simpa using hc
     rw[hc'];tm_up;exact⟨by simp,rfl⟩
    ·have hc':sg.1.small=true:=by simpa using hc
     rw[hc'];exact⟨rfl,rfl⟩
   ·rintro _ H1 ⟨rfl,eH⟩;have eH:=eH.symm;subst eH;tm_up;have aeT:A4 (bB ss) i 0=if(if sg.1.small=true then met else met+1)=2 then i-1-j else A4 (bB ss) (i-1-j) (if sg.1.small=true then met else met+1):=by
     rw[hgo,hij,Yk,hk]
    have hle:(if sg.1.small=true then met else met+1)<=2:=by split <;> omega
    generalize (if sg.1.small=true then met else met+1)=aiQ at aeT hle;refine aY (fun hc=>?_) (fun hc=>?_)
    ·have e2:aiQ=2:=by have:=V.int.inj (of_decide_eq_true hc);omega
     rw[if_pos e2]at aeT;refine⟨_,rfl,?_⟩;rw[aeT]at q;have:((i:Int)-1-(j:Int))=((i-1-j:Nat):Int):=by omega
     rw[this];exact q
    ·have e2:¬ aiQ=2:=fun z=>hc (decide_eq_true (congrArg V.int (by omega)));rw[if_neg e2]at aeT;exact⟨aiQ,_,rfl,rfl,by omega,by rw[aeT];congr 1;omega⟩
  ·rintro σ H1 ⟨met,v,rfl,eH,hm2,hgo⟩;have eH:=eH.symm;subst eH;have:A4 (bB ss) i 0=0:=by
    rw[hgo];have e:i-(↑i-1 - -1:Int).toNat=0:=by omega
    rw[e];rfl
   rw[this]at q;exact q
inductive Lf (K:Frag)(vs:List V)(H:Hp)(Q:VK)(E:XK):Prop
 |mk (l kp:Addr) (xs:List V) (ss:List Sg) (i:Nat) (wide:Bool) (eO:vs=[.ref l,.int (i:Int),.ref kp]) (eP:aX K H l xs) (hX:pq H xs ss) (kC:ss.length<=200) (rq:uG K H kp (XD wide)) (QX:i<=ss.length) (h6_:Q (.int (Qt (bB ss) i wide:Nat)) H):Lf K vs H Q E
theorem VT (T:Txt K w mg t):bA P w K mg base k9 (0+1) t.kM t.BC ["line","first","kinds"] (Lf K):=by
 refine T.r9.ok K5 (fun vs H Q E h=>?_) (fun cdv A outer s H vs Q E hr h=>?_)
 ·obtain⟨_,_,_,_,_,_,rfl,_⟩:=h;rfl
 ·obtain⟨l,kp,xs,ss,i,wide,rfl,hS,g,hl,hT,hi,q⟩:=h;refine aS (af (gR PassesOwn.never rfl (abt rfl T.mf (aa (pv 1) (aa (aJ (aE.or aF) rfl T.bO bM (aa (pv 0) ag)) ag))) (aU (i:=3) K5.nd rfl (Or.inl rfl)) (aj (aO (ar (cW.or cV) (aC av (aC av (pv 0) (pv 3) (fun _ _=>rfl)) ai (fun _ _=>rfl)) (pv 2) rfl) (aj (aw (pv 3))) aB))) (aj (aw (aJ (aE.or aF) rfl T.bO bM (aa (pv 0) ag))))) ?_;have xl:=bS g;tm_up;refine .inl ⟨l,xs,rfl,.inl hS,?_⟩;refine⟨(i:Int),(xs.length:Int),rfl,⟨by omega,by omega,by omega,by omega⟩,kZ (fun j σ H'=>∃(v:Option V),σ=[some (.ref l),some (.int (i:Int)),some (.ref kp),v]/\H'=H/\∀ m x,m<j->(bB ss)[i+m]? = some x->Qs wide x=false) ⟨none,rfl,rfl,fun m x hm=>by omega⟩ ?_ ?_⟩
  ·rintro j σ H1 hj ⟨v,rfl,eH,hno⟩;have eH:=eH.symm;subst eH;obtain⟨sg,hsg⟩:∃ sg,ss[i+j]? = some sg:=⟨_,getElem?_eq_getElem (by omega)⟩;tm_up;refine Pj hS g (n:=i+j) (by omega) hsg fun b hb=>?_;tm_up;refine .inl ⟨kp,_,rfl,.inr hT,rfl,by cases wide <;> rfl,_,rfl,?_⟩;have hk:(bB ss)[i+j]? = some sg.1:=by rw[getElem?_map,hsg];rfl
   rw[aez];refine aY (fun hc=>?_) (fun hc=>?_)
   ·rw[agj hno hk hc]at q;refine⟨_,rfl,?_⟩;have e:((i+j:Nat):Int)=(i:Int)+(j:Int):=by omega
    rw[e]at q;exact q
   ·refine⟨_,rfl,rfl,fun m x hm hx=>?_⟩;rcases Nat.lt_or_ge m j with z|z
    ·exact hno m x z hx
    ·have e:m=j:=by omega
     subst e;rw[hk]at hx;cases hx
     simpa using hc
  ·rintro σ H1 ⟨v,rfl,eH,hno⟩;have eH:=eH.symm;subst eH;refine⟨_,rfl,.inl ⟨l,_,rfl,.inl hS,?_⟩⟩;have kl:(bB ss).length=ss.length:=length_map ..;rw[aeA (by omega) fun m x hx=>hno m x (by have:=(List.getElem?_eq_some_iff.mp hx).1;omega) hx,kl,<-xl]at q;exact q
inductive yc (vs:List V)(H:Hp)(Q:VK)(E:XK):Prop
 |mk (p:Addr) (s:Sg) (eO:vs=[.ref p]) (eP:H p=some (.tup [.str s.1.str,.int s.2])) (hX:Q (.bl s.1.meas) H):yc vs H Q E
theorem aiR (k:Kd):inV (.str k.str) [.str "3",.str "2"]=k.meas:=by cases k <;> decide +kernel
theorem yd (T:Txt K w mg t):bA P w K mg base k9 (0+1) t.eZ t.rQ ["sign"] yc:=by
 refine T.g6.ok Ly (fun vs H Q E h=>?_) (fun cdv A outer s H vs Q E hr h=>?_)
 ·obtain⟨_,_,rfl,_⟩:=h;rfl
 ·obtain⟨p,s,rfl,hp,q⟩:=h;rw[<-aiR]at q;refine aS (aj (aw (bQ (cW.or cV) (aC av (pv 0) ai (fun _ _=>rfl)) (cy (v:=.ref t.c6) rfl T.xZ rfl) rfl))) ?_;tm_up;exact .inl ⟨_,_,rfl,.inr (T.x3 _),rfl,rfl,q⟩
inductive QE (K:Frag)(vs:List V)(H:Hp)(Q:VK)(E:XK):Prop
 |mk (l ch:Addr) (xs cx:List V) (ss cs:List Sg) (i b:Nat) (eO:vs=[.ref l,.int (i:Int),.int (b:Int),.ref ch]) (eP:aX K H l xs) (hX:pq H xs ss) (kC:ss.length<=200) (rq:i<=ss.length) (QX:b<=ss.length) (h6_:aX K H ch cx) (h7_:pq H cx cs) (h8_:cs.length<=100) (h9_:∀(p:Addr)(H':Hp),aq H H'->H' p=some (.tup (XE ss i b cs))->Q (.ref p) H'):QE K vs H Q E
theorem Ii (T:Txt K w mg t):bA P w K mg base k9 (0+3) t.rR t.M9 ["line","at","behind","changed"] (QE K):=by
 have ab8:=Yl (P:=P) (base:=base) T;have Ym:=VT (P:=P) (base:=base) T;have su:=yd (P:=P) (base:=base) T;refine T.sd.ok Qv (fun vs H Q E h=>?_) (fun cdv A outer s H vs Q E hr h=>?_)
 ·obtain⟨_,_,_,_,_,_,_,_,rfl,_⟩:=h;rfl
 ·obtain⟨l,ch,xs,cx,ss,cs,i,b,rfl,hS,g,hl,hi,hb,hC,gc,hcl,q⟩:=h;refine aS (af (aK (i:=4) Qv.nd rfl (Or.inl rfl) (cK (d8 (bh (aJ Vc rfl T.aeL adT (aa (qF (cn:=["sign"]) rfl (fV.of rfl) (gL (pv 3)) (fun _=>(aU (i:=0) VC rfl (Or.inl rfl))) (fun _=>yq) (fun _=>(aD su (hr.mono (by decide)) rfl T.xY T.g6.kp T.l8 .nil aP (aa (pv 0) ag)))) ag))) (cy (v:=.ref t.c6) rfl T.xZ rfl) (cy (v:=.ref t.d6) rfl T.LB rfl)))) (aj (aw (b8 (aa (aD ab8 (hr.mono (by decide)) rfl T.X2 T.vJ.kp T.HP .nil aP (aa (pv 0) (aa (pv 1) ag))) (aa (aD Ym (hr.mono (by decide)) rfl T.VF T.r9.kp T.BL .nil aP (aa (pv 0) (aa (pv 2) (aa (pv 4) ag)))) ag)))))) ?_;have cl:=bS gc;refine⟨fun v H'=>∃ kp,v=.ref kp/\(∀ LJ ,uG K LJ kp (XD (cs.any fun s=>s.1.meas)))/\aq H H',?_,?_⟩
  ·refine⟨_,rfl,ch,rfl,⟨_,hC⟩,fun D b2 hD=>?_⟩;refine jP (K:=K) (xs:=cx) (fun ii ys σ H'=>∃ v,σ=[v,some (.ref l),some (.int (i:Int)),some (.int (b:Int)),some (.ref ch),none]/\H'=upd H D (.lst ys)/\ys=((cs.take ii).map fun s=>s.1.meas).map V.bl) ⟨none,rfl,rfl,rfl⟩ ?_ ?_ ?_
   ·rintro ii ys σ H' ⟨v,rfl,rfl,_⟩;exact jO hC hD
   ·rintro ii ys x σ H' hx ⟨v,rfl,rfl,rfl⟩ N hN;obtain⟨sg,e1,p,rfl,hp⟩:=yg gc hx;have hii:ii<cs.length:=(List.getElem?_eq_some_iff.mp e1).1;refine kG ?_;refine⟨_,rfl,p,sg,rfl,(by rw[ak (ao hp hD)];exact hp),ae,?_,?_⟩
    ·rw[length_map,length_map,length_take];exact aW (by omega)
    ·refine hN _ _ _ ⟨_,rfl,dS,?_⟩;rw[take_succ,e1];simp
   ·rintro ys σ H' ⟨v,rfl,rfl,rfl⟩;refine⟨rfl,D,_,rfl,aX.of ae,_,rfl,?_⟩;rw[cl,take_length,List.any_map];refine aY (fun hc=>?_) (fun hc=>?_)
    ·have e:(cs.any fun s=>s.1.meas)=true:=hc;refine⟨_,rfl,fun LJ=>?_,aq.upd hD⟩;rw[e];exact T.x3 LJ
    ·have e:(cs.any fun s=>s.1.meas)=false:=by
      cases z:(cs.any fun s=>s.1.meas) with
      |false=>rfl
      |true=>exact absurd z hc
     refine⟨_,rfl,fun LJ=>?_,aq.upd hD⟩;rw[e];exact T.LC LJ
  ·rintro _ H1 ⟨kp,rfl,hk,s1⟩;refine⟨_,rfl,_,rfl,l,xs,ss,i,rfl,s1.seq hS,g.same s1,hl,hi,?_⟩;refine⟨_,rfl,_,rfl,_,rfl,l,kp,xs,ss,b,_,rfl,s1.seq hS,g.same s1,hl,hk _,hb,?_⟩;refine⟨by show 2<=sizeLine;decide,fun p hp=>q p _ (s1.trans (aq.upd hp)) ae⟩
inductive Lg (c:Cs)(vs:List V)(H:Hp)(Q:VK)(E:XK):Prop
 |mk (x:Addr) (F:Addr->Prop) (vw:Vw) (ps fs:List Vw) (n:Str) (i:Int) (p:Addr) (sn:Sn) (eO:vs=[.ref x,.str n,.int i,.ref p]) (eP:yx c H x F vw ps fs) (hX:H p=some (.tup [.str sn.1,.int sn.2])) (kC:ps.length<=900) (rq:match bf vw n with
 |none=>RX E c .dU H
 |some (.cn _ _ _ _)=>RX E c .gT H
 |some (.pl ss)=>(¬(0<=i/\i<=(ss.length:Int))->RX E c .qK H)/\((0<=i/\i<=(ss.length:Int))->iG sn=false->RX E c .tD H)/\((0<=i/\i<=(ss.length:Int))->iG sn=true->200<=ss.length->RX E c .Full H) /\
  ((0<=i/\i<=(ss.length:Int))->iG sn=true->ss.length<200->∀(s:Sg)(w:Addr) F' H',s.1.str=sn.1->s.2=sn.2->H' w=some (.tup (XE (ss.take i.toNat++[s]++ss.drop i.toNat) i.toNat (i.toNat+1) [s]))->Gr F F' H->Fr F H H'->yx c H' x F' (AO vw n (.pl (ss.take i.toNat++[s]++ss.drop i.toNat))) (ps++[vw]) []->Q (.ref w) H')):Lg c vs H Q E
theorem VU (T:Txt K w mg t):bA P w K mg base (iE P w) (0+4) t.d4 t.BD ["self","name","at","sign"] (Lg (cs t)):=by
 have dh:=iB (P:=P) (base:=base) T;have mn:=sr (P:=P) (base:=base) T;have cU:=iQ (P:=P) (base:=base) T;have zd:=Ii (P:=P) (base:=base) T;have cG:=gO (P:=P) (base:=base) T;have cE:=hI (P:=P) (base:=base) T;refine T.wK.Q5 K6 (fun vs H Q E h=>?_) (fun cdv A outer s H vs Q E hr h=>?_)
 ·obtain⟨_,_,_,_,_,_,_,_,_,rfl,_⟩:=h;rfl
 ·obtain⟨x,F,vw,ps,fs,n,iz,p,sn,rfl,B,hp,hps,q⟩:=h;refine aS (af (aK (i:=4) K6.nd rfl (Or.inl rfl) (b7 (bX (X:=(cL (iE P w) P w K mg base ["self","name","at","sign","signs"] "Book.put" (ah gE) t.d4 cdv A outer s H E)) (pv 0) T.aN T.gN cG (hr.mono (by decide)) T.dw .nil (fun _ _ z=>Or.inl z) (aa (pv 1) ag)) rfl)) (af (bc (vk (X:=(cL (iE P w) P w K mg base ["self","name","at","sign","signs"] "Book.put" (ah gE) t.d4 cdv A outer s H E)) dh (hr.mono (by decide)) rfl T.ix T.bW.kp T.dc .nil (fun _ _ z=>Or.inl z) (aa (pv 2) (aa (aJ (aE.or aF) rfl T.bO bM (aa (pv 4) ag)) ag)))) (af (bc (vk (X:=(cL (iE P w) P w K mg base ["self","name","at","sign","signs"] "Book.put" (ah gE) t.d4 cdv A outer s H E)) mn (hr.mono (by decide)) rfl T.r6 T.dZ.kp T.jj .nil (fun _ _ z=>Or.inl z) (aa (pv 3) ag))) (af (aO (ar aaD (aJ (aE.or aF) rfl T.bO bM (aa (pv 4) ag)) (cy (v:=.int 200) rfl T.RD ⟨_,rfl⟩) (az _)) (aj (iF (X:=(cL (iE P w) P w K mg base ["self","name","at","sign","signs"] "Book.put" (ah gE) t.d4 cdv A outer s H E)) (fun _ _ z=>z) rfl T.aa5.exc rfl T.RE (aa ax ag))) aB) (af (bc (kq (pv 0) T.aN T.iJ cU (hr.mono (by decide)) T.e9 .nil aP (aa (we T.E3 cE (hr.mono (by decide)) rfl T.E2 T.d7 .nil aP (aa (pv 4) (aa (pv 2) (aa (bx ag) (aa (bx (aa (pv 3) ag)) ag))))) ag))) (aj (aw (aD zd (hr.mono (by decide)) rfl T.HQ T.sd.kp T.yV .nil aP (aa (pv 4) (aa (pv 2) (aa (aI (bP.or (aM.or bR)) (pv 2) ai) (aa (bx (aa (pv 3) ag)) ag)))))))))))) ?_;obtain⟨L,D,U,all,M,Ps,Fs,es,us,b,iM,pp,pf,f⟩:=B.ex;obtain⟨dx,hx⟩:=b.hx;obtain⟨vx,g,gv⟩:=b.wu iM;obtain⟨ds,hD,pD⟩:=b.hD;obtain⟨ux,hU,pU⟩:=b.hU;have dl:=bS pD;have pl:=bS pp;have pe:=b.past.len;refine⟨_,rfl,x,dx,_,rfl,hx,ic _ _ _,_,rfl,x,dx,L,D,U,M L,vx,n,rfl,hx,b.hL,g,?_⟩;rcases K4 gv (fun _ _ r=>r.2.1) n with ⟨f1,f2⟩|⟨a,th,j,f1,f2,r,an,fj,fw⟩
  ·rw[f1];rw[f2]at q;exact q
  rw[f1];rw[f2]at q;subst an;cases th with
  |cn ld lt sl tn =>
   obtain⟨pt,QD,_⟩:=r.2.2;refine⟨fun z=>?_,fun _ _=>q,.inr ⟨pt,QD⟩⟩;rw[QD]at z;cases z
  |pl ss =>
   obtain⟨UU,hg⟩:=r.2.2;obtain⟨q1,q2,q3,q4⟩:=q;have haa:=r.1;obtain⟨ha,hl⟩:=b.ha a haa;have yl:=bS hg;have hj:(M L)[j]? = some (.ref a.o):=by
    obtain⟨v,hv,e1,_⟩:=rC g fj;rw[<-e1];exact hv
   refine⟨fun _=>?_,(fun pz z=>by rw[UU]at z;cases z),.inl UU⟩;refine⟨a.o,_,a.d,_,_,rfl,ha,T.gj,T.cC,vq _ _ _,?_⟩;refine⟨_,rfl,_,rfl,.inl ⟨a.l,M a.l,rfl,.inl (aX.of hl),?_⟩⟩;refine⟨iz,((M a.l).length:Int),rfl,fun hi=>?_,fun hi=>?_⟩
   rotate_left
   ·have q:=q1 (by rw[<-yl];exact hi);exact q
   rw[yl]at hi;refine⟨_,rfl,p,sn,rfl,hp,fun hgd=>?_,fun hgd=>?_⟩
   rotate_left
   ·have q:=q2 hi hgd;exact q
   refine⟨_,rfl,.inl ⟨a.l,M a.l,rfl,.inl (aX.of hl),?_⟩⟩;refine⟨_,_,rfl,rfl,_,rfl,?_⟩;refine aY (fun h=>?_) (fun h=>?_)
   ·have h':=of_decide_eq_true h;have q:=q3 hi hgd (by omega);exact⟨by show 1<=sizeLine;decide,q.2⟩
   have hlt:ss.length<200:=by
    rcases Nat.lt_or_ge ss.length 200 with z|z
    ·exact z
    ·exact absurd (decide_eq_true (by omega)) h
   obtain⟨sg,e1,e2,gt⟩:=Rl hgd;rw[<-e1,<-e2]at hp;obtain⟨i,rfl⟩:∃ i:Nat,iz=(i:Int):=⟨iz.toNat,by omega⟩;have hi:i<=ss.length:=by omega
   have q4:=q4 (by omega) hgd hlt sg;rw[Int.toNat_natCast]at q4;refine⟨_,rfl,x,dx,_,rfl,hx,ju _ _ _,?_⟩;refine⟨_,rfl,_,rfl,big (by show 0<=1000;omega),fun B' hB=>?_⟩;refine⟨_,rfl,big (by show 1<=1000;omega),fun A_ hA=>?_⟩;have Yj:=Ee hA;have sB:=(aq.upd (o:=.lst []) hB).trans (aq.upd (o:=.lst [V.ref p]) hA);have hB2:=aq.upd (o:=.lst [V.ref p]) hA _ _ (ae (H:=H) (a:=B') (o:=.lst []));have RK:=ae (H:=upd H B' (.lst [])) (a:=A_) (o:=.lst [V.ref p]);have lA:a.l≠A_:=ao hl Yj;generalize upd (upd H B' (.lst [])) A_ (.lst [V.ref p])=H2 at sB hB2 RK;intro d dd nd ndd ne;refine⟨d,dd,a.l,(i:Int),B',A_,rfl,ae,rfl,?_⟩;rw[dS];have s3:aq H2 (upd (upd H2 dd (.own d)) d (.ins t.bq dd (K0 a.l (i:Int) B' A_))):=fun y o hy=>by
    rw[ak (ao hy nd),ak (ao hy ndd)];exact hy
   have RL:=ae (H:=upd H2 dd (.own d)) (a:=d) (o:=.ins t.bq dd (K0 a.l (i:Int) B' A_));generalize upd (upd H2 dd (.own d)) d (.ins t.bq dd (K0 a.l (i:Int) B' A_))=H3 at s3 RL;have s4:=sB.trans s3;obtain⟨_,d1,d2⟩:=b.lists (.inr ⟨a,haa,rfl⟩);refine⟨x,dx,L,D,U,d,dd,a.l,B',A_,i,ds,ux,M a.l,[],[.ref p],rfl,s4 _ _ hx,s4 _ _ hD,s4 _ _ hU,RL,s4 _ _ hl,s3 _ _ hB2,s3 _ _ RK,lA,d1,d2,b.DU,by simp;omega,by simp;omega,by omega,?_⟩;have hM:wa ⟨d,dd,a.l,i,B',A_,[],[.ref p]⟩ M a.l=(M a.l).take i++[.ref p]++(M a.l).drop (i+0):=gD;have keep:∀ y o,H3 y=some o->y≠a.l->y≠D->y≠U->(upd (upd (upd H3 a.l (.lst ((M a.l).take i++[.ref p]++(M a.l).drop (i+0)))) D (.lst (ds++[.ref d]))) U (.lst [])) y=some o:=fun y o hy y1 y2 y3=>by
    rw[ak y3,ak y2,ak y1];exact hy
   have k1:(upd (upd (upd H3 a.l (.lst ((M a.l).take i++[.ref p]++(M a.l).drop (i+0)))) D (.lst (ds++[.ref d]))) U (.lst [])) a.l=some (.lst ((M a.l).take i++[.ref p]++(M a.l).drop (i+0))):=by
    rw[ak d2,ak d1,ae]
   have k2:(upd (upd (upd H3 a.l (.lst ((M a.l).take i++[.ref p]++(M a.l).drop (i+0)))) D (.lst (ds++[.ref d]))) U (.lst [])) D=some (.lst (ds++[.ref d])):=by
    rw[ak b.DU,ae]
   have k3:(upd (upd (upd H3 a.l (.lst ((M a.l).take i++[.ref p]++(M a.l).drop (i+0)))) D (.lst (ds++[.ref d]))) U (.lst [])) U=some (.lst []):=ae;generalize (upd (upd (upd H3 a.l (.lst ((M a.l).take i++[.ref p]++(M a.l).drop (i+0)))) D (.lst (ds++[.ref d]))) U (.lst []))=H4 at keep k1 k2 k3;have g3:=hg.same s4;have sgN:pq H3 ((M a.l).take i++[.ref p]++(M a.l).drop (i+0)) (ss.take i++[sg]++ss.drop i):=Hb (Hb (KZ i g3) (.cons ⟨p,rfl,s4 _ _ hp⟩ .nil)) (KY i g3);obtain⟨F',gr,fr,B4⟩:=Bk.aex b iM pp f B.wv haa hj fw UU (e:=⟨d,dd,a.l,i,B',A_,[],[.ref p]⟩) rfl ⟨by simp;omega,by simp⟩ (by simp) (by simp) s4 hB Yj ⟨rfl,RL,s3 _ _ hB2,s3 _ _ RK⟩ (by rw[hM];exact sgN) (by simp;omega) (fun s hs=>by
    have wg:=((B.wv vw (.inr (.inl rfl))).gd _ _ (mem_of_getElem? fw)).2;rcases mem_append.mp hs with hs|hs
    ·rcases mem_append.mp hs with hs|hs
     ·exact wg s (List.mem_of_mem_take hs)
     ·rw[mem_singleton.mp hs];exact gt
    ·exact wg s (List.mem_of_mem_drop hs)) hD pD keep (by rw[hM];exact k1) k2 k3
   have nT:∀{y us},H3 y=some (.tup us)->H4 y=some (.tup us):=fun {y us} hy=>keep y _ hy (j3 hy (s4 _ _ hl) (by intro z;cases z)) (j3 hy (s4 _ _ hD) (by intro z;cases z)) (j3 hy (s4 _ _ hU) (by intro z;cases z));have sg4:pq H4 ((M a.l).take i++[.ref p]++(M a.l).drop (i+0)) (ss.take i++[sg]++ss.drop i):=cb (fun _ _ ⟨z,e1,e2⟩=>⟨z,e1,nT e2⟩) sgN;refine⟨_,rfl,_,rfl,_,rfl,.inl ⟨_,_,rfl,rfl,_,rfl,big (by show 1<=1000;omega),fun lc hlc=>?_⟩⟩;have sc:=aq.upd (o:=.lst [V.ref p]) hlc;refine⟨a.l,lc,_,[.ref p],ss.take i++[sg]++ss.drop i,[sg],i,i+1,rfl,aX.of (sc _ _ k1),sg4.same sc,by simp;omega,by simp;omega,by simp;omega,aX.of ae,.cons ⟨p,rfl,sc _ _ (nT (s4 _ _ hp))⟩ .nil,by simp,fun w H5 s5 hw5=>?_⟩;have s6:=sc.trans s5;exact q4 w F' H5 e1 e2 hw5 gr (fun y o hy hn=>s6 _ _ (fr y o hy hn)) (B4.same s6)
inductive Lh (c:Cs)(vs:List V)(H:Hp)(Q:VK)(E:XK):Prop
 |mk (x:Addr) (F:Addr->Prop) (vw:Vw) (ps fs:List Vw) (n:Str) (i:Int) (eO:vs=[.ref x,.str n,.int i]) (eP:yx c H x F vw ps fs) (hX:ps.length<=900) (kC:match bf vw n with
 |none=>RX E c .dU H
 |some (.cn _ _ _ _)=>RX E c .gT H
 |some (.pl ss)=>(¬(0<=i/\i<=(ss.length:Int)-1)->RX E c .qK H) /\
  ((0<=i/\i<=(ss.length:Int)-1)->∀(s:Sg)(w:Addr) F' H',ss[i.toNat]? = some s->H' w=some (.tup (XE (ss.take i.toNat++[]++ss.drop (i.toNat+1)) i.toNat i.toNat [s]))->Gr F F' H->Fr F H H'->yx c H' x F' (AO vw n (.pl (ss.take i.toNat++[]++ss.drop (i.toNat+1)))) (ps++[vw]) []->Q (.ref w) H')):Lh c vs H Q E
theorem aiS {α:Type}{xs:List α}{i:Nat}{y:α}(h:xs[i]? = some y):xs.drop i=y::xs.drop (i+1):=by
 obtain⟨h1,h2⟩:=List.getElem?_eq_some_iff.mp h;rw[List.drop_eq_getElem_cons h1,h2]
theorem VW (T:Txt K w mg t):bA P w K mg base (iE P w) (0+4) t.gF t.BE ["self","name","at"] (Lh (cs t)):=by
 have dh:=iB (P:=P) (base:=base) T;have cU:=iQ (P:=P) (base:=base) T;have zd:=Ii (P:=P) (base:=base) T;have cG:=gO (P:=P) (base:=base) T;have cE:=hI (P:=P) (base:=base) T;refine T.wL.Q5 yC (fun vs H Q E h=>?_) (fun cdv A outer s H vs Q E hr h=>?_)
 ·obtain⟨_,_,_,_,_,_,_,rfl,_⟩:=h;rfl
 ·obtain⟨x,F,vw,ps,fs,n,iz,rfl,B,hps,q⟩:=h;refine aS (af (aK (i:=3) yC.nd rfl (Or.inl rfl) (b7 (bX (X:=(cL (iE P w) P w K mg base ["self","name","at","signs","sign"] "Book.cut" (ah jy) t.gF cdv A outer s H E)) (pv 0) T.aN T.gN cG (hr.mono (by decide)) T.dw .nil (fun _ _ z=>Or.inl z) (aa (pv 1) ag)) rfl)) (af (bc (vk (X:=(cL (iE P w) P w K mg base ["self","name","at","signs","sign"] "Book.cut" (ah jy) t.gF cdv A outer s H E)) dh (hr.mono (by decide)) rfl T.ix T.bW.kp T.dc .nil (fun _ _ z=>Or.inl z) (aa (pv 2) (aa (aI eW (aJ (aE.or aF) rfl T.bO bM (aa (pv 3) ag)) ai) ag)))) (af (aK (i:=4) yC.nd rfl (Or.inl rfl) (aC av (pv 3) (pv 2) (fun _ _=>rfl))) (af (bc (kq (pv 0) T.aN T.iJ cU (hr.mono (by decide)) T.e9 .nil aP (aa (we T.E3 cE (hr.mono (by decide)) rfl T.E2 T.d7 .nil aP (aa (pv 3) (aa (pv 2) (aa (bx (aa (pv 4) ag)) (aa (bx ag) ag))))) ag))) (aj (aw (aD zd (hr.mono (by decide)) rfl T.HQ T.sd.kp T.yV .nil aP (aa (pv 3) (aa (pv 2) (aa (pv 2) (aa (bx (aa (pv 4) ag)) ag))))))))))) ?_;obtain⟨L,D,U,all,M,Ps,Fs,es,us,b,iM,pp,pf,f⟩:=B.ex;obtain⟨dx,hx⟩:=b.hx;obtain⟨vx,g,gv⟩:=b.wu iM;obtain⟨ds,hD,pD⟩:=b.hD;obtain⟨ux,hU,pU⟩:=b.hU;have dl:=bS pD;have pl:=bS pp;have pe:=b.past.len;refine⟨_,rfl,x,dx,_,rfl,hx,ic _ _ _,_,rfl,x,dx,L,D,U,M L,vx,n,rfl,hx,b.hL,g,?_⟩;rcases K4 gv (fun _ _ r=>r.2.1) n with ⟨f1,f2⟩|⟨a,th,j,f1,f2,r,an,fj,fw⟩
  ·rw[f1];rw[f2]at q;exact q
  rw[f1];rw[f2]at q;subst an;cases th with
  |cn ld lt sl tn =>
   obtain⟨pt,QD,_⟩:=r.2.2;refine⟨fun z=>?_,fun _ _=>q,.inr ⟨pt,QD⟩⟩;rw[QD]at z;cases z
  |pl ss =>
   obtain⟨UU,hg⟩:=r.2.2;obtain⟨q1,q4⟩:=q;have haa:=r.1;obtain⟨ha,hl⟩:=b.ha a haa;have yl:=bS hg;have hj:(M L)[j]? = some (.ref a.o):=by
    obtain⟨v,hv,e1,_⟩:=rC g fj;rw[<-e1];exact hv
   refine⟨fun _=>?_,(fun pz z=>by rw[UU]at z;cases z),.inl UU⟩;refine⟨a.o,_,a.d,_,_,rfl,ha,T.gj,T.cC,vq _ _ _,?_⟩;refine⟨_,rfl,_,rfl,.inl ⟨a.l,M a.l,rfl,.inl (aX.of hl),?_⟩⟩;refine⟨_,_,rfl,rfl,?_⟩;refine⟨iz,((M a.l).length:Int)-1,rfl,fun hi=>?_,fun hi=>?_⟩
   rotate_left
   ·have q:=q1 (by rw[<-yl];exact hi);exact q
   rw[yl]at hi;obtain⟨i,rfl⟩:∃ i:Nat,iz=(i:Int):=⟨iz.toNat,by omega⟩;have hi:i<ss.length:=by omega
   have hlt:ss.length<=200:=((B.wv vw (.inr (.inl rfl))).gd _ _ (mem_of_getElem? fw)).1;have q4:=q4 (by omega);rw[Int.toNat_natCast]at q4;obtain⟨sg0,hsg⟩:∃ sg,ss[i]? = some sg:=⟨_,getElem?_eq_getElem hi⟩;obtain⟨vp,hvp,p0,rfl,hp0⟩:=rC hg hsg;refine⟨_,rfl,_,rfl,Rc (aX.of hl) (n:=i) rfl hvp ?_⟩;refine⟨_,rfl,x,dx,_,rfl,hx,ju _ _ _,?_⟩;refine⟨_,rfl,_,rfl,_,rfl,big (by show 1<=1000;omega),fun B' hB=>?_⟩;refine⟨big (by show 0<=1000;omega),fun A_ hA=>?_⟩;have Yj:=Ee hA;have sB:=(aq.upd (o:=.lst [V.ref p0]) hB).trans (aq.upd (o:=.lst []) hA);have hB2:=aq.upd (o:=.lst []) hA _ _ (ae (H:=H) (a:=B') (o:=.lst [V.ref p0]));have RK:=ae (H:=upd H B' (.lst [V.ref p0])) (a:=A_) (o:=.lst []);have lA:a.l≠A_:=ao hl Yj;generalize upd (upd H B' (.lst [V.ref p0])) A_ (.lst [])=H2 at sB hB2 RK;intro d dd nd ndd ne;refine⟨d,dd,a.l,(i:Int),B',A_,rfl,ae,rfl,?_⟩;rw[dS];have s3:aq H2 (upd (upd H2 dd (.own d)) d (.ins t.bq dd (K0 a.l (i:Int) B' A_))):=fun y o hy=>by
    rw[ak (ao hy nd),ak (ao hy ndd)];exact hy
   have RL:=ae (H:=upd H2 dd (.own d)) (a:=d) (o:=.ins t.bq dd (K0 a.l (i:Int) B' A_));generalize upd (upd H2 dd (.own d)) d (.ins t.bq dd (K0 a.l (i:Int) B' A_))=H3 at s3 RL;have s4:=sB.trans s3;obtain⟨_,d1,d2⟩:=b.lists (.inr ⟨a,haa,rfl⟩);refine⟨x,dx,L,D,U,d,dd,a.l,B',A_,i,ds,ux,M a.l,[.ref p0],[],rfl,s4 _ _ hx,s4 _ _ hD,s4 _ _ hU,RL,s4 _ _ hl,s3 _ _ hB2,s3 _ _ RK,lA,d1,d2,b.DU,by simp;omega,by simp;omega,by omega,?_⟩;have hM:wa ⟨d,dd,a.l,i,B',A_,[.ref p0],[]⟩ M a.l=(M a.l).take i++[]++(M a.l).drop (i+1):=gD;have keep:∀ y o,H3 y=some o->y≠a.l->y≠D->y≠U->(upd (upd (upd H3 a.l (.lst ((M a.l).take i++[]++(M a.l).drop (i+1)))) D (.lst (ds++[.ref d]))) U (.lst [])) y=some o:=fun y o hy y1 y2 y3=>by
    rw[ak y3,ak y2,ak y1];exact hy
   have k1:(upd (upd (upd H3 a.l (.lst ((M a.l).take i++[]++(M a.l).drop (i+1)))) D (.lst (ds++[.ref d]))) U (.lst [])) a.l=some (.lst ((M a.l).take i++[]++(M a.l).drop (i+1))):=by
    rw[ak d2,ak d1,ae]
   have k2:(upd (upd (upd H3 a.l (.lst ((M a.l).take i++[]++(M a.l).drop (i+1)))) D (.lst (ds++[.ref d]))) U (.lst [])) D=some (.lst (ds++[.ref d])):=by
    rw[ak b.DU,ae]
   have k3:(upd (upd (upd H3 a.l (.lst ((M a.l).take i++[]++(M a.l).drop (i+1)))) D (.lst (ds++[.ref d]))) U (.lst [])) U=some (.lst []):=ae;generalize (upd (upd (upd H3 a.l (.lst ((M a.l).take i++[]++(M a.l).drop (i+1)))) D (.lst (ds++[.ref d]))) U (.lst []))=H4 at keep k1 k2 k3;have g3:=hg.same s4;have sgN:pq H3 ((M a.l).take i++[]++(M a.l).drop (i+1)) (ss.take i++[]++ss.drop (i+1)):=Hb (Hb (KZ i g3) .nil) (KY (i+1) g3);obtain⟨F',gr,fr,B4⟩:=Bk.aex b iM pp f B.wv haa hj fw UU (e:=⟨d,dd,a.l,i,B',A_,[.ref p0],[]⟩) rfl ⟨by show i+1<=(M a.l).length;omega,by rw[show([V.ref p0]:List V).length=1 from rfl,aiS hvp];rfl⟩ (by simp) (by simp) s4 hB Yj ⟨rfl,RL,s3 _ _ hB2,s3 _ _ RK⟩ (by rw[hM];exact sgN) (by simp;omega) (fun s hs=>by
    have wg:=((B.wv vw (.inr (.inl rfl))).gd _ _ (mem_of_getElem? fw)).2;rcases mem_append.mp hs with hs|hs
    ·rcases mem_append.mp hs with hs|hs
     ·exact wg s (List.mem_of_mem_take hs)
     ·cases hs
    ·exact wg s (List.mem_of_mem_drop hs)) hD pD keep (by rw[hM];exact k1) k2 k3
   have nT:∀{y us},H3 y=some (.tup us)->H4 y=some (.tup us):=fun {y us} hy=>keep y _ hy (j3 hy (s4 _ _ hl) (by intro z;cases z)) (j3 hy (s4 _ _ hD) (by intro z;cases z)) (j3 hy (s4 _ _ hU) (by intro z;cases z));have sg4:pq H4 ((M a.l).take i++[]++(M a.l).drop (i+1)) (ss.take i++[]++ss.drop (i+1)):=cb (fun _ _ ⟨z,e1,e2⟩=>⟨z,e1,nT e2⟩) sgN;refine⟨_,rfl,_,rfl,_,rfl,_,rfl,big (by show 1<=1000;omega),fun lc hlc=>?_⟩;have sc:=aq.upd (o:=.lst [V.ref p0]) hlc;refine⟨a.l,lc,_,[.ref p0],ss.take i++[]++ss.drop (i+1),[sg0],i,i,rfl,aX.of (sc _ _ k1),sg4.same sc,by simp;omega,by simp;omega,by simp;omega,aX.of ae,.cons ⟨p0,rfl,sc _ _ (nT (s4 _ _ hp0))⟩ .nil,by simp,fun w H5 s5 hw5=>?_⟩;have s6:=sc.trans s5;exact q4 sg0 w F' H5 hsg hw5 gr (fun y o hy hn=>s6 _ _ (fr y o hy hn)) (B4.same s6)
inductive Fo (c:Cs)(vs:List V)(H:Hp)(Q:VK)(E:XK):Prop
 |mk (x:Addr) (F:Addr->Prop) (vw:Vw) (ps fs:List Vw) (n:Str) (i:Int) (p:Addr) (sn:Sn) (eO:vs=[.ref x,.str n,.int i,.ref p]) (eP:yx c H x F vw ps fs) (hX:H p=some (.tup [.str sn.1,.int sn.2])) (kC:ps.length<=900) (rq:match bf vw n with
 |none=>RX E c .dU H
 |some (.cn _ _ _ _)=>RX E c .gT H
 |some (.pl ss)=>(¬(0<=i/\i<=(ss.length:Int)-1)->RX E c .qK H)/\((0<=i/\i<=(ss.length:Int)-1)->iG sn=false->RX E c .tD H) /\
  ((0<=i/\i<=(ss.length:Int)-1)->iG sn=true->∀(s s0:Sg)(w:Addr) F' H',s.1.str=sn.1->s.2=sn.2->ss[i.toNat]? = some s0->H' w=some (.tup (XE (ss.take i.toNat++[s]++ss.drop (i.toNat+1)) i.toNat (i.toNat+1) [s0,s]))->Gr F F' H->Fr F H H'->yx c H' x F' (AO vw n (.pl (ss.take i.toNat++[s]++ss.drop (i.toNat+1)))) (ps++[vw]) []->Q (.ref w) H')):Fo c vs H Q E
theorem akR {α:Type}{xs:List α}{i:Nat}{y:α}(h:xs[i]? = some y):xs.drop i=y::xs.drop (i+1):=by
 obtain⟨h1,h2⟩:=List.getElem?_eq_some_iff.mp h;rw[List.drop_eq_getElem_cons h1,h2]
theorem RN (T:Txt K w mg t):bA P w K mg base (iE P w) (0+4) t.dD t.yL ["self","name","at","sign"] (Fo (cs t)):=by
 have dh:=iB (P:=P) (base:=base) T;have mn:=sr (P:=P) (base:=base) T;have cU:=iQ (P:=P) (base:=base) T;have zd:=Ii (P:=P) (base:=base) T;have cG:=gO (P:=P) (base:=base) T;have cE:=hI (P:=P) (base:=base) T;refine T.tT.Q5 wA (fun vs H Q E h=>?_) (fun cdv A outer s H vs Q E hr h=>?_)
 ·obtain⟨_,_,_,_,_,_,_,_,_,rfl,_⟩:=h;rfl
 ·obtain⟨x,F,vw,ps,fs,n,iz,p,sn,rfl,B,hp,hps,q⟩:=h;refine aS (af (aK (i:=4) wA.nd rfl (Or.inl rfl) (b7 (bX (X:=(cL (iE P w) P w K mg base ["self","name","at","sign","signs","before"] "Book.swap" (ah fX) t.dD cdv A outer s H E)) (pv 0) T.aN T.gN cG (hr.mono (by decide)) T.dw .nil (fun _ _ z=>Or.inl z) (aa (pv 1) ag)) rfl)) (af (bc (vk (X:=(cL (iE P w) P w K mg base ["self","name","at","sign","signs","before"] "Book.swap" (ah fX) t.dD cdv A outer s H E)) dh (hr.mono (by decide)) rfl T.ix T.bW.kp T.dc .nil (fun _ _ z=>Or.inl z) (aa (pv 2) (aa (aI eW (aJ (aE.or aF) rfl T.bO bM (aa (pv 4) ag)) ai) ag)))) (af (bc (vk (X:=(cL (iE P w) P w K mg base ["self","name","at","sign","signs","before"] "Book.swap" (ah fX) t.dD cdv A outer s H E)) mn (hr.mono (by decide)) rfl T.r6 T.dZ.kp T.jj .nil (fun _ _ z=>Or.inl z) (aa (pv 3) ag))) (af (aK (i:=5) wA.nd rfl (Or.inl rfl) (aC av (pv 4) (pv 2) (fun _ _=>rfl))) (af (bc (kq (pv 0) T.aN T.iJ cU (hr.mono (by decide)) T.e9 .nil aP (aa (we T.E3 cE (hr.mono (by decide)) rfl T.E2 T.d7 .nil aP (aa (pv 4) (aa (pv 2) (aa (bx (aa (pv 5) ag)) (aa (bx (aa (pv 3) ag)) ag))))) ag))) (aj (aw (aD zd (hr.mono (by decide)) rfl T.HQ T.sd.kp T.yV .nil aP (aa (pv 4) (aa (pv 2) (aa (aI (bP.or (aM.or bR)) (pv 2) ai) (aa (bx (aa (pv 5) (aa (pv 3) ag))) ag)))))))))))) ?_;obtain⟨L,D,U,all,M,Ps,Fs,es,us,b,iM,pp,pf,f⟩:=B.ex;obtain⟨dx,hx⟩:=b.hx;obtain⟨vx,g,gv⟩:=b.wu iM;obtain⟨ds,hD,pD⟩:=b.hD;obtain⟨ux,hU,pU⟩:=b.hU;have dl:=bS pD;have pl:=bS pp;have pe:=b.past.len;refine⟨_,rfl,x,dx,_,rfl,hx,ic _ _ _,_,rfl,x,dx,L,D,U,M L,vx,n,rfl,hx,b.hL,g,?_⟩;rcases K4 gv (fun _ _ r=>r.2.1) n with ⟨f1,f2⟩|⟨a,th,j,f1,f2,r,an,fj,fw⟩
  ·rw[f1];rw[f2]at q;exact q
  rw[f1];rw[f2]at q;subst an;cases th with
  |cn ld lt sl tn =>
   obtain⟨pt,QD,_⟩:=r.2.2;refine⟨fun z=>?_,fun _ _=>q,.inr ⟨pt,QD⟩⟩;rw[QD]at z;cases z
  |pl ss =>
   obtain⟨UU,hg⟩:=r.2.2;obtain⟨q1,q2,q4⟩:=q;have haa:=r.1;obtain⟨ha,hl⟩:=b.ha a haa;have yl:=bS hg;have hj:(M L)[j]? = some (.ref a.o):=by
    obtain⟨v,hv,e1,_⟩:=rC g fj;rw[<-e1];exact hv
   refine⟨fun _=>?_,(fun pz z=>by rw[UU]at z;cases z),.inl UU⟩;refine⟨a.o,_,a.d,_,_,rfl,ha,T.gj,T.cC,vq _ _ _,?_⟩;refine⟨_,rfl,_,rfl,.inl ⟨a.l,M a.l,rfl,.inl (aX.of hl),?_⟩⟩;refine⟨_,_,rfl,rfl,?_⟩;refine⟨iz,((M a.l).length:Int)-1,rfl,fun hi=>?_,fun hi=>?_⟩
   rotate_left
   ·have q:=q1 (by rw[<-yl];exact hi);exact q
   rw[yl]at hi;refine⟨_,rfl,p,sn,rfl,hp,fun hgd=>?_,fun hgd=>?_⟩
   rotate_left
   ·have q:=q2 hi hgd;exact q
   obtain⟨sg,e1,e2,gt⟩:=Rl hgd;rw[<-e1,<-e2]at hp;obtain⟨i,rfl⟩:∃ i:Nat,iz=(i:Int):=⟨iz.toNat,by omega⟩;have hi:i<ss.length:=by omega
   have hlt:ss.length<=200:=((B.wv vw (.inr (.inl rfl))).gd _ _ (mem_of_getElem? fw)).1;have q4:=q4 (by omega) hgd sg;rw[Int.toNat_natCast]at q4;obtain⟨sg0,hsg⟩:∃ sg,ss[i]? = some sg:=⟨_,getElem?_eq_getElem hi⟩;obtain⟨vp,hvp,p0,rfl,hp0⟩:=rC hg hsg;refine⟨_,rfl,_,rfl,Rc (aX.of hl) (n:=i) rfl hvp ?_⟩;refine⟨_,rfl,x,dx,_,rfl,hx,ju _ _ _,?_⟩;refine⟨_,rfl,_,rfl,_,rfl,big (by show 1<=1000;omega),fun B' hB=>?_⟩;refine⟨_,rfl,big (by show 1<=1000;omega),fun A_ hA=>?_⟩;have Yj:=Ee hA;have sB:=(aq.upd (o:=.lst [V.ref p0]) hB).trans (aq.upd (o:=.lst [V.ref p]) hA);have hB2:=aq.upd (o:=.lst [V.ref p]) hA _ _ (ae (H:=H) (a:=B') (o:=.lst [V.ref p0]));have RK:=ae (H:=upd H B' (.lst [V.ref p0])) (a:=A_) (o:=.lst [V.ref p]);have lA:a.l≠A_:=ao hl Yj;generalize upd (upd H B' (.lst [V.ref p0])) A_ (.lst [V.ref p])=H2 at sB hB2 RK;intro d dd nd ndd ne;refine⟨d,dd,a.l,(i:Int),B',A_,rfl,ae,rfl,?_⟩;rw[dS];have s3:aq H2 (upd (upd H2 dd (.own d)) d (.ins t.bq dd (K0 a.l (i:Int) B' A_))):=fun y o hy=>by
    rw[ak (ao hy nd),ak (ao hy ndd)];exact hy
   have RL:=ae (H:=upd H2 dd (.own d)) (a:=d) (o:=.ins t.bq dd (K0 a.l (i:Int) B' A_));generalize upd (upd H2 dd (.own d)) d (.ins t.bq dd (K0 a.l (i:Int) B' A_))=H3 at s3 RL;have s4:=sB.trans s3;obtain⟨_,d1,d2⟩:=b.lists (.inr ⟨a,haa,rfl⟩);refine⟨x,dx,L,D,U,d,dd,a.l,B',A_,i,ds,ux,M a.l,[.ref p0],[.ref p],rfl,s4 _ _ hx,s4 _ _ hD,s4 _ _ hU,RL,s4 _ _ hl,s3 _ _ hB2,s3 _ _ RK,lA,d1,d2,b.DU,by simp;omega,by simp;omega,by omega,?_⟩;have hM:wa ⟨d,dd,a.l,i,B',A_,[.ref p0],[.ref p]⟩ M a.l=(M a.l).take i++[.ref p]++(M a.l).drop (i+1):=gD;have keep:∀ y o,H3 y=some o->y≠a.l->y≠D->y≠U->(upd (upd (upd H3 a.l (.lst ((M a.l).take i++[.ref p]++(M a.l).drop (i+1)))) D (.lst (ds++[.ref d]))) U (.lst [])) y=some o:=fun y o hy y1 y2 y3=>by
    rw[ak y3,ak y2,ak y1];exact hy
   have k1:(upd (upd (upd H3 a.l (.lst ((M a.l).take i++[.ref p]++(M a.l).drop (i+1)))) D (.lst (ds++[.ref d]))) U (.lst [])) a.l=some (.lst ((M a.l).take i++[.ref p]++(M a.l).drop (i+1))):=by
    rw[ak d2,ak d1,ae]
   have k2:(upd (upd (upd H3 a.l (.lst ((M a.l).take i++[.ref p]++(M a.l).drop (i+1)))) D (.lst (ds++[.ref d]))) U (.lst [])) D=some (.lst (ds++[.ref d])):=by
    rw[ak b.DU,ae]
   have k3:(upd (upd (upd H3 a.l (.lst ((M a.l).take i++[.ref p]++(M a.l).drop (i+1)))) D (.lst (ds++[.ref d]))) U (.lst [])) U=some (.lst []):=ae;generalize (upd (upd (upd H3 a.l (.lst ((M a.l).take i++[.ref p]++(M a.l).drop (i+1)))) D (.lst (ds++[.ref d]))) U (.lst []))=H4 at keep k1 k2 k3;have g3:=hg.same s4;have sgN:pq H3 ((M a.l).take i++[.ref p]++(M a.l).drop (i+1)) (ss.take i++[sg]++ss.drop (i+1)):=Hb (Hb (KZ i g3) (.cons ⟨p,rfl,s4 _ _ hp⟩ .nil)) (KY (i+1) g3);obtain⟨F',gr,fr,B4⟩:=Bk.aex b iM pp f B.wv haa hj fw UU (e:=⟨d,dd,a.l,i,B',A_,[.ref p0],[.ref p]⟩) rfl ⟨by show i+1<=(M a.l).length;omega,by rw[show([V.ref p0]:List V).length=1 from rfl,akR hvp];rfl⟩ (by simp) (by simp) s4 hB Yj ⟨rfl,RL,s3 _ _ hB2,s3 _ _ RK⟩ (by rw[hM];exact sgN) (by simp;omega) (fun s hs=>by
    have wg:=((B.wv vw (.inr (.inl rfl))).gd _ _ (mem_of_getElem? fw)).2;rcases mem_append.mp hs with hs|hs
    ·rcases mem_append.mp hs with hs|hs
     ·exact wg s (List.mem_of_mem_take hs)
     ·rw[mem_singleton.mp hs];exact gt
    ·exact wg s (List.mem_of_mem_drop hs)) hD pD keep (by rw[hM];exact k1) k2 k3
   have nT:∀{y us},H3 y=some (.tup us)->H4 y=some (.tup us):=fun {y us} hy=>keep y _ hy (j3 hy (s4 _ _ hl) (by intro z;cases z)) (j3 hy (s4 _ _ hD) (by intro z;cases z)) (j3 hy (s4 _ _ hU) (by intro z;cases z));have sg4:pq H4 ((M a.l).take i++[.ref p]++(M a.l).drop (i+1)) (ss.take i++[sg]++ss.drop (i+1)):=cb (fun _ _ ⟨z,e1,e2⟩=>⟨z,e1,nT e2⟩) sgN;refine⟨_,rfl,_,rfl,_,rfl,.inl ⟨_,_,rfl,rfl,_,rfl,_,rfl,big (by show 2<=1000;omega),fun lc hlc=>?_⟩⟩;have sc:=aq.upd (o:=.lst [V.ref p0,V.ref p]) hlc;refine⟨a.l,lc,_,[.ref p0,.ref p],ss.take i++[sg]++ss.drop (i+1),[sg0,sg],i,i+1,rfl,aX.of (sc _ _ k1),sg4.same sc,by simp;omega,by simp;omega,by simp;omega,aX.of ae,.cons ⟨p0,rfl,sc _ _ (nT (s4 _ _ hp0))⟩ (.cons ⟨p,rfl,sc _ _ (nT (s4 _ _ hp))⟩ .nil),by simp,fun w H5 s5 hw5=>?_⟩;have s6:=sc.trans s5;exact q4 sg0 w F' H5 e1 e2 hsg hw5 gr (fun y o hy hn=>s6 _ _ (fr y o hy hn)) (B4.same s6)
inductive ug (c:Cs)(vs:List V)(H:Hp)(Q:VK)(E:XK):Prop
 |mk (x:Addr) (F:Addr->Prop) (vw:Vw) (ps fs:List Vw) (n:Str) (eO:vs=[.ref x,.str n]) (eP:yx c H x F vw ps fs) (hX:n.length<=1000) (kC:ps.length<=900) (rq:match c9 vw n with
 |some r=>∀ H',aq H H'->RX E c r H'
 |none=>∀ F' H',Gr F F' H->Fr F H H'->yx c H' x F' (vw++[(n,.pl [])]) (ps++[vw]) []->Q .non H'):ug c vs H Q E
theorem Fp (T:Txt K w mg t):bA P w K mg base (iE P w) (0+4) t.ck t.nQ ["self","name"] (ug (cs t)):=by
 have mi:=sj (P:=P) (base:=base) T;have uT:=zc (P:=P) (base:=base) T;have oi:=ue (P:=P) (base:=base) T;refine T.jX.Q5 Em (fun vs H Q E h=>?_) (fun cdv A outer s H vs Q E hr h=>?_)
 ·obtain⟨_,_,_,_,_,_,rfl,_⟩:=h;rfl
 ·obtain⟨x,F,vw,ps,fs,n,rfl,B,hlen,hps,q⟩:=h;refine aS (af (bc (bX (X:=(cL (iE P w) P w K mg base ["self","name"] "Book.add_voice" (ah dm) t.ck cdv A outer s H E)) (pv 0) T.aN T.r0 mi (hr.mono (by decide)) T.ji .nil (fun _ _ z=>Or.inl z) (aa (pv 1) ag))) (aj (bc (kq (pv 0) T.aN T.yU uT (hr.mono (by decide)) T.o8 .nil aP (aa (we T.VJ oi (hr.mono (by decide)) rfl T.VI T.jW .nil aP (aa (pv 1) (aa jq ag))) ag))))) ?_;obtain⟨L,D,U,all,M,Ps,Fs,es,us,b,i,pp,pf,f⟩:=B.ex;obtain⟨dx,hx⟩:=b.hx;refine⟨_,rfl,x,dx,_,rfl,hx,tw _ _ _,_,rfl,x,F,vw,ps,fs,n,rfl,B,hlen,?_⟩;cases ho:c9 vw n with
  |some r =>
   rw[ho]at q;intro H' s';have q:=q H' s';exact q
  |none =>
   rw[ho]at q;obtain⟨_,hf,aiO⟩:=Le ho;intro H1 s1;have b1:=b.kept f (.same s1);obtain⟨ds,hD,pD⟩:=b1.hD;obtain⟨ux,hU,pU⟩:=b1.hU;have ll:=bS i;have dl:=bS pD;have pl:=bS pp;have pe:=b.past.len;refine⟨_,rfl,x,dx,_,rfl,s1 _ _ hx,A3 _ _ _,_,rfl,?_⟩;intro v dv nv ndv ne;refine⟨v,dv,n,.non,rfl,ae,fun l H2 kp hl hlv hv2 hl2=>⟨rfl,?_⟩⟩;have s2:aq H1 H2:=fun y o hy=>kp y o (by rw[ak (ao hy nv),ak (ao hy ndv)];exact hy) (ao hy nv);have hl1:H1 l=none:=MS hl;refine⟨x,dx,L,D,U,v,M L,ds,ux,rfl,s2 _ _ (s1 _ _ hx),s2 _ _ b1.hL,s2 _ _ hD,s2 _ _ hU,b.LD,b.LU,b.DU,by omega,by omega,fun e H3 H' eT ei eb ea s3 nB nA hd fr hL' hD' hU'=>?_⟩;obtain⟨F',g,fr',B'⟩:=Bk.added b1 (Is.kept (F:=F) (.same s1) i) (cb (fun _ _ q=>Is.kept (F:=F) (.same s1) q) pp) f B.wv (a:=⟨v,dv,n,.non,l⟩) (th:=.pl []) s2 nv hl1 hv2 hl2 (fun M' h0=>⟨rfl,by rw[h0];exact .nil⟩) ((B.wv vw (.inr (.inl rfl))).akv (rF hf) aiO) eT ei eb ea s3 nB nA hd hD pD fr hL' hD' hU';exact q F' H' (g.old s1) (fun y o hy hn=>fr' y o (s1 y o hy) hn) B'
theorem RO {K:Frag}{H:Hp}{p:Addr}{a b c d:V}{i:Nat}{v:V}{Q:VK}(h:H p=some (.tup [a,b,c,d]))(e:[a,b,c,d][i]? = some v)(q:Q v H):QZ K (.ref p) (.int (i:Int)) H Q\/Q0 K (.ref p) (.int (i:Int)) H Q\/Q1 (.ref p) (.int (i:Int)) H Q:=.inr (.inl ⟨p,_,i,v,rfl,rfl,uG.of h,D3 e,q⟩)
inductive Fq (c:Cs)(vs:List V)(H:Hp)(Q:VK)(E:XK):Prop
 |mk (x:Addr) (F:Addr->Prop) (vw:Vw) (ps fs:List Vw) (n:Str) (eO:vs=[.ref x,.str n]) (eP:yx c H x F vw ps fs) (hX:ps.length<=900) (kC:match bf vw n with
 |none=>RX E c .dU H
 |some _=>(leans vw n=true->∀ H',aq H H'->RX E c .Bs H')/\(leans vw n=false->∀ F' H',Gr F F' H->Fr F H H'->yx c H' x F' (tG vw n) (ps++[vw]) []->Q .non H')):Fq c vs H Q E
theorem RP (T:Txt K w mg t):bA P w K mg base (iE P w) (0+3) t.eM t.yM ["self","name"] (Fq (cs t)):=by
 have bJ:=dR (P:=P) (base:=base) T;have cU:=iQ (P:=P) (base:=base) T;have cE:=hI (P:=P) (base:=base) T;have j0:=uS (P:=P) (base:=base) T;refine T.tU.Q5 En (fun vs H Q E h=>?_) (fun cdv A outer s H vs Q E hr h=>?_)
 ·obtain⟨_,_,_,_,_,_,rfl,_⟩:=h;rfl
 ·obtain⟨x,F,vw,ps,fs,n,rfl,B,hps,q⟩:=h;refine aS (af (aK (i:=2) En.nd rfl (Or.inl rfl) (bX (X:=(cL (iE P w) P w K mg base ["self","name","dropped"] "Book.drop" (ah hZ) t.eM cdv A outer s H E)) (pv 0) T.aN T.dH bJ (hr.mono (by decide)) T.cw .nil (fun _ _ z=>Or.inl z) (aa (pv 1) ag))) (af (aO (bh (aJ Vc rfl T.aeL adT (aa (qF (cn:=["voice"]) rfl (fV.of rfl) (gL (b7 (pv 0) rfl)) (fun _=>(aU (i:=0) M3 rfl (Or.inl rfl))) (fun _=>yq) (fun _=>(cK (iU (bQ QW (b7 (pv 0) rfl) jq (az _)) (lF (bQ (bg.or (aR (aA hr))) (aC av (b7 (pv 0) rfl) ai (fun _ _=>rfl)) (pv 2) (az _))))))) ag))) (aj (iF (X:=(cL (iE P w) P w K mg base ["self","name","dropped"] "Book.drop" (ah hZ) t.eM cdv A outer s H E)) (fun _ _ z=>z) rfl T.ab3.exc rfl T.QB (aa ax ag))) aB) (aj (bc (kq (pv 0) T.aN T.iJ cU (hr.mono (by decide)) T.e9 .nil aP (aa (we T.E3 cE (hr.mono (by decide)) rfl T.E2 T.d7 .nil aP (aa (b7 (pv 0) rfl) (aa (jr plainAttrs_list PySem.F.slot_list_index PySem.F.type_list_index aey (lI (pv 0) T.aN T.o6 j0 (hr.mono (by decide)) T.jU .nil aP) (aa (pv 1) ag)) (aa (bx (aa (pv 2) ag)) (aa (bx ag) ag))))) ag)))))) ?_;obtain⟨L,D,U,all,M,Ps,Fs,es,us,b,iM,pp,pf,f⟩:=B.ex;obtain⟨dx,hx⟩:=b.hx;obtain⟨vx,g,gv⟩:=b.wu iM;have wv:=B.wv vw (.inr (.inl rfl));have hL:=b.hL;have xl:=bS g;have vl:=bS gv;have wl:=wv.len;refine⟨_,rfl,x,dx,_,rfl,hx,ee _ _ _,_,rfl,x,dx,L,D,U,M L,vx,n,rfl,hx,b.hL,g,?_⟩;rcases K4 gv (fun _ _ r=>r.2.1) n with ⟨f1,f2⟩|⟨a,th,j,f1,f2,r,an,fj,fw⟩
  ·rw[f1];rw[f2]at q;exact q
  rw[f1];rw[f2]at q;obtain⟨q1,q2⟩:=q;refine⟨_,rfl,x,_,dx,_,_,rfl,hx,T.aN,T.bT,kI _ _ _,L,rfl,⟨_,aX.of hL⟩,fun D' b' hD'=>?_⟩;refine jP (K:=K) (xs:=M L) (fun i ys σ H'=>∃ v,σ=[v,some (.ref x),some (.str n),some (.ref a.o)]/\H'=upd H D' (.lst ys)/\ys=((vw.take i).map (rG n)).map V.bl) ⟨none,rfl,rfl,rfl⟩ ?_ ?_ ?_
  ·rintro i ys σ H' ⟨v,rfl,rfl,_⟩;exact jO (aX.of hL) hD'
  ·rintro i ys y σ H' hy ⟨v,rfl,rfl,rfl⟩ N hN;obtain⟨a1,e1,rfl,ha1⟩:=yg g hy;obtain⟨q1',e2,_,an1,t1⟩:=yg gv e1;have hi:i<vw.length:=(List.getElem?_eq_some_iff.mp e2).1;refine kG ?_;refine⟨fun v H'=>v=.bl (rG n q1')/\H'=upd H D' (.lst (((vw.take i).map (rG n)).map V.bl)),?_,?_⟩
   ·refine⟨_,rfl,a1.o,_,a1.d,_,_,rfl,by rw[ak (ao ha1 hD')];exact ha1,T.gj,T.cR,Az _ _ _,rfl,_,rfl,?_⟩;obtain⟨m1,th1⟩:=q1';cases th1 with
    |pl ss =>
     obtain⟨e3,_⟩:=t1;rw[e3];exact bF ⟨rfl,rfl⟩
    |cn ld lt sl tn =>
     obtain⟨p,e3,hp⟩:=t1;have hp':upd H D' (.lst (((vw.take i).map (rG n)).map V.bl)) p=some (.tup [.str ld,.int lt,.int sl,.bl tn]):=by rw[ak (ao hp hD')];exact hp
     rw[e3];refine cX ?_;refine⟨_,rfl,a1.o,_,a1.d,_,_,rfl,by rw[ak (ao ha1 hD')];exact ha1,T.gj,T.cR,Az _ _ _,?_⟩;rw[e3];refine RO (i:=0) hp' rfl ?_;refine⟨_,rfl,.inl ⟨rfl,?_,rfl⟩⟩;show V.bl (decide (V.str ld=V.str n))=V.bl (decide (ld=n));refine congrArg V.bl (decide_eq_decide.mpr ⟨fun z=>V.str.inj z,fun z=>congrArg V.str z⟩)
   ·rintro _ _ ⟨rfl,rfl⟩;refine⟨ae,?_,?_⟩
    ·rw[length_map,length_map,length_take];exact aW (by omega)
    ·refine hN _ _ _ ⟨_,rfl,dS,?_⟩;rw[take_succ,e2];simp
  ·rintro ys σ H' ⟨v,rfl,rfl,rfl⟩;have ml:(M L).length=vw.length:=xl.trans vl;refine⟨rfl,D',_,rfl,aX.of ae,_,rfl,?_⟩;rw[ml,take_length,List.any_map];have sD:=aq.upd (o:=.lst ((vw.map (rG n)).map V.bl)) hD';generalize upd H D' (.lst ((vw.map (rG n)).map V.bl))=H1 at sD;refine aY (fun h=>?_) (fun h=>?_)
   ·have q:=q1 h H1 sD;exact⟨by show 1<=sizeLine;decide,q.2⟩
   have hle:leans vw n=false:=by
    cases e:leans vw n with
    |false=>rfl
    |true=>exact absurd e h
   have q2:=q2 hle;have B1:=B.same sD;have hx1:=sD _ _ hx;refine⟨_,rfl,x,dx,_,rfl,hx1,ju _ _ _,?_⟩;refine⟨_,rfl,x,_,dx,_,_,rfl,hx1,T.aN,T.bT,kI _ _ _,?_⟩;refine⟨_,rfl,x,dx,_,rfl,hx1,qI _ _ _,x,F,vw,ps,fs,rfl,B1,fun l H2 nl s2 h2=>?_⟩;have jl:j<vw.length:=(List.getElem?_eq_some_iff.mp fw).1;have hjn:(vw.map (·.1))[j]? = some n:=by rw[getElem?_map,fw];rfl
   refine⟨.inl ⟨rfl,_,aX.of h2⟩,_,rfl,l,vw.map (·.1),n,j,rfl,rfl,by rw[List.map_map];exact h2,hjn,fun i hi z=>?_,?_⟩
   ·have:=Ec wv.nd z hjn;omega
   have s12:=sD.trans s2;clear s2 sD hx1 B1 nl h2;obtain⟨ds,hD,pD⟩:=b.hD;obtain⟨ux,hU,pU⟩:=b.hU;have dl:=bS pD;have pl:=bS pp;have pe:=b.past.len;refine⟨_,rfl,big (by show 1<=1000;omega),fun B' hB=>?_⟩;refine⟨big (by show 0<=1000;omega),fun A_ hA=>?_⟩;have Yj:=Ee hA;have sB:=(aq.upd (o:=.lst [V.ref a.o]) hB).trans (aq.upd (o:=.lst []) hA);have hB2:=aq.upd (o:=.lst []) hA _ _ (ae (H:=H2) (a:=B') (o:=.lst [V.ref a.o]));have RK:=ae (H:=upd H2 B' (.lst [V.ref a.o])) (a:=A_) (o:=.lst []);have hB0:H B'=none:=s12.free hB;have Yj:H A_=none:=s12.free Yj;have LA:L≠A_:=ao hL Yj;generalize upd (upd H2 B' (.lst [V.ref a.o])) A_ (.lst [])=H3 at sB hB2 RK;have s13:=s12.trans sB;intro d dd nd ndd ne;refine⟨d,dd,L,(j:Int),B',A_,rfl,ae,rfl,?_⟩;rw[dS];have s3:aq H3 (upd (upd H3 dd (.own d)) d (.ins t.bq dd (K0 L (j:Int) B' A_))):=fun y o hy=>by
    rw[ak (ao hy nd),ak (ao hy ndd)];exact hy
   have RL:=ae (H:=upd H3 dd (.own d)) (a:=d) (o:=.ins t.bq dd (K0 L (j:Int) B' A_));generalize upd (upd H3 dd (.own d)) d (.ins t.bq dd (K0 L (j:Int) B' A_))=H4 at s3 RL;have s4:=s13.trans s3;refine⟨x,dx,L,D,U,d,dd,L,B',A_,j,ds,ux,M L,[.ref a.o],[],rfl,s4 _ _ hx,s4 _ _ hD,s4 _ _ hU,RL,s4 _ _ hL,s3 _ _ hB2,s3 _ _ RK,LA,b.LD,b.LU,b.DU,by simp;omega,by simp;omega,by omega,?_⟩;have hj':(M L)[j]? = some (.ref a.o):=by
    obtain⟨v,hv,e1,_⟩:=rC g fj;rw[<-e1];exact hv
   have w':yj (vw.take j++vw.drop (j+1)):=by
    rw[<-MU wv.nd fw];exact wv.dropped hle
   obtain⟨F',gr,fr,B4⟩:=Bk.dropped b iM pp f B.wv hj' w' (e:=⟨d,dd,L,j,B',A_,[.ref a.o],[]⟩) rfl rfl rfl rfl s4 hB0 Yj ⟨rfl,RL,s3 _ _ hB2,s3 _ _ RK⟩ hD pD
    (H':=upd (upd (upd H4 L (.lst ((M L).take j++[]++(M L).drop (j+1)))) D (.lst (ds++[.ref d]))) U (.lst [])) (fun y o hy y1 y2 y3=>by rw[ak y3,ak y2,ak y1];exact hy) (by rw[ak b.LU,ak b.LD,ae,append_nil]) (by rw[ak b.DU,ae]) ae
   refine q2 F' _ gr fr ?_;rw[MU wv.nd fw];exact B4
theorem AK {vw:Vw}{n:Str}{ss:List Sg}(h:bf vw n=some (.pl ss)):rH vw n=ss:=by unfold rH;rw[h]
theorem Ij {st:Std}{d:De}{a:Int}{ss:List Sg}(h:d.wy=.put\/d.wy=.cut\/d.wy=.swap)(hf:bf st.vw d.n=some (.pl ss)):ik st d a=⟨AO st.vw d.n (.pl (fW ss d.wy d.sg a.toNat)),st.ps++[st.vw],[]⟩:=by
 unfold ik;rcases h with h|h|h <;> rw[h,AK hf]
inductive aba (c:Cs)(vs:List V)(H:Hp)(Q:VK)(E:XK):Prop
 |mk (x:Addr) (v2:V) (F:Addr->Prop) (st:Std) (de:De) (at_:Int) (eO:vs=[.ref x,v2,.int at_]) (eP:yx c H x F st.vw st.ps st.fs) (hX:DeS H v2 de) (kC:de.n.length<=1000) (rq:de.ld.length<=1000) (QX:st.ps.length+st.fs.length<=900) (h6_:match ij st de at_ with
 |some r=>∀ H',aq H H'->RX E c r H'
 |none=>∀ v F' H',Gr F F' H->Fr F H H'->yx c H' x F' (ik st de at_).vw (ik st de at_).ps (ik st de at_).fs->rJ H' st de at_ v->Q v H'):aba c vs H Q E
theorem agv (T:Txt K w mg t):bA P w K mg base (iE P w) (0+5) t.j9 t.XX ["_law_book","_law_deed","_law_at"] (aba (cs t)):=by
 have vV:=Fm (P:=P) (base:=base) T;have Yn:=VU (P:=P) (base:=base) T;have Yo:=VW (P:=P) (base:=base) T;have VX:=RN (P:=P) (base:=base) T;have Ik:=Fp (P:=P) (base:=base) T;have VY:=RP (P:=P) (base:=base) T;have za:=wU (P:=P) (base:=base) T;have ze:=Fh (P:=P) (base:=base) T;have zf:=Fj (P:=P) (base:=base) T;refine T.Ni.Q5 aa1 (fun vs H Q E h=>?_) (fun cdv A outer s H vs Q E hr h=>?_)
 ·obtain⟨_,_,_,_,_,_,rfl,_⟩:=h;rfl
 ·obtain⟨x,v2,F,st,de,at_,rfl,B,⟨p2,xs,rfl,hp2,x0,x1,x4,x5⟩,hnl,hll,hlen,q⟩:=h;refine aS (af (ahQ (i:=3) (j:=4) rfl aa1.nd rfl rfl (by decide) rfl rfl (aa (aC av (pv 1) ai (fun _ _=>rfl)) (aa (aC av (pv 1) ai (fun _ _=>rfl)) ag)) rfl) (af (aO (ar (bg.or (aR (aA hr))) (pv 3) ax (az _)) (aj (aw (bX (X:=(cL (iE P w) P w K mg base ["_law_book","_law_deed","_law_at","_law_way","_law_name"] "_law_do" (ah kJ) t.j9 cdv A outer s H E)) (pv 0) T.aN T.VG Yn (hr.mono (by decide)) T.BM .nil (fun _ _ z=>Or.inl z) (aa (pv 4) (aa (pv 2) (aa (aC av (pv 1) ai (fun _ _=>rfl)) ag)))))) aB) (af (aO (ar (bg.or (aR (aA hr))) (pv 3) ax (az _)) (aj (aw (bX (X:=(cL (iE P w) P w K mg base ["_law_book","_law_deed","_law_at","_law_way","_law_name"] "_law_do" (ah kJ) t.j9 cdv A outer s H E)) (pv 0) T.aN T.VH Yo (hr.mono (by decide)) T.BN .nil (fun _ _ z=>Or.inl z) (aa (pv 4) (aa (pv 2) ag))))) aB) (af (aO (ar (bg.or (aR (aA hr))) (pv 3) ax (az _)) (aj (aw (bX (X:=(cL (iE P w) P w K mg base ["_law_book","_law_deed","_law_at","_law_way","_law_name"] "_law_do" (ah kJ) t.j9 cdv A outer s H E)) (pv 0) T.aN T.Ry VX (hr.mono (by decide)) T.yW .nil (fun _ _ z=>Or.inl z) (aa (pv 4) (aa (pv 2) (aa (aC av (pv 1) ai (fun _ _=>rfl)) ag)))))) aB) (af (aO (ar (bg.or (aR (aA hr))) (pv 3) ax (az _)) (aj (aw (bX (X:=(cL (iE P w) P w K mg base ["_law_book","_law_deed","_law_at","_law_way","_law_name"] "_law_do" (ah kJ) t.j9 cdv A outer s H E)) (pv 0) T.aN T.ES Ik (hr.mono (by decide)) T.n9 .nil (fun _ _ z=>Or.inl z) (aa (pv 4) ag)))) aB) (af (aO (ar (bg.or (aR (aA hr))) (pv 3) ax (az _)) (aj (aw (bX (X:=(cL (iE P w) P w K mg base ["_law_book","_law_deed","_law_at","_law_way","_law_name"] "_law_do" (ah kJ) t.j9 cdv A outer s H E)) (pv 0) T.aN T.Rz VY (hr.mono (by decide)) T.yX .nil (fun _ _ z=>Or.inl z) (aa (pv 4) ag)))) aB) (af (aO (ar (bg.or (aR (aA hr))) (pv 3) ax (az _)) (aj (aw (Qn (X:=(cL (iE P w) P w K mg base ["_law_book","_law_deed","_law_at","_law_way","_law_name"] "_law_do" (ah kJ) t.j9 cdv A outer s H E)) (pv 0) T.aN T.EO ze (hr.mono (by decide)) T.tP .nil (fun _ _ z=>Or.inl z)))) aB) (af (aO (ar (bg.or (aR (aA hr))) (pv 3) ax (az _)) (aj (aw (Qn (X:=(cL (iE P w) P w K mg base ["_law_book","_law_deed","_law_at","_law_way","_law_name"] "_law_do" (ah kJ) t.j9 cdv A outer s H E)) (pv 0) T.aN T.ER zf (hr.mono (by decide)) T.tR .nil (fun _ _ z=>Or.inl z)))) aB) (af (aO (bN (PW.pt (cJ (ar (bg.or (aR (aA hr))) (aC av (pv 1) ai (fun _ _=>rfl)) ai (az _)) (cJ (ar (bg.or (aR (aA hr))) (aC av (pv 1) ai (fun _ _=>rfl)) ai (az _)) (dy (cF (bh (aC av (pv 1) ai (fun _ _=>rfl))))))))) (aj (aw (bX (X:=(cL (iE P w) P w K mg base ["_law_book","_law_deed","_law_at","_law_way","_law_name"] "_law_do" (ah kJ) t.j9 cdv A outer s H E)) (pv 0) T.aN T.tS vV (hr.mono (by decide)) (sU:=[.int 0,.int 1,.bl false]) T.l4 (.cons ⟨_,rfl⟩ (.cons ⟨_,rfl⟩ (.cons rfl (.nil)))) (fun _ _ z=>Or.inl z) (aa (pv 4) (aa (aC av (pv 1) ai (fun _ _=>rfl)) ag))))) aB) (aj (aw (bX (X:=(cL (iE P w) P w K mg base ["_law_book","_law_deed","_law_at","_law_way","_law_name"] "_law_do" (ah kJ) t.j9 cdv A outer s H E)) (pv 0) T.aN T.tS vV (hr.mono (by decide)) T.n8 .nil (fun _ _ z=>Or.inl z) (aa (pv 4) (aa (aC av (pv 1) ai (fun _ _=>rfl)) (aa (aC av (pv 1) ai (fun _ _=>rfl)) (aa (aC av (pv 1) ai (fun _ _=>rfl)) (aa (aC av (pv 1) ai (fun _ _=>rfl)) ag))))))))))))))))) ?_;have hx:∃ dx L D U,H x=some (.ins t.ba dx (Br L D U)):=by
   obtain⟨L,D,U,all,M,Ps,Fs,es,us,b,_⟩:=B.ex;obtain⟨dx,e⟩:=b.hx;exact⟨dx,L,D,U,e⟩
  obtain⟨dx,L,D,U,hx⟩:=hx;refine⟨_,rfl,cg (i:=0) hp2 x0 ⟨_,rfl,cg (i:=1) hp2 x1 ⟨_,_,rfl,?_⟩⟩⟩;tm_up;rw[show decide (V.str de.wy.str=V.str (Str.ofString "put"))=decide (de.wy=.put) from kn de.wy .put]
  by_cases z1:de.wy=.put
  ·rw[decide_eq_true z1];refine cX ?_;obtain⟨ps2,x4',Yg⟩:=x4 (.inl z1);rw[vT (.inl z1)]at q;refine⟨_,rfl,x,dx,_,rfl,hx,Xx _ _ _,_,rfl,_,rfl,_,rfl,cg (i:=4) hp2 x4' ?_⟩;refine⟨x,F,st.vw,st.ps,st.fs,de.n,at_,ps2,de.sg,rfl,B,Yg,by omega,?_⟩;cases hf:bf st.vw de.n with
   |none=>rw[lK hf]at q;exact q _ (aq.refl _)
   |some th=>cases th with
    |cn ld lt sl tn=>rw[rK hf]at q;exact q _ (aq.refl _)
    |pl ss =>
     rw[rL hf,Ij (.inl z1) hf,if_pos z1]at q;refine⟨fun z=>?_,fun z g=>?_,fun z g h=>?_,fun z g h s w F' H' e1 e2 hw gr fr b=>?_⟩
     ·rw[if_pos (by omega)]at q;exact q _ (aq.refl _)
     ·rw[if_neg (by omega),if_pos ⟨by rw[z1];decide,g⟩]at q;exact q _ (aq.refl _)
     ·rw[if_neg (by omega),if_neg (fun y=>by rw[g]at y;exact nomatch y.2),if_pos ⟨z1,h⟩]at q;exact q _ (aq.refl _)
     ·rw[if_neg (by omega),if_neg (fun y=>by rw[g]at y;exact nomatch y.2),if_neg (fun y=>by omega)]at q;have el:fW ss de.wy de.sg at_.toNat=ss.take at_.toNat++[s]++ss.drop at_.toNat:=by unfold fW;rw[z1,Ef e1 e2]
      refine q _ F' H' gr fr (by rw[el];exact b) ?_;unfold rJ;rw[z1]at el ⊢;rw[AK hf,el,Ef e1 e2];exact⟨w,rfl,hw⟩
  rw[decide_eq_false z1];refine bF ?_;tm_up;rw[show decide (V.str de.wy.str=V.str (Str.ofString "cut"))=decide (de.wy=.cut) from kn de.wy .cut]
  by_cases z2:de.wy=.cut
  ·rw[decide_eq_true z2];refine cX ?_;rw[vT (.inr (.inl z2))]at q;refine⟨_,rfl,x,dx,_,rfl,hx,Xy _ _ _,_,rfl,_,rfl,?_⟩;refine⟨x,F,st.vw,st.ps,st.fs,de.n,at_,rfl,B,by omega,?_⟩;cases hf:bf st.vw de.n with
   |none=>rw[lK hf]at q;exact q _ (aq.refl _)
   |some th=>cases th with
    |cn ld lt sl tn=>rw[rK hf]at q;exact q _ (aq.refl _)
    |pl ss =>
     rw[rL hf,Ij (.inr (.inl z2)) hf,if_neg (show ¬ de.wy=.put by rw[z2];decide)]at q;refine⟨fun z=>?_,fun z s w F' H' es hw gr fr b=>?_⟩
     ·rw[if_pos (by omega)]at q;exact q _ (aq.refl _)
     ·rw[if_neg (by omega),if_neg (fun y=>y.1 z2),if_neg (fun y=>by rw[z2]at y;exact nomatch y.1)]at q;have el:fW ss de.wy de.sg at_.toNat=ss.take at_.toNat++[]++ss.drop (at_.toNat+1):=by unfold fW;rw[z2]
      refine q _ F' H' gr fr (by rw[el];exact b) ?_;unfold rJ;rw[z2]at el ⊢;rw[AK hf,el];exact⟨w,rfl,s,es,hw⟩
  rw[decide_eq_false z2];refine bF ?_;tm_up;rw[show decide (V.str de.wy.str=V.str (Str.ofString "swap"))=decide (de.wy=.swap) from kn de.wy .swap]
  by_cases z3:de.wy=.swap
  ·rw[decide_eq_true z3];refine cX ?_;obtain⟨ps2,x4',Yg⟩:=x4 (.inr z3);rw[vT (.inr (.inr z3))]at q;refine⟨_,rfl,x,dx,_,rfl,hx,Vt _ _ _,_,rfl,_,rfl,_,rfl,cg (i:=4) hp2 x4' ?_⟩;refine⟨x,F,st.vw,st.ps,st.fs,de.n,at_,ps2,de.sg,rfl,B,Yg,by omega,?_⟩;cases hf:bf st.vw de.n with
   |none=>rw[lK hf]at q;exact q _ (aq.refl _)
   |some th=>cases th with
    |cn ld lt sl tn=>rw[rK hf]at q;exact q _ (aq.refl _)
    |pl ss =>
     rw[rL hf,Ij (.inr (.inr z3)) hf,if_neg (show ¬ de.wy=.put by rw[z3];decide)]at q;refine⟨fun z=>?_,fun z g=>?_,fun z g s s0 w F' H' e1 e2 es hw gr fr b=>?_⟩
     ·rw[if_pos (by omega)]at q;exact q _ (aq.refl _)
     ·rw[if_neg (by omega),if_pos ⟨by rw[z3];decide,g⟩]at q;exact q _ (aq.refl _)
     ·rw[if_neg (by omega),if_neg (fun y=>by rw[g]at y;exact nomatch y.2),if_neg (fun y=>by rw[z3]at y;exact nomatch y.1)]at q;have el:fW ss de.wy de.sg at_.toNat=ss.take at_.toNat++[s]++ss.drop (at_.toNat+1):=by unfold fW;rw[z3,Ef e1 e2]
      refine q _ F' H' gr fr (by rw[el];exact b) ?_;unfold rJ;rw[z3]at el ⊢;rw[AK hf,el,Ef e1 e2];exact⟨w,rfl,s0,es,hw⟩
  rw[decide_eq_false z3];refine bF ?_;tm_up;rw[show decide (V.str de.wy.str=V.str (Str.ofString "add"))=decide (de.wy=.add) from kn de.wy .add]
  by_cases z4:de.wy=.add
  ·rw[decide_eq_true z4];refine cX ?_;have e0:ij st de at_=c9 st.vw de.n:=by unfold ij;rw[z4]
   have eb:ik st de at_=⟨st.vw++[(de.n,.pl [])],st.ps++[st.vw],[]⟩:=by unfold ik;rw[z4]
   rw[e0,eb]at q;refine⟨_,rfl,x,dx,_,rfl,hx,He _ _ _,_,rfl,x,F,st.vw,st.ps,st.fs,de.n,rfl,B,hnl,by omega,?_⟩;cases hn:c9 st.vw de.n with
   |some r=>rw[hn]at q;exact q
   |none =>
    rw[hn]at q;exact fun F' H' gr fr b=>q _ F' H' gr fr b (by unfold rJ;rw[z4])
  rw[decide_eq_false z4];refine bF ?_;tm_up;rw[show decide (V.str de.wy.str=V.str (Str.ofString "drop"))=decide (de.wy=.drop) from kn de.wy .drop]
  by_cases z5:de.wy=.drop
  ·rw[decide_eq_true z5];refine cX ?_;have e0:ij st de at_=oY st.vw de.n:=by unfold ij;rw[z5]
   have eb:ik st de at_=⟨tG st.vw de.n,st.ps++[st.vw],[]⟩:=by unfold ik;rw[z5]
   rw[e0,eb]at q;refine⟨_,rfl,x,dx,_,rfl,hx,Vs _ _ _,_,rfl,x,F,st.vw,st.ps,st.fs,de.n,rfl,B,by omega,?_⟩;cases hf:bf st.vw de.n with
   |none =>
    have ed:oY st.vw de.n=some .dU:=by unfold oY;rw[hf]
    rw[ed]at q;exact q _ (aq.refl _)
   |some th =>
    have ed:oY st.vw de.n=if leans st.vw de.n=true then some .Bs else none:=by unfold oY;rw[hf]
    rw[ed]at q;refine⟨fun z=>?_,fun z=>?_⟩
    ·rw[if_pos z]at q;exact q
    ·rw[if_neg (by rw[z];decide)]at q;exact fun F' H' gr fr b=>q _ F' H' gr fr b (by unfold rJ;rw[z5])
  rw[decide_eq_false z5];refine bF ?_;tm_up;rw[show decide (V.str de.wy.str=V.str (Str.ofString "undo"))=decide (de.wy=.undo) from kn de.wy .undo]
  by_cases z6:de.wy=.undo
  ·rw[decide_eq_true z6];refine cX ?_;have e0:ij st de at_=if st.ps=[] then some .jv else none:=by unfold ij;rw[z6]
   rw[e0]at q;refine⟨_,rfl,x,dx,_,rfl,hx,K1 _ _ _,x,F,st.vw,st.ps,st.fs,rfl,B,hlen,fun z=>?_,fun ps0 v0 ez H' fr b=>?_⟩
   ·rw[if_pos z]at q;exact q
   ·rw[if_neg (by rw[ez];simp)]at q;have eb:ik st de at_=⟨v0,ps0,st.fs++[st.vw]⟩:=by
     unfold ik;rw[z6,ez];simp
    rw[eb]at q;exact q _ F H' (Gr.refl _ _) fr b (by unfold rJ;rw[z6])
  rw[decide_eq_false z6];refine bF ?_;tm_up;rw[show decide (V.str de.wy.str=V.str (Str.ofString "redo"))=decide (de.wy=.qL) from kn de.wy .qL]
  by_cases z7:de.wy=.qL
  ·rw[decide_eq_true z7];refine cX ?_;have e0:ij st de at_=if st.fs=[] then some .jv else none:=by unfold ij;rw[z7]
   rw[e0]at q;refine⟨_,rfl,x,dx,_,rfl,hx,K2 _ _ _,x,F,st.vw,st.ps,st.fs,rfl,B,hlen,fun z=>?_,fun fs0 v0 ez H' fr b=>?_⟩
   ·rw[if_pos z]at q;exact q
   ·rw[if_neg (by rw[ez];simp)]at q;have eb:ik st de at_=⟨v0,st.ps++[st.vw],fs0⟩:=by
     unfold ik;rw[z7,ez];simp
    rw[eb]at q;exact q _ F H' (Gr.refl _ _) fr b (by unfold rJ;rw[z7])
  rw[decide_eq_false z7];refine bF ?_;have z8:de.wy=.canon:=by
   cases hw:de.wy with
   |put=>exact absurd hw z1
   |cut=>exact absurd hw z2
   |swap=>exact absurd hw z3
   |add=>exact absurd hw z4
   |canon=>rfl
   |drop=>exact absurd hw z5
   |undo=>exact absurd hw z6
   |qL=>exact absurd hw z7
  obtain⟨y2,y5,y6,y7⟩:=x5 z8;have e0:ij st de at_=match c9 st.vw de.n with|some r=>some r|none=>iH st.vw de.ld de.lt de.sl:=by unfold ij;rw[z8];try rfl
  have eb:ik st de at_=⟨st.vw++[(de.n,.cn de.ld de.lt de.sl de.tn)],st.ps++[st.vw],[]⟩:=by unfold ik;rw[z8]
  rw[e0,eb]at q;have ea:∀ H',rJ H' st de at_ .non:=fun H'=>by unfold rJ;rw[z8]
  have fin:∀{E':XK},(∀ cls H',E' cls none H'=E cls none H')->match c9 st.vw de.n with
   |some r=>∀ H',aq H H'->RX E' (cs t) r H'
   |none=>match bf st.vw de.ld with
    |none=>∀ H',aq H H'->RX E' (cs t) .dU H'
    |some (.cn _ _ _ _)=>∀ H',aq H H'->RX E' (cs t) .gT H'
    |some (.pl _)=>(¬ ig de.lt de.sl->∀ H',aq H H'->RX E' (cs t) .tE H')/\(ig de.lt de.sl->∀ F' H',Gr F F' H->Fr F H H'->yx (cs t) H' x F' (st.vw++[(de.n,.cn de.ld de.lt de.sl de.tn)]) (st.ps++[st.vw]) []->Q .non H'):=by
   intro E' hE;have rx:∀{r H'},RX E (cs t) r H'->RX E' (cs t) r H':=fun {r H'} z=>⟨z.1,by rw[hE];exact z.2⟩;cases hn:c9 st.vw de.n with
   |some r =>
    rw[hn]at q;exact fun H' s'=>rx (q H' s')
   |none =>
    rw[hn]at q;cases hf:bf st.vw de.ld with
    |none =>
     have ed:iH st.vw de.ld de.lt de.sl=some .dU:=by unfold iH;rw[hf]
     rw[ed]at q;exact fun H' s'=>rx (q H' s')
    |some th=>cases th with
     |cn ld lt sl tn =>
      have ed:iH st.vw de.ld de.lt de.sl=some .gT:=by unfold iH;rw[hf]
      rw[ed]at q;exact fun H' s'=>rx (q H' s')
     |pl ss =>
      have ed:iH st.vw de.ld de.lt de.sl=if ig de.lt de.sl then none else some .tE:=by unfold iH;rw[hf]
      rw[ed]at q;refine⟨fun z=>?_,fun z=>?_⟩
      ·rw[if_neg z]at q;exact fun H' s'=>rx (q H' s')
      ·rw[if_pos z]at q;exact fun F' H' gr fr b=>q _ F' H' gr fr b (ea H')
  refine kh (decide (de.lt=0/\de.sl=1/\de.tn=false)) ?_ ?_
  ·refine⟨_,rfl,cg (i:=5) hp2 y5 ?_⟩;tm_up
   by_cases u1:de.lt=0
   ·rw[decide_eq_true (congrArg V.int u1)];refine cX ?_;refine⟨_,rfl,cg (i:=6) hp2 y6 ?_⟩;tm_up
    by_cases u2:de.sl=1
    ·rw[decide_eq_true (congrArg V.int u2)];refine cX ?_;refine⟨_,rfl,cg (i:=7) hp2 y7 ⟨_,rfl,?_,rfl⟩⟩;cases u3:de.tn with
     |true=>exact(decide_eq_false (fun y=>nomatch y.2.2)).symm
     |false=>exact(decide_eq_true ⟨u1,u2,rfl⟩).symm
    ·rw[decide_eq_false (fun y=>u2 (V.int.inj y)),decide_eq_false (fun y=>u2 y.2.1)];exact bF ⟨rfl,rfl⟩
   ·rw[decide_eq_false (fun y=>u1 (V.int.inj y)),decide_eq_false (fun y=>u1 y.1)];exact bF ⟨rfl,rfl⟩
  refine aY (fun z=>?_) (fun z=>?_)
  ·obtain⟨u1,u2,u3⟩:=of_decide_eq_true z;refine⟨_,rfl,x,dx,_,rfl,hx,vt _ _ _,_,rfl,_,rfl,cg (i:=2) hp2 y2 ?_⟩;rw[u1,u2,u3]at fin;refine⟨x,F,st.vw,st.ps,st.fs,de.n,de.ld,0,1,false,rfl,B,hnl,by omega,?_⟩;exact fin fun _ _=>rfl
  ·refine⟨_,rfl,x,dx,_,rfl,hx,vt _ _ _,_,rfl,_,rfl,cg (i:=2) hp2 y2 ⟨_,rfl,cg (i:=5) hp2 y5 ⟨_,rfl,cg (i:=6) hp2 y6 ⟨_,rfl,cg (i:=7) hp2 y7 ?_⟩⟩⟩⟩;refine⟨x,F,st.vw,st.ps,st.fs,de.n,de.ld,de.lt,de.sl,de.tn,rfl,B,hnl,by omega,?_⟩;exact fin fun _ _=>rfl
inductive NK (c:Cs)(vs:List V)(H:Hp)(Q:VK)(E:XK):Prop
 |mk (x:Addr) (v2:V) (F:Addr->Prop) (st:Std) (de:De) (at_:Int) (eO:vs=[.ref x,v2,.int at_]) (eP:yx c H x F st.vw st.ps st.fs) (hX:DeS H v2 de) (kC:de.n.length<=1000) (rq:de.ld.length<=1000) (QX:st.ps.length+st.fs.length<=900) (h6_:match ij st de at_ with
 |some r=>∀ t H',aq H H'->H' t=some (.tup [.non,.str r.str])->Q (.ref t) H'
 |none=>∀ t v F' H',Gr F F' H->Fr F H H'->yx c H' x F' (ik st de at_).vw (ik st de at_).ps (ik st de at_).fs->rJ H' st de at_ v->H' t=some (.tup [v,.str ""])->Q (.ref t) H'):NK c vs H Q E
theorem rJ.same {H H':Hp}{st:Std}{de:De}{a:Int}{v:V}(s:aq H H')(h:rJ H st de a v):rJ H' st de a v:=by
 unfold rJ at h ⊢;generalize de.wy=wy at h ⊢;cases wy with
 |put=>obtain⟨w,e,h⟩:=h;exact⟨w,e,s _ _ h⟩
 |cut=>obtain⟨w,e,x,ex,h⟩:=h;exact⟨w,e,x,ex,s _ _ h⟩
 |swap=>obtain⟨w,e,x,ex,h⟩:=h;exact⟨w,e,x,ex,s _ _ h⟩
 |_=>exact h
theorem Yp (T:Txt K w mg t):bA P w K mg base k9 (0+6) t.lz t.HE ["_law_book","_law_deed","_law_at"] (NK (cs t)):=by
 have aiU:=agv (P:=P) (base:=base) T;refine T.oa.ok XI (fun vs H Q E h=>?_) (fun cdv A outer s H vs Q E hr h=>?_)
 ·obtain⟨_,_,_,_,_,_,rfl,_⟩:=h;rfl
 ·obtain⟨x,v2,F,st,de,at_,rfl,B,hde,hnl,hll,hlen,q⟩:=h;refine aS (aj (agb (fun pn XS=>(aj (aw (b8 (aa (vk (X:=Cx.US (cL k9 P w K mg base ["_law_book","_law_deed","_law_at"] "_law_tried" (ah nt) t.lz cdv A outer s H E).nox pn) (XS:=XS) aiU (hr.mono (by decide)) rfl T.agl T.Ni.kp T.X3 .nil (fun _ _ z=>z) (aa (pv 0) (aa (pv 1) (aa (pv 2) ag)))) (aa ax ag)))))) (ki (CT:=t.aZ) (fun pn a=>(aj (aw (b8 (aa jq (aa ax ag)))))) rfl T.Nw (ki (CT:=t.aQ) (fun pn a=>(aj (aw (b8 (aa jq (aa ax ag)))))) rfl T.E4 (ki (CT:=t.cv) (fun pn a=>(aj (aw (b8 (aa jq (aa ax ag)))))) rfl T.RE (ki (CT:=t.a6) (fun pn a=>(aj (aw (b8 (aa jq (aa ax ag)))))) rfl T.Nx (ki (CT:=t.aT) (fun pn a=>(aj (aw (b8 (aa jq (aa ax ag)))))) rfl T.Lb (ki (CT:=t.a8) (fun pn a=>(aj (aw (b8 (aa jq (aa ax ag)))))) rfl T.Nz (ki (CT:=t.a9) (fun pn a=>(aj (aw (b8 (aa jq (aa ax ag)))))) rfl T.NA (ki (CT:=t.a7) (fun pn a=>(aj (aw (b8 (aa jq (aa ax ag)))))) rfl T.Ny (ki (CT:=t.bo) (fun pn a=>(aj (aw (b8 (aa jq (aa ax ag)))))) rfl T.QB (ki (CT:=t.bj) (fun pn a=>(aj (aw (b8 (aa jq (aa ax ag)))))) rfl T.HZ aga)))))))))) rfl rfl)) ?_;refine⟨_,rfl,_,rfl,_,rfl,?_⟩;refine⟨x,v2,F,st,de,at_,rfl,B,hde,hnl,hll,hlen,?_⟩;cases ho:ij st de at_ with
  |none =>
   rw[ho]at q;intro v F' H' gr fr b an;refine⟨by show 2<=sizeLine;decide,fun t0 ht0=>?_⟩;have s1:=aq.upd (o:=.tup [v,V.str ""]) ht0;exact q t0 v F' _ gr (fun y o e n=>s1 _ _ (fr y o e n)) (b.same s1) (an.same s1) ae
  |some r =>
   rw[ho]at q;intro H' s';refine⟨rfl,?_⟩;have fin:(2<=sizeLine)/\∀ t0,H' t0=none->Q (.ref t0) (upd H' t0 (.tup [V.non,V.str r.str])):=⟨by decide,fun t0 ht0=>q t0 _ (s'.trans (aq.upd ht0)) ae⟩;cases r with
   |Mi=>exact .inl ⟨T.fg,fin⟩
   |AA=>exact .inr ⟨T.dJ,.inl ⟨T.cT,fin⟩⟩
   |Full=>exact .inr ⟨T.iK,.inr ⟨T.gu,.inl ⟨T.mh,fin⟩⟩⟩
   |dU=>exact .inr ⟨T.fh,.inr ⟨T.dM,.inr ⟨T.iL,.inl ⟨T.fi,fin⟩⟩⟩⟩
   |gT=>exact .inr ⟨T.en,.inr ⟨T.dg,.inr ⟨T.g9,.inr ⟨T.eo,.inl ⟨T.dN,fin⟩⟩⟩⟩⟩
   |qK=>exact .inr ⟨T.fA,.inr ⟨T.dP,.inr ⟨T.iO,.inr ⟨T.fB,.inr ⟨T.eB,.inl ⟨T.fD,fin⟩⟩⟩⟩⟩⟩
   |tD=>exact .inr ⟨T.fE,.inr ⟨T.dQ,.inr ⟨T.iP,.inr ⟨T.fF,.inr ⟨T.eC,.inr ⟨T.fG,.inl ⟨T.fH,fin⟩⟩⟩⟩⟩⟩⟩
   |tE=>exact .inr ⟨T.fk,.inr ⟨T.dO,.inr ⟨T.iN,.inr ⟨T.fm,.inr ⟨T.eA,.inr ⟨T.fo,.inr ⟨T.fq,.inl ⟨T.fu,fin⟩⟩⟩⟩⟩⟩⟩⟩
   |Bs=>exact .inr ⟨T.gw,.inr ⟨T.eD,.inr ⟨T.jL,.inr ⟨T.gx,.inr ⟨T.fI,.inr ⟨T.gy,.inr ⟨T.gA,.inr ⟨T.gB,.inl ⟨T.hG,fin⟩⟩⟩⟩⟩⟩⟩⟩⟩
   |jv=>exact .inr ⟨T.gm,.inr ⟨T.eh,.inr ⟨T.jK,.inr ⟨T.gn,.inr ⟨T.ff,.inr ⟨T.gp,.inr ⟨T.gq,.inr ⟨T.gs,.inr ⟨T.g7,.inl ⟨T.g8,fin⟩⟩⟩⟩⟩⟩⟩⟩⟩⟩
inductive Ba (c:Cs)(vs:List V)(H:Hp)(Q:VK)(E:XK):Prop
 |mk (x:Addr) (F:Addr->Prop) (vw:Vw) (ps fs:List Vw) (n:Str) (eO:vs=[.ref x,.str n]) (eP:yx c H x F vw ps fs) (hX:match bf vw n with
 |none=>RX E c .dU H
 |some (.pl _)=>Q .non H
 |some (.cn ld lt sl tn)=>∀ p,H p=some (.tup [.str ld,.int lt,.int sl,.bl tn])->Q (.ref p) H):Ba c vs H Q E
theorem pb (T:Txt K w mg t):bA P w K mg base (iE P w) (0+2) t.eI t.wG ["self","name"] (Ba (cs t)):=by
 have bJ:=dR (P:=P) (base:=base) T;refine T.qR.Q5 Pn (fun vs H Q E h=>?_) (fun cdv A outer s H vs Q E hr h=>?_)
 ·obtain⟨_,_,_,_,_,_,rfl,_⟩:=h;rfl
 ·obtain⟨x,F,vw,ps,fs,n,rfl,B,q⟩:=h;refine aS (aj (aw (b7 (bX (X:=(cL (iE P w) P w K mg base ["self","name"] "Book.canon" (ah ip) t.eI cdv A outer s H E)) (pv 0) T.aN T.dH bJ (hr.mono (by decide)) T.cw .nil (fun _ _ z=>Or.inl z) (aa (pv 1) ag)) rfl))) ?_;obtain⟨L,D,U,all,M,Ps,Fs,es,us,b,iM,pp,pf,f⟩:=B.ex;obtain⟨dx,hx⟩:=b.hx;obtain⟨vx,g,gv⟩:=b.wu iM;refine⟨_,rfl,x,dx,_,rfl,hx,ee _ _ _,_,rfl,x,dx,L,D,U,M L,vx,n,rfl,hx,b.hL,g,?_⟩;rcases K4 gv (fun _ _ r=>r.2.1) n with ⟨f1,f2⟩|⟨a,th,j,f1,f2,r,an,fj,fw⟩
  ·rw[f1];rw[f2]at q;exact q
  rw[f1];rw[f2]at q;refine⟨a.o,_,a.d,_,_,rfl,(b.ha a r.1).1,T.gj,T.cR,Az _ _ _,?_⟩;cases th with
  |pl ss=>rw[r.2.2.1];exact q
  |cn ld lt sl tn =>
   obtain⟨p,e1,e2⟩:=r.2.2;rw[e1];exact q p e2
inductive NL (vs:List V)(H:Hp)(Q:VK)(E:XK):Prop
 |mk (n:Int) (eO:vs=[.int n]) (eP:Q (.bl true) H):NL vs H Q E
theorem BU (T:Txt K w mg t):bA P w K mg base k9 (0+1) t.nR t.HF ["_law_found"] NL:=by
 refine T.lC.ok XJ (fun vs H Q E h=>?_) (fun cdv A outer s H vs Q E hr h=>?_)
 ·obtain⟨_,rfl,_⟩:=h;rfl
 ·obtain⟨n,rfl,q⟩:=h;refine aS (aj (aw (cK (iU (aJ d9 rfl T.bu br (aa (pv 0) (aa (gK (v:=.ty "int") rfl T.HW G6 rfl) ag))) (lF (ahO (aJ d9 rfl T.bu br (aa (pv 0) (aa (gK (v:=.ty "bool") rfl T.aa4 aaP rfl) ag))))))))) ?_;refine AN (.bl true) ?_ q;exact⟨_,rfl,_,_,_,_,rfl,iV.int _,rfl,_,rfl,cX ⟨_,rfl,_,_,_,_,rfl,iV.int _,rfl,_,rfl,qG rfl⟩⟩
inductive NM (K:Frag)(vs:List V)(H:Hp)(Q:VK)(E:XK):Prop
 |mk (l1 l2:Addr) (xs ys:List V) (ss:List Sg) (eO:vs=[.ref l1,.ref l2]) (eP:H l1=some (.lst xs)) (hX:aX K H l2 ys) (kC:pq H xs ss) (rq:pq H ys ss) (QX:∀ H',aq H H'->Q (.bl true) H'):NM K vs H Q E
theorem Yq (T:Txt K w mg t):bA P w K mg base k9 (0+2) t.nS t.HG ["_law_found","_law_due"] (NM K):=by
 have rk:=BU (P:=P) (base:=base) T;refine T.vL.ok Bx (fun vs H Q E h=>?_) (fun cdv A outer s H vs Q E hr h=>?_)
 ·obtain⟨_,_,_,_,_,rfl,_⟩:=h;rfl
 ·obtain⟨l1,l2,xs,ys,ss,rfl,h1,h2,g1,g2,q⟩:=h;have el:xs.length=ys.length:=(bS g1).trans (bS g2).symm;refine aS (af (aO (bN (PW.pt (j4 (cF (bh (aJ d9 rfl T.bu br (aa (pv 0) (aa (gK (v:=.ty "list") rfl T.iy ia rfl) ag))))) (h9 (ar (rp.or (kE (aA hr))) (aJ (aE.or aF) rfl T.bO bM (aa (pv 0) ag)) (aJ (aE.or aF) rfl T.bO bM (aa (pv 1) ag)) (az _)))))) (aj (aw fK)) aB) (af (gR PassesOwn.never rfl (aid rfl T.aeM (pv 0) (pv 1)) (rl rfl (bC (aU (i:=2) Bx.nd rfl (Or.inl rfl)) (bC (aU (i:=3) Bx.nd rfl (Or.inl rfl)) lG))) (af (aO (bN (PW.pt (j4 (cF (bh (aJ d9 rfl T.bu br (aa (pv 2) (aa (gK (v:=.ty "tuple") rfl T.Nm Mx rfl) ag))))) (h9 (ar (rp.or (kE (aA hr))) (aJ (aE.or aF) rfl T.bO bM (aa (pv 2) ag)) ai (az _)))))) (aj (aw fK)) aB) (aj (aO (bN (PW.pt (j4 (cF (bh (aJ d9 rfl T.bu br (aa (aC av (pv 2) ai (fun _ _=>rfl)) (aa (gK (v:=.ty "str") rfl T.aiI ah9 rfl) ag))))) (j4 (cF (bh (aD rk (hr.mono (by decide)) rfl T.wN T.lC.kp T.rj .nil aP (aa (aC av (pv 2) ai (fun _ _=>rfl)) ag)))) (h9 (ar (rp.or (kE (aA hr))) (pv 2) (pv 3) (az _))))))) (aj (aw fK)) aB)))) (aj (aw fK)))) ?_;refine kh false ?_ ?_
  ·tm_up;refine⟨_,_,_,_,rfl,iV.lst h1,rfl,_,rfl,bF ?_⟩;tm_up;refine .inl ⟨_,_,rfl,.inl (aX.of h1),?_⟩;tm_up;refine .inl ⟨_,_,rfl,.inl h2,?_⟩;tm_up;exact fJ (by rw[el];simp)
  refine bF ?_;tm_up;refine⟨⟨_,aX.of h1⟩,⟨_,h2⟩,afW (K:=K) (xs:=xs) (ys:=ys) (fun i σ H'=>∃ v1 v2,σ=[some (.ref l1),some (.ref l2),v1,v2]/\aq H H') el ⟨none,none,rfl,aq.refl _⟩ ?_ ?_ ?_⟩
  ·rintro i σ H' ⟨v1,v2,rfl,s2⟩;exact⟨s2.seq (aX.of h1),s2.seq h2⟩
  ·rintro i x y tt σ H' hx hy ⟨v1,v2,rfl,s2⟩ hn;obtain⟨sg,e1,p,rfl,hp⟩:=yg g1 hx;obtain⟨sg',e2,p2,rfl,hp2⟩:=yg g2 hy;have es:sg'=sg:=Option.some.inj (e2.symm.trans e1);subst es;have s3:aq H (upd H' tt (.tup [.ref p,.ref p2])):=s2.trans (aq.upd hn);have hp':=s3 _ _ hp;have hp2':=s3 _ _ hp2;refine⟨tt,_,rfl,uG.of ae,rfl,_,_,rfl,_,_,rfl,rfl,?_⟩;generalize upd H' tt (.tup [.ref p,.ref p2])=H3 at s3 hp' hp2';refine kh false ?_ ?_
   ·tm_up;refine⟨_,_,_,_,rfl,iV.tup hp',rfl,_,rfl,bF ?_⟩;tm_up;refine .inl ⟨_,_,rfl,.inr (uG.of hp'),?_⟩;tm_up;exact fJ rfl
   refine bF ?_;refine kh false ?_ ?_
   ·tm_up;refine⟨_,_,_,_,rfl,iV.str _,rfl,_,rfl,bF ?_⟩;tm_up;refine⟨akq 59 hp' hp2',?_⟩;tm_up;exact fJ rfl
   refine bF ?_;exact⟨_,_,rfl,s3⟩
  ·rintro σ H' ⟨v1,v2,rfl,s2⟩;exact q _ s2
inductive QF (K:Frag)(vs:List V)(H:Hp)(Q:VK)(E:XK):Prop
 |mk (f d:Addr) (fs ds:List Int) (eO:vs=[.ref f,.ref d]) (eP:H f=some (.lst (fs.map V.int))) (hX:aX K H d (ds.map V.int)) (kC:ds.length<=1000) (rq:Q (.bl (decide (fs=ds))) H):QF K vs H Q E
theorem ab9 (T:Txt K w mg t):bA P w K mg base k9 (0+2) t.rS t.Na ["_law_found","_law_due"] (QF K):=by
 have rk:=BU (P:=P) (base:=base) T;refine T.yY.ok Qw (fun vs H Q E h=>?_) (fun cdv A outer s H vs Q E hr h=>?_)
 ·obtain⟨_,_,_,_,rfl,_⟩:=h;rfl
 ·obtain⟨f,d,fs,ds,rfl,hf,hd,hn,q⟩:=h;refine aS (af (aO (bN (PW.pt (j4 (cF (bh (aJ d9 rfl T.bu br (aa (pv 0) (aa (gK (v:=.ty "list") rfl T.iy ia rfl) ag))))) (h9 (ar (rp.or (kE (aA hr))) (aJ (aE.or aF) rfl T.bO bM (aa (pv 0) ag)) (aJ (aE.or aF) rfl T.bO bM (aa (pv 1) ag)) (az _)))))) (aj (aw fK)) aB) (af (gR PassesOwn.never rfl (m9 rfl T.mf (aa (aJ (aE.or aF) rfl T.bO bM (aa (pv 1) ag)) ag)) (aU (i:=2) Qw.nd rfl (Or.inl rfl)) (aj (aO (bN (PW.pt (j4 (cF (bh (aD rk (hr.mono (by decide)) rfl T.wN T.lC.kp T.rj .nil aP (aa (aC av (pv 0) (pv 2) (fun _ _=>rfl)) ag)))) (h9 (ar (rp.or (kE (aA hr))) (aC av (pv 0) (pv 2) (fun _ _=>rfl)) (aC av (pv 1) (pv 2) (fun _ _=>rfl)) (az _)))))) (aj (aw fK)) aB))) (aj (aw fK)))) ?_;refine kh (decide (fs.length≠ds.length)) ?_ ?_
  ·tm_up;refine⟨_,_,_,_,rfl,iV.lst hf,rfl,_,rfl,?_⟩;refine bF ?_;tm_up;refine .inl ⟨_,_,rfl,.inl (aX.of hf),?_⟩;tm_up;refine .inl ⟨_,_,rfl,.inl hd,?_⟩;tm_up;rw[length_map,length_map];refine fJ ?_;rw[gS]
   by_cases e:fs.length=ds.length
   ·simp[e]
   ·have:¬((fs.length:Int)=(ds.length:Int)):=by omega
    simp[e,this]
  ·refine aY (fun h=>?_) (fun h=>?_)
   ·have e:fs≠ds:=fun z=>by
     have:=of_decide_eq_true h;rw[z]at this;exact this rfl
    rw[decide_eq_false e]at q;exact q
   ·have el:fs.length=ds.length:=by
     by_cases e:fs.length=ds.length
     ·exact e
     ·exact absurd (decide_eq_true e) h
    tm_up;refine .inl ⟨_,_,rfl,.inl hd,?_⟩;rw[length_map];have p62:(2:Int) ^ 62=4611686018427387904:=by decide
    refine⟨(ds.length:Int),rfl,by rw[p62];omega,by rw[p62];omega,?_⟩;refine kZ (n:=((ds.length:Int)).toNat) (fun i σ H'=>∃ v,σ=[some (.ref f),some (.ref d),v]/\H'=H/\fs.take i=ds.take i) ⟨none,rfl,rfl,rfl⟩ ?_ ?_
    ·rintro i σ H' hi ⟨v,rfl,rfl,ht⟩;have hid:i<ds.length:=by omega
     have hif:i<fs.length:=by omega
     refine kh (decide (fs[i]≠ds[i])) ?_ ?_
     ·tm_up;refine aeq (aX.of hf) (n:=i) (by omega) (getElem?_eq_getElem hif) ?_;tm_up;refine aeq (aX.of hf) (n:=i) (by omega) (getElem?_eq_getElem hif) ?_;tm_up;refine aeq hd (n:=i) (by omega) (getElem?_eq_getElem hid) ?_;tm_up;refine fJ ?_;rw[gS];simp
     ·refine aY (fun h=>?_) (fun h=>?_)
      ·have e:fs≠ds:=fun z=>by
        subst z;exact(of_decide_eq_true h) rfl
       rw[decide_eq_false e]at q;exact q
      ·have e:fs[i]=ds[i]:=by
        by_cases z:fs[i]=ds[i]
        ·exact z
        ·exact absurd (decide_eq_true z) h
       refine⟨_,rfl,rfl,?_⟩;rw[List.take_succ_eq_append_getElem hif,List.take_succ_eq_append_getElem hid,ht,e]
    ·rintro σ H' ⟨v,rfl,rfl,ht⟩;have e:fs=ds:=by
      have h1:((ds.length:Int)).toNat=ds.length:=by omega
      rw[h1,take_length,<-el,take_length]at ht;exact ht
     rw[decide_eq_true e]at q;exact q
inductive Li (K:Frag)(vs:List V)(H:Hp)(Q:VK)(E:XK):Prop
 |mk (l:Addr) (b:Int) (xs:List V) (ss:List Sg) (eO:vs=[.ref l,.int b]) (eP:aX K H l xs) (hX:pq H xs ss) (kC:ss.length<=400) (rq:∀(f:Addr)(H':Hp),aq H H'->H f=none->H' f=some (.lst ((jd b (bB ss)).map V.int))->Q (.ref f) H'):Li K vs H Q E
theorem akT {k:Kd}(h:k.meas=true)(m:Int):intText? k.str=some (nm m k)/\k.str.length<=640:=by
 cases k <;> first|(cases h;done)|exact⟨by first|exact(show intText? Kd.three.str=some 3 by lk)|exact(show intText? Kd.two.str=some 2 by lk),by lk⟩
theorem aiV {k:Kd}(h:¬ k.meas=true)(m:Int):nm m k=m:=by
 cases k <;> first|rfl|exact absurd rfl h
theorem Lj (T:Txt K w mg t):bA P w K mg base k9 (0+2) t.kO t.wH ["line","begin"] (Li K):=by
 have su:=yd (P:=P) (base:=base) T;refine T.kQ.ok pH (fun vs H Q E h=>?_) (fun cdv A outer s H vs Q E hr h=>?_)
 ·obtain⟨_,_,_,_,rfl,_⟩:=h;rfl
 ·obtain⟨l,b,xs,ss,rfl,hS,hg,hn,q⟩:=h;refine aS (af (aK (i:=2) pH.nd rfl (Or.inl rfl) (bx ag)) (af (aK (i:=3) pH.nd rfl (Or.inl rfl) (pv 1)) (af (gR PassesOwn.never rfl (gL (pv 0)) (aU (i:=4) pH.nd rfl (Or.inl rfl)) (af (nh (aO (bh (aD su (hr.mono (by decide)) rfl T.xY T.g6.kp T.l8 .nil aP (aa (pv 4) ag))) (aj (aK (i:=3) pH.nd rfl (Or.inl rfl) (fM (vg.or kg) rfl T.HW G6 (aa (aC av (pv 4) ai (fun _ _=>rfl)) ag)))) aB)) (aj (bc (jr plainAttrs_list slot_list_append type_list_append bK (pv 2) (aa (pv 3) ag)))))) (aj (aw (pv 2)))))) ?_;refine⟨big (by show 0<=1000;omega),fun f hf=>?_⟩;tm_up;refine⟨⟨xs,jO hS hf⟩,rm (K:=K) (xs:=xs) (fun i σ H'=>∃(m:Int)(v:Option V)(fs:List Int),σ=[some (.ref l),some (.int b),some (.ref f),some (.int m),v]/\H'=upd H f (.lst (fs.map V.int))/\fs++jd m ((bB ss).drop i)=jd b (bB ss))
   ⟨b,none,[],rfl,rfl,rfl⟩ ?_ ?_ ?_⟩
  ·rintro i σ H' _ ⟨m,v,fs,rfl,rfl,_⟩;exact jO hS hf
  ·rintro i x σ H' hx ⟨m,v,fs,rfl,rfl,hm⟩;obtain⟨s,hs,p,rfl,hp⟩:=yg hg hx;have hd:=qH (yw (f:=Prod.fst) hs);rw[hd]at hm;have hp':upd H f (.lst (fs.map V.int)) p=some (.tup [.str s.1.str,.int s.2]):=by rw[ak (ao hp hf)];exact hp
   have hl:=congrArg List.length hm;simp only [length_append,jd,length_cons,Hc,length_map]at hl;refine ad5 [some (.ref l),some (.int b),some (.ref f),some (.int (nm m s.1)),some (.ref p)] (upd H f (.lst (fs.map V.int))) ?_ ?_
   ·refine⟨_,rfl,p,s,rfl,hp',_,rfl,?_⟩;refine aY (fun h=>?_) (fun h=>?_)
    ·obtain⟨e1,e2⟩:=akT h m;tm_up;exact .inr ⟨_,_,rfl,e1,e2,rfl,rfl⟩
    ·rw[aiV h];exact⟨rfl,rfl⟩
   ·tm_up;refine⟨.inl ⟨rfl,_,aX.of ae⟩,?_⟩;tm_up;refine⟨_,_,_,rfl,rfl,ae,by rw[length_map];exact aW (by omega),?_⟩;exact⟨_,_,fs++[nm m s.1],rfl,by rw[dS,map_append];rfl,by rw[List.append_assoc];exact hm⟩
  ·rintro σ H' ⟨m,v,fs,rfl,rfl,hm⟩;rw[List.drop_eq_nil_of_le (by rw[length_map,bS hg];exact Nat.le_refl _)]at hm;tm_up;have e:fs=jd b (bB ss):=by rw[<-hm];simp[jd]
   subst e;exact q f _ (aq.upd hf) hf ae
inductive NN (K:Frag)(vs:List V)(H:Hp)(Q:VK)(E:XK):Prop
 |mk (l:Addr) (i:Int) (xs:List V) (ss:List Sg) (eO:vs=[.ref l,.int i]) (eP:aX K H l xs) (hX:pq H xs ss) (kC:Q (.str (sY (Rg (bB ss) i))) H):NN K vs H Q E
theorem wV (T:Txt K w mg t):bA P w K mg base k9 (0+1) t.nV t.HH ["line","at"] (NN K):=by
 refine T.fR.ok XM (fun vs H Q E h=>?_) (fun cdv A outer s H vs Q E hr h=>?_)
 ·obtain⟨_,_,_,_,rfl,_⟩:=h;rfl
 ·obtain⟨l,i,xs,ss,rfl,hS,hg,q⟩:=h;have out:¬(0<=i/\i<ss.length)->Rg (bB ss) i=none:=fun z=>by
   unfold Rg;split
   ·exact List.getElem?_eq_none (by rw[length_map];omega)
   ·rfl
  refine aS (af (aO (D0 vf qz ai (pv 1) (aJ (aE.or aF) rfl T.bO bM (aa (pv 0) ag))) (aj (aw (aC av (aC av (pv 0) (pv 1) (fun _ _=>rfl)) ai (fun _ _=>rfl)))) aB) (aj (aw ax))) ?_;tm_up;refine aY (fun h0=>?_) (fun h0=>?_)
  ·have h0':=of_decide_eq_true h0;tm_up;refine .inl ⟨_,_,rfl,.inl hS,?_⟩;rw[bS hg];tm_up;refine aY (fun h1=>?_) (fun h1=>?_)
   ·have h1':=of_decide_eq_true h1;have hi:i.toNat<ss.length:=by omega
    have e:Rg (bB ss) i=some (ss[i.toNat]).1:=by
     unfold Rg;rw[if_pos h0',getElem?_map,getElem?_eq_getElem hi];rfl
    rw[e]at q;tm_up;refine Pj hS hg (n:=i.toNat) (by omega) (getElem?_eq_getElem hi) fun b hb=>?_;tm_up;exact q
   ·rw[out fun z=>h1 (decide_eq_true z.2)]at q;exact q
  ·rw[out fun z=>h0 (decide_eq_true z.1)]at q;exact⟨_,rfl,bF q⟩
inductive zg (vs:List V)(H:Hp)(Q:VK)(E:XK):Prop
 |mk (k:Kd) (m:Int) (eO:vs=[.str k.str,.int m]) (eP:Q (.int (pw k m)) H):zg vs H Q E
theorem NO (T:Txt K w mg t):bA P w K mg base k9 (0+1) t.gG t.uQ ["kind","measure"] zg:=by
 refine T.ko.ok MZ (fun vs H Q E h=>?_) (fun cdv A outer s H vs Q E hr h=>?_)
 ·obtain⟨_,_,rfl,_⟩:=h;rfl
 ·obtain⟨k,m,rfl,q⟩:=h;refine aS (af (aO (bN (PW.pt (cJ (ar (bg.or (aR (aA hr))) (pv 1) ai (az _)) (dy (ar ad3 (pv 0) (cy (v:=.ref t.cm) rfl T.vR rfl) rfl))))) (aj (aw (aC aho (cy (v:=.ref t.cm) rfl T.vR rfl) (pv 0) (fun _ _=>rfl)))) aB) (aj (aw (aC aho (cy (v:=.ref t.dG) rfl T.Nt rfl) (pv 0) (fun _ _=>rfl))))) ?_;refine kh (decide (m=2)&&(decide (k=.G)||decide (k=.R))) ?_ ?_
  ·tm_up;rw[gS];refine aY (fun h=>?_) (fun h=>?_)
   ·tm_up;refine⟨_,_,_,rfl,rfl,T.t7,_,rfl,fJ ?_⟩;rw[h];cases k <;> decide +kernel
   ·exact fJ (by rw[Bool.eq_false_iff.mpr h];rfl)
  ·refine aY (fun h=>?_) (fun h=>?_)
   ·tm_up;obtain⟨h1,h2⟩:=Bool.and_eq_true_iff.mp h;have hm:=of_decide_eq_true h1;have e:[(Str.ofString "G",V.int 2),(Str.ofString "R",V.int 2)].lookup k.str=some (.int (pw k m)):=by
     rw[hm];cases k <;> first|decide +kernel|(exfalso;revert h2;decide)
    exact⟨_,_,_,_,rfl,rfl,T.t7,e,q⟩
   ·tm_up;have e:[(Str.ofString "G",V.int 3),(Str.ofString "D",V.int 2),(Str.ofString "R",V.int 3),(Str.ofString "s",V.int 1),(Str.ofString "d",V.int 1),(Str.ofString "r",V.int 1),(Str.ofString ".",V.int 0),(Str.ofString "3",V.int 0),(Str.ofString "2",V.int 0)].lookup k.str=some (.int (pw k m)):=by
     by_cases hm:m=2
     ·rw[hm]at h ⊢;cases k <;> first|decide +kernel|(exfalso;revert h;decide)
     ·cases k <;> first|decide +kernel|(simp only [pw,if_neg hm];decide +kernel)
    exact⟨_,_,_,_,rfl,rfl,T.LG,e,q⟩
inductive mq (K:Frag)(vs:List V)(H:Hp)(Q:VK)(E:XK):Prop
 |mk (l:Addr) (b:Int) (xs:List V) (ss:List Sg) (eO:vs=[.ref l,.int b]) (eP:aX K H l xs) (hX:pq H xs ss) (kC:ss.length<=400) (rq:∀(f:Addr)(H':Hp),aq H H'->H f=none->H' f=some (.lst ((jt b (bB ss)).map V.int))->Q (.ref f) H'):mq K vs H Q E
theorem wW (T:Txt K w mg t):bA P w K mg base k9 (0+3) t.bV t.iY ["line","begin"] (mq K):=by
 have BV:=Lj (P:=P) (base:=base) T;have hV:=wV (P:=P) (base:=base) T;have Pt:=NO (P:=P) (base:=base) T;refine T.df.ok eG (fun vs H Q E h=>?_) (fun cdv A outer s H vs Q E hr h=>?_)
 ·obtain⟨_,_,_,_,rfl,_⟩:=h;rfl
 ·obtain⟨l,b,xs,ss,rfl,hS,hg,hn,q⟩:=h;refine aS (af (aK (i:=2) eG.nd rfl (Or.inl rfl) (bx ag)) (af (gR PassesOwn.never rfl (afV rfl T.EZ (aD BV (hr.mono (by decide)) rfl T.La T.kQ.kp T.wO .nil aP (aa (pv 0) (aa (pv 1) ag)))) (rl rfl (bC (aU (i:=3) eG.nd rfl (Or.inl rfl)) (bC (aU (i:=4) eG.nd rfl (Or.inl rfl)) lG))) (aj (aO (bN (PW.pt (cJ (ar (bg.or (aR (aA hr))) (pv 4) ai (az _)) (cJ (ar (bg.or (aR (aA hr))) (aD hV (hr.mono (by decide)) rfl T.jH T.fR.kp T.iT .nil aP (aa (pv 0) (aa (pv 3) ag))) ax (az _)) (dy (ar (bg.or (aR (aA hr))) (aD hV (hr.mono (by decide)) rfl T.jH T.fR.kp T.iT .nil aP (aa (pv 0) (aa (aI (bP.or (aM.or bR)) (pv 3) ai) ag))) ax (az _))))))) (aj (bc (jr plainAttrs_list slot_list_append type_list_append bK (pv 2) (aa (cy (v:=.int 3) rfl T.Nu ⟨_,rfl⟩) ag)))) (aj (bc (jr plainAttrs_list slot_list_append type_list_append bK (pv 2) (aa (aD Pt (hr.mono (by decide)) rfl T.Nk T.ko.kp T.uR .nil aP (aa (aD hV (hr.mono (by decide)) rfl T.jH T.fR.kp T.iT .nil aP (aa (pv 0) (aa (pv 3) ag))) (aa (pv 4) ag))) ag))))))) (aj (aw (pv 2))))) ?_;refine⟨big (by show 0<=1000;omega),fun f hf=>?_⟩;tm_up;refine⟨l,b,xs,ss,rfl,jO hS hf,hg.same (aq.upd hf),hn,fun f2 H2 s2 n2 h2=>⟨_,rfl,⟨_,aX.of h2⟩,?_⟩⟩;have ml:(jd b (bB ss)).length=ss.length:=by rw[Hc,length_map]
  have nff:f2≠f:=fun e=>by rw[e,ae]at n2;cases n2
  refine adZ (K:=K) (xs:=(jd b (bB ss)).map V.int) (fun i σ H'=>∃(v w:Option V)(fs:List Int),σ=[some (.ref l),some (.int b),some (.ref f),v,w]/\aq H H'/\H' f=some (.lst (fs.map V.int))/\H' f2=some (.lst ((jd b (bB ss)).map V.int))/\fs++Bn ((bB ss).drop i) ((jd b (bB ss)).drop i)=jt b (bB ss))
   ⟨none,none,[],rfl,(aq.upd hf).trans s2,s2 _ _ ae,h2,Vn ..⟩ ?_ ?_ ?_
  ·rintro i σ H' ⟨v,w,fs,rfl,_,_,h3,_⟩;exact aX.of h3
  ·rintro i x t σ H' hx ⟨v,w,fs,rfl,s3,h3,h4,hm⟩ ht;obtain⟨m,hm1,rfl⟩:=Rb hx;have hil:i<ss.length:=by
    have:=(List.getElem?_eq_some_iff.mp hm1).1;omega
   have hk:(bB ss)[i]? = some (ss[i]).1:=yw (getElem?_eq_getElem hil);rw[qH hk,qH hm1]at hm;simp only [Bn,head_drop]at hm;have hl:=congrArg List.length hm;simp only [length_append,length_cons,vo,length_map]at hl;have sT:aq H' (upd H' t (.tup [.int i,.int m])):=aq.upd ht;have hS':aX K (upd H' t (.tup [.int i,.int m])) l xs:=(s3.trans sT).seq hS;have hg':=hg.same (s3.trans sT);have h3':=sT _ _ h3;have ka:Rg (bB ss) (i:Int)=some (ss[i]).1:=by rw[sZ];exact hk
   have kb:Rg (bB ss) ((i:Int)+1)=(bB ss)[i+1]?:=by rw[<-sZ];rfl
   refine⟨t,_,rfl,uG.of ae,rfl,_,_,rfl,_,_,rfl,rfl,?_⟩;have fin:∀ z:Int,z=bw m (ss[i]).1 (bB ss)[i+1]?->∃(v w:Option V)(fs':List Int),[some (V.ref l),some (V.int b),some (V.ref f),some (V.int (i:Int)),some (V.int m)]=[some (.ref l),some (.int b),some (.ref f),v,w]/\aq H (upd (upd H' t (.tup [.int i,.int m])) f (.lst (fs.map V.int++[V.int z]))) /\
     (upd (upd H' t (.tup [.int i,.int m])) f (.lst (fs.map V.int++[V.int z]))) f=some (.lst (fs'.map V.int))/\(upd (upd H' t (.tup [.int i,.int m])) f (.lst (fs.map V.int++[V.int z]))) f2=some (.lst ((jd b (bB ss)).map V.int))/\fs'++Bn ((bB ss).drop (i+1)) ((jd b (bB ss)).drop (i+1))=jt b (bB ss):=by
    intro z hz;refine⟨_,_,fs++[z],rfl,eF (s3.trans sT) hf,by rw[ae,map_append];rfl,by rw[ak nff];exact sT _ _ h4,?_⟩;rw[List.append_assoc,hz];exact hm
   refine kh (decide (m=2)&&(decide (sY (Rg (bB ss) (i:Int)) = "G")&&decide (sY (Rg (bB ss) ((i:Int)+1)) = "."))) ?_ ?_
   ·tm_up;rw[gS];refine aY (fun h=>?_) (fun h=>?_)
    ·tm_up;refine⟨l,_,xs,ss,rfl,hS',hg',?_⟩;tm_up;rw[agc];refine aY (fun h2=>?_) (fun h2=>?_)
     ·tm_up;refine⟨l,_,xs,ss,rfl,hS',hg',?_⟩;tm_up;rw[agc];exact fJ (by rw[h,h2];rfl)
     ·exact fJ (by rw[h,Bool.eq_false_iff.mpr h2];rfl)
    ·exact fJ (by rw[Bool.eq_false_iff.mpr h];rfl)
   ·refine aY (fun h=>?_) (fun h=>?_)
    ·tm_up;refine⟨.inl ⟨rfl,_,aX.of h3'⟩,?_⟩;refine⟨_,_,_,rfl,rfl,h3',by rw[length_map];exact aW (by omega),fin 3 ?_⟩;obtain⟨h1,h2⟩:=Bool.and_eq_true_iff.mp h;obtain⟨h2,h5⟩:=Bool.and_eq_true_iff.mp h2;have e1:(ss[i]).1=.G:=by
      have:=of_decide_eq_true h2;rw[ka]at this;exact str_inj.mp (this.trans (rfl:("G":Str)=Kd.G.str))
     have e2:(bB ss)[i+1]? = some .dot:=by
      have:=of_decide_eq_true h5;rw[kb]at this;exact Vl.mp (this.trans (rfl:(".":Str)=sY (some .dot)))
     unfold bw;rw[if_pos ⟨of_decide_eq_true h1,e1,e2⟩]
    ·tm_up;refine⟨.inl ⟨rfl,_,aX.of h3'⟩,?_⟩;tm_up;refine⟨l,_,xs,ss,rfl,hS',hg',?_⟩;tm_up;rw[ka];refine⟨_,_,rfl,?_⟩;refine⟨_,_,_,rfl,rfl,h3',by rw[length_map];exact aW (by omega),fin _ ?_⟩;unfold bw;rw[if_neg];rintro⟨h1,h2,h5⟩;refine h ?_;rw[ka,kb,h2,h5,h1];decide +kernel
  ·rintro σ H' ⟨v,w,fs,rfl,s3,h3,_,hm⟩;rw[length_map,ml,List.drop_eq_nil_of_le (by rw[length_map];exact Nat.le_refl _)]at hm;tm_up;have e:fs=jt b (bB ss):=by rw[<-hm];simp[Bn]
   subst e;exact q f _ s3 hf h3
inductive abb (K:Frag)(vs:List V)(H:Hp)(Q:VK)(E:XK):Prop
 |mk (l:Addr) (b:Int) (xs:List V) (ss:List Sg) (eO:vs=[.ref l,.int b]) (eP:aX K H l xs) (hX:pq H xs ss) (kC:ss.length<=400) (rq:∀(f:Addr)(ys:List V)(H':Hp),aq H H'->H f=none->H' f=some (.lst ys)->Xv H' ys (xW b (bB ss))->Q (.ref f) H'):abb K vs H Q E
theorem agw (T:Txt K w mg t):bA P w K mg base k9 (0+3) t.BF t.Rt ["line","begin"] (abb K):=by
 have BV:=Lj (P:=P) (base:=base) T;have RM:=VS (P:=P) (base:=base) T;refine T.HS.ok wB (fun vs H Q E h=>?_) (fun cdv A outer s H vs Q E hr h=>?_)
 ·obtain⟨_,_,_,_,rfl,_⟩:=h;rfl
 ·obtain⟨l,b,xs,ss,rfl,hS,hg,hn,q⟩:=h;refine aS (af (aK (i:=2) wB.nd rfl (Or.inl rfl) (bx ag)) (af (aK (i:=3) wB.nd rfl (Or.inl rfl) ai) (af (gR PassesOwn.never rfl (aj5 rfl T.aeM rfl T.EZ (pv 0) (aD BV (hr.mono (by decide)) rfl T.La T.kQ.kp T.wO .nil aP (aa (pv 0) (aa (pv 1) ag)))) (rl rfl (bC (aU (i:=4) wB.nd rfl (Or.inl rfl)) (bC (rl rfl (bC (aU (i:=5) wB.nd rfl (Or.inl rfl)) (bC (aU (i:=6) wB.nd rfl (Or.inl rfl)) lG))) lG))) (aj (aO (bN (PW.pt (j4 (ar (bg.or (aR (aA hr))) (pv 6) ai (az _)) (h9 (cF (bh (aD RM (hr.mono (by decide)) rfl T.VE T.AJ.kp T.Ml .nil aP (aa (pv 5) ag)))))))) (af (nh (aO (ar qz (pv 3) (pv 4) (az _)) (aj (bc (jr plainAttrs_list slot_list_append type_list_append bK (pv 2) (aa (b8 (aa (pv 3) (aa (pv 4) ag))) ag)))) aB)) (aj (aK (i:=3) wB.nd rfl (Or.inl rfl) (aI (bP.or (aM.or bR)) (pv 4) ai)))) aB))) (af (nh (aO (ar qz (pv 3) (aJ (aE.or aF) rfl T.bO bM (aa (pv 0) ag)) (az _)) (aj (bc (jr plainAttrs_list slot_list_append type_list_append bK (pv 2) (aa (b8 (aa (pv 3) (aa (aJ (aE.or aF) rfl T.bO bM (aa (pv 0) ag)) ag))) ag)))) aB)) (aj (aw (pv 2))))))) ?_;refine⟨big (by show 0<=1000;omega),fun f hf=>?_⟩;tm_up;refine⟨l,b,xs,ss,rfl,jO hS hf,hg.same (aq.upd hf),hn,fun f2 H2 s2 n2 h2=>⟨_,_,rfl,rfl,⟨xs,((aq.upd hf).trans s2).seq hS⟩,⟨_,aX.of h2⟩,?_⟩⟩;have ml:(jd b (bB ss)).length=ss.length:=by rw[Hc,length_map]
  have nff:f2≠f:=fun e=>by rw[e,ae]at n2;cases n2
  have cnt:(xW b (bB ss)).length<=401:=by
   have:=pA (kj b (bB ss)) 0 0;rw[rD,length_map]at this;exact Nat.le_trans this (by omega)
  refine aif (K:=K) (xs:=xs) (ys:=(jd b (bB ss)).map V.int) (fun i σ H'=>∃(v w u:Option V)(first:Nat)(ys:List V)(qs:List (Nat×Nat)),σ=[some (.ref l),some (.int b),some (.ref f),some (.int (first:Int)),v,w,u]/\aq H H'/\H' f=some (.lst ys)/\Xv H' ys qs/\H' f2=some (.lst ((jd b (bB ss)).map V.int))/\first<=i/\qs++fL i first (Vo ((bB ss).drop i) ((jd b (bB ss)).drop i))=xW b (bB ss))
   (by rw[length_map,ml];exact bS hg) ⟨none,none,none,0,[],[],rfl,(aq.upd hf).trans s2,s2 _ _ ae,.nil,h2,Nat.le_refl _,by rw[List.drop_zero,List.drop_zero,Xu];rfl⟩ ?_ ?_ ?_
  ·rintro i σ H' ⟨v,w,u,first,ys,qs,rfl,s3,_,_,h4,_⟩;exact⟨s3.seq hS,aX.of h4⟩
  ·rintro i x y t u' σ H' hx hy ⟨v,w,u,first,ys,qs,rfl,s3,h3,hq,h4,hfi,hm⟩ ht hu htu;obtain⟨s,hs,p,rfl,hp⟩:=yg hg hx;obtain⟨m,hm1,rfl⟩:=Rb hy;rw[qH (yw (f:=Prod.fst) hs),qH hm1]at hm;simp only [Vo]at hm;have sT:aq H' (upd (upd H' t (.tup [.ref p,.int m])) u' (.tup [.int i,.ref t])):=(aq.upd ht).trans (aq.upd (by rw[ak htu.symm];exact hu));have ut:upd (upd H' t (.tup [.ref p,.int m])) u' (.tup [.int i,.ref t]) t=some (.tup [.ref p,.int m]):=by rw[ak htu,ae]
   refine⟨u',_,rfl,uG.of ae,rfl,_,_,rfl,_,_,rfl,t,_,rfl,uG.of ut,rfl,_,_,rfl,_,_,rfl,rfl,rfl,?_⟩;generalize upd (upd H' t (.tup [.ref p,.int m])) u' (.tup [.int i,.ref t])=H3 at sT;have hp3:=(s3.trans sT) _ _ hp;have h33:=sT _ _ h3;have hq3:=tf sT hq;refine kh (!inR m s.1) ?_ ?_
   ·tm_up;rw[gS];refine aY (fun h=>?_) (fun h=>?_)
    ·refine fJ ?_;unfold inR;have:=of_decide_eq_true h;simp[this]
    ·tm_up;refine⟨p,s,rfl,hp3,_,rfl,fJ ?_⟩;have hm2:m≠2:=fun e=>h (decide_eq_true e);unfold inR;simp[hm2]
   ·cases hin:inR m s.1 with
    |false =>
     rw[hin]at hm;refine cX ?_;refine⟨fun σ1 H1=>σ1=[some (.ref l),some (.int b),some (.ref f),some (.int (first:Int)),some (.int i),some (.ref p),some (.int m)]/\aq H H1/\(∃ ys',H1 f=some (.lst ys')/\Xv H1 ys' (qs++if first<i then [(first,i)] else []))/\H1 f2=some (.lst ((jd b (bB ss)).map V.int)),?_,?_⟩
     ·tm_up;refine aY (fun h=>?_) (fun h=>?_)
      ·have hlt:first<i:=by have:=of_decide_eq_true h;omega
       have ql:qs.length<=401:=by
        have:=congrArg List.length hm;simp only [length_append]at this;omega
       tm_up;refine⟨.inl ⟨rfl,_,aX.of h33⟩,?_⟩;tm_up;refine⟨by show 2<=sizeLine;decide,fun z hz=>?_⟩;have sz:aq H3 (upd H3 z (.tup [.int (first:Int),.int i])):=aq.upd hz;have h3z:=sz _ _ h33;refine⟨_,_,_,rfl,rfl,h3z,by rw[bS hq3];exact aW (by omega),?_⟩;rw[if_pos hlt];exact⟨rfl,eF ((s3.trans sT).trans sz) hf,⟨_,ae,j6 (rE h3z (tf sz hq3)) (Vp h3z ⟨z,rfl,ae⟩)⟩,by rw[ak nff];exact sz _ _ (sT _ _ h4)⟩
      ·have hlt:¬ first<i:=fun z=>h (decide_eq_true (by omega))
       rw[if_neg hlt,append_nil];exact⟨rfl,s3.trans sT,⟨_,h33,hq3⟩,sT _ _ h4⟩
     ·rintro σ1 H1 ⟨rfl,sa,⟨ys',hb,hc⟩,hd⟩;tm_up;refine⟨_,_,_,i+1,ys',_,rfl,sa,hb,hc,hd,Nat.le_refl _,?_⟩;rw[<-hm,List.append_assoc];rfl
    |true =>
     rw[hin]at hm;refine bF ?_;exact⟨_,_,_,first,ys,qs,rfl,s3.trans sT,h33,hq3,sT _ _ h4,by omega,hm⟩
  ·rintro σ H' ⟨v,w,u,first,ys,qs,rfl,s3,h3,hq,h4,hfi,hm⟩;rw[bS hg]at hm hfi;rw[List.drop_eq_nil_of_le (by rw[length_map];exact Nat.le_refl _)]at hm;have hm':qs++(if first<ss.length then [(first,ss.length)] else [])=xW b (bB ss):=hm;have ql:qs.length<=401:=by
    have:=congrArg List.length hm;simp only [length_append]at this;omega
   refine⟨fun σ1 H1=>σ1=[some (.ref l),some (.int b),some (.ref f),some (.int (first:Int)),v,w,u]/\aq H H1/\∃ ys',H1 f=some (.lst ys')/\Xv H1 ys' (xW b (bB ss)),?_,?_⟩
   ·tm_up;refine .inl ⟨_,_,rfl,.inl (s3.seq hS),?_⟩;rw[bS hg];tm_up;refine aY (fun h=>?_) (fun h=>?_)
    ·have hlt:first<ss.length:=by have:=of_decide_eq_true h;omega
     tm_up;refine⟨.inl ⟨rfl,_,aX.of h3⟩,?_⟩;tm_up;refine .inl ⟨_,_,rfl,.inl (s3.seq hS),?_⟩;rw[bS hg];refine⟨by show 2<=sizeLine;decide,fun z hz=>?_⟩;have sz:aq H' (upd H' z (.tup [.int (first:Int),.int (ss.length:Int)])):=aq.upd hz;have h3z:=sz _ _ h3;refine⟨_,_,_,rfl,rfl,h3z,by rw[bS hq];exact aW (by omega),?_⟩;rw[if_pos hlt]at hm';rw[<-hm'];exact⟨rfl,eF (s3.trans sz) hf,_,ae,j6 (rE h3z (tf sz hq)) (Vp h3z ⟨z,rfl,ae⟩)⟩
    ·have hlt:¬ first<ss.length:=fun z=>h (decide_eq_true (by omega))
     rw[if_neg hlt,append_nil]at hm';rw[<-hm'];exact⟨rfl,s3,_,h3,hq⟩
   ·rintro σ1 H1 ⟨rfl,sa,ys',hb,hc⟩;tm_up;exact q f ys' H1 sa hf hb hc
inductive vW (K:Frag)(vs:List V)(H:Hp)(Q:VK)(E:XK):Prop
 |mk (l f:Addr) (a:Nat) (xs:List V) (ss:List Sg) (fs:List Int) (eO:vs=[.ref l,.ref f,.int (a:Int)]) (eP:aX K H l xs) (hX:pq H xs ss) (kC:H f=some (.lst (fs.map V.int))) (rq:fs.length=ss.length) (QX:Q (.bl (km (bB ss) fs a)) H):vW K vs H Q E
theorem vX (T:Txt K w mg t):bA P w K mg base k9 (0+2) t.d5 t.pX ["line","found","first"] (vW K):=by
 have hV:=wV (P:=P) (base:=base) T;refine T.fS.ok Hl (fun vs H Q E h=>?_) (fun cdv A outer s H vs Q E hr h=>?_)
 ·obtain⟨_,_,_,_,_,_,rfl,_⟩:=h;rfl
 ·obtain⟨l,f,a,xs,ss,fs,rfl,hS,hg,hf,hl,q⟩:=h;refine aS (aj (aw (cK (iU (bQ (bg.or (aR (aA hr))) (aD hV (hr.mono (by decide)) rfl T.jH T.fR.kp T.iT .nil aP (aa (pv 0) (aa (aI eW (pv 2) ai) ag))) ax (az _)) (lF (bQ (bg.or (aR (aA hr))) (aC av (pv 1) (aI eW (pv 2) ai) (fun _ _=>rfl)) (cy (v:=.int 3) rfl T.RC ⟨_,rfl⟩) (az _))))))) ?_;refine AN (.bl (km (bB ss) fs a)) ?_ q;tm_up;refine⟨l,_,xs,ss,rfl,hS,hg,?_⟩;tm_up;rw[o_G];refine aY (fun h=>?_) (fun h=>?_)
  ·have e:=of_decide_eq_true h;have e':1<=a/\a-1<ss.length:=by
    unfold Rg at e;split at e
    ·have:=(List.getElem?_eq_some_iff.mp e).1;rw[length_map]at this;omega
    ·cases e
   tm_up;refine aeq (aX.of hf) (n:=a-1) (by omega) (getElem?_eq_getElem (by omega)) ?_;tm_up;rw[gS];refine qG ?_;unfold km;rw[h,List.getD_eq_getElem?_getD,getElem?_eq_getElem (by omega)];rfl
  ·refine qG ?_;unfold km;rw[Bool.eq_false_iff.mpr h];rfl
inductive uh (K:Frag)(vs:List V)(H:Hp)(Q:VK)(E:XK):Prop
 |mk (l:Addr) (z:Nat) (xs:List V) (ss:List Sg) (eO:vs=[.ref l,.int (z:Int)]) (eP:aX K H l xs) (hX:pq H xs ss) (kC:Q (.bl (ib (bB ss) z)) H):uh K vs H Q E
theorem abc (k:Option Kd):inV (.str (sY k)) [.str "G",.str "D",.str "R"]=uK k:=by
 cases k with
 |none=>decide +kernel
 |some k=>cases k <;> decide +kernel
theorem ui (T:Txt K w mg t):bA P w K mg base k9 (0+2) t.dt t.nW ["line","behind"] (uh K):=by
 have hV:=wV (P:=P) (base:=base) T;refine T.eV.ok Eo (fun vs H Q E h=>?_) (fun cdv A outer s H vs Q E hr h=>?_)
 ·obtain⟨_,_,_,_,rfl,_⟩:=h;rfl
 ·obtain⟨l,z,xs,ss,rfl,hS,hg,q⟩:=h;refine aS (aj (aw (cK (iU (bQ (bg.or (aR (aA hr))) (aD hV (hr.mono (by decide)) rfl T.jH T.fR.kp T.iT .nil aP (aa (pv 0) (aa (pv 1) ag))) ax (az _)) (lF (bQ (qD.or qE) (aD hV (hr.mono (by decide)) rfl T.jH T.fR.kp T.iT .nil aP (aa (pv 0) (aa (aI (bP.or (aM.or bR)) (pv 1) ai) ag))) (cy (v:=.ref t.eN) rfl T.A6 rfl) rfl)))))) ?_;refine AN (.bl (ib (bB ss) z)) ?_ q;tm_up;refine⟨l,_,xs,ss,rfl,hS,hg,?_⟩;tm_up;rw[o_G];refine aY (fun h=>?_) (fun h=>?_)
  ·tm_up;refine⟨l,_,xs,ss,rfl,hS,hg,?_⟩;tm_up;refine .inl ⟨_,_,rfl,.inr (T.A7 _),rfl,rfl,qG ?_⟩;unfold ib;rw[sZ]at h;have e:Rg (bB ss) ((z:Int)+1)=(bB ss)[z+1]?:=by rw[<-sZ];rfl
   rw[h,<-abc,<-e];rfl
  ·refine qG ?_;unfold ib;rw[sZ]at h;rw[Bool.eq_false_iff.mpr h];rfl
def aeU (K:Frag)(g:List Kd->List Int->Nat->Nat->Bool×List Int):Sp:=fun vs H Q _=>∃(l f:Addr)(a z:Nat)(xs:List V)(ss:List Sg)(fs:List Int),vs=[.ref l,.ref f,.int (a:Int),.int (z:Int)]/\aX K H l xs/\pq H xs ss/\H f=some (.lst (fs.map V.int))/\fs.length=ss.length/\a<z/\z<=ss.length /\
 Q (.bl (g (bB ss) fs a z).1) (upd H f (.lst ((g (bB ss) fs a z).2.map V.int)))
theorem BW (T:Txt K w mg t):bA P w K mg base k9 (0+3) t.cP t.lS ["line","found","first","behind"] (aeU K D7):=by
 have p3:=vX (P:=P) (base:=base) T;have oj:=ui (P:=P) (base:=base) T;refine T.gh.ok By (fun vs H Q E h=>?_) (fun cdv A outer s H vs Q E hr h=>?_)
 ·obtain⟨_,_,_,_,_,_,_,rfl,_⟩:=h;rfl
 ·obtain⟨l,f,a,z,xs,ss,fs,rfl,hS,hg,hf,hl,haz,hz,q⟩:=h;unfold D7 at q;refine aS (af (aO (bh (aD p3 (hr.mono (by decide)) rfl T.vM T.fS.kp T.kB .nil aP (aa (pv 0) (aa (pv 1) (aa (pv 2) ag))))) (af (kD (cy (v:=.int 2) rfl T.jk ⟨_,rfl⟩) (ym (pv 1) (aI eW (pv 2) ai) set_list)) (aj (aw fK))) aB) (af (aO (bh (aD oj (hr.mono (by decide)) rfl T.tV T.eV.kp T.jZ .nil aP (aa (pv 0) (aa (pv 3) ag)))) (af (kD (cy (v:=.int 2) rfl T.jk ⟨_,rfl⟩) (ym (pv 1) (pv 3) set_list)) (aj (aw fK))) aB) (aj (aw fK)))) ?_;tm_up;refine⟨l,f,a,xs,ss,fs,rfl,hS,hg,hf,hl,_,rfl,?_⟩;refine aY (fun h=>?_) (fun h=>?_)
  ·rw[if_pos h]at q;have hp:=Hd h;rw[length_map]at hp;tm_up;refine⟨_,_,_,_,rfl,rfl,hf,tq (j:=a-1) (by omega) (by rw[length_map];omega),?_⟩;rw[oX];exact q
  ·rw[if_neg h]at q;tm_up;refine⟨l,z,xs,ss,rfl,hS,hg,_,rfl,?_⟩;refine aY (fun h2=>?_) (fun h2=>?_)
   ·rw[if_pos h2]at q;have hp:=Bp h2;rw[length_map]at hp;tm_up;refine⟨_,_,_,_,rfl,rfl,hf,tq (j:=z) rfl (by rw[length_map];omega),?_⟩;rw[oX];exact q
   ·rw[if_neg h2,D9 hf]at q;exact q
theorem BX (T:Txt K w mg t):bA P w K mg base k9 (0+3) t.cQ t.lT ["line","found","first","behind"] (aeU K D8):=by
 have p3:=vX (P:=P) (base:=base) T;have oj:=ui (P:=P) (base:=base) T;have hV:=wV (P:=P) (base:=base) T;refine T.gi.ok Bz (fun vs H Q E h=>?_) (fun cdv A outer s H vs Q E hr h=>?_)
 ·obtain⟨_,_,_,_,_,_,_,rfl,_⟩:=h;rfl
 ·obtain⟨l,f,a,z,xs,ss,fs,rfl,hS,hg,hf,hl,haz,hz,q⟩:=h;unfold D8 at q;refine aS (af (aO (bN (PW.pt (cJ (ar (cW.or cV) (aD hV (hr.mono (by decide)) rfl T.jH T.fR.kp T.iT .nil aP (aa (pv 0) (aa (pv 3) ag))) (cy (v:=.ref t.eN) rfl T.A6 rfl) rfl) (dy (ar (bg.or (aR (aA hr))) (aD hV (hr.mono (by decide)) rfl T.jH T.fR.kp T.iT .nil aP (aa (pv 0) (aa (aI eW (pv 3) ai) ag))) ax (az _)))))) (af (kD (cy (v:=.int 2) rfl T.LH ⟨_,rfl⟩) (ym (pv 1) (aI eW (pv 3) ai) set_list)) (aj (aw fK))) aB) (af (aO (bN (PW.pt (cJ (bh (aD p3 (hr.mono (by decide)) rfl T.vM T.fS.kp T.kB .nil aP (aa (pv 0) (aa (pv 1) (aa (pv 2) ag))))) (dy (bh (aD oj (hr.mono (by decide)) rfl T.tV T.eV.kp T.jZ .nil aP (aa (pv 0) (aa (pv 3) ag)))))))) (af (kD (cy (v:=.int 2) rfl T.jk ⟨_,rfl⟩) (ym (pv 1) (aI eW (pv 2) ai) set_list)) (af (kD (cy (v:=.int 2) rfl T.jk ⟨_,rfl⟩) (ym (pv 1) (pv 3) set_list)) (aj (aw fK)))) aB) (aj (aw fK)))) ?_;refine kh (uK (bB ss)[z]? && decide ((bB ss)[z-1]? = some .s)) ?_ ?_
  ·tm_up;refine⟨l,_,xs,ss,rfl,hS,hg,?_⟩;tm_up;refine .inl ⟨_,_,rfl,.inr (T.A7 _),rfl,rfl,_,rfl,?_⟩;show if inV (.str (sY (Rg (bB ss) (z:Int)))) [.str "G",.str "D",.str "R"]=true then _ else _;rw[abc,sZ];refine aY (fun h=>?_) (fun h=>?_)
   ·tm_up;refine⟨l,_,xs,ss,rfl,hS,hg,?_⟩;tm_up;rw[o_s];have e:Rg (bB ss) ((z:Int)-1)=(bB ss)[z-1]?:=by rw[<-sZ];congr 1;omega
    rw[e];exact fJ (by rw[h];rfl)
   ·exact fJ (by rw[Bool.eq_false_iff.mpr h];rfl)
  ·refine aY (fun h=>?_) (fun h=>?_)
   ·rw[if_pos h]at q;tm_up;refine⟨_,_,_,_,rfl,rfl,hf,tq (j:=z-1) (by omega) (by rw[length_map];omega),?_⟩;rw[oX];exact q
   ·rw[if_neg h]at q;refine kh (km (bB ss) fs a&&ib (bB ss) z) ?_ ?_
    ·tm_up;refine⟨l,f,a,xs,ss,fs,rfl,hS,hg,hf,hl,_,rfl,?_⟩;refine aY (fun h=>?_) (fun h=>?_)
     ·tm_up;refine⟨l,z,xs,ss,rfl,hS,hg,_,rfl,fJ ?_⟩;rw[h];rfl
     ·exact fJ (by rw[Bool.eq_false_iff.mpr h];rfl)
    ·refine aY (fun h2=>?_) (fun h2=>?_)
     ·rw[if_pos h2]at q;have hp:=Hd (Bool.and_eq_true_iff.mp h2).1;have hr:=Bp (Bool.and_eq_true_iff.mp h2).2;rw[length_map]at hp hr;tm_up;refine⟨_,_,_,_,rfl,rfl,hf,tq (j:=a-1) (by omega) (by rw[length_map];omega),?_⟩;rw[oX];tm_up;refine⟨_,_,_,_,rfl,rfl,ae,tq (j:=z) rfl (by rw[length_map,List.length_set];omega),?_⟩;rw[oX,dS];exact q
     ·rw[if_neg h2,D9 hf]at q;exact q
theorem Pu (T:Txt K w mg t):bA P w K mg base k9 (0+4) t.iu t.wI ["line","found","first","behind"] (aeU K settle):=by
 have Ft:=BW (P:=P) (base:=base) T;have Fu:=BX (P:=P) (base:=base) T;refine T.md.ok A5 (fun vs H Q E h=>?_) (fun cdv A outer s H vs Q E hr h=>?_)
 ·obtain⟨_,_,_,_,_,_,_,rfl,_⟩:=h;rfl
 ·obtain⟨l,f,a,z,xs,ss,fs,rfl,hS,hg,hf,hl,haz,hz,q⟩:=h;unfold settle at q;refine aS (af (aK (i:=4) A5.nd rfl (Or.inl rfl) (aI c7 (aI eW (pv 3) (pv 2)) ai)) (af (aO (ar (bg.or (aR (aA hr))) (pv 4) ai (az _)) (aj (aw (aD Ft (hr.mono (by decide)) rfl T.BP T.gh.kp T.l9 .nil aP (aa (pv 0) (aa (pv 1) (aa (pv 2) (aa (pv 3) ag))))))) aB) (af (aO (ar (bg.or (aR (aA hr))) (pv 4) ai (az _)) (aj (aw (aD Fu (hr.mono (by decide)) rfl T.BQ T.gi.kp T.ma .nil aP (aa (pv 0) (aa (pv 1) (aa (pv 2) (aa (pv 3) ag))))))) aB) (aj (aw fK))))) ?_;tm_up;rw[gS];have e:((z:Int)-(a:Int)) % 3=(((z-a) % 3:Nat):Int):=by omega
  refine aY (fun h=>?_) (fun h=>?_)
  ·have h1:(z-a) % 3=1:=by have:((z:Int)-(a:Int)) % 3=1:=of_decide_eq_true h;omega
   rw[if_pos h1]at q;tm_up;exact⟨l,f,a,z,xs,ss,fs,rfl,hS,hg,hf,hl,haz,hz,q⟩
  ·have h1:¬(z-a) % 3=1:=fun c=>h (decide_eq_true (by show((z:Int)-(a:Int)) % 3=1;omega));rw[if_neg h1]at q;tm_up;rw[gS];refine aY (fun h=>?_) (fun h=>?_)
   ·have h2:(z-a) % 3=2:=by have:((z:Int)-(a:Int)) % 3=2:=of_decide_eq_true h;omega
    rw[if_pos h2]at q;tm_up;exact⟨l,f,a,z,xs,ss,fs,rfl,hS,hg,hf,hl,haz,hz,q⟩
   ·have h2:¬(z-a) % 3=2:=fun c=>h (decide_eq_true (by show((z:Int)-(a:Int)) % 3=2;omega));rw[if_neg h2,D9 hf]at q;exact q
inductive NP (K:Frag)(vs:List V)(H:Hp)(Q:VK)(E:XK):Prop
 |mk (l:Addr) (b:Int) (xs:List V) (ss:List Sg) (eO:vs=[.ref l,.int b]) (eP:aX K H l xs) (hX:pq H xs ss) (kC:ss.length<=400) (rq:∀(p f lo:Addr)(ys:List V)(H':Hp),aq H H'->H f=none->H lo=none->f≠lo->H' p=some (.tup [.ref f,.ref lo])->H' f=some (.lst ((lg b (bB ss)).1.map V.int))->H' lo=some (.lst ys)->Xv H' ys (lg b (bB ss)).2->Q (.ref p) H'):NP K vs H Q E
theorem Yr (T:Txt K w mg t):bA P w K mg base k9 (0+5) t.nX t.HI ["line","begin"] (NP K):=by
 have yh:=wW (P:=P) (base:=base) T;have aiX:=agw (P:=P) (base:=base) T;have RQ:=Pu (P:=P) (base:=base) T;refine T.vN.ok rN (fun vs H Q E h=>?_) (fun cdv A outer s H vs Q E hr h=>?_)
 ·obtain⟨_,_,_,_,rfl,_⟩:=h;rfl
 ·obtain⟨l,b,xs,ss,rfl,hS,hg,hn,q⟩:=h;refine aS (af (aK (i:=2) rN.nd rfl (Or.inl rfl) (aD yh (hr.mono (by decide)) rfl T.wQ T.df.kp T.iZ .nil aP (aa (pv 0) (aa (pv 1) ag)))) (af (aK (i:=3) rN.nd rfl (Or.inl rfl) (bx ag)) (af (gR PassesOwn.never rfl (gL (aD aiX (hr.mono (by decide)) rfl T.agm T.HS.kp T.X5 .nil aP (aa (pv 0) (aa (pv 1) ag)))) (rl rfl (bC (aU (i:=4) rN.nd rfl (Or.inl rfl)) (bC (aU (i:=5) rN.nd rfl (Or.inl rfl)) lG))) (aj (aO (cF (bh (aD RQ (hr.mono (by decide)) rfl T.Po T.md.kp T.wR .nil aP (aa (pv 0) (aa (pv 2) (aa (pv 4) (aa (pv 5) ag))))))) (aj (bc (jr plainAttrs_list slot_list_append type_list_append bK (pv 3) (aa (b8 (aa (pv 4) (aa (pv 5) ag))) ag)))) aB))) (aj (aw (b8 (aa (pv 2) (aa (pv 3) ag)))))))) ?_;tm_up;refine⟨l,b,xs,ss,rfl,hS,hg,hn,fun f H1 s1 n1 h1=>?_⟩;refine⟨big (by show 0<=1000;omega),fun lo hlo=>?_⟩;have s1':=s1.trans (aq.upd (o:=.lst []) hlo);tm_up;refine⟨l,b,xs,ss,rfl,s1'.seq hS,hg.same s1',hn,fun r zs H2 s2 n2 h2 hz=>⟨_,rfl,⟨_,aX.of h2⟩,?_⟩⟩;have aeV:H lo=none:=s1.free hlo;have nfl:f≠lo:=ao h1 hlo;have nrf:r≠f:=fun e=>by
   have:=s1'.free n2;have h1':=aq.upd (o:=.lst []) hlo _ _ h1;rw[<-e,n2]at h1';cases h1'
  have nrl:r≠lo:=fun e=>by rw[e,ae]at n2;cases n2
  have bl:(jt b (bB ss)).length=ss.length:=by rw[vo,length_map]
  have cnt:(xW b (bB ss)).length<=401:=by
   have:=pA (kj b (bB ss)) 0 0;rw[rD,length_map]at this;exact Nat.le_trans this (by omega)
  refine rm (K:=K) (xs:=zs) (fun i σ H'=>∃(v w:Option V)(c:RdS)(ys:List V),σ=[some (.ref l),some (.int b),some (.ref f),some (.ref lo),v,w]/\aq H H'/\H' f=some (.lst (c.1.map V.int))/\H' lo=some (.lst ys)/\Xv H' ys c.2/\H' r=some (.lst zs)/\Xv H' zs (xW b (bB ss))/\c.1.length=ss.length/\c.2.length<=i/\((xW b (bB ss)).drop i).foldl (uL (bB ss)) c=lg b (bB ss))
   ⟨none,none,(jt b (bB ss),[]),[],rfl,s1'.trans s2,s2 _ _ (aq.upd (o:=.lst []) hlo _ _ h1),s2 _ _ ae,.nil,h2,hz,bl,Nat.le_refl _,rfl⟩ ?_ ?_ ?_
  ·rintro i σ H' _ ⟨v,w,c,ys,rfl,_,_,_,_,hr,_⟩;exact aX.of hr
  ·rintro i x σ H' hx ⟨v,w,c,ys,rfl,s3,hf3,ai0,hys,hr3,hzs,hcl,hci,uj⟩;obtain⟨pr,hpr,p,rfl,hp⟩:=yg hzs hx;have hin:=aes b (bB ss) pr (mem_of_getElem? hpr);rw[length_map]at hin;rw[qH hpr,List.foldl_cons]at uj;have hil:i<401:=by
    have:=(List.getElem?_eq_some_iff.mp hpr).1;omega
   refine⟨p,_,rfl,uG.of hp,rfl,_,_,rfl,_,_,rfl,rfl,?_⟩;tm_up;refine⟨l,f,pr.1,pr.2,xs,ss,c.1,rfl,s3.seq hS,hg.same s3,hf3,hcl,hin.1,hin.2,?_⟩;have s4:aq H (upd H' f (.lst ((settle (bB ss) c.1 pr.1 pr.2).2.map V.int))):=eF s3 n1;have Ys:upd H' f (.lst ((settle (bB ss) c.1 pr.1 pr.2).2.map V.int)) lo=some (.lst ys):=by rw[ak nfl.symm];exact ai0
   have hr4:upd H' f (.lst ((settle (bB ss) c.1 pr.1 pr.2).2.map V.int)) r=some (.lst zs):=by rw[ak nrf];exact hr3
   have akW:(settle (bB ss) c.1 pr.1 pr.2).2.length=ss.length:=by rw[Bo];exact hcl
   tm_up;refine aY (fun h=>?_) (fun h=>?_)
   ·have hst:(settle (bB ss) c.1 pr.1 pr.2).1=false:=by
     cases e:(settle (bB ss) c.1 pr.1 pr.2).1
     ·rfl
     ·rw[e]at h;cases h
    tm_up;refine⟨.inl ⟨rfl,_,aX.of Ys⟩,?_⟩;tm_up;refine⟨by show 2<=sizeLine;decide,fun z hz=>?_⟩;have sz:=aq.upd (o:=.tup [.int (pr.1:Int),.int (pr.2:Int)]) hz;have VZ:=sz _ _ Ys;refine⟨_,_,_,rfl,rfl,VZ,by rw[bS hys];exact aW (by omega),?_⟩;refine⟨_,_,((settle (bB ss) c.1 pr.1 pr.2).2,c.2++[pr]),_,rfl,eF (s4.trans sz) aeV,by rw[ak nfl];exact sz _ _ ae,ae,j6 (rE VZ (tf sz (rE hf3 hys))) (Vp VZ ⟨z,rfl,ae⟩),
     by rw[ak nrl];exact sz _ _ hr4,rE VZ (tf sz (rE hf3 hzs)),akW,by simp;omega,?_⟩
    rw[<-uj];unfold uL;rw[hst];rfl
   ·have hst:(settle (bB ss) c.1 pr.1 pr.2).1=true:=by
     cases e:(settle (bB ss) c.1 pr.1 pr.2).1
     ·rw[e]at h;exact absurd rfl h
     ·rfl
    refine⟨_,_,((settle (bB ss) c.1 pr.1 pr.2).2,c.2),ys,rfl,s4,ae,Ys,rE hf3 hys,hr4,rE hf3 hzs,akW,by show c.2.length<=i+1;omega,?_⟩;rw[<-uj];unfold uL;rw[hst];rfl
  ·rintro σ H' ⟨v,w,c,ys,rfl,s3,hf3,ai0,hys,hr3,hzs,hcl,hci,uj⟩;rw[bS hz,List.drop_length]at uj;have e:c=lg b (bB ss):=uj;subst e;tm_up;refine⟨by show 2<=sizeLine;decide,fun z hz=>?_⟩;have sz:=aq.upd (o:=.tup [.ref f,.ref lo]) hz;exact q z f lo ys _ (s3.trans sz) n1 aeV nfl ae (sz _ _ hf3) (sz _ _ ai0) (tf sz hys)
inductive QG (K:Frag)(vs:List V)(H:Hp)(Q:VK)(E:XK):Prop
 |mk (l:Addr) (b:Int) (xs:List V) (ss:List Sg) (eO:vs=[.ref l,.int b]) (eP:aX K H l xs) (hX:pq H xs ss) (kC:ss.length<=400) (rq:∀(f:Addr)(H':Hp),aq H H'->H f=none->H' f=some (.lst ((lg b (bB ss)).1.map V.int))->Q (.ref f) H'):QG K vs H Q E
theorem aca (T:Txt K w mg t):bA P w K mg base k9 (0+6) t.rT t.EJ ["line","begin"] (QG K):=by
 have acb:=Yr (P:=P) (base:=base) T;refine T.se.ok abX (fun vs H Q E h=>?_) (fun cdv A outer s H vs Q E hr h=>?_)
 ·obtain⟨_,_,_,_,rfl,_⟩:=h;rfl
 ·obtain⟨l,b,xs,ss,rfl,hS,hg,hn,q⟩:=h;refine aS (aj (aw (aC av (aD acb (hr.mono (by decide)) rfl T.X6 T.vN.kp T.HU .nil aP (aa (pv 0) (aa (pv 1) ag))) ai (fun _ _=>rfl)))) ?_;tm_up;refine⟨l,b,xs,ss,rfl,hS,hg,hn,fun p f lo ys H' s1 n1 n2 _ hp hf _ _=>?_⟩;tm_up;exact q f H' s1 n1 hf
theorem aeW (k:Kd):(([(Str.ofString "3",V.str "2"),(Str.ofString "2",V.str "3")]:List (Str×V)).lookup k.str).getD (.str k.str)=.str (Qr k).str:=by cases k <;> decide +kernel
inductive QH (K:Frag)(vs:List V)(H:Hp)(Q:VK)(E:XK):Prop
 |mk (l:Addr) (xs:List V) (ss:List Sg) (eO:vs=[.ref l]) (eP:aX K H l xs) (hX:pq H xs ss) (kC:ss.length<=400) (rq:∀(f:Addr)(ys:List V)(H':Hp),aq H H'->H f=none->H' f=some (.lst ys)->pq H' ys (ss.map tF)->Q (.ref f) H'):QH K vs H Q E
theorem QI (T:Txt K w mg t):bA P w K mg base k9 (0+1) t.rW t.Nb ["line"] (QH K):=by
 refine T.vO.ok abY (fun vs H Q E h=>?_) (fun cdv A outer s H vs Q E hr h=>?_)
 ·obtain⟨_,_,_,rfl,_⟩:=h;rfl
 ·obtain⟨l,xs,ss,rfl,hS,hg,hn,q⟩:=h;refine aS (aj (aw (qF (cn:=["kind","tone"]) rfl (fV.of rfl) (gL (pv 0)) (fun _=>(rl rfl (bC (aU (i:=0) K7 rfl (Or.inl rfl)) (bC (aU (i:=1) K7 rfl (Or.inl rfl)) lG)))) (fun _=>yq) (fun _=>(b8 (aa (ad4 (cy (v:=.ref t.dF) rfl T.Nr rfl) (pv 0) (pv 0)) (aa (pv 1) ag))))))) ?_;tm_up;refine⟨⟨xs,hS⟩,fun D b hD=>?_⟩;refine jP (K:=K) (xs:=xs) (fun i ys σ H'=>∃(v w:Option V),σ=[v,w,some (.ref l)]/\aq H H'/\H' D=some (.lst ys)/\pq H' ys ((ss.take i).map tF))
   ⟨none,none,rfl,aq.upd hD,ae,.nil⟩ ?_ ?_ ?_
  ·rintro i ys σ H' ⟨v,w,rfl,s2,_⟩;exact s2.seq hS
  ·rintro i ys x σ H' hx ⟨v,w,rfl,s2,UW,hsg⟩ N hN;obtain⟨s,hs,p,rfl,hp⟩:=yg hg hx;have hi:i<ss.length:=(List.getElem?_eq_some_iff.mp hs).1;refine⟨p,_,rfl,uG.of (s2 _ _ hp),rfl,_,_,rfl,_,_,rfl,rfl,?_⟩;refine⟨_,_,rfl,T.LF,?_⟩;tm_up;rw[aeW];refine⟨by show 2<=sizeLine;decide,fun z hz=>?_⟩;have sz:=aq.upd (o:=.tup [.str (Qr s.1).str,.int s.2]) hz;have hD3:=sz _ _ UW;refine⟨hD3,?_,?_⟩
   ·rw[bS hsg,length_map,length_take];exact aW (by omega)
   ·refine hN _ _ _ ⟨_,_,rfl,eF (s2.trans sz) hD,ae,?_⟩;rw[take_succ,hs,map_append];exact j6 (aep hD3 (hsg.same sz)) (aeo hD3 ⟨z,rfl,ae⟩)
  ·rintro ys σ H' ⟨v,w,rfl,s2,UW,hsg⟩;rw[bS hg,take_length]at hsg;exact q D ys H' s2 hD UW hsg
inductive Bb (c:Cs)(vs:List V)(H:Hp)(Q:VK)(E:XK):Prop
 |mk (x:Addr) (F:Addr->Prop) (vw:Vw) (ps fs:List Vw) (n:Str) (ss:List Sg) (eO:vs=[.ref x,.str n]) (eP:yx c H x F vw ps fs) (hX:bf vw n=some (.pl ss)) (kC:∀(l:Addr)(ys:List V)(H':Hp),H l=none->aq H H'->H' l=some (.lst ys)->pq H' ys ss->Q (.ref l) H'):Bb c vs H Q E
theorem Pw (T:Txt K w mg t):bA P w K mg base (iE P w) (0+3) t.cA t.tL ["self","name"] (Bb (cs t)):=by
 have iC:=pb (P:=P) (base:=base) T;have NQ:=QI (P:=P) (base:=base) T;have bJ:=dR (P:=P) (base:=base) T;refine T.pL.Q5 b5 (fun vs H Q E h=>?_) (fun cdv A outer s H vs Q E hr h=>?_)
 ·obtain⟨_,_,_,_,_,_,_,rfl,_⟩:=h;rfl
 ·obtain⟨x,F,vw,ps,fs,n,ss,rfl,B,hf,q⟩:=h;refine aS (af (aK (i:=2) b5.nd rfl (Or.inl rfl) (bX (X:=(cL (iE P w) P w K mg base ["self","name","terms","leader","later","slow","is_turned","heard"] "Book.line" (ah dB) t.cA cdv A outer s H E)) (pv 0) T.aN T.o9 iC (hr.mono (by decide)) T.jY .nil (fun _ _ z=>Or.inl z) (aa (pv 1) ag))) (af (aO (ar W6 (pv 2) jq (az _)) (aj (aw (fM D5 rfl T.iy ia (aa (b7 (bX (X:=(cL (iE P w) P w K mg base ["self","name","terms","leader","later","slow","is_turned","heard"] "Book.line" (ah dB) t.cA cdv A outer s H E)) (pv 0) T.aN T.dH bJ (hr.mono (by decide)) T.cw .nil (fun _ _ z=>Or.inl z) (aa (pv 1) ag)) rfl) ag)))) aB) (af (kD (pv 2) (rl rfl (bC (aU (i:=3) b5.nd rfl (Or.inl rfl)) (bC (aU (i:=4) b5.nd rfl (Or.inl rfl)) (bC (aU (i:=5) b5.nd rfl (Or.inl rfl)) (bC (aU (i:=6) b5.nd rfl (Or.inl rfl)) lG)))))) (af (aK (i:=7) b5.nd rfl (Or.inl rfl) aeb) (aj (aw (cK (d8 (bh (pv 6)) (aD NQ (hr.mono (by decide)) rfl T.Qz T.vO.kp T.EU .nil aP (aa (pv 7) ag)) (pv 7))))))))) ?_;obtain⟨L,D,U,all,M,Ps,Fs,es,us,b,iM,pp,pf,f⟩:=B.ex;obtain⟨dx,hx⟩:=b.hx;obtain⟨vx,g,gv⟩:=b.wu iM;refine⟨_,rfl,x,dx,_,rfl,hx,qJ _ _ _,_,rfl,x,F,vw,ps,fs,n,rfl,B,?_⟩;rw[hf];refine⟨_,rfl,rfl,_,rfl,?_⟩;refine aY (fun _=>?_) (fun h=>absurd (by decide) h);refine⟨_,rfl,x,dx,_,rfl,hx,ee _ _ _,_,rfl,x,dx,L,D,U,M L,vx,n,rfl,hx,b.hL,g,?_⟩;rcases K4 gv (fun _ _ r=>r.2.1) n with ⟨f1,f2⟩|⟨a,th,j,f1,f2,r,an,fj,fw⟩
  ·rw[f2]at hf;cases hf
  rw[f1];rw[f2]at hf;cases hf;refine⟨a.o,_,a.d,_,_,rfl,(b.ha a r.1).1,T.gj,T.cC,vq _ _ _,?_⟩;refine⟨_,_,rfl,.inl (aX.of (b.ha a r.1).2),fun l hl=>?_⟩;exact q l _ _ hl (aq.upd hl) ae (r.2.2.2.same (aq.upd hl))
inductive Fv (c:Cs)(vs:List V)(H:Hp)(Q:VK)(E:XK):Prop
 |mk (x:Addr) (F:Addr->Prop) (vw:Vw) (ps fs:List Vw) (n:Str) (eO:vs=[.ref x,.str n]) (eP:yx c H x F vw ps fs) (hX:match bf vw n with
 |none=>RX E c .dU H
 |some _=>∀(l:Addr)(ys:List V)(H':Hp),H l=none->aq H H'->H' l=some (.lst ys)->pq H' ys (Ed vw n)->Q (.ref l) H'):Fv c vs H Q E
theorem Fw (T:Txt K w mg t):bA P w K mg base (iE P w) (0+4) t.cA t.tL ["self","name"] (Fv (cs t)):=by
 have RS:=Pw (P:=P) (base:=base) T;have iC:=pb (P:=P) (base:=base) T;have NQ:=QI (P:=P) (base:=base) T;have bJ:=dR (P:=P) (base:=base) T;refine T.pL.Q5 b5 (fun vs H Q E h=>?_) (fun cdv A outer s H vs Q E hr h=>?_)
 ·obtain⟨_,_,_,_,_,_,rfl,_⟩:=h;rfl
 ·obtain⟨x,F,vw,ps,fs,n,rfl,B,q⟩:=h;refine aS (af (aK (i:=2) b5.nd rfl (Or.inl rfl) (bX (X:=(cL (iE P w) P w K mg base ["self","name","terms","leader","later","slow","is_turned","heard"] "Book.line" (ah dB) t.cA cdv A outer s H E)) (pv 0) T.aN T.o9 iC (hr.mono (by decide)) T.jY .nil (fun _ _ z=>Or.inl z) (aa (pv 1) ag))) (af (aO (ar W6 (pv 2) jq (az _)) (aj (aw (fM D5 rfl T.iy ia (aa (b7 (bX (X:=(cL (iE P w) P w K mg base ["self","name","terms","leader","later","slow","is_turned","heard"] "Book.line" (ah dB) t.cA cdv A outer s H E)) (pv 0) T.aN T.dH bJ (hr.mono (by decide)) T.cw .nil (fun _ _ z=>Or.inl z) (aa (pv 1) ag)) rfl) ag)))) aB) (af (kD (pv 2) (rl rfl (bC (aU (i:=3) b5.nd rfl (Or.inl rfl)) (bC (aU (i:=4) b5.nd rfl (Or.inl rfl)) (bC (aU (i:=5) b5.nd rfl (Or.inl rfl)) (bC (aU (i:=6) b5.nd rfl (Or.inl rfl)) lG)))))) (af (aK (i:=7) b5.nd rfl (Or.inl rfl) (bX (X:=(cL (iE P w) P w K mg base ["self","name","terms","leader","later","slow","is_turned","heard"] "Book.line" (ah dB) t.cA cdv A outer s H E)) (pv 0) T.aN T.me RS (hr.mono (by decide)) T.jI .nil (fun _ _ z=>Or.inl z) (aa (pv 3) ag))) (aj (aw (cK (d8 (bh (pv 6)) (aD NQ (hr.mono (by decide)) rfl T.Qz T.vO.kp T.EU .nil aP (aa (pv 7) ag)) (pv 7))))))))) ?_;obtain⟨L,D,U,all,M,Ps,Fs,es,us,b,iM,pp,pf,f⟩:=B.ex;obtain⟨dx,hx⟩:=b.hx;obtain⟨vx,g,gv⟩:=b.wu iM;have wv:=B.wv vw (.inr (.inl rfl));refine⟨_,rfl,x,dx,_,rfl,hx,qJ _ _ _,_,rfl,x,F,vw,ps,fs,n,rfl,B,?_⟩;cases hf:bf vw n with
  |none =>
   rw[hf]at q;exact q
  |some th =>
   rw[hf]at q;cases th with
   |pl ss =>
    refine⟨_,rfl,rfl,_,rfl,?_⟩;refine aY (fun _=>?_) (fun h=>absurd (by decide) h);refine⟨_,rfl,x,dx,_,rfl,hx,ee _ _ _,_,rfl,x,dx,L,D,U,M L,vx,n,rfl,hx,b.hL,g,?_⟩;rcases K4 gv (fun _ _ r=>r.2.1) n with ⟨f1,f2⟩|⟨a,th,j,f1,f2,r,an,fj,fw⟩
    ·rw[f2]at hf;cases hf
    rw[f1];rw[f2]at hf;cases hf;refine⟨a.o,_,a.d,_,_,rfl,(b.ha a r.1).1,T.gj,T.cC,vq _ _ _,?_⟩;refine⟨_,_,rfl,.inl (aX.of (b.ha a r.1).2),fun l hl=>?_⟩;exact q l _ _ hl (aq.upd hl) ae (by rw[yy f2];exact r.2.2.2.same (aq.upd hl))
   |cn ld lt sl tn =>
    intro p hp;refine⟨_,rfl,rfl,_,rfl,?_⟩;refine aY (fun h=>by have:=of_decide_eq_true h;cases this) (fun _=>?_);obtain⟨⟨ss,Pc⟩,_⟩:=wv.ld n ld lt sl tn (dj hf);have hfl:=wv.find Pc;have gl:=(wv.gd _ _ Pc).1;rw[yz hf hfl]at q;refine⟨_,rfl,p,_,rfl,uG.of hp,rfl,_,_,rfl,_,_,rfl,_,_,rfl,_,_,rfl,rfl,?_⟩;refine⟨_,rfl,x,dx,_,rfl,hx,pB _ _ _,_,rfl,x,F,vw,ps,fs,ld,ss,rfl,B,hfl,fun l ys H1 hl s1 h1 g1=>?_⟩;refine⟨fun v H'=>∃ l' ys',v=.ref l'/\H l'=none/\aq H H'/\H' l'=some (.lst ys')/\pq H' ys' (if tn=true then ss.map tF else ss),?_,?_⟩
    ·refine⟨_,rfl,_,rfl,?_⟩;cases tn with
     |true =>
      refine cX ⟨_,rfl,l,ys,ss,rfl,aX.of h1,g1,by omega,fun f' ys' H2 s2 hf' h2 g2=>⟨f',ys',rfl,s1.free hf',s1.trans s2,h2,g2⟩⟩
     |false=>exact bF ⟨_,rfl,l,ys,rfl,hl,s1,h1,g1⟩
    ·rintro v H' ⟨l',ys',rfl,a1,a2,a3,a4⟩;exact q l' ys' H' a1 a2 a3 a4
inductive Fx (c:Cs)(vs:List V)(H:Hp)(Q:VK)(E:XK):Prop
 |mk (x:Addr) (F:Addr->Prop) (vw:Vw) (ps fs:List Vw) (n:Str) (eO:vs=[.ref x,.str n]) (eP:yx c H x F vw ps fs) (hX:match bf vw n with
 |none=>RX E c .dU H
 |some _=>∀(l:Addr)(H':Hp),H l=none->aq H H'->H' l=some (.lst ((xX vw n).map V.int))->Q (.ref l) H'):Fx c vs H Q E
theorem RT (T:Txt K w mg t):bA P w K mg base (iE P w) (0+7) t.dE t.yO ["self","name"] (Fx (cs t)):=by
 have iC:=pb (P:=P) (base:=base) T;have V0:=aca (P:=P) (base:=base) T;have pO:=Fw (P:=P) (base:=base) T;refine T.tW.Q5 ir (fun vs H Q E h=>?_) (fun cdv A outer s H vs Q E hr h=>?_)
 ·obtain⟨_,_,_,_,_,_,rfl,_⟩:=h;rfl
 ·obtain⟨x,F,vw,ps,fs,n,rfl,B,q⟩:=h;refine aS (af (aK (i:=2) ir.nd rfl (Or.inl rfl) (bX (X:=(cL (iE P w) P w K mg base ["self","name","terms","leader","later","slow","is_turned","begin"] "Book.kept" (ah fY) t.dE cdv A outer s H E)) (pv 0) T.aN T.o9 iC (hr.mono (by decide)) T.jY .nil (fun _ _ z=>Or.inl z) (aa (pv 1) ag))) (af (aO (ar W6 (pv 2) jq (az _)) (aj (aw (aD V0 (hr.mono (by decide)) rfl T.Qy T.se.kp T.ET .nil aP (aa (bX (X:=(cL (iE P w) P w K mg base ["self","name","terms","leader","later","slow","is_turned","begin"] "Book.kept" (ah fY) t.dE cdv A outer s H E)) (pv 0) T.aN T.me pO (hr.mono (by decide)) T.jI .nil (fun _ _ z=>Or.inl z) (aa (pv 1) ag)) (aa ai ag))))) aB) (af (kD (pv 2) (rl rfl (bC (aU (i:=3) ir.nd rfl (Or.inl rfl)) (bC (aU (i:=4) ir.nd rfl (Or.inl rfl)) (bC (aU (i:=5) ir.nd rfl (Or.inr rfl)) (bC (aU (i:=6) ir.nd rfl (Or.inl rfl)) lG)))))) (af (aK (i:=7) ir.nd rfl (Or.inl rfl) (cK (d8 (bh (pv 6)) ai ai))) (aj (aw (qF (cn:=["worth"]) rfl (fV.of rfl) (gL (aD V0 (hr.mono (by decide)) rfl T.Qy T.se.kp T.ET .nil aP (aa (bX (X:=(cL (iE P w) P w K mg base ["self","name","terms","leader","later","slow","is_turned","begin"] "Book.kept" (ah fY) t.dE cdv A outer s H E)) (pv 0) T.aN T.me pO (hr.mono (by decide)) T.jI .nil (fun _ _ z=>Or.inl z) (aa (pv 1) ag)) (aa (pv 7) ag)))) (fun _=>(aU (i:=0) M4 rfl (Or.inl rfl))) (fun _=>yq) (fun _=>(aI (nc.or ng) (pv 6) (pv 0)))))))))) ?_;obtain⟨L,D,U,all,M,Ps,Fs,es,us,b,iM,pp,pf,f⟩:=B.ex;obtain⟨dx,hx⟩:=b.hx;have wv:=B.wv vw (.inr (.inl rfl));refine⟨_,rfl,x,dx,_,rfl,hx,qJ _ _ _,_,rfl,x,F,vw,ps,fs,n,rfl,B,?_⟩;cases hf:bf vw n with
  |none =>
   rw[hf]at q;exact q
  |some th =>
   rw[hf]at q;cases th with
   |pl ss =>
    have gl:=(wv.gd _ _ (dj hf)).1;refine⟨_,rfl,rfl,_,rfl,?_⟩;refine aY (fun _=>?_) (fun h=>absurd (by decide) h);refine⟨_,rfl,x,dx,_,rfl,hx,pB _ _ _,_,rfl,x,F,vw,ps,fs,n,rfl,B,?_⟩;rw[hf];intro l ys H1 hl s1 h1 g1;rw[yy hf]at g1;refine⟨l,3,ys,ss,rfl,aX.of h1,g1,by omega,fun f' H2 s2 n2 h2=>?_⟩;exact q f' H2 (s1.free n2) (s1.trans s2) (by rw[MQ hf];exact h2)
   |cn ld lt sl tn =>
    intro p hp;obtain⟨⟨ss,Pc⟩,lt0,lt1,sl0,sl1⟩:=wv.ld n ld lt sl tn (dj hf);have hfl:=wv.find Pc;have gl:=(wv.gd _ _ Pc).1;rw[MR hf hfl]at q;refine⟨_,rfl,rfl,_,rfl,?_⟩;refine aY (fun h=>by have:=of_decide_eq_true h;cases this) (fun _=>?_);refine⟨_,rfl,p,_,rfl,uG.of hp,rfl,_,_,rfl,_,_,rfl,_,_,rfl,_,_,rfl,rfl,?_⟩;refine⟨fun v H'=>v=.int (if tn=true then 2 else 3)/\H'=H,?_,?_⟩
    ·refine⟨_,rfl,_,rfl,?_⟩;cases tn with
     |true=>exact cX ⟨rfl,rfl⟩
     |false=>exact bF ⟨rfl,rfl⟩
    intro v0 H0 ⟨e1,e2⟩;rw[e1,e2];refine⟨_,rfl,x,dx,_,rfl,hx,pB _ _ _,_,rfl,x,F,vw,ps,fs,n,rfl,B,?_⟩;rw[hf];intro l ys H1 hl s1 h1 g1;rw[yz hf hfl]at g1;have gl2:(if tn=true then ss.map tF else ss).length<=400:=by
     split
     ·rw[length_map];omega
     ·omega
    refine⟨_,rfl,l,(if tn=true then 2 else 3),ys,_,rfl,aX.of h1,g1,gl2,fun f' H2 s2 n2 h2=>?_⟩;generalize hW:(lg (if tn=true then 2 else 3) (bB (if tn=true then ss.map tF else ss))).1=W at q h2;have hWl:W.length<=400:=by rw[<-hW,Ay,length_map];exact gl2
    refine⟨f',rfl,⟨_,aX.of h2⟩,fun D' b' hD'=>?_⟩;generalize hbz:(if tn=true then(2:Int) else 3)=bz;refine jP (K:=K) (xs:=W.map V.int) (fun i ys σ H'=>∃ v,σ=[v,some (.ref x),some (.str n),some (.ref p),some (.str ld),some (.int lt),some (.int sl),some (.bl tn),some (.int bz)]/\H'=upd H2 D' (.lst ys)/\ys=((W.take i).map fun w=>sl * w).map V.int) ⟨none,rfl,rfl,by simp⟩ ?_ ?_ ?_
    ·rintro i ys σ H' ⟨v,rfl,rfl,_⟩;exact jO (aX.of h2) hD'
    ·rintro i ys y σ H' hy ⟨v,rfl,rfl,rfl⟩ N hN;obtain⟨z,hz,rfl⟩:=Rb hy;have hi:i<W.length:=(List.getElem?_eq_some_iff.mp hz).1;refine kG ?_;refine⟨_,rfl,_,rfl,.inl ⟨_,_,rfl,rfl,.inl ⟨by omega,by omega⟩,ae,?_,?_⟩⟩
     ·rw[length_map,length_map,length_take];exact aW (by omega)
     ·refine hN _ _ _ ⟨_,rfl,dS,?_⟩;rw[take_succ,hz,map_append,map_append];rfl
    ·rintro ys σ H' ⟨v,rfl,rfl,rfl⟩;rw[length_map,take_length];exact q D' _ (s1.free (s2.free hD')) ((s1.trans s2).trans (aq.upd hD')) ae
theorem _root_.L2.sW.same {H H':Hp}{a:Addr}{y:V}{r:Option V}(s:aq H H')(h:sW H a y r):sW H' a y r:=by
 have rd:∀{u},Rd H a u->Rd H' a u:=fun z=>z.imp (fun e=>s _ _ e) fun⟨o,e⟩=>⟨o,s _ _ e⟩;rcases h with ⟨kvs,k,e,e2,e3⟩|⟨kvs,k,b,e,e2,e3,e4⟩
 ·exact .inl ⟨kvs,k,rd e,e2,e3⟩
 ·exact .inr ⟨kvs,k,b,rd e,e2,s _ _ e3,e4⟩
inductive Fy (K:Frag)(vs:List V)(H:Hp)(Q:VK)(E:XK):Prop
 |mk (d:Addr) (vw:Vw) (n:Str) (th:Th) (eO:vs=[.ref d,.str n]) (eP:uO H d vw) (hX:yj vw) (kC:bf vw n=some th) (rq:∀(l:Addr)(ys:List V)(H':Hp),aq H H'->H' l=some (.lst ys)->pq H' ys (Ed vw n)->Q (.ref l) H'):Fy K vs H Q E
theorem Fz (T:Txt K w mg t):bA P w K mg base k9 (0+1) t.jE t.yP ["_law_voices","_law_name"] (Fy K):=by
 refine T.lD.ok lL (fun vs H Q E h=>?_) (fun cdv A outer s H vs Q E hr h=>?_)
 ·obtain⟨_,_,_,_,rfl,_⟩:=h;rfl
 ·obtain⟨d,vw,n,th,rfl,hd,wv,hf,q⟩:=h;refine aS (af (aK (i:=2) lL.nd rfl (Or.inl rfl) (jc (j5 hr) (pv 0) (pv 1) (fun _ _=>rfl))) (af (aO (bh (aJ d9 rfl T.bu br (aa (pv 2) (aa (gK (v:=.ty "list") rfl T.iy ia rfl) ag)))) (aj (aw (pv 2))) aB) (af (aO (cF (bh (aC av (pv 2) ai (fun _ _=>rfl)))) (aj (aw (jc (j5 hr) (pv 0) (aC av (pv 2) ai (fun _ _=>rfl)) (fun _ _=>rfl)))) aB) (af (aK (i:=3) lL.nd rfl (Or.inl rfl) (bx ag)) (af (gR PassesOwn.never rfl (gL (jc (j5 hr) (pv 0) (aC av (pv 2) ai (fun _ _=>rfl)) (fun _ _=>rfl))) (aU (i:=4) lL.nd rfl (Or.inl rfl)) (af (aK (i:=5) lL.nd rfl (Or.inl rfl) (cK (d8 (ar (bg.or (aR (aA hr))) (aC av (pv 4) ai (fun _ _=>rfl)) ax (az _)) ax (cK (d8 (ar (bg.or (aR (aA hr))) (aC av (pv 4) ai (fun _ _=>rfl)) ax (az _)) ax (aC av (pv 4) ai (fun _ _=>rfl))))))) (aj (bc (jr plainAttrs_list slot_list_append type_list_append bK (pv 3) (aa (b8 (aa (pv 5) (aa (aC av (pv 4) ai (fun _ _=>rfl)) ag))) ag)))))) (aj (aw (pv 3)))))))) ?_;obtain⟨v,hg,hv⟩:=hd.get hf;refine⟨_,rfl,_,rfl,d,v,rfl,hg,?_⟩;cases th with
  |pl ss =>
   obtain⟨l,ys,rfl,h1,h2⟩:=hv;tm_up;refine⟨_,_,_,_,rfl,iV.lst h1,rfl,_,rfl,cX ?_⟩;exact⟨_,rfl,q l ys H (aq.refl _) h1 (by rw[yy hf];exact h2)⟩
  |cn ld lt sl tn =>
   obtain⟨p,rfl,hp⟩:=hv;obtain⟨⟨ss,Pc⟩,_⟩:=wv.ld n ld lt sl tn (dj hf);have hfl:=wv.find Pc;have gl:=(wv.gd _ _ Pc).1;rw[yz hf hfl]at q;obtain⟨v2,hg2,l,ys,rfl,h1,h2⟩:=hd.get hfl;tm_up;refine⟨_,_,_,_,rfl,iV.tup hp,rfl,_,rfl,bF ?_⟩;refine⟨_,rfl,RO (i:=3) hp rfl ?_⟩;refine⟨_,rfl,?_⟩;cases tn with
   |false =>
    refine cX ?_;refine⟨_,rfl,_,rfl,RO (i:=0) hp rfl ?_⟩;exact⟨d,_,rfl,hg2,q l ys H (aq.refl _) h1 h2⟩
   |true =>
    refine bF ?_;refine⟨big (by show 0<=1000;omega),fun told aeX=>?_⟩;have s1:=aq.upd (o:=.lst []) aeX;have ht1:=ae (H:=H) (a:=told) (o:=.lst []);generalize upd H told (.lst [])=H1 at s1 ht1;have y3:=bS h2;refine⟨_,rfl,_,rfl,RO (i:=0) (s1 _ _ hp) rfl ?_⟩;have nlt:l≠told:=ao h1 aeX;have hg3:sW H1 d (.str ld) (some (.ref l)):=hg2.same s1;refine⟨d,_,rfl,hg3,l,rfl,⟨_,aX.of (s1 _ _ h1)⟩,rm (K:=K) (xs:=ys) (fun i σ H'=>∃(u k:Option V)(zs:List V),σ=[some (.ref d),some (.str n),some (.ref p),some (.ref told),u,k]/\aq H H'/\H' told=some (.lst zs)/\pq H' zs ((ss.take i).map tF)) ⟨none,none,[],rfl,s1,ht1,.nil⟩ ?_ ?_ ?_⟩
    ·rintro i σ H' _ ⟨u,k,zs,rfl,s2,_⟩;exact aX.of (s2 _ _ h1)
    ·rintro i y σ H' hy ⟨u,k,zs,rfl,s2,ht2,gz⟩;obtain⟨sg,hsg,ps,rfl,hps⟩:=yg h2 hy;have hi:i<ss.length:=(List.getElem?_eq_some_iff.mp hsg).1;have agx:=s2 _ _ hps;have zl:=bS gz;rw[length_map,length_take]at zl;refine⟨fun v Hx=>v=.str (Qr sg.1).str/\Hx=H',?_,?_⟩
     ·refine⟨_,rfl,ix0 agx ?_⟩;refine .inl ⟨rfl,_,rfl,?_⟩;rw[aen];refine aY (fun h=>?_) (fun h=>?_)
      ·rw[of_decide_eq_true h];exact⟨rfl,rfl⟩
      ·have h':sg.1≠.two:=fun z=>h (decide_eq_true z);refine⟨fun v Hx=>v=.str (Qr sg.1).str/\Hx=H',?_,fun _ _ z=>z⟩;refine⟨_,rfl,ix0 agx ?_⟩;refine .inl ⟨rfl,_,rfl,?_⟩;rw[Ra];refine aY (fun h3=>?_) (fun h3=>?_)
       ·rw[of_decide_eq_true h3];exact⟨rfl,rfl⟩
       ·have h3':sg.1≠.three:=fun z=>h3 (decide_eq_true z);refine⟨_,rfl,ix0 agx ⟨?_,rfl⟩⟩;cases hk:sg.1 <;> first|rfl|exact absurd hk h'|exact absurd hk h3'
     intro v Hx ⟨e1,e2⟩;rw[e1,e2];refine⟨_,rfl,.inl ⟨rfl,_,aX.of ht2⟩,_,rfl,_,rfl,ix1 agx ?_⟩;refine⟨by show 2<=sizeLine;decide,fun tp htp=>?_⟩;have s3:=aq.upd (o:=.tup [V.str (Qr sg.1).str,V.int sg.2]) htp;refine⟨told,_,_,rfl,rfl,s3 _ _ ht2,aW (by omega),?_⟩;refine⟨_,_,zs++[.ref tp],rfl,eF (s2.trans s3) aeX,ae,?_⟩;rw[take_succ,hsg,map_append];exact j6 (aep (s3 _ _ ht2) (gz.same s3)) (aeo (s3 _ _ ht2) ⟨tp,rfl,ae⟩)
    ·rintro σ H' ⟨u,k,zs,rfl,s2,ht2,gz⟩;rw[y3,take_length]at gz;exact⟨_,rfl,q told zs H' s2 ht2 gz⟩
theorem ai1 {k:Kd}(h:k.meas=true)(m:Int):intText? k.str=some (nm m k)/\k.str.length<=640:=by
 cases k <;> first|(cases h;done)|exact⟨by first|exact(show intText? Kd.three.str=some 3 by lk)|exact(show intText? Kd.two.str=some 2 by lk),by lk⟩
theorem akY {k:Kd}(h:¬ k.meas=true)(m:Int):nm m k=m:=by
 cases k <;> first|rfl|exact absurd rfl h
theorem V1 (k:Kd):k.meas=(decide (k=.three)||decide (k=.two)):=by cases k <;> rfl
theorem abd (k:Kd):Ph k.str ".32" = k.parting:=by cases k <;> decide +kernel
theorem FA (k:Kd):Ph k.str "sdr"=k.small:=by cases k <;> decide +kernel
theorem agy {k:Kd}(h:k.parting=true)(m:Int)(n:Option Kd):bw m k n=0:=by cases k <;> first|(cases h;done)|(unfold bw;rw[if_neg (by rintro⟨_,z,_⟩;cases z)];rfl)
theorem aeY {k:Kd}(h:k.small=true)(m:Int)(n:Option Kd):bw m k n=1:=by cases k <;> first|(cases h;done)|(unfold bw;rw[if_neg (by rintro⟨_,z,_⟩;cases z)];rfl)
theorem ana (m:Int)(n:Option Kd):bw m .D n=2:=by unfold bw;rw[if_neg (by rintro⟨_,z,_⟩;cases z)];rfl
theorem agz {k:Kd}{m:Int}{n:Option Kd}(hm:Ms m)(h1:k.parting=false)(h2:k.small=false)(h3:k≠.D)(h4:¬(m=2/\k=.G/\n=some .dot)):bw m k n=m:=by
 unfold bw;rw[if_neg h4];rcases hm with rfl|rfl <;> cases k <;> first|(cases h1;done)|(cases h2;done)|rfl|exact absurd rfl h3
inductive QJ (K:Frag)(vs:List V)(H:Hp)(Q:VK)(E:XK):Prop
 |mk (l:Addr) (b:Int) (xs:List V) (ss:List Sg) (eO:vs=[.ref l,.int b]) (eP:Ms b) (hX:aX K H l xs) (kC:pq H xs ss) (rq:ss.length<=400) (QX:∀(f:Addr)(H':Hp),aq H H'->H f=none->H' f=some (.lst ((jt b (bB ss)).map V.int))->Q (.ref f) H'):QJ K vs H Q E
theorem acd (T:Txt K w mg t):bA P w K mg base k9 (0+1) t.rX t.Nc ["_law_line","_law_begin"] (QJ K):=by
 refine T.yZ.ok rh (fun vs H Q E h=>?_) (fun cdv A outer s H vs Q E hr h=>?_)
 ·obtain⟨_,_,_,_,rfl,_⟩:=h;rfl
 ·obtain⟨l,b,xs,ss,rfl,hMs,hS,hg,hn,q⟩:=h;have p62:(2:Int) ^ 62=4611686018427387904:=by decide
  refine aS (af (aK (i:=2) rh.nd rfl (Or.inl rfl) (bx ag)) (af (aK (i:=3) rh.nd rfl (Or.inl rfl) (pv 1)) (af (gR PassesOwn.never rfl (m9 rfl T.mf (aa (aJ (aE.or aF) rfl T.bO bM (aa (pv 0) ag)) ag)) (aU (i:=4) rh.nd rfl (Or.inl rfl)) (af (aK (i:=5) rh.nd rfl (Or.inl rfl) (aC av (aC av (pv 0) (pv 4) (fun _ _=>rfl)) ai (fun _ _=>rfl))) (af (nh (aO (bN (PW.pt (j4 (ar (bg.or (aR (aA hr))) (pv 5) ax (az _)) (h9 (ar (bg.or (aR (aA hr))) (pv 5) ax (az _)))))) (aj (aK (i:=3) rh.nd rfl (Or.inl rfl) (fM (vg.or kg) rfl T.HW G6 (aa (pv 5) ag)))) aB)) (aj (aO (ar (cW.or cV) (pv 5) ax rfl) (aj (bc (jr plainAttrs_list slot_list_append type_list_append bK (pv 2) (aa ai ag)))) (aj (aO (ar (cW.or cV) (pv 5) ax rfl) (aj (bc (jr plainAttrs_list slot_list_append type_list_append bK (pv 2) (aa ai ag)))) (aj (aO (ar (bg.or (aR (aA hr))) (pv 5) ax (az _)) (aj (bc (jr plainAttrs_list slot_list_append type_list_append bK (pv 2) (aa ai ag)))) (aj (aO (bN (PW.pt (cJ (ar (bg.or (aR (aA hr))) (pv 3) ai (az _)) (cJ (ar (bg.or (aR (aA hr))) (pv 5) ax (az _)) (cJ (ar qz (aI (bP.or (aM.or bR)) (pv 4) ai) (aJ (aE.or aF) rfl T.bO bM (aa (pv 0) ag)) (az _)) (dy (ar (bg.or (aR (aA hr))) (aC av (aC av (pv 0) (aI (bP.or (aM.or bR)) (pv 4) ai) (fun _ _=>rfl)) ai (fun _ _=>rfl)) ax (az _)))))))) (aj (bc (jr plainAttrs_list slot_list_append type_list_append bK (pv 2) (aa ai ag)))) (aj (bc (jr plainAttrs_list slot_list_append type_list_append bK (pv 2) (aa (pv 3) ag))))))))))))))) (aj (aw (pv 2)))))) ?_;refine⟨big (by show 0<=1000;omega),fun f hf=>?_⟩;tm_up;refine .inl ⟨_,_,rfl,.inl (jO hS hf),?_⟩;rw[bS hg];refine⟨(ss.length:Int),rfl,by rw[p62];omega,by rw[p62];omega,?_⟩;refine kZ (n:=((ss.length:Int)).toNat) (fun i σ H'=>∃(m:Int)(v w:Option V)(fs:List Int),σ=[some (.ref l),some (.int b),some (.ref f),some (.int m),v,w]/\Ms m/\H'=upd H f (.lst (fs.map V.int))/\fs++jt m ((bB ss).drop i)=jt b (bB ss))
   ⟨b,none,none,[],rfl,hMs,rfl,rfl⟩ ?_ ?_
  ·rintro i σ H' hi ⟨m,v,w,fs,rfl,hm3,rfl,hm⟩;have hil:i<ss.length:=by omega
   have hd:=qH (yw (f:=Prod.fst) (getElem?_eq_getElem hil));rw[hd]at hm;have hS':aX K (upd H f (.lst (fs.map V.int))) l xs:=jO hS hf;have hg':pq (upd H f (.lst (fs.map V.int))) xs ss:=hg.same (aq.upd hf);have hl:=congrArg List.length hm;simp only [length_append,jt,length_cons,vo,length_map]at hl;simp only [jt,head_drop]at hm;tm_up;refine Pj hS' hg' (n:=i) (by omega) (getElem?_eq_getElem hil) fun p hp=>?_;generalize hk:(ss[i]).1=k at hm hp;tm_up;refine ad5 [some (.ref l),some (.int b),some (.ref f),some (.int (nm m k)),some (.int (0+(i:Int))),some (.str k.str)] (upd H f (.lst (fs.map V.int))) ?_ ?_
   ·refine kh k.meas ?_ ?_
    ·tm_up;rw[Ra];refine aY (fun h=>?_) (fun h=>?_)
     ·exact fJ (by rw[V1,h];rfl)
     ·tm_up;rw[aen];exact fJ (by rw[V1,Bool.eq_false_iff.mpr h];rfl)
    refine aY (fun h=>?_) (fun h=>?_)
    ·obtain⟨e1,e2⟩:=ai1 h m;tm_up;exact .inr ⟨_,_,rfl,e1,e2,rfl,rfl⟩
    ·rw[akY h];exact⟨rfl,rfl⟩
   have hm4:=hm3.nm k;have fin:∀(z:Int),z=bw (nm m k) k (bB ss)[i+1]?->∃(m':Int)(v w:Option V)(fs':List Int),[some (V.ref l),some (V.int b),some (V.ref f),some (V.int (nm m k)),some (V.int (0+(i:Int))),some (V.str k.str)]=[some (.ref l),some (.int b),some (.ref f),some (.int m'),v,w]/\Ms m'/\upd (upd H f (.lst (fs.map V.int))) f (.lst (fs.map V.int++[V.int z]))=upd H f (.lst (fs'.map V.int))/\fs'++jt m' ((bB ss).drop (i+1))=jt b (bB ss):=by
    intro z hz;exact⟨nm m k,_,_,fs++[z],rfl,hm4,by rw[dS,map_append];rfl,by rw[List.append_assoc,hz];exact hm⟩
   tm_up;refine aY (fun h=>?_) (fun h=>?_)
   ·have h':k.parting=true:=by rw[<-abd];exact h
    tm_up;refine⟨.inl ⟨rfl,_,aX.of ae⟩,?_⟩;refine⟨_,_,_,rfl,rfl,ae,by rw[length_map];exact aW (by omega),fin 0 (agy h' ..).symm⟩
   ·have h1:k.parting=false:=by rw[<-abd];exact Bool.eq_false_iff.mpr h
    tm_up;refine aY (fun h=>?_) (fun h=>?_)
    ·have h':k.small=true:=by rw[<-FA];exact h
     tm_up;refine⟨.inl ⟨rfl,_,aX.of ae⟩,?_⟩;refine⟨_,_,_,rfl,rfl,ae,by rw[length_map];exact aW (by omega),fin 1 (aeY h' ..).symm⟩
    ·have h2:k.small=false:=by rw[<-FA];exact Bool.eq_false_iff.mpr h
     tm_up;rw[k_D];refine aY (fun h=>?_) (fun h=>?_)
     ·have h':k=.D:=of_decide_eq_true h;tm_up;refine⟨.inl ⟨rfl,_,aX.of ae⟩,?_⟩;refine⟨_,_,_,rfl,rfl,ae,by rw[length_map];exact aW (by omega),fin 2 (by rw[h'];exact(ana ..).symm)⟩
     ·have h3:k≠.D:=fun z=>h (decide_eq_true z);refine kh (decide (nm m k=2/\k=.G/\(bB ss)[i+1]? = some .dot)) ?_ ?_
      ·tm_up;rw[gS];refine aY (fun h=>?_) (fun h=>?_)
       ·have e1:=of_decide_eq_true h;tm_up;rw[k_G];refine aY (fun h=>?_) (fun h=>?_)
        ·have e2:=of_decide_eq_true h;tm_up;refine .inl ⟨_,_,rfl,.inl hS',?_⟩;rw[bS hg];tm_up;refine aY (fun h=>?_) (fun h=>?_)
         ·have hlt:i+1<ss.length:=by have:=of_decide_eq_true h;omega
          tm_up;refine Pj hS' hg' (n:=i+1) (by omega) (getElem?_eq_getElem hlt) fun p2 hp2=>?_;tm_up;rw[akp];refine fJ ?_;have e3:(bB ss)[i+1]? = some (ss[i+1]).1:=yw (getElem?_eq_getElem hlt);rw[e3];subst e2;simp[e1]
         ·refine fJ ?_;have e3:(bB ss)[i+1]? = none:=List.getElem?_eq_none (by rw[length_map];have:¬(0+(i:Int)+1<ss.length):=fun z=>h (decide_eq_true z);omega);rw[e3];simp
        ·refine fJ ?_;have e2:k≠.G:=fun z=>h (decide_eq_true z);simp[e2]
       ·refine fJ ?_;have e1:nm m k≠2:=fun z=>h (decide_eq_true z);simp[e1]
      ·refine aY (fun h=>?_) (fun h=>?_)
       ·have h':=of_decide_eq_true h;tm_up;refine⟨.inl ⟨rfl,_,aX.of ae⟩,?_⟩;refine⟨_,_,_,rfl,rfl,ae,by rw[length_map];exact aW (by omega),fin 3 (by unfold bw;rw[if_pos h'])⟩
       ·have h':¬(nm m k=2/\k=.G/\(bB ss)[i+1]? = some .dot):=fun z=>h (decide_eq_true z);tm_up;refine⟨.inl ⟨rfl,_,aX.of ae⟩,?_⟩;tm_up;refine⟨_,_,_,rfl,rfl,ae,by rw[length_map];exact aW (by omega),fin _ (agz hm4 h1 h2 h3 h').symm⟩
  ·rintro σ H' ⟨m,v,w,fs,rfl,_,rfl,hm⟩;have e0:((ss.length:Int)).toNat=ss.length:=by omega
   rw[e0,List.drop_eq_nil_of_le (by rw[length_map];exact Nat.le_refl _)]at hm;tm_up;have e:fs=jt b (bB ss):=by rw[<-hm];simp[jt]
   subst e;exact q f _ (aq.upd hf) hf ae
inductive NR (K:Frag)(vs:List V)(H:Hp)(Q:VK)(E:XK):Prop
 |mk (l:Addr) (b:Int) (xs:List V) (ss:List Sg) (eO:vs=[.ref l,.int b]) (eP:aX K H l xs) (hX:pq H xs ss) (kC:ss.length<=400) (rq:∀(f:Addr)(H':Hp),aq H H'->H f=none->H' f=some (.lst ((kH b (bB ss)).map V.bl))->Q (.ref f) H'):NR K vs H Q E
theorem akZ {k:Kd}(h:k.meas=true)(m:Int):intText? k.str=some (nm m k)/\k.str.length<=640:=by
 cases k <;> first|(cases h;done)|exact⟨by first|exact(show intText? Kd.three.str=some 3 by lk)|exact(show intText? Kd.two.str=some 2 by lk),by lk⟩
theorem anb {k:Kd}(h:¬ k.meas=true)(m:Int):nm m k=m:=by
 cases k <;> first|rfl|exact absurd rfl h
theorem abe (k:Kd):k.meas=(decide (k=.three)||decide (k=.two)):=by cases k <;> rfl
theorem Yt (T:Txt K w mg t):bA P w K mg base k9 (0+1) t.nY t.HJ ["_law_line","_law_begin"] (NR K):=by
 refine T.vP.ok rO (fun vs H Q E h=>?_) (fun cdv A outer s H vs Q E hr h=>?_)
 ·obtain⟨_,_,_,_,rfl,_⟩:=h;rfl
 ·obtain⟨l,b,xs,ss,rfl,hS,hg,hn,q⟩:=h;refine aS (af (aK (i:=2) rO.nd rfl (Or.inl rfl) (bx ag)) (af (aK (i:=3) rO.nd rfl (Or.inl rfl) (pv 1)) (af (gR PassesOwn.never rfl (gL (pv 0)) (aU (i:=4) rO.nd rfl (Or.inl rfl)) (af (nh (aO (bN (PW.pt (j4 (ar (bg.or (aR (aA hr))) (aC av (pv 4) ai (fun _ _=>rfl)) ax (az _)) (h9 (ar (bg.or (aR (aA hr))) (aC av (pv 4) ai (fun _ _=>rfl)) ax (az _)))))) (aj (aK (i:=3) rO.nd rfl (Or.inl rfl) (fM (vg.or kg) rfl T.HW G6 (aa (aC av (pv 4) ai (fun _ _=>rfl)) ag)))) aB)) (aj (bc (jr plainAttrs_list slot_list_append type_list_append bK (pv 2) (aa (bQ (bg.or (aR (aA hr))) (pv 3) ai (az _)) ag)))))) (aj (aw (pv 2)))))) ?_;refine⟨big (by show 0<=1000;omega),fun f hf=>?_⟩;tm_up;refine⟨⟨xs,jO hS hf⟩,rm (K:=K) (xs:=xs) (fun i σ H'=>∃(m:Int)(v:Option V)(fs:List Bool),σ=[some (.ref l),some (.int b),some (.ref f),some (.int m),v]/\H'=upd H f (.lst (fs.map V.bl))/\fs++kH m ((bB ss).drop i)=kH b (bB ss))
   ⟨b,none,[],rfl,rfl,rfl⟩ ?_ ?_ ?_⟩
  ·rintro i σ H' _ ⟨m,v,fs,rfl,rfl,_⟩;exact jO hS hf
  ·rintro i x σ H' hx ⟨m,v,fs,rfl,rfl,hm⟩;obtain⟨s,hs,p,rfl,hp⟩:=yg hg hx;have hd:=qH (yw (f:=Prod.fst) hs);rw[hd]at hm;have hp':upd H f (.lst (fs.map V.bl)) p=some (.tup [.str s.1.str,.int s.2]):=by rw[ak (ao hp hf)];exact hp
   have hl:=congrArg List.length hm;simp only [length_append,kH,length_cons,Xw,length_map]at hl;refine ad5 [some (.ref l),some (.int b),some (.ref f),some (.int (nm m s.1)),some (.ref p)] (upd H f (.lst (fs.map V.bl))) ?_ ?_
   ·refine kh s.1.meas ?_ ?_
    ·tm_up;rw[Ra];refine aY (fun h=>?_) (fun h=>?_)
     ·exact fJ (by rw[abe,h];rfl)
     ·tm_up;rw[aen];exact fJ (by rw[abe,Bool.eq_false_iff.mpr h];rfl)
    refine aY (fun h=>?_) (fun h=>?_)
    ·obtain⟨e1,e2⟩:=akZ h m;tm_up;exact .inr ⟨_,_,rfl,e1,e2,rfl,rfl⟩
    ·rw[anb h];exact⟨rfl,rfl⟩
   ·tm_up;refine⟨.inl ⟨rfl,_,aX.of ae⟩,?_⟩;tm_up;rw[gS];refine⟨_,_,_,rfl,rfl,ae,by rw[length_map];exact aW (by omega),?_⟩;exact⟨_,_,fs++[decide (nm m s.1=3)],rfl,by rw[dS,map_append];rfl,by rw[List.append_assoc];exact hm⟩
  ·rintro σ H' ⟨m,v,fs,rfl,rfl,hm⟩;rw[List.drop_eq_nil_of_le (by rw[length_map,bS hg];exact Nat.le_refl _)]at hm;tm_up;have e:fs=kH b (bB ss):=by rw[<-hm];simp[kH]
   subst e;exact q f _ (aq.upd hf) hf ae
def anc (K:Frag)(g:List Kd->List Int->Nat->Nat->Bool×List Int):Sp:=fun vs H Q _=>∃(l f:Addr)(a z:Nat)(xs:List V)(ss:List Sg)(fs:List Int),vs=[.ref l,.ref f,.int (a:Int),.int (z:Int)]/\aX K H l xs/\pq H xs ss/\l≠f/\H f=some (.lst (fs.map V.int))/\fs.length=ss.length/\a<z/\z<=ss.length /\
 Q (.bl (g (bB ss) fs a z).1) (upd H f (.lst ((g (bB ss) fs a z).2.map V.int)))
theorem NS (k:Kd):Ph k.str "GDR"=k.great:=by cases k <;> decide +kernel
theorem Il (o:Option Kd):(o.getD .dot).great=uK o:=by cases o <;> rfl
theorem anf (o:Option Kd):decide (o.getD .dot=.G)=decide (o=some .G):=by
 cases o with
 |none=>decide
 |some k=>simp
theorem ace {ks:List Kd}{f:List Int}{a z:Nat}{r:Nat}(hr:(z-a) % 3=r)(hr3:r<3) :
  settle ks f a z=if decide (r=2)&&(uK ks[z]? && decide (ks[z-1]? = some .s)) then(true,f.set (z-1) 2) else
   (decide (r=0)||((decide (r=1)&&(km ks f a||ib ks z))||(decide (r=2)&&(km ks f a&&ib ks z))),
    let g:=if(decide (r=1)&&km ks f a)||(decide (r=2)&&(km ks f a&&ib ks z)) then f.set (a-1) 2 else f
    if(decide (r=1)&&(ib ks z && !km ks f a))||(decide (r=2)&&(km ks f a&&ib ks z)) then g.set z 2 else g):=by
 unfold settle D7 D8;rw[hr];have:r=0\/r=1\/r=2:=by omega
 rcases this with rfl|rfl|rfl <;> cases km ks f a <;> cases ib ks z <;> cases uK ks[z]? <;> cases decide (ks[z-1]? = some .s) <;> rfl
theorem aeZ (T:Txt K w mg t):bA P w K mg base k9 (0+1) t.wJ t.Ru ["_law_line","_law_told","_law_low","_law_high"] (anc K settle):=by
 refine T.EX.ok vD (fun vs H Q E h=>?_) (fun cdv A outer s H vs Q E hr h=>?_)
 ·obtain⟨_,_,_,_,_,_,_,rfl,_⟩:=h;rfl
 ·obtain⟨l,f,a,z,xs,ss,fs,rfl,hS,hg,hlf,hf,hl,haz,hz,q⟩:=h;obtain⟨r,hrr⟩:∃ r:Nat,(z-a) % 3=r:=⟨_,rfl⟩;have hr3:r<3:=by omega
  rw[ace hrr hr3]at q;have hri:((z:Int)-(a:Int)) % 3=(r:Int):=by omega
  have dI:∀ n:Nat,decide (V.int (((z:Int)-(a:Int)) % 3)=V.int (n:Int))=decide (r=n):=fun n=>by
   rw[hri,gS]
   by_cases e:r=n
   ·simp[e]
   ·have:¬((r:Int)=(n:Int)):=by omega
    simp[e,this]
  have d0:decide (V.int (((z:Int)-(a:Int)) % 3)=V.int 0)=decide (r=0):=dI 0;have d1:decide (V.int (((z:Int)-(a:Int)) % 3)=V.int 1)=decide (r=1):=dI 1;have d2:decide (V.int (((z:Int)-(a:Int)) % 3)=V.int 2)=decide (r=2):=dI 2;refine aS (af (aK (i:=4) vD.nd rfl (Or.inl rfl) (aI c7 (aI eW (pv 3) (pv 2)) ai)) (af (aK (i:=5) vD.nd rfl (Or.inl rfl) (cK (d8 (ar qz (pv 3) (aJ (aE.or aF) rfl T.bO bM (aa (pv 0) ag)) (az _)) (aC av (aC av (pv 0) (pv 3) (fun _ _=>rfl)) ai (fun _ _=>rfl)) ax))) (af (aK (i:=6) vD.nd rfl (Or.inl rfl) (cK (d8 (ar qz (aI (bP.or (aM.or bR)) (pv 3) ai) (aJ (aE.or aF) rfl T.bO bM (aa (pv 0) ag)) (az _)) (aC av (aC av (pv 0) (aI (bP.or (aM.or bR)) (pv 3) ai) (fun _ _=>rfl)) ai (fun _ _=>rfl)) ax))) (af (aK (i:=7) vD.nd rfl (Or.inl rfl) (cK (iU (bQ aaC (pv 2) ai (az _)) (iU (bQ (bg.or (aR (aA hr))) (aC av (aC av (pv 0) (aI eW (pv 2) ai) (fun _ _=>rfl)) ai (fun _ _=>rfl)) ax (az _)) (lF (bQ (bg.or (aR (aA hr))) (aC av (pv 1) (aI eW (pv 2) ai) (fun _ _=>rfl)) ai (az _))))))) (af (aK (i:=8) vD.nd rfl (Or.inl rfl) (cK (iU (bQ (bg.or (aR (aA hr))) (pv 5) ax (az _)) (lF (bQ (qD.or qE) (pv 6) ax rfl))))) (af (aO (bN (PW.pt (cJ (ar (bg.or (aR (aA hr))) (pv 4) ai (az _)) (cJ (ar (cW.or cV) (pv 5) ax rfl) (dy (ar (bg.or (aR (aA hr))) (aC av (aC av (pv 0) (aI eW (pv 3) ai) (fun _ _=>rfl)) ai (fun _ _=>rfl)) ax (az _))))))) (af (kD ai (ym (pv 1) (aI eW (pv 3) ai) set_list)) (aj (aw fK))) aB) (af (nh (aO (bN (PW.pt (j4 (bN (PW.pt (cJ (ar (bg.or (aR (aA hr))) (pv 4) ai (az _)) (dy (bh (pv 7)))))) (h9 (bN (PW.pt (cJ (ar (bg.or (aR (aA hr))) (pv 4) ai (az _)) (cJ (bh (pv 7)) (dy (bh (pv 8))))))))))) (aj (kD ai (ym (pv 1) (aI eW (pv 2) ai) set_list))) aB)) (af (nh (aO (bN (PW.pt (j4 (bN (PW.pt (cJ (ar (bg.or (aR (aA hr))) (pv 4) ai (az _)) (cJ (bh (pv 8)) (dy (cF (bh (pv 7)))))))) (h9 (bN (PW.pt (cJ (ar (bg.or (aR (aA hr))) (pv 4) ai (az _)) (cJ (bh (pv 7)) (dy (bh (pv 8))))))))))) (aj (kD ai (ym (pv 1) (pv 3) set_list))) aB)) (aj (aw (cK (adj (bQ (bg.or (aR (aA hr))) (pv 4) ai (az _)) (adj (cK (iU (bQ (bg.or (aR (aA hr))) (pv 4) ai (az _)) (lF (cK (adj (pv 7) (lF (pv 8))))))) (lF (cK (iU (bQ (bg.or (aR (aA hr))) (pv 4) ai (az _)) (iU (pv 7) (lF (pv 8))))))))))))))))))) ?_;tm_up;refine AN (.str ((bB ss)[z]?.getD .dot).str) ?_ ?_
  ·tm_up;refine .inl ⟨_,_,rfl,.inl hS,?_⟩;rw[bS hg];tm_up;refine aY (fun h=>?_) (fun h=>?_)
   ·have hlt:z<ss.length:=by have:=of_decide_eq_true h;omega
    tm_up;refine Pj hS hg (n:=z) rfl (getElem?_eq_getElem hlt) fun p hp=>?_;tm_up;refine qG ?_;rw[getElem?_map,getElem?_eq_getElem hlt];rfl
   ·refine qG ?_;have hge:¬ z<ss.length:=fun c=>h (decide_eq_true (by omega));rw[List.getElem?_eq_none (by rw[length_map];omega)];rfl
  refine AN (.str ((bB ss)[z+1]?.getD .dot).str) ?_ ?_
  ·tm_up;refine .inl ⟨_,_,rfl,.inl hS,?_⟩;rw[bS hg];tm_up;refine aY (fun h=>?_) (fun h=>?_)
   ·have hlt:z+1<ss.length:=by have:=of_decide_eq_true h;omega
    tm_up;refine Pj hS hg (n:=z+1) (by omega) (getElem?_eq_getElem hlt) fun p hp=>?_;tm_up;refine qG ?_;rw[getElem?_map,getElem?_eq_getElem hlt];rfl
   ·refine qG ?_;have hge:¬ z+1<ss.length:=fun c=>h (decide_eq_true (by omega));rw[List.getElem?_eq_none (by rw[length_map];omega)];rfl
  refine AN (.bl (km (bB ss) fs a)) ?_ ?_
  ·tm_up;refine aY (fun h=>?_) (fun h=>?_)
   ·have hp:0<a:=by have:=of_decide_eq_true h;omega
    have hlt:a-1<ss.length:=by omega
    have ek:Rg (bB ss) ((a:Int)-1)=some (ss[a-1]).1:=by
     have:(a:Int)-1=((a-1:Nat):Int):=by omega
     rw[this,sZ,getElem?_map,getElem?_eq_getElem hlt];rfl
    tm_up;refine Pj hS hg (n:=a-1) (by omega) (getElem?_eq_getElem hlt) fun p hp=>?_;tm_up;rw[k_G];refine aY (fun h2=>?_) (fun h2=>?_)
    ·tm_up;refine aeq (aX.of hf) (n:=a-1) (by omega) (getElem?_eq_getElem (by omega)) ?_;tm_up;rw[gS];refine qG ?_;unfold km;rw[ek,of_decide_eq_true h2,List.getD_eq_getElem?_getD,getElem?_eq_getElem (by omega)];simp
    ·refine qG ?_;unfold km;rw[ek];have:(ss[a-1]).1≠.G:=fun c=>h2 (decide_eq_true c);simp[this]
   ·refine qG ?_;have hp:a=0:=by
     have:¬ 0<a:=fun c=>h (decide_eq_true (by omega));omega
    subst hp;unfold km Rg;simp
  refine AN (.bl (ib (bB ss) z)) ?_ ?_
  ·tm_up;rw[k_G,anf];refine aY (fun h=>?_) (fun h=>?_)
   ·tm_up;refine qG ?_;unfold ib;rw[h];show V.bl (!Ph _ _)=_;rw[NS,Il];rfl
   ·refine qG ?_;unfold ib;rw[Bool.eq_false_iff.mpr h];rfl
  generalize hL:km (bB ss) fs a=L at q;generalize hR:ib (bB ss) z=R at q;refine kh (decide (r=2)&&(uK (bB ss)[z]? && decide ((bB ss)[z-1]? = some .s))) ?_ ?_
  ·tm_up;rw[d2];refine aY (fun h=>?_) (fun h=>?_)
   ·rw[h];tm_up;refine aY (fun h2=>?_) (fun h2=>?_)
    ·have h2':uK (bB ss)[z]? = true:=by
      have:Ph ((bB ss)[z]?.getD .dot).str "GDR"=true:=h2
      rwa [NS,Il]at this
     rw[h2'];tm_up;have hlt:z-1<ss.length:=by omega
     refine Pj hS hg (n:=z-1) (by omega) (getElem?_eq_getElem hlt) fun p hp=>?_;tm_up;rw[k_s];refine fJ ?_;rw[getElem?_map,getElem?_eq_getElem hlt];simp
    ·have h2':uK (bB ss)[z]? = false:=by
      have:Ph ((bB ss)[z]?.getD .dot).str "GDR"=false:=Bool.eq_false_iff.mpr h2
      rwa [NS,Il]at this
     rw[h2'];exact fJ rfl
   ·exact fJ (by rw[Bool.eq_false_iff.mpr h];rfl)
  refine aY (fun h=>?_) (fun h=>?_)
  ·rw[if_pos h]at q;tm_up;refine⟨_,_,_,_,rfl,rfl,hf,tq (j:=z-1) (by omega) (by rw[length_map];omega),?_⟩;rw[oX];exact q
  ·rw[if_neg h]at q;dsimp only at q;have hLp:L=true->1<=a/\a-1<ss.length:=fun e=>by
    have:=Hd (hL.trans e)
    rwa [length_map]at this
   have hRp:R=true->z<ss.length:=fun e=>by
    have:=Bp (hR.trans e)
    rwa [length_map]at this
   generalize hg1:(if(decide (r=1)&&L||decide (r=2)&&(L&&R))=true then fs.set (a-1) 2 else fs)=g1 at q;have g1l:g1.length=ss.length:=by rw[<-hg1];split <;> simp[hl]
   refine ad5 [some (.ref l),some (.ref f),some (.int (a:Int)),some (.int (z:Int)),some (.int (((z:Int)-(a:Int)) % 3)),some (.str ((bB ss)[z]?.getD .dot).str),some (.str ((bB ss)[z+1]?.getD .dot).str),some (.bl L),some (.bl R)] (upd H f (.lst (g1.map V.int))) ?_ ?_
   ·refine kh (decide (r=1)&&L||decide (r=2)&&(L&&R)) ?_ ?_
    ·refine kh (decide (r=1)&&L) ?_ ?_
     ·tm_up;rw[d1];refine aY (fun h=>?_) (fun h=>?_)
      ·tm_up;exact fJ (by rw[h];rfl)
      ·exact fJ (by rw[Bool.eq_false_iff.mpr h];rfl)
     ·refine aY (fun h=>fJ (by rw[h];rfl)) (fun h=>?_);rw[Bool.eq_false_iff.mpr h,Bool.false_or];refine kh (decide (r=2)&&(L&&R)) ?_ (fJ rfl);tm_up;rw[d2];refine aY (fun h=>?_) (fun h=>?_)
      ·tm_up;refine aY (fun h2=>?_) (fun h2=>?_)
       ·tm_up;exact fJ (by rw[h,h2];rfl)
       ·exact fJ (by rw[h,Bool.eq_false_iff.mpr h2];rfl)
      ·exact fJ (by rw[Bool.eq_false_iff.mpr h];rfl)
    ·refine aY (fun h=>?_) (fun h=>?_)
     ·rw[if_pos h]at hg1;have hp:=hLp (by cases L <;> simp_all);tm_up;refine⟨_,_,_,_,rfl,rfl,hf,tq (j:=a-1) (by omega) (by rw[length_map];omega),?_⟩;rw[oX,hg1];exact⟨rfl,rfl⟩
     ·rw[if_neg h]at hg1;subst hg1;rw[D9 hf];exact⟨rfl,rfl⟩
   generalize hg2:(if(decide (r=1)&&(R && !L)||decide (r=2)&&(L&&R))=true then g1.set z 2 else g1)=g2 at q;refine ad5 [some (.ref l),some (.ref f),some (.int (a:Int)),some (.int (z:Int)),some (.int (((z:Int)-(a:Int)) % 3)),some (.str ((bB ss)[z]?.getD .dot).str),some (.str ((bB ss)[z+1]?.getD .dot).str),some (.bl L),some (.bl R)] (upd H f (.lst (g2.map V.int))) ?_ ?_
   ·refine kh (decide (r=1)&&(R && !L)||decide (r=2)&&(L&&R)) ?_ ?_
    ·refine kh (decide (r=1)&&(R && !L)) ?_ ?_
     ·tm_up;rw[d1];refine aY (fun h=>?_) (fun h=>?_)
      ·tm_up;refine aY (fun h2=>?_) (fun h2=>?_)
       ·tm_up;exact fJ (by rw[h,h2];rfl)
       ·exact fJ (by rw[h,Bool.eq_false_iff.mpr h2];rfl)
      ·exact fJ (by rw[Bool.eq_false_iff.mpr h];rfl)
     ·refine aY (fun h=>fJ (by rw[h];rfl)) (fun h=>?_);rw[Bool.eq_false_iff.mpr h,Bool.false_or];refine kh (decide (r=2)&&(L&&R)) ?_ (fJ rfl);tm_up;rw[d2];refine aY (fun h=>?_) (fun h=>?_)
      ·tm_up;refine aY (fun h2=>?_) (fun h2=>?_)
       ·tm_up;exact fJ (by rw[h,h2];rfl)
       ·exact fJ (by rw[h,Bool.eq_false_iff.mpr h2];rfl)
      ·exact fJ (by rw[Bool.eq_false_iff.mpr h];rfl)
    ·refine aY (fun h=>?_) (fun h=>?_)
     ·rw[if_pos h]at hg2;have hp:=hRp (by cases R <;> simp_all);tm_up;refine⟨_,_,_,_,rfl,rfl,ae,tq (j:=z) rfl (by rw[length_map];omega),?_⟩;rw[oX,hg2,dS];exact⟨rfl,rfl⟩
     ·rw[if_neg h]at hg2;subst hg2;exact⟨rfl,rfl⟩
   refine AN (.bl (decide (r=0)||(decide (r=1)&&(L||R)||decide (r=2)&&(L&&R)))) ?_ q;tm_up;rw[d0];refine aY (fun h=>qG (by rw[h];rfl)) (fun h=>?_);rw[Bool.eq_false_iff.mpr h,Bool.false_or];refine AN (.bl (decide (r=1)&&(L||R))) ?_ ?_
   ·tm_up;rw[d1];refine aY (fun h=>?_) (fun h=>qG (by rw[Bool.eq_false_iff.mpr h];rfl));refine AN (.bl (L||R)) ?_ (qG (by rw[h];rfl));tm_up;refine aY (fun h=>qG (by rw[h];rfl)) (fun h=>?_);tm_up;exact qG (by rw[Bool.eq_false_iff.mpr h];rfl)
   ·refine⟨_,rfl,?_⟩;refine aY (fun h=>qG (by rw[h];rfl)) (fun h=>?_);rw[Bool.eq_false_iff.mpr h,Bool.false_or];refine AN (.bl (decide (r=2)&&(L&&R))) ?_ (qG rfl);tm_up;rw[d2];refine aY (fun h=>?_) (fun h=>qG (by rw[Bool.eq_false_iff.mpr h];rfl));tm_up;refine aY (fun h2=>?_) (fun h2=>?_)
    ·tm_up;exact qG (by rw[h,h2];rfl)
    ·exact qG (by rw[h,Bool.eq_false_iff.mpr h2];rfl)
inductive QK (K:Frag)(vs:List V)(H:Hp)(Q:VK)(E:XK):Prop
 |mk (l:Addr) (b:Int) (xs:List V) (ss:List Sg) (eO:vs=[.ref l,.int b]) (eP:Ms b) (hX:H l=some (.lst xs)) (kC:pq H xs ss) (rq:ss.length<=400) (QX:∀(p f lo:Addr)(ys:List V)(H':Hp),aq H H'->H f=none->H lo=none->f≠lo->H' p=some (.tup [.ref f,.ref lo])->H' f=some (.lst ((lg b (bB ss)).1.map V.int))->H' lo=some (.lst ys)->Xv H' ys (lg b (bB ss)).2->Q (.ref p) H'):QK K vs H Q E
theorem acf (T:Txt K w mg t):bA P w K mg base k9 (0+2) t.rY t.Nd ["_law_line","_law_begin"] (QK K):=by
 have ae0:=acd (P:=P) (base:=base) T;have acg:=Yt (P:=P) (base:=base) T;have agA:=aeZ (P:=P) (base:=base) T;refine T.vQ.ok lx (fun vs H Q E h=>?_) (fun cdv A outer s H vs Q E hr h=>?_)
 ·obtain⟨_,_,_,_,rfl,_⟩:=h;rfl
 ·obtain⟨l,b,xs,ss,rfl,hMs,hS,hg,hn,q⟩:=h;refine aS (af (aK (i:=2) lx.nd rfl (Or.inl rfl) (aD ae0 (hr.mono (by decide)) rfl T.ab0 T.yZ.kp T.Nl .nil aP (aa (pv 0) (aa (pv 1) ag)))) (af (aK (i:=3) lx.nd rfl (Or.inl rfl) (aD acg (hr.mono (by decide)) rfl T.X7 T.vP.kp T.HV .nil aP (aa (pv 0) (aa (pv 1) ag)))) (af (aK (i:=4) lx.nd rfl (Or.inl rfl) (bx ag)) (af (aK (i:=5) lx.nd rfl (Or.inl rfl) ai) (af (Mp PassesOwn.never (ar qz (pv 5) (aJ (aE.or aF) rfl T.bO bM (aa (pv 0) ag)) (az _)) (af (aK (i:=6) lx.nd rfl (Or.inl rfl) (pv 5)) (af (Mp PassesOwn.never (bN (PW.pt (cJ (ar qz (pv 6) (aJ (aE.or aF) rfl T.bO bM (aa (pv 0) ag)) (az _)) (cJ (ar (cW.or cV) (aC av (aC av (pv 0) (pv 6) (fun _ _=>rfl)) ai (fun _ _=>rfl)) ax rfl) (dy (bh (aC av (pv 3) (pv 6) (fun _ _=>rfl)))))))) (aj (aK (i:=6) lx.nd rfl (Or.inl rfl) (aI (bP.or (aM.or bR)) (pv 6) ai)))) (af (nh (aO (bN (PW.pt (cJ (ar aaC (pv 6) (pv 5) (az _)) (dy (cF (bh (aD agA (hr.mono (by decide)) rfl T.aeK T.EX.kp T.RA .nil aP (aa (pv 0) (aa (pv 2) (aa (pv 5) (aa (pv 6) ag))))))))))) (aj (bc (jr plainAttrs_list slot_list_append type_list_append bK (pv 4) (aa (b8 (aa (pv 5) (aa (pv 6) ag))) ag)))) aB)) (aj (aK (i:=5) lx.nd rfl (Or.inl rfl) (aJ (abw rfl) rfl T.aiG ah8 (aa (pv 6) (aa (aI (bP.or (aM.or bR)) (pv 5) ai) ag))))))))) (aj (aw (b8 (aa (pv 2) (aa (pv 4) ag)))))))))) ?_;tm_up;refine⟨l,b,xs,ss,rfl,hMs,aX.of hS,hg,hn,fun f H1 s1 n1 h1=>?_⟩;tm_up;refine⟨l,b,xs,ss,rfl,aX.of (s1 _ _ hS),hg.same s1,hn,fun th H2 s2 n2 h2=>?_⟩;refine⟨big (by show 0<=1000;omega),fun lo hlo=>?_⟩;have s3:=s2.trans (aq.upd (o:=.lst []) hlo);have aeV:H lo=none:=s1.free (s2.free hlo);have nfl:f≠lo:=ao (s2 _ _ h1) hlo;have ntl:th≠lo:=ao h2 hlo;have ntf:th≠f:=fun e=>by rw[e,h1]at n2;cases n2
  have nlf:l≠f:=ao hS n1;have bl:(jt b (bB ss)).length=ss.length:=by rw[vo,length_map]
  have cnt:(xW b (bB ss)).length<=401:=by
   have:=pA (kj b (bB ss)) 0 0;rw[rD,length_map]at this;exact Nat.le_trans this (by omega)
  tm_up;refine⟨fun mm σ H'=>∃(low:Nat)(v:Option V)(c:RdS)(ys:List V),mm=ss.length-low/\low<=ss.length/\σ=[some (.ref l),some (.int b),some (.ref f),some (.ref th),some (.ref lo),some (.int (low:Int)),v]/\aq H H'/\H' f=some (.lst (c.1.map V.int))/\H' lo=some (.lst ys)/\Xv H' ys c.2/\H' th=some (.lst ((kH b (bB ss)).map V.bl))/\c.1.length=ss.length/\c.2.length+(fL low low ((kj b (bB ss)).drop low)).length<=401/\(fL low low ((kj b (bB ss)).drop low)).foldl (uL (bB ss)) c=lg b (bB ss),
   ⟨_,0,none,(jt b (bB ss),[]),[],rfl,Nat.zero_le _,rfl,s1.trans s3,s3 _ _ h1,ae,.nil,by rw[ak ntl];exact h2,bl,by show 0+(xW b (bB ss)).length<=401;omega,rfl⟩,?_⟩
  rintro mm σ H' ⟨low,v,c,ys,rfl,hlow,rfl,s4,hf4,Ys,hys,hth,hcl,ak1,uj⟩;have hl4:=s4 _ _ hS;have hg4:=hg.same s4;tm_up;refine .inl ⟨_,_,rfl,.inl (aX.of hl4),?_⟩;rw[bS hg];tm_up;refine aY (fun h=>?_) (fun h=>?_)
  ·have hlt:low<ss.length:=by have:=of_decide_eq_true h;omega
   refine⟨fun σ' LJ=>∃ m',m'<ss.length-low/\∃(low:Nat)(v:Option V)(c:RdS)(ys:List V),m'=ss.length-low/\low<=ss.length/\σ'=[some (.ref l),some (.int b),some (.ref f),some (.ref th),some (.ref lo),some (.int (low:Int)),v]/\aq H LJ/\LJ f=some (.lst (c.1.map V.int))/\LJ lo=some (.lst ys)/\Xv LJ ys c.2/\LJ th=some (.lst ((kH b (bB ss)).map V.bl))/\c.1.length=ss.length/\c.2.length+(fL low low ((kj b (bB ss)).drop low)).length<=401/\(fL low low ((kj b (bB ss)).drop low)).foldl (uL (bB ss)) c=lg b (bB ss),fun _ _ h=>h,?_⟩;generalize hn':lead ((kj b (bB ss)).drop low)=n;have hnle:n<=ss.length-low:=by
    have:=aaS ((kj b (bB ss)).drop low);rw[length_drop,rD,length_map,hn']at this;exact this
   tm_up;refine⟨fun mm σ LJ=>∃ j:Nat,mm=n-j/\j<=n/\σ=[some (.ref l),some (.int b),some (.ref f),some (.ref th),some (.ref lo),some (.int (low:Int)),some (.int ((low+j:Nat):Int))]/\LJ=H',⟨n,0,rfl,Nat.zero_le _,rfl,rfl⟩,?_⟩;rintro mm σ LJ ⟨j,rfl,hj,rfl,rfl⟩;have hla:=aaU ((kj b (bB ss)).drop low) j (by rw[hn'];exact hj);rw[hn',aiv]at hla;refine kh (decide (j<n)) ?_ ?_
   ·tm_up;refine .inl ⟨_,_,rfl,.inl (aX.of hl4),?_⟩;rw[bS hg];tm_up;refine aY (fun h=>?_) (fun h=>?_)
    ·have hjl:low+j<ss.length:=by have:=of_decide_eq_true h;omega
     have hk:(bB ss)[low+j]? = some (ss[low+j]).1:=yw (getElem?_eq_getElem hjl);obtain⟨tb,ht1,ht2⟩:=aaT hMs (bB ss) (low+j) _ hk;rw[ht2]at hla;tm_up;refine Pj (aX.of hl4) hg4 (n:=low+j) rfl (getElem?_eq_getElem hjl) fun p hp=>?_;tm_up;refine aY (fun h=>?_) (fun h=>?_)
     ·have h':(ss[low+j]).1.small=true:=by rw[<-FA];exact h
      rw[h',Bool.true_and]at hla;tm_up;refine Rc (aX.of hth) (n:=low+j) rfl (yw ht1) ?_;tm_up;refine fJ ?_;cases tb with
      |true=>exact(decide_eq_true (hla.mpr rfl)).symm
      |false=>exact(decide_eq_false (fun z=>by have:=hla.mp z;cases this)).symm
     ·have h':(ss[low+j]).1.small=false:=by rw[<-FA];exact Bool.eq_false_iff.mpr h
      rw[h',Bool.false_and]at hla;exact fJ (decide_eq_false (fun z=>by have:=hla.mp z;cases this)).symm
    ·have hjl:¬ low+j<ss.length:=fun z=>h (decide_eq_true (by omega));exact fJ (decide_eq_false (by omega)).symm
   refine aY (fun h=>?_) (fun h=>?_)
   ·have hjn:=of_decide_eq_true h;refine⟨fun σ' Hx=>∃ m',m'<n-j/\∃ j:Nat,m'=n-j/\j<=n/\σ'=[some (.ref l),some (.int b),some (.ref f),some (.ref th),some (.ref lo),some (.int (low:Int)),some (.int ((low+j:Nat):Int))]/\Hx=LJ,fun _ _ h=>h,?_⟩;tm_up;exact⟨n-(j+1),by omega,j+1,rfl,by omega,rfl,rfl⟩
   ·have hjn:j=n:=by
     have:¬ j<n:=fun z=>h (decide_eq_true z);omega
    subst hjn;have hrf:=MI ((kj b (bB ss)).drop low) low low (by rw[hn'];omega) (Nat.le_refl _);rw[hn',List.drop_drop]at hrf;refine⟨fun σ1 H1=>σ1=[some (.ref l),some (.int b),some (.ref f),some (.ref th),some (.ref lo),some (.int (low:Int)),some (.int ((low+j:Nat):Int))]/\∃(c:RdS)(ys:List V),aq H H1/\H1 f=some (.lst (c.1.map V.int))/\H1 lo=some (.lst ys)/\Xv H1 ys c.2/\H1 th=some (.lst ((kH b (bB ss)).map V.bl))/\c.1.length=ss.length/\c.2.length+(fL (low+j) (low+j) ((kj b (bB ss)).drop (low+j))).length<=401/\(fL (low+j) (low+j) ((kj b (bB ss)).drop (low+j))).foldl (uL (bB ss)) c=lg b (bB ss),?_,?_⟩
    ·by_cases hj0:j=0
     ·subst hj0;refine kh false ?_ ?_
      ·tm_up;rw[decide_eq_false (show ¬((low:Int)<((low+0:Nat):Int)) by omega)];exact fJ rfl
      ·exact bF ⟨rfl,c,ys,s4,hf4,Ys,hys,hth,hcl,ak1,uj⟩
     ·have hlt2:low<low+j:=by omega
      rw[if_pos hlt2,List.singleton_append]at hrf;rw[hrf,List.foldl_cons]at uj;rw[hrf,length_cons]at ak1;have s5:aq H (upd LJ f (.lst ((settle (bB ss) c.1 low (low+j)).2.map V.int))):=eF s4 n1;have VZ:upd LJ f (.lst ((settle (bB ss) c.1 low (low+j)).2.map V.int)) lo=some (.lst ys):=by rw[ak nfl.symm];exact Ys
      have ak2:upd LJ f (.lst ((settle (bB ss) c.1 low (low+j)).2.map V.int)) th=some (.lst ((kH b (bB ss)).map V.bl)):=by rw[ak ntf];exact hth
      have ak3:(settle (bB ss) c.1 low (low+j)).2.length=ss.length:=by rw[Bo];exact hcl
      refine⟨fun bb H3=>bb = !(settle (bB ss) c.1 low (low+j)).1/\H3=upd LJ f (.lst ((settle (bB ss) c.1 low (low+j)).2.map V.int)),?_,?_⟩
      ·tm_up;rw[decide_eq_true (show((low:Int)<((low+j:Nat):Int)) by omega)];refine cX ?_;tm_up;refine⟨l,f,low,low+j,xs,ss,c.1,rfl,aX.of hl4,hg4,nlf,hf4,hcl,hlt2,by omega,?_⟩;tm_up;exact⟨rfl,rfl⟩
      ·rintro bb H3 ⟨rfl,rfl⟩;refine aY (fun h=>?_) (fun h=>?_)
       ·have hst:(settle (bB ss) c.1 low (low+j)).1=false:=by
         cases e:(settle (bB ss) c.1 low (low+j)).1
         ·rfl
         ·rw[e]at h;cases h
        tm_up;refine⟨.inl ⟨rfl,_,aX.of VZ⟩,?_⟩;tm_up;refine⟨by show 2<=sizeLine;decide,fun z hz=>?_⟩;have sz:=aq.upd (o:=.tup [.int (low:Int),.int ((low+j:Nat):Int)]) hz;have ach:=sz _ _ VZ;refine⟨_,_,_,rfl,rfl,ach,by rw[bS hys];exact aW (by omega),?_⟩;refine⟨rfl,((settle (bB ss) c.1 low (low+j)).2,c.2++[(low,low+j)]),_,eF (s5.trans sz) aeV,by rw[ak nfl];exact sz _ _ ae,ae,j6 (rE ach (tf sz (rE hf4 hys))) (Vp ach ⟨z,rfl,ae⟩),
         by rw[ak ntl];exact sz _ _ ak2,ak3,by simp only [length_append,List.length_singleton];omega,?_⟩
        rw[<-uj];unfold uL;rw[hst];rfl
       ·have hst:(settle (bB ss) c.1 low (low+j)).1=true:=by
         cases e:(settle (bB ss) c.1 low (low+j)).1
         ·rw[e]at h;exact absurd rfl h
         ·rfl
        refine⟨rfl,((settle (bB ss) c.1 low (low+j)).2,c.2),ys,s5,ae,VZ,rE hf4 hys,ak2,ak3,by show c.2.length+_<=401;omega,?_⟩;rw[<-uj];unfold uL;rw[hst];rfl
    ·rintro σ1 H1 ⟨rfl,c',ys',s6,hf6,ach,ak4,ak5,ak6,abf,RU⟩;tm_up;refine⟨_,_,rfl,?_⟩
     by_cases hj0:j=0
     ·subst hj0;have hbl:(kj b (bB ss))[low]? = some false:=by
       have h1:low<(kj b (bB ss)).length:=by rw[rD,length_map];exact hlt
       have h2:¬(kj b (bB ss))[low+0]? = some true:=fun z=>Nat.lt_irrefl _ (hla.mpr z);rw[Nat.add_zero,getElem?_eq_getElem h1]at h2;rw[getElem?_eq_getElem h1];cases e:(kj b (bB ss))[low]
       ·rfl
       ·rw[e]at h2;exact absurd rfl h2
      rw[Nat.add_zero,qH hbl]at RU abf;have er:fL low low (false::(kj b (bB ss)).drop (low+1))=fL (low+1) (low+1) ((kj b (bB ss)).drop (low+1)):=by
       show(if low<low then [(low,low)] else [])++fL (low+1) (low+1) ((kj b (bB ss)).drop (low+1))=_;rw[if_neg (Nat.lt_irrefl _),nil_append]
      rw[er]at RU abf;have em:(if(low:Int)+1 > ((low+0:Nat):Int) then(low:Int)+1 else((low+0:Nat):Int))=((low+1:Nat):Int):=by rw[if_pos (by omega)];rfl
      rw[em];exact⟨ss.length-(low+1),by omega,low+1,_,c',ys',rfl,by omega,rfl,s6,hf6,ach,ak4,ak5,ak6,abf,RU⟩
     ·have em:(if(low:Int)+1 > ((low+j:Nat):Int) then(low:Int)+1 else((low+j:Nat):Int))=((low+j:Nat):Int):=by
       split <;> omega
      rw[em];exact⟨ss.length-(low+j),by omega,low+j,_,c',ys',rfl,by omega,rfl,s6,hf6,ach,ak4,ak5,ak6,abf,RU⟩
  ·have hlt:low=ss.length:=by
    have:¬ low<ss.length:=fun z=>h (decide_eq_true (by omega));omega
   subst hlt;rw[List.drop_eq_nil_of_le (by rw[rD,length_map];exact Nat.le_refl _)]at uj;have e:c=lg b (bB ss):=by
    have:fL ss.length ss.length []=[]:=by unfold fL;rw[if_neg (Nat.lt_irrefl _)]
    rw[this]at uj;exact uj
   subst e;tm_up;refine⟨by show 2<=sizeLine;decide,fun z hz=>?_⟩;have sz:=aq.upd (o:=.tup [.ref f,.ref lo]) hz;exact q z f lo ys _ (s4.trans sz) n1 aeV nfl ae (sz _ _ hf4) (sz _ _ Ys) (tf sz hys)
inductive FC (K:Frag)(vs:List V)(H:Hp)(Q:VK)(E:XK):Prop
 |mk (d:Addr) (vw:Vw) (n:Str) (th:Th) (eO:vs=[.ref d,.str n]) (eP:uO H d vw) (hX:yj vw) (kC:bf vw n=some th) (rq:∀(l:Addr)(H':Hp),aq H H'->H' l=some (.lst ((xX vw n).map V.int))->Q (.ref l) H'):FC K vs H Q E
theorem RV (T:Txt K w mg t):bA P w K mg base k9 (0+3) t.jF t.yQ ["_law_voices","_law_name"] (FC K):=by
 have zh:=Fz (P:=P) (base:=base) T;have V2:=acf (P:=P) (base:=base) T;refine T.pM.ok wC (fun vs H Q E h=>?_) (fun cdv A outer s H vs Q E hr h=>?_)
 ·obtain⟨_,_,_,_,rfl,_⟩:=h;rfl
 ·obtain⟨d,vw,n,th,rfl,hd,wv,hf,q⟩:=h;refine aS (af (aK (i:=2) wC.nd rfl (Or.inr rfl) (jc (j5 hr) (pv 0) (pv 1) (fun _ _=>rfl))) (af (aK (i:=3) wC.nd rfl (Or.inl rfl) (aD zh (hr.mono (by decide)) rfl T.EW T.lD.kp T.tY .nil aP (aa (pv 0) (aa (pv 1) ag)))) (af (aO (bh (aJ d9 rfl T.bu br (aa (pv 2) (aa (gK (v:=.ty "list") rfl T.iy ia rfl) ag)))) (aj (aw (aC av (aD V2 (hr.mono (by decide)) rfl T.QA T.vQ.kp T.EY .nil aP (aa (pv 3) (aa ai ag))) ai (fun _ _=>rfl)))) aB) (aj (aw (qF (cn:=["_law_worth"]) rfl (fV.of rfl) (gL (aC av (aD V2 (hr.mono (by decide)) rfl T.QA T.vQ.kp T.EY .nil aP (aa (pv 3) (aa (cK (d8 (bh (aC av (pv 2) ai (fun _ _=>rfl))) ai ai)) ag))) ai (fun _ _=>rfl))) (fun _=>(aU (i:=0) M5 rfl (Or.inl rfl))) (fun _=>yq) (fun _=>(aI (nc.or ng) (aC av (pv 3) ai (fun _ _=>rfl)) (pv 0))))))))) ?_;obtain⟨v,hg,hv⟩:=hd.get hf;refine⟨_,rfl,_,rfl,d,v,rfl,hg,?_⟩;refine⟨_,rfl,_,rfl,d,vw,n,th,rfl,hd,wv,hf,fun l ys H1 s1 h1 g1=>?_⟩;cases th with
  |pl ss =>
   obtain⟨l0,ys0,rfl,h0,_⟩:=hv;have gl:=(wv.gd _ _ (dj hf)).1;rw[yy hf]at g1;tm_up;refine⟨_,_,_,_,rfl,iV.lst (s1 _ _ h0),rfl,_,rfl,cX ?_⟩;refine⟨_,rfl,l,3,ys,ss,rfl,.inl rfl,h1,g1,by omega,fun p f lo zs H2 s2 _ _ _ hp hf2 _ _=>ix0 hp ?_⟩;exact q f H2 (s1.trans s2) (by rw[MQ hf];exact hf2)
  |cn ld lt sl tn =>
   obtain⟨p,rfl,hp⟩:=hv;obtain⟨⟨ss,Pc⟩,lt0,lt1,sl0,sl1⟩:=wv.ld n ld lt sl tn (dj hf);have hfl:=wv.find Pc;have gl:=(wv.gd _ _ Pc).1;rw[yz hf hfl]at g1;rw[MR hf hfl]at q;have gl2:(if tn=true then ss.map tF else ss).length<=400:=by
    split
    ·rw[length_map];omega
    ·omega
   tm_up;refine⟨_,_,_,_,rfl,iV.tup (s1 _ _ hp),rfl,_,rfl,bF ?_⟩;refine⟨_,rfl,?_⟩;refine⟨fun v H'=>v=.int (if tn=true then 2 else 3)/\H'=H1,?_,?_⟩
   ·refine⟨_,rfl,RO (i:=3) (s1 _ _ hp) rfl ⟨_,rfl,?_⟩⟩;cases tn with
    |true=>exact cX ⟨rfl,rfl⟩
    |false=>exact bF ⟨rfl,rfl⟩
   intro v0 H0 ⟨e1,e2⟩;rw[e1,e2];have hMs:Ms (if tn=true then 2 else 3):=by cases tn;exact .inl rfl;exact .inr rfl
   refine⟨l,_,ys,_,rfl,hMs,h1,g1,gl2,fun p2 f lo zs H2 s2 _ _ _ hp2 hf2 _ _=>ix0 hp2 ?_⟩;generalize hW:(lg (if tn=true then 2 else 3) (bB (if tn=true then ss.map tF else ss))).1=W at q hf2;have hWl:W.length<=400:=by rw[<-hW,Ay,length_map];exact gl2
   refine⟨f,rfl,⟨_,aX.of hf2⟩,fun D' b' hD'=>?_⟩;have hpD:=s2 _ _ (s1 _ _ hp);refine jP (K:=K) (xs:=W.map V.int) (fun i ys' σ H'=>∃ v,σ=[v,some (.ref d),some (.str n),some (.ref p),some (.ref l)]/\H'=upd H2 D' (.lst ys')/\ys'=((W.take i).map fun w=>sl * w).map V.int) ⟨none,rfl,rfl,by simp⟩ ?_ ?_ ?_
   ·rintro i ys σ H' ⟨v,rfl,rfl,_⟩;exact jO (aX.of hf2) hD'
   ·rintro i ys' y σ H' hy ⟨v,rfl,rfl,rfl⟩ N hN;obtain⟨z,hz,rfl⟩:=Rb hy;have hi:i<W.length:=(List.getElem?_eq_some_iff.mp hz).1;refine kG ?_;refine⟨_,rfl,RO (i:=2) (by rw[ak (ao hpD hD')];exact hpD) rfl ?_⟩;refine⟨_,rfl,.inl ⟨_,_,rfl,rfl,.inl ⟨by omega,by omega⟩,ae,?_,?_⟩⟩
    ·rw[length_map,length_map,length_take];exact aW (by omega)
    ·refine hN _ _ _ ⟨_,rfl,dS,?_⟩;rw[take_succ,hz,map_append,map_append];rfl
   ·rintro ys' σ H' ⟨v,rfl,rfl,rfl⟩;rw[length_map,take_length];exact q D' _ ((s1.trans s2).trans (aq.upd hD')) ae
theorem abg {K:Frag}{H:Hp}{a b:Addr}{ys:List V}(ha:aX K H a ys)(hb:aX K H b ys)(hf:∀ v∈ys,∃ x,v=.str x):Deq K H 60 (.ref a) (.ref b):=by
 refine .lst ha hb rfl fun i x y e1 e2=>?_;have e:x=y:=Option.some.inj (e1.symm.trans e2);subst e;obtain⟨z,rfl⟩:=hf x (mem_of_getElem? e1);exact .flat rfl
theorem ak7 {K:Frag}{H:Hp}{p p2:Addr}{ld:Str}{lt sl:Int}{tn:Bool}(n:Nat)(h1:H p=some (.tup [.str ld,.int lt,.int sl,.bl tn]))(h2:H p2=some (.tup [.str ld,.int lt,.int sl,.bl tn])):Deq K H (n+1) (.ref p) (.ref p2):=by
 refine .tup (uG.of h1) (uG.of h2) rfl fun i x y e1 e2=>?_;have e:x=y:=Option.some.inj (e1.symm.trans e2);subst e
 match i,e1 with
 |0,e1=>cases e1;exact .flat rfl
 |1,e1=>cases e1;exact .flat rfl
 |2,e1=>cases e1;exact .flat rfl
 |3,e1=>cases e1;exact .flat rfl
 |n+4,e1=>simp at e1
theorem ae1 {vw:Vw}(w:yj vw)(n:Str):(xX vw n).length<=400:=by
 cases hf:bf vw n with
 |none=>unfold xX;rw[hf];exact Nat.zero_le _
 |some th =>
  cases th with
  |pl ss =>
   rw[MQ hf,Ay,length_map];have:=(w.gd _ _ (dj hf)).1;omega
  |cn ld lt sl tn =>
   obtain⟨⟨ss,Pc⟩,_⟩:=w.ld n ld lt sl tn (dj hf);rw[MR hf (w.find Pc),length_map,Ay,length_map];have:=(w.gd _ _ Pc).1;split
   ·rw[length_map];omega
   ·omega
theorem ae2 {vw:Vw}(w:yj vw)(n:Str):(Ed vw n).length<=200:=by
 cases hf:bf vw n with
 |none=>unfold Ed;rw[hf];exact Nat.zero_le _
 |some th =>
  cases th with
  |pl ss =>
   rw[yy hf];exact(w.gd _ _ (dj hf)).1
  |cn ld lt sl tn =>
   obtain⟨⟨ss,Pc⟩,_⟩:=w.ld n ld lt sl tn (dj hf);rw[yz hf (w.find Pc)];have:=(w.gd _ _ Pc).1;split
   ·rw[length_map];exact this
   ·exact this
inductive Lk (K:Frag)(c:Cs)(vs:List V)(H:Hp)(Q:VK)(E:XK):Prop
 |mk (x d:Addr) (F:Addr->Prop) (vw:Vw) (ps fs:List Vw) (eO:vs=[.ref x,.ref d]) (eP:yx c H x F vw ps fs) (hX:uO H d vw) (kC:∀ H',aq H H'->Q (.bl true) H'):Lk K c vs H Q E
theorem V3 (T:Txt K w mg t):bA P w K mg base k9 (0+8) t.kP t.BG ["_law_book","_law_voices"] (Lk K (cs t)):=by
 have j0:=uS (P:=P) (base:=base) T;have iC:=pb (P:=P) (base:=base) T;have aci:=Yq (P:=P) (base:=base) T;have ae3:=ab9 (P:=P) (base:=base) T;have Ll:=RT (P:=P) (base:=base) T;have pO:=Fw (P:=P) (base:=base) T;have zh:=Fz (P:=P) (base:=base) T;have V4:=RV (P:=P) (base:=base) T;have rk:=BU (P:=P) (base:=base) T;refine T.jJ.ok tI (fun vs H Q E h=>?_) (fun cdv A outer s H vs Q E hr h=>?_)
 ·obtain⟨_,_,_,_,_,_,rfl,_⟩:=h;rfl
 ·obtain⟨x,d,F,vw,ps,fs,rfl,B,hd,q⟩:=h;refine aS (af (aK (i:=2) tI.nd rfl (Or.inl rfl) (lI (pv 0) T.aN T.o6 j0 (hr.mono (by decide)) T.jU .nil aP)) (af (aO (bN (PW.pt (j4 (cF (bh (aJ d9 rfl T.bu br (aa (pv 2) (aa (gK (v:=.ty "list") rfl T.iy ia rfl) ag))))) (h9 (ar (rp.or (kE (aA hr))) (pv 2) (fM wo rfl T.iy ia (aa (pv 1) ag)) (az _)))))) (aj (aw fK)) aB) (af (bc (Q3 plainAttrs_list PySem.F.slot_list_reverse PySem.F.type_list_reverse Xk (pv 2))) (af (bc (jr plainAttrs_list slot_list_append type_list_append bK (pv 2) (aa ax ag))) (af (aO (ar (rp.or (kE (aA hr))) (lI (pv 0) T.aN T.o6 j0 (hr.mono (by decide)) T.jU .nil aP) (fM wo rfl T.iy ia (aa (pv 1) ag)) (az _)) (aj (aw fK)) aB) (af (gR PassesOwn.never rfl (gL (fM wo rfl T.iy ia (aa (pv 1) ag))) (aU (i:=3) tI.nd rfl (Or.inl rfl)) (af (bc (jr plainAttrs_list slot_list_append type_list_append bK (kq (pv 0) T.aN T.EV Ll (hr.mono (by decide)) T.tX .nil MB (aa (pv 3) ag)) (aa ai ag))) (af (bc (jr plainAttrs_list slot_list_append type_list_append bK (kq (pv 0) T.aN T.me pO (hr.mono (by decide)) T.jI .nil MB (aa (pv 3) ag)) (aa (b8 (aa ax (aa ai ag))) ag))) (af (aO (cF (bh (aD aci (hr.mono (by decide)) rfl T.X4 T.vL.kp T.HR .nil aP (aa (kq (pv 0) T.aN T.me pO (hr.mono (by decide)) T.jI .nil MB (aa (pv 3) ag)) (aa (aD zh (hr.mono (by decide)) rfl T.EW T.lD.kp T.tY .nil aP (aa (pv 1) (aa (pv 3) ag))) ag))))) (aj (aw fK)) aB) (af (aO (cF (bh (aD ae3 (hr.mono (by decide)) rfl T.abZ T.yY.kp T.Nj .nil aP (aa (kq (pv 0) T.aN T.EV Ll (hr.mono (by decide)) T.tX .nil MB (aa (pv 3) ag)) (aa (aD V4 (hr.mono (by decide)) rfl T.RB T.pM.kp T.y8 .nil aP (aa (pv 1) (aa (pv 3) ag))) ag))))) (aj (aw fK)) aB) (af (aK (i:=4) tI.nd rfl (Or.inl rfl) (kq (pv 0) T.aN T.o9 iC (hr.mono (by decide)) T.jY .nil MB (aa (pv 3) ag))) (aj (aO (bh (aJ d9 rfl T.bu br (aa (jc (j5 hr) (pv 1) (pv 3) (fun _ _=>rfl)) (aa (gK (v:=.ty "list") rfl T.iy ia rfl) ag)))) (aj (aO (ar QW (pv 4) jq (az _)) (aj (aw fK)) aB)) (aj (aO (bN (PW.pt (j4 (cF (bh (aJ d9 rfl T.bu br (aa (pv 4) (aa (gK (v:=.ty "tuple") rfl T.Nm Mx rfl) ag))))) (j4 (ar (rp.or (kE (aA hr))) (aJ (aE.or aF) rfl T.bO bM (aa (pv 4) ag)) ai (az _)) (h9 (ar (rp.or (kE (aA hr))) (pv 4) (jc (j5 hr) (pv 1) (pv 3) (fun _ _=>rfl)) (az _))))))) (aj (aw fK)) (aj (aO (bN (PW.pt (j4 (cF (bh (aD rk (hr.mono (by decide)) rfl T.wN T.lC.kp T.rj .nil aP (aa (aC av (pv 4) ai (fun _ _=>rfl)) ag)))) (j4 (cF (bh (aD rk (hr.mono (by decide)) rfl T.wN T.lC.kp T.rj .nil aP (aa (aC av (pv 4) ai (fun _ _=>rfl)) ag)))) (h9 (cF (bh (aJ d9 rfl T.bu br (aa (aC av (pv 4) ai (fun _ _=>rfl)) (aa (gK (v:=.ty "bool") rfl T.aa4 aaP rfl) ag)))))))))) (aj (aw fK)) aB)))))))))))) (aj (aw fK)))))))) ?_;have wv:=B.wv vw (.inr (.inl rfl));have hx:∃ dx L D U,H x=some (.ins t.ba dx (Br L D U)):=by
   obtain⟨L,D,U,all,M,Ps,Fs,es,us,b,_⟩:=B.ex;obtain⟨dx,e⟩:=b.hx;exact⟨dx,L,D,U,e⟩
  obtain⟨dx,L,D,U,hx⟩:=hx;have wl:=wv.len;have hstr:∀ v∈vw.map (fun q=>V.str q.1),∃ z,v=.str z:=fun v hv=>by
   obtain⟨q,_,e⟩:=mem_map.mp hv;exact⟨_,e.symm⟩
  refine⟨_,rfl,x,dx,_,rfl,hx,qI _ _ _,x,F,vw,ps,fs,rfl,B,fun l1 H1 nl1 s1 h1=>?_⟩;obtain⟨kvs,hk,ek⟩:=hd.keys;refine⟨fun b H'=>b=false/\aq H1 H',?_,?_⟩
  ·tm_up;refine⟨_,_,_,_,rfl,iV.lst h1,rfl,_,rfl,bF ?_⟩;refine⟨_,rfl,_,rfl,rfl,d,kvs,rfl,.inl (s1 _ _ hk),fun l2 hl2=>?_⟩;have s2:=aq.upd (o:=.lst (kvs.map fun kv=>kV kv.1)) hl2;have h2:=ae (H:=H1) (a:=l2) (o:=.lst (kvs.map fun kv=>kV kv.1));rw[ek]at s2 h2 ⊢;refine .inr ⟨l1,l2,rfl,rfl,abg (aX.of (s2 _ _ h1)) (aX.of h2) hstr,?_⟩;exact⟨_,rfl,rfl,s2⟩
  rintro b H2 ⟨rfl,s2⟩;refine bF ?_;have h12:=s2 _ _ h1;refine⟨_,rfl,.inl ⟨rfl,_,aX.of h12⟩,l1,_,rfl,rfl,h12,?_⟩;have s3:aq H (upd H2 l1 (.lst (vw.map fun a=>V.str a.1).reverse)):=eF (s1.trans s2) nl1;have h3:=ae (H:=H2) (a:=l1) (o:=.lst (vw.map fun a=>V.str a.1).reverse);generalize upd H2 l1 (.lst (vw.map fun a=>V.str a.1).reverse)=H3 at s3 h3;refine⟨_,rfl,.inl ⟨rfl,_,aX.of h3⟩,l1,_,_,rfl,rfl,h3,aW (by rw[length_reverse,length_map];omega),?_⟩;have s4:aq H (upd H3 l1 (.lst ((vw.map fun a=>V.str a.1).reverse++[V.str "x"]))):=eF s3 nl1;generalize upd H3 l1 (.lst ((vw.map fun a=>V.str a.1).reverse++[V.str "x"]))=H4 at s4;refine⟨_,rfl,x,dx,_,rfl,s4 _ _ hx,qI _ _ _,x,F,vw,ps,fs,rfl,B.same s4,fun l5 H5 nl5 s5 h5=>?_⟩;refine⟨_,rfl,rfl,d,kvs,rfl,.inl (s5 _ _ (s4 _ _ hk)),fun l6 hl6=>?_⟩;have s6:=aq.upd (o:=.lst (kvs.map fun kv=>kV kv.1)) hl6;have h6:=ae (H:=H5) (a:=l6) (o:=.lst (kvs.map fun kv=>kV kv.1));rw[ek]at s6 h6 ⊢;refine .inr ⟨l5,l6,rfl,rfl,abg (aX.of (s6 _ _ h5)) (aX.of h6) hstr,?_⟩;refine⟨_,rfl,bF ?_⟩;have S6:=(s4.trans s5).trans s6;generalize upd H5 l6 (.lst (vw.map fun q=>V.str q.1))=H6 at S6;refine⟨_,rfl,rfl,d,kvs,rfl,.inl (S6 _ _ hk),fun l7 hl7=>?_⟩;have s7:=aq.upd (o:=.lst (kvs.map fun kv=>kV kv.1)) hl7;have h7:=ae (H:=H6) (a:=l7) (o:=.lst (kvs.map fun kv=>kV kv.1));rw[ek]at s7 h7 ⊢;have S7:=S6.trans s7;generalize upd H6 l7 (.lst (vw.map fun q=>V.str q.1))=H7 at S7 h7;refine⟨l7,rfl,⟨_,aX.of h7⟩,rm (K:=K) (xs:=vw.map fun q=>V.str q.1) (fun i σ H'=>∃(u v:Option V),σ=[some (.ref x),some (.ref d),some (.ref l1),u,v]/\aq H7 H') ⟨none,none,rfl,aq.refl _⟩ ?_ ?_ ?_⟩
  ·rintro i σ H' _ ⟨u,v,rfl,s8⟩;exact aX.of (s8 _ _ h7)
  ·rintro i y σ H8 hy ⟨u,v,rfl,s8⟩;obtain⟨qn,hq,rfl⟩:∃ qn,vw[i]? = some qn/\y=.str qn.1:=by
    rw[getElem?_map]at hy;cases e:vw[i]? with
    |none=>rw[e]at hy;cases hy
    |some z=>rw[e]at hy;exact⟨z,rfl,(Option.some.inj hy).symm⟩
   obtain⟨n,th⟩:=qn;have hf:=wv.find (mem_of_getElem? hq);have kl:=ae1 wv n;have ll:=ae2 wv n;have S8:=S7.trans s8;have B8:=B.same S8;have hd8:=hd.same S8;refine⟨_,rfl,x,dx,_,rfl,S8 _ _ hx,K3 _ _ _,_,rfl,x,F,vw,ps,fs,n,rfl,B8,?_⟩;rw[hf];intro k1 H9 nk1 s9 hk1;refine⟨.inl ⟨rfl,_,aX.of hk1⟩,k1,_,_,rfl,rfl,hk1,aW (by rw[length_map];omega),?_⟩;have s10:aq H8 (upd H9 k1 (.lst ((xX vw n).map V.int++[V.int 7]))):=eF s9 nk1;generalize upd H9 k1 (.lst ((xX vw n).map V.int++[V.int 7]))=H10 at s10;have B10:=B8.same s10;refine⟨_,rfl,x,dx,_,rfl,s10 _ _ (S8 _ _ hx),pB _ _ _,_,rfl,x,F,vw,ps,fs,n,rfl,B10,?_⟩;rw[hf];intro l11 ak8 H11 ani s11 h11 g11;have y11:=bS g11;refine⟨.inl ⟨rfl,_,aX.of h11⟩,(by show 2<=sizeLine;decide),fun tp htp=>?_⟩;have st:=aq.upd (o:=.tup [V.str "R",V.int 0]) htp;refine⟨l11,_,_,rfl,rfl,st _ _ h11,aW (by omega),?_⟩;have s12:aq H10 (upd (upd H11 tp (.tup [V.str "R",V.int 0])) l11 (.lst (ak8++[.ref tp]))):=eF (s11.trans st) ani;generalize upd (upd H11 tp (.tup [V.str "R",V.int 0])) l11 (.lst (ak8++[.ref tp]))=H12 at s12;have S12:=s10.trans s12;have B12:=B8.same S12;have anj:=hd8.same S12;refine⟨_,rfl,x,dx,_,rfl,S12 _ _ (S8 _ _ hx),pB _ _ _,_,rfl,x,F,vw,ps,fs,n,rfl,B12,?_⟩;rw[hf];intro l13 ank H13 aqj s13 h13 g13;refine⟨_,rfl,_,rfl,d,vw,n,th,rfl,anj.same s13,wv,hf,fun l14 anl H14 s14 h14 g14=>?_⟩;refine⟨l13,l14,ank,anl,Ed vw n,rfl,s14 _ _ h13,aX.of h14,g13.same s14,g14,fun H15 s15=>?_⟩;refine⟨_,rfl,bF ?_⟩;have S15:=((S12.trans s13).trans s14).trans s15;have B15:=B8.same S15;refine⟨_,rfl,x,dx,_,rfl,S15 _ _ (S8 _ _ hx),K3 _ _ _,_,rfl,x,F,vw,ps,fs,n,rfl,B15,?_⟩;rw[hf];intro k16 H16 aqp s16 h16;refine⟨_,rfl,_,rfl,d,vw,n,th,rfl,(hd8.same S15).same s16,wv,hf,fun l17 H17 s17 h17=>?_⟩;refine⟨k16,l17,xX vw n,xX vw n,rfl,s17 _ _ h16,aX.of h17,by omega,?_⟩;rw[decide_eq_true rfl];refine⟨_,rfl,bF ?_⟩;have S17:=(S15.trans s16).trans s17;have B17:=B8.same S17;have anp:=hd8.same S17;have fin:∀{u v:Option V},∃(u' v':Option V),[some (V.ref x),some (V.ref d),some (V.ref l1),u,v]=[some (V.ref x),some (V.ref d),some (V.ref l1),u',v']/\aq H7 H17:=⟨_,_,rfl,s8.trans S17⟩;obtain⟨v18,ai3,ala⟩:=anp.get hf;refine⟨_,rfl,x,dx,_,rfl,S17 _ _ (S8 _ _ hx),qJ _ _ _,_,rfl,x,F,vw,ps,fs,n,rfl,B17,?_⟩;rw[hf];cases th with
   |pl ss =>
    obtain⟨l0,ys0,rfl,h0,_⟩:=ala;refine⟨_,rfl,_,rfl,d,_,rfl,ai3,?_⟩;refine⟨_,_,_,_,rfl,iV.lst h0,rfl,_,rfl,cX ?_⟩;refine⟨_,rfl,rfl,_,rfl,?_⟩;exact aY (fun h=>absurd h (by decide)) (fun _=>fin)
   |cn ld lt sl tn =>
    intro p hp;obtain⟨p2,rfl,hp2⟩:=ala;refine⟨_,rfl,_,rfl,d,_,rfl,ai3,?_⟩;refine⟨_,_,_,_,rfl,iV.tup hp2,rfl,_,rfl,bF ?_⟩;refine⟨fun b H'=>b=false/\H'=H17,?_,?_⟩
    ·tm_up;refine⟨_,_,_,_,rfl,iV.tup hp,rfl,_,rfl,bF ?_⟩;refine⟨_,rfl,.inl ⟨p,_,rfl,.inr (uG.of hp),?_⟩⟩;refine .inl ⟨rfl,_,rfl,bF ?_⟩;refine⟨_,rfl,_,rfl,_,rfl,d,_,rfl,ai3,.inr ⟨p,p2,rfl,rfl,ak7 59 hp hp2,?_⟩⟩;exact⟨_,rfl,rfl,rfl⟩
    intro b H18 ⟨e1,e2⟩;rw[e1,e2];refine bF ?_;refine⟨fun b H'=>b=false/\H'=H17,?_,?_⟩
    ·refine⟨_,rfl,RO (i:=1) hp rfl ⟨lt,rfl,_,rfl,bF ?_⟩⟩;refine⟨_,rfl,RO (i:=2) hp rfl ⟨sl,rfl,_,rfl,bF ?_⟩⟩;refine⟨_,rfl,RO (i:=3) hp rfl ?_⟩;exact⟨_,_,_,_,rfl,iV.bl _,rfl,_,rfl,rfl,rfl⟩
    intro b H18 ⟨e1,e2⟩;rw[e1,e2];refine bF ?_;exact fin
  ·rintro σ H' ⟨u,v,rfl,s8⟩;exact q _ (S7.trans s8)
theorem anq (w:Wy):inV (V.str w.str) [V.str "undo",V.str "redo"]=decide (w=.undo\/w=.qL):=by cases w <;> decide +kernel
theorem acj {xs:List V}{n:Nat}{v:V}(h:xs.length=n+1)(e:xs[n]? = some v):atI xs (-1)=some v:=by
 have:xs=xs.take n++[v]:=by
  have:=take_succ (l:=xs) (i:=n);rw[e,List.take_of_length_le (by omega)]at this;exact this
 rw[this];exact Mu _ _
theorem anr {vw:Vw}{fs:List Vw}{de:De}{a:Int}(h:de.wy=.undo):ij ⟨vw,[],fs⟩ de a=some .jv:=by
 unfold ij;rw[h];exact if_pos rfl
theorem ans {vw:Vw}{ps:List Vw}{de:De}{a:Int}(h:de.wy=.qL):ij ⟨vw,ps,[]⟩ de a=some .jv:=by
 unfold ij;rw[h];exact if_pos rfl
theorem ack {st:Std}{d:De}{a:Int}(h1:d.wy≠.undo)(h2:d.wy≠.qL):(ik st d a).ps=st.ps++[st.vw]/\(ik st d a).fs=[]:=by
 unfold ik;cases hw:d.wy with
 |undo=>exact absurd hw h1
 |qL=>exact absurd hw h2
 |_=>exact⟨rfl,rfl⟩
set_option maxHeartbeats 8000000 in
theorem ai4 (T:Txt K w mg t):bA P w K mg base k9 (0+9) t.Nf t.aeJ ["_law_script"] (MJ K):=by
 have LL:=Ia (P:=P) (base:=base) T;have acm:=Yd (P:=P) (base:=base) T;have acn:=Yf (P:=P) (base:=base) T;have vS:=BR (P:=P) (base:=base) T;have V5:=RI (P:=P) (base:=base) T;have lE:=E7 (P:=P) (base:=base) T;have za:=wU (P:=P) (base:=base) T;have ze:=Fh (P:=P) (base:=base) T;have zf:=Fj (P:=P) (base:=base) T;have Yu:=VQ (P:=P) (base:=base) T;have Im:=Yp (P:=P) (base:=base) T;have wX:=V3 (P:=P) (base:=base) T;refine T.aa3.ok lM (fun vs H Q E h=>?_) (fun cdv A outer s H vs Q E hr h=>?_)
 ·obtain⟨a,ns,rfl,_⟩:=h;rfl
 ·obtain⟨a,ns,rfl,hS,hl,q⟩:=h;have hbody:ay yB=(ay yB).getD 0 (.Pass ⟨0,0,0,0⟩)::(ay yB).getD 1 (.Pass ⟨0,0,0,0⟩)::ait ((ay yB).getD 2 (.Pass ⟨0,0,0,0⟩)) pI::(ay yB).drop 3:=by unfold pI;rfl
  rw[hbody];refine aS (af (aK (i:=1) lM.nd rfl (Or.inl rfl) (aI (bP.or (aM.or bR)) (aD acm (hr.mono (by decide)) rfl T.XY T.vE.kp T.HK .nil aP (aa (aD lE (hr.mono (by decide)) rfl T.lX T.gb.kp T.jG .nil aP (aa (pv 0) (aa ai ag))) ag)) (aD acn (hr.mono (by decide)) rfl T.XZ T.vG.kp T.HL .nil aP (aa (pv 0) (aa ai (aa (aI c7 (aD lE (hr.mono (by decide)) rfl T.lX T.gb.kp T.jG .nil aP (aa (pv 0) (aa ai ag))) ai) ag)))))) (af (aK (i:=2) lM.nd rfl (Or.inl rfl) (adv T.agp LL (hr.mono (by decide)) rfl T.ago T.pY .nil aP)) (af (aK (i:=3) lM.nd rfl (Or.inl rfl) aeI (AQ _ _ _)) (af (gR PassesOwn.never rfl (gL (qF (cn:=["_law_one"]) rfl (fV.of rfl) (gL (pv 1)) (fun _=>(aU (i:=0) aeF rfl (Or.inl rfl))) (fun _=>(adL (ar (qD.or qE) (aC av (pv 0) ai (fun _ _=>rfl)) (bx (aa ax (aa ax ag))) rfl))) (fun _=>(pv 0)))) (aU (i:=4) lM.nd rfl (Or.inl rfl)) (af (aK (i:=5) lM.nd rfl (Or.inl rfl) (aD vS (hr.mono (by decide)) rfl T.BI T.n0.kp T.vH .nil aP (aa (aC av (pv 3) ai (fun _ _=>rfl)) (aa (pv 4) ag)))) (af (aK (i:=6) lM.nd rfl (Or.inl rfl) (aD V5 (hr.mono (by decide)) rfl T.Rw T.pK.kp T.yS .nil aP (aa (pv 3) (aa (pv 4) ag)))) (af (aO (ar (rp.or (kE (aA hr))) (aC av (aD Im (hr.mono (by decide)) rfl T.BO T.oa.kp T.vK .nil aP (aa (pv 2) (aa (pv 4) (aa (pv 5) ag)))) ai (fun _ _=>rfl)) (pv 6) (az _)) (aj (aw fK)) aB) (aj (aO (ar (bg.or (aR (aA hr))) (pv 6) ax (az _)) (aj (aK (i:=3) lM.nd rfl (Or.inl rfl) (aD Yu (hr.mono (by decide)) rfl T.VD T.rZ.kp T.BK .nil aP (aa (pv 3) (aa (pv 4) ag))))) aB)))))) (af (aK (i:=7) lM.nd rfl (Or.inl rfl) (aI (bP.or (aM.or bR)) (aC av (pv 3) ai (fun _ _=>rfl)) (bx (aa (aC av (pv 3) ai (fun _ _=>rfl)) ag)))) (af (aK (i:=8) lM.nd rfl (Or.inl rfl) (aI c7 (aD lE (hr.mono (by decide)) rfl T.lX T.gb.kp T.jG .nil aP (aa (pv 0) (aa ai ag))) (aJ (aE.or aF) rfl T.bO bM (aa (pv 7) ag)))) (af (gR PassesOwn.never rfl (m9 rfl T.mf (aa (aI eW (aJ (aE.or aF) rfl T.bO bM (aa (pv 7) ag)) ai) ag)) (aU (i:=9) lM.nd rfl (Or.inl rfl)) (af (bc (lI (pv 2) T.aN T.EO ze (hr.mono (by decide)) T.tP .nil MB)) (aj (aO (bN (PW.pt (cJ (ar (bg.or (aR (aA hr))) (aI eW (aI eW (aJ (aE.or aF) rfl T.bO bM (aa (pv 7) ag)) ai) (pv 9)) (pv 8) (az _)) (dy (cF (bh (aD wX (hr.mono (by decide)) rfl T.tZ T.jJ.kp T.og .nil aP (aa (pv 2) (aa (aC av (pv 7) (pv 8) (fun _ _=>rfl)) ag))))))))) (aj (aw fK)) aB)))) (af (gR PassesOwn.never rfl (m9 rfl T.mf (aa ai ag)) (aU (i:=9) lM.nd rfl (Or.inl rfl)) (aj (aO (bN (PW.pt (j4 (ar (rp.or (kE (aA hr))) (aC av (aD Im (hr.mono (by decide)) rfl T.BO T.oa.kp T.vK .nil aP (aa (pv 2) (aa (b8 (aa ax (aa ax ag))) (aa ai ag)))) ai (fun _ _=>rfl)) ax (az _)) (h9 (cF (bh (aD wX (hr.mono (by decide)) rfl T.tZ T.jJ.kp T.og .nil aP (aa (pv 2) (aa Vk ag))))))))) (aj (aw fK)) aB))) (af (gR PassesOwn.never rfl (m9 rfl T.mf (aa (aI eW (aJ (aE.or aF) rfl T.bO bM (aa (pv 7) ag)) ai) ag)) (aU (i:=9) lM.nd rfl (Or.inl rfl)) (af (aO (bN (PW.pt (cJ (ar (bg.or (aR (aA hr))) (pv 9) (pv 8) (az _)) (dy (cF (bh (aD wX (hr.mono (by decide)) rfl T.tZ T.jJ.kp T.og .nil aP (aa (pv 2) (aa (aC av (pv 7) (pv 8) (fun _ _=>rfl)) ag))))))))) (aj (aw fK)) aB) (aj (bc (lI (pv 2) T.aN T.ER zf (hr.mono (by decide)) T.tR .nil MB))))) (af (gR PassesOwn.never rfl (m9 rfl T.mf (aa ai ag)) (aU (i:=9) lM.nd rfl (Or.inl rfl)) (aj (aO (bN (PW.pt (j4 (ar (rp.or (kE (aA hr))) (aC av (aD Im (hr.mono (by decide)) rfl T.BO T.oa.kp T.vK .nil aP (aa (pv 2) (aa (b8 (aa ax (aa ax ag))) (aa ai ag)))) ai (fun _ _=>rfl)) ax (az _)) (h9 (cF (bh (aD wX (hr.mono (by decide)) rfl T.tZ T.jJ.kp T.og .nil aP (aa (pv 2) (aa (aC av (pv 7) (A0 uH ai) (fun _ _=>rfl)) ag))))))))) (aj (aw fK)) aB))) (aj (aw fK)))))))))))) ?_;refine ie fun N hN=>?_;tm_up;refine⟨a,ns,0,rfl,hS,hl,?_⟩;tm_up;intro l1 xs1 ai5 H1 n1 s1 h1 dd1 anu;tm_up;refine⟨a,ns,1,rfl,s1.seq hS,hl,?_⟩;tm_up;obtain⟨m,hm,aqu⟩:=Pl (y9 ns 1) (k:=21) (by decide);rw[hm];refine⟨a,ns,3,m,rfl,s1.seq hS,hl,by omega,fun l2 xs2 ai6 H2 n2 s2 h2 dd2 anv=>?_⟩;have xl1:=bS dd1.1;have xl2:=bS dd2.1;refine .inr (.inr ⟨l1,l2,_,_,rfl,rfl,s2 _ _ h1,h2,big (by omega),fun l3 hl3=>?_⟩);have S3:=aq.upd (o:=.lst (xs1++xs2)) hl3;have k3:=ae (H:=H2) (a:=l3) (o:=.lst (xs1++xs2));generalize upd H2 l3 (.lst (xs1++xs2))=H3 at S3 k3;have s13:=(s1.trans s2).trans S3;have dd3:i0 H3 (xs1++xs2) (ai5++ai6):=i0.app (dd1.same (s2.trans S3)) (dd2.same S3);have anw:(ai5++ai6).length<=91:=by rw[length_append];omega
  generalize xs1++xs2=xs at k3 dd3;generalize ai5++ai6=oh at dd3 anw;refine hN _ _ ?_;clear hN N dd1 dd2 h1 h2 n1 n2 hl3 anu anv xl1 xl2;refine ie fun N hN=>?_;intro x dx nx ndx _;refine⟨x,dx,rfl,ae,fun L D U H4 kp4 nL nD nU LD LU DU hx4 hL4 hD4 hU4=>⟨rfl,?_⟩⟩;have s4:=aiA nx ndx kp4;have B4:Bw (cs t) H3 H4 x [] [] [] []:=Bw.new hx4 hL4 hD4 hU4 LD LU DU s4 (MS nL) (MS nD) (MS nU);clear kp4 nL nD nU LD LU DU hL4 hD4 hU4 s4 nx ndx hx4;refine hN _ _ ?_;clear hN N;refine ie fun N hN=>?_;rw[K8];intro dd hdd;have S5:=aq.upd (o:=.dK []) hdd;have k5:=ae (H:=H4) (a:=dd) (o:=.dK []);generalize upd H4 dd (.dK [])=H5 at S5 k5;refine⟨big (by show 0<=1000;omega),fun p1 hp1=>?_⟩;have S6:=aq.upd (o:=.lst []) hp1;have k6:=ae (H:=H5) (a:=p1) (o:=.lst []);generalize upd H5 p1 (.lst [])=H6 at S6 k6;refine⟨big (by show 0<=1000;omega),fun p2 hp2=>?_⟩;have S7:=aq.upd (o:=.lst []) hp2;have k7:=ae (H:=H6) (a:=p2) (o:=.lst []);generalize upd H6 p2 (.lst [])=H7 at S7 k7;refine⟨by show 3<=sizeLine;decide,fun p hp=>?_⟩;have S8:=aq.upd (o:=.tup [V.ref dd,V.ref p1,V.ref p2]) hp;have k8:=ae (H:=H7) (a:=p) (o:=.tup [V.ref dd,V.ref p1,V.ref p2]);generalize upd H7 p (.tup [V.ref dd,V.ref p1,V.ref p2])=H8 at S8 k8;have S48:=((S5.trans S6).trans S7).trans S8;have B8:=B4.mix S48;have st8:Vz (mix H3 H4 H8) (.ref p) ⟨[],[],[]⟩:=⟨p,dd,p1,p2,[],[],rfl,ud S48 k8 (fun _ z=>nomatch z),⟨[],ud S48 (S8 _ _ (S7 _ _ (S6 _ _ k5))) (fun _ z=>nomatch z),.nil⟩,gC ((S5.free hp1)) (S8 _ _ (S7 _ _ k6)),.nil,gC ((S5.trans S6).free hp2) (S8 _ _ k7),.nil⟩;have hS8:aX K (mix H3 H4 H8) a (ns.map V.int):=(uc B4.sm).seq (s13.seq hS);have k38:mix H3 H4 H8 l3=some (.lst xs):=uc B4.sm _ _ k3;have dd8:i0 (mix H3 H4 H8) xs oh:=dd3.same (uc B4.sm);generalize mix H3 H4 H8=H0 at B8 st8 hS8 k38 dd8;refine hN _ _ ?_;clear hN N B4 S5 S6 S7 S8 S48 k5 k6 k7 k8 hdd hp1 hp2 hp dd3 k3 s13 S3 s1 s2;refine ie fun N hN=>?_;refine⟨_,rfl,l3,rfl,⟨_,aX.of (B8.sm _ _ k38)⟩,fun D b0 hD=>?_⟩;refine jP (K:=K) (xs:=xs) (fun i zs σ H'=>∃(v:Option V)(ds:List De),σ=[v,some (.ref a),some (.ref l3),some (.ref x),some (.ref p),none,none,none,none,none,none]/\aq H8 H'/\H' D=some (.lst zs)/\i0 H' zs ds/\ds.length<=i/\i<=oh.length/\∀ d∈ds,d.wy≠.undo/\d.wy≠.qL) ⟨none,[],rfl,aq.upd hD,ae,i0.nil,Nat.le_refl _,Nat.zero_le _,fun _ h=>nomatch h⟩ ?_ ?_ ?_
  ·rintro i zs σ H' ⟨v,ds,rfl,s2,_⟩;exact aX.of (s2 _ _ (B8.sm _ _ k38))
  ·rintro i zs y σ H' hy ⟨v,ds,rfl,s2,UW,dz,dl,il,dn⟩ N hN;obtain⟨de,hde,ade⟩:=yg dd8.1 hy;have il2:i<oh.length:=(List.getElem?_eq_some_iff.mp hde).1;have ald:=(ade.same B8.sm).same s2;have ok:=dd8.2 de (mem_of_getElem? hde);obtain⟨q1,q2,rfl,g1,g2⟩:=id ald;have zl:=bS dz.1;unfold Ql;refine⟨_,rfl,cg (i:=0) g1 rfl ?_⟩;refine⟨big (by show 2<=1000;omega),fun c1 hc1=>?_⟩;have T1:=aq.upd (o:=.lst [V.str "undo",V.str "redo"]) hc1;have t1:=ae (H:=H') (a:=c1) (o:=.lst [V.str "undo",V.str "redo"]);generalize upd H' c1 (.lst [V.str "undo",V.str "redo"])=H9 at T1 t1;refine .inl ⟨c1,_,rfl,.inl (aX.of t1),rfl,rfl,_,rfl,?_⟩;rw[anq]
   by_cases zz:de.wy=.undo\/de.wy=.qL
   ·rw[decide_eq_true zz];exact bF (hN _ _ _ ⟨_,ds,rfl,s2.trans T1,T1 _ _ UW,dz.same T1,by omega,il2,dn⟩)
   ·rw[decide_eq_false zz];refine cX ⟨_,rfl,T1 _ _ UW,aW (by omega),hN _ _ _ ⟨_,ds++[de],rfl,eF (s2.trans T1) hD,ae,i0.write (T1 _ _ UW) (i0.snoc (dz.same T1) (ald.same T1) ok),by rw[length_append];show _+1<=_;omega,il2,fun d hd=>?_⟩⟩;rcases mem_append.mp hd with hd|hd
    ·exact dn d hd
    ·rw[mem_singleton.mp hd];exact⟨fun z=>zz (.inl z),fun z=>zz (.inr z)⟩
  rintro zs σ H9 ⟨v,ds,rfl,s9,hD9,dz9,dl9,il9,dn9⟩;have B9:=B8.mix s9;have st9:=st8.same (uc (H':=H9) B8.sm);have hS9:aX K (mix H0 H8 H9) a (ns.map V.int):=(uc B8.sm).seq hS8;have kD9:mix H0 H8 H9 D=some (.lst zs):=gC hD hD9;have ae4:i0 (mix H0 H8 H9) zs ds:=⟨cb (fun _ _ ⟨q1,q2,e,g1,g2⟩=>⟨q1,q2,e,ud s9 g1 (fun _ z=>nomatch z),ud s9 g2 (fun _ z=>nomatch z)⟩) dz9.1,dz9.2⟩;generalize mix H0 H8 H9=H10 at B9 st9 hS9 kD9 ae4;clear B8 st8 hS8 k38 dd8 s9 hD9 dz9 hD;have zl:=bS ae4.1;refine⟨D,rfl,⟨_,aX.of (B9.sm _ _ kD9)⟩,rm (K:=K) (xs:=zs) (fun i σ H'=>∃(u v y:Option V)(vs:Addr)(st:Std)(H1:Hp),σ=[some (.ref a),some (.ref l3),some (.ref x),some (.ref vs),u,v,y,none,none,none]/\Bw (cs t) H1 H' x [] st.vw st.ps st.fs/\Vz H1 (.ref vs) st/\aq H10 H1/\st.fs=[]/\(st.ps++[st.vw]).head? = some []/\st.ps.length<=i) ⟨none,none,none,p,⟨[],[],[]⟩,H10,rfl,B9,st9,aq.refl _,rfl,rfl,Nat.le_refl _⟩ ?_ ?_ ?_⟩
  ·rintro i σ H' _ ⟨u,v,y,vs,st,H1,rfl,B,_,s1,_⟩;exact aX.of (B.sm _ _ (s1 _ _ kD9))
  ·rintro i y0 σ H' hy ⟨u,v,y,vs,st,H1,rfl,B,st1,s1,hfs,hhd,lps⟩;obtain⟨de,hde,ade⟩:=yg ae4.1 hy;have ok:=ae4.2 de (mem_of_getElem? hde);obtain⟨nu,nr⟩:=dn9 de (mem_of_getElem? hde);have agB:=ade.same s1;have w:=B.wv;have hi:i<ds.length:=(List.getElem?_eq_some_iff.mp hde).1;obtain⟨q1,q2,q3,q4,q5,q6,e,g1,g2,_⟩:=id st1;cases e;refine⟨_,rfl,cg (i:=0) (B.sm _ _ g1) rfl ⟨_,rfl,?_⟩⟩;refine⟨q2,_,st.vw,de,rfl,g2.same B.sm,agB.same B.sm,fun H2 S2=>?_⟩;have B2:=B.same S2;refine⟨_,rfl,_,rfl,_,_,st,de,rfl,st1.same B2.sm,agB.same B2.sm,ok,w,fun H3 S3=>?_⟩;have B3:=B2.same S3;obtain⟨F3,b3,f3,z3,o3⟩:=B3.ex;refine⟨_,rfl,_,rfl,_,rfl,x,_,F3,st,de,cf st.vw de,rfl,b3,(agB.same B3.sm).short,ok.nl,ok.ll,by rw[hfs];show st.ps.length+0<=900;omega,?_⟩;cases ho:ij st de (cf st.vw de) with
   |some r =>
    intro t0 H4 S4 ht0;refine cg (i:=1) ht0 rfl ?_;refine⟨_,rfl,.inl ⟨rfl,_,rfl,?_⟩⟩;rw[show decide (V.str r.str=V.str (Lw (some r)))=true from decide_eq_true rfl];refine bF ?_;tm_up;rw[aa7];exact bF ⟨_,_,_,vs,st,H1,rfl,B3.same S4,st1,s1,hfs,hhd,by omega⟩
   |none =>
    intro t0 v0 F4 H4 gr4 fr4 b4 an4 ht0;obtain⟨B4,k4⟩:=Bw.mk' b4 B3.sm f3 z3 o3 gr4 fr4;refine cg (i:=1) ht0 rfl ?_;refine⟨_,rfl,.inl ⟨rfl,_,rfl,?_⟩⟩;rw[show decide (V.str ""=V.str (Lw none))=true from decide_eq_true rfl];refine bF ?_;tm_up;refine⟨_,_,st,de,H1,rfl,B4.sm,st1,agB.same B4.sm,ok,w,by rw[hfs];show st.ps.length+0<=900;omega,ho,fun v5 H5 S5 st5=>?_⟩;have B5:=B4.mix S5;obtain⟨e1,e2⟩:=ack (st:=st) (a:=cf st.vw de) nu nr;obtain⟨q1',q2',q3',q4',q5',q6',e',g1',_⟩:=id st5;subst e';refine⟨_,_,_,q1',ik st de (cf st.vw de),mix H1 H4 H5,rfl,B5,st5,s1.trans (uc B4.sm),e2,?_,?_⟩
    ·rw[e1,List.head?_append,hhd];rfl
    ·rw[e1,length_append];show _+1<=_;omega
  ·rintro σ H' ⟨u,v,y,vs,st,H1,rfl,B,st1,s1,hfs,hhd,lps⟩;refine hN _ _ ?_;clear hN N;obtain⟨q1,q2,q3,q4,q5,q6,e,g1,g2,g3,g4,_⟩:=id st1;cases e;have pl:=bS g4;refine ie fun N hN=>?_;refine⟨_,rfl,cg (i:=1) (B.sm _ _ g1) rfl ?_⟩;refine⟨_,rfl,cg (i:=0) (B.sm _ _ g1) rfl ?_⟩;refine⟨big (by show 1<=1000;omega),fun c1 hc1=>?_⟩;have T1:=aq.upd (o:=.lst [V.ref q2]) hc1;have t1:=ae (H:=H') (a:=c1) (o:=.lst [V.ref q2]);generalize upd H' c1 (.lst [V.ref q2])=H11 at T1 t1;refine .inr (.inr ⟨q3,c1,q5,_,rfl,rfl,T1 _ _ (B.sm _ _ g3),t1,big (by show _+1<=1000;omega),fun c2 hc2=>?_⟩);have T2:=aq.upd (o:=.lst (q5++[V.ref q2])) hc2;have t2:=ae (H:=H11) (a:=c2) (o:=.lst (q5++[V.ref q2]));generalize upd H11 c2 (.lst (q5++[V.ref q2]))=H12 at T2 t2;have B2:=B.mix (T1.trans T2);have mo:=uc (H':=H12) B.sm;have kz:mix H1 H' H12 c2=some (.lst (q5++[V.ref q2])):=gC (T1.free hc2) t2;have pz:Paired (DvR (mix H1 H' H12)) (q5++[V.ref q2]) (st.ps++[st.vw]):=j6 (cb (fun _ _ z=>z.same mo) g4) ⟨q2,rfl,g2.same mo⟩;have hS2:aX K (mix H1 H' H12) a (ns.map V.int):=mo.seq (s1.seq hS9);generalize mix H1 H' H12=H2 at B2 kz pz hS2;clear mo T1 T2 t1 t2 hc1 hc2 B g1 g2 g3 g4 st1 s1 kD9 ae4 dn9 hS9 B9 st9;have B3:Bw (cs t) H2 H12 x [] st.vw ((st.ps++[st.vw]).take st.ps.length) []:=by
    rw[List.take_left' rfl,<-hfs];exact B2
   have al:(st.ps++[st.vw]).length=st.ps.length+1:=by rw[length_append];rfl
   have an:(st.ps++[st.vw])[st.ps.length]? = some st.vw:=by rw[List.getElem?_append_right (Nat.le_refl _),Nat.sub_self];rfl
   generalize q5++[V.ref q2]=zs2 at kz pz;have zl2:=bS pz;generalize st.ps++[st.vw]=all at pz al an B3 hhd zl2;have ln:st.ps.length<=91:=by omega
   generalize st.ps.length=n at al an B3 ln;clear B2 pl lps hfs;generalize st.vw=vw at an B3;refine hN _ _ ?_;clear hN N;refine ie fun N hN=>?_;tm_up;refine⟨a,ns,2,rfl,B3.sm.seq hS2,hl,?_⟩;refine⟨_,rfl,.inl ⟨c2,_,rfl,.inl (aX.of (B3.sm _ _ kz)),?_⟩⟩;refine⟨_,_,rfl,rfl,(by omega:(0:Int)<(zs2.length:Int)),?_⟩;obtain⟨lk,hlk,aqA⟩:=Pl (y9 ns 2) (k:=(zs2.length:Int)) (by omega);rw[show V.int (y9 ns 2 % (zs2.length:Int))=V.int (lk:Int) from congrArg V.int hlk];refine hN _ _ ?_;clear hN N;obtain⟨lv,elv⟩:∃ lv,all[lk]? = some lv:=⟨_,getElem?_eq_getElem (show lk<all.length by omega)⟩;obtain⟨zv,ezv,dl,rfl,hdl⟩:=rC pz elv;refine ie fun N hN=>?_;refine⟨_,rfl,.inl ⟨c2,_,rfl,.inl (aX.of (B3.sm _ _ kz)),?_⟩⟩;tm_up;refine⟨by omega,by omega,?_⟩;refine kZ (n:=((zs2.length:Int)-1).toNat) (fun i σ H'=>∃(u4 u5 u6 u9:Option V)(cur:Vw),σ=[some (.ref a),some (.ref l3),some (.ref x),some (.ref vs),u4,u5,u6,some (.ref c2),some (.int (lk:Int)),u9]/\i<=n/\all[n-i]? = some cur/\Bw (cs t) H2 H' x [] cur (all.take (n-i)) ((all.drop (n-i+1)).reverse)) ⟨_,_,_,_,vw,rfl,Nat.zero_le _,an,by rw[Nat.sub_zero,List.drop_eq_nil_of_le (by omega)];exact B3⟩ ?_ ?_
   ·rintro i σ H' hi ⟨u4,u5,u6,u9,cur,rfl,il,ec,B⟩;obtain⟨pv,epv⟩:∃ pv,all[n-i-1]? = some pv:=⟨_,getElem?_eq_getElem (show n-i-1<all.length by omega)⟩;have et:all.take (n-i)=all.take (n-i-1)++[pv]:=by
     have:n-i=(n-i-1)+1:=by omega
     rw[this,take_succ,show n-i-1+1-1=n-i-1 by omega,epv];rfl
    have ef:(all.drop (n-i+1)).reverse++[cur]=(all.drop (n-i)).reverse:=by
     obtain⟨h1,h2⟩:=List.getElem?_eq_some_iff.mp ec;rw[List.drop_eq_getElem_cons h1,h2,List.reverse_cons]
    obtain⟨dx,L,D',U,hx⟩:=B.hx;obtain⟨F,b,f,z,o⟩:=B.ex;refine⟨_,rfl,x,dx,_,rfl,hx,K1 _ _ _,x,F,cur,_,_,rfl,b,?_,(fun z=>by rw[et]at z;simp at z),fun ps0 v0 e0 H3 fr3 b3=>?_⟩
    ·rw[length_take,length_reverse,length_drop];omega
    rw[et]at e0;obtain⟨e01,e02⟩:=Eb e0;subst e01 e02;rw[ef]at b3;obtain⟨B3,k3⟩:=Bw.mk' b3 B.sm f z o (Gr.refl _ _) fr3;refine⟨fun bb H'=>bb=false/\aq H3 H',?_,?_⟩
    ·refine⟨_,rfl,.inl ⟨c2,_,rfl,.inl (aX.of (B3.sm _ _ kz)),?_⟩⟩;tm_up;refine aY (fun hc=>?_) (fun _=>⟨rfl,aq.refl _⟩);have hc':=V.int.inj (of_decide_eq_true hc);have elk:lk=n-i-1:=by omega
     subst elk;have:lv=pv:=Option.some.inj (elv.symm.trans epv);subst this;refine⟨_,rfl,_,rfl,_,rfl,Rc (aX.of (B3.sm _ _ kz)) (n:=n-i-1) rfl ezv ?_⟩;obtain⟨F4,b4,_⟩:=B3.ex;exact⟨x,dl,F4,lv,_,_,rfl,b4,hdl.same B3.sm,fun H4 S4=>⟨_,rfl,rfl,S4⟩⟩
    rintro _ H4 ⟨rfl,S4⟩;refine bF ⟨_,_,_,_,pv,rfl,by omega,by rw[show n-(i+1)=n-i-1 by omega];exact epv,?_⟩;rw[show n-(i+1)=n-i-1 by omega,show n-i-1+1=n-i by omega];exact B3.same S4
   ·rintro σ H' ⟨u4,u5,u6,u9,cur,rfl,il,ec,B⟩;have e0:n-((zs2.length:Int)-1).toNat=0:=by omega
    rw[e0]at ec B;have ecn:cur=[]:=by
     cases all with
     |nil=>cases ec
     |cons q r=>rw[List.getElem?_cons_zero]at ec;rw[List.head?_cons]at hhd;exact Option.some.inj (ec.symm.trans hhd)
    subst ecn;have B0:Bw (cs t) H2 H' x [] [] [] ((all.drop 1).reverse):=B;refine hN _ _ ?_;clear hN N B e0;refine ie fun N hN=>?_;refine⟨2,rfl,by decide,by decide,?_⟩;refine kZ (n:=2) (fun i σ H'=>∃(u4 u5 u6 u9:Option V),σ=[some (.ref a),some (.ref l3),some (.ref x),some (.ref vs),u4,u5,u6,some (.ref c2),some (.int (lk:Int)),u9]/\Bw (cs t) H2 H' x [] [] [] ((all.drop 1).reverse)) ⟨_,_,_,_,rfl,B0⟩ ?_ ?_
    ·rintro i σ H3 hi ⟨u4,u5,u6,u9,rfl,B⟩;refine⟨fun bb H'=>bb=false/\aq H3 H',?_,?_⟩
     ·tm_up;refine⟨by show 2<=sizeLine;decide,fun tu htu=>?_⟩;have T1:=aq.upd (o:=.tup [V.str "undo",V.str ""]) htu;have t1:=ae (H:=H3) (a:=tu) (o:=.tup [V.str "undo",V.str ""]);generalize upd H3 tu (.tup [V.str "undo",V.str ""])=H4 at T1 t1;have B4:=B.same T1;obtain⟨F4,b4,f4,z4,o4⟩:=B4.ex;refine⟨x,_,F4,⟨[],[],(all.drop 1).reverse⟩,⟨.undo,"","",0,("",0),0,0,false⟩,0,rfl,b4,⟨tu,_,rfl,t1,rfl,rfl,(fun z=>by rcases z with z|z <;> cases z),fun z=>nomatch z⟩,e00,e00,?_,?_⟩
      ·show 0+((all.drop 1).reverse).length<=900;rw[length_reverse,length_drop];omega
      rw[anr rfl];intro t0 H5 S5 ht0;refine cg (i:=1) ht0 rfl ?_;have B5:=B4.same S5;refine .inl ⟨rfl,_,rfl,?_⟩;rw[show decide (V.str Rf.jv.str=V.str (Str.ofString "NoMore"))=true from decide_eq_true rfl];refine bF ?_;refine⟨_,rfl,fun d hd=>?_⟩;have T6:=aq.upd (o:=.dK []) hd;have t6:=ae (H:=H5) (a:=d) (o:=.dK []);generalize upd H5 d (.dK [])=H6 at T6 t6;have B6:=B5.same T6;obtain⟨F6,b6,_⟩:=B6.ex;exact⟨x,d,F6,[],_,_,rfl,b6,⟨[],t6,.nil⟩,fun H7 S7=>⟨_,rfl,rfl,((T1.trans S5).trans T6).trans S7⟩⟩
     rintro _ H4 ⟨rfl,S4⟩;exact bF ⟨_,_,_,_,rfl,B.same S4⟩
    ·rintro σ H3 ⟨u4,u5,u6,u9,rfl,B⟩;refine hN _ _ ?_;clear hN N B0;refine ie fun N hN=>?_;refine⟨_,rfl,.inl ⟨c2,_,rfl,.inl (aX.of (B.sm _ _ kz)),?_⟩⟩;tm_up;refine⟨by omega,by omega,?_⟩;refine kZ (n:=((zs2.length:Int)-1).toNat) (fun i σ H'=>∃(u4 u5 u6 u9:Option V)(cur:Vw),σ=[some (.ref a),some (.ref l3),some (.ref x),some (.ref vs),u4,u5,u6,some (.ref c2),some (.int (lk:Int)),u9]/\i<=n/\all[i]? = some cur/\Bw (cs t) H2 H' x [] cur (all.take i) ((all.drop (i+1)).reverse)) ⟨_,_,_,_,[],rfl,Nat.zero_le _,ec,by rw[List.take_zero];exact B⟩ ?_ ?_
     ·rintro i σ H4 hi ⟨u4,u5,u6,u9,cur,rfl,il,ei,B⟩;obtain⟨nv,env⟩:∃ nv,all[i+1]? = some nv:=⟨_,getElem?_eq_getElem (show i+1<all.length by omega)⟩;have et:all.take i++[cur]=all.take (i+1):=by
       rw[take_succ,ei];rfl
      have ef:(all.drop (i+1)).reverse=(all.drop (i+1+1)).reverse++[nv]:=by
       obtain⟨h1,h2⟩:=List.getElem?_eq_some_iff.mp env;rw[List.drop_eq_getElem_cons h1,h2,List.reverse_cons]
      refine⟨fun bb H'=>bb=false/\aq H4 H',?_,?_⟩
      ·tm_up;refine aY (fun hc=>?_) (fun _=>⟨rfl,aq.refl _⟩);have hc':=V.int.inj (of_decide_eq_true hc);have elk:lk=i:=by omega
       subst elk;have:lv=cur:=Option.some.inj (elv.symm.trans ei);subst this;refine⟨_,rfl,_,rfl,_,rfl,Rc (aX.of (B.sm _ _ kz)) (n:=lk) rfl ezv ?_⟩;obtain⟨F4,b4,_⟩:=B.ex;exact⟨x,dl,F4,lv,_,_,rfl,b4,hdl.same B.sm,fun H5 S5=>⟨_,rfl,rfl,S5⟩⟩
      rintro _ H5 ⟨rfl,S5⟩;refine bF ?_;have B5:=B.same S5;obtain⟨dx,L,D',U,hx⟩:=B5.hx;obtain⟨F,b,f,z,o⟩:=B5.ex;refine⟨_,rfl,x,dx,_,rfl,hx,K2 _ _ _,x,F,cur,_,_,rfl,b,?_,(fun z=>by rw[ef]at z;simp at z),fun fs0 v0 e0 H6 fr6 b6=>?_⟩
      ·rw[length_take,length_reverse,length_drop];omega
      rw[ef]at e0;obtain⟨e01,e02⟩:=Eb e0;subst e01 e02;rw[et]at b6;obtain⟨B6,k6⟩:=Bw.mk' b6 B5.sm f z o (Gr.refl _ _) fr6;exact⟨_,_,_,_,nv,rfl,by omega,env,B6⟩
     ·rintro σ H4 ⟨u4,u5,u6,u9,cur,rfl,il,ei,B⟩;have e0:((zs2.length:Int)-1).toNat=n:=by omega
      rw[e0]at ei B;have:cur=vw:=Option.some.inj (ei.symm.trans an);subst this;have B0:Bw (cs t) H2 H4 x [] cur (all.take n) []:=by
       rw[List.drop_eq_nil_of_le (by omega)]at B;exact B
      refine hN _ _ ?_;clear hN N B e0;refine ie fun N hN=>?_;refine⟨2,rfl,by decide,by decide,?_⟩;refine kZ (n:=2) (fun i σ H'=>∃(u4 u5 u6 u9:Option V),σ=[some (.ref a),some (.ref l3),some (.ref x),some (.ref vs),u4,u5,u6,some (.ref c2),some (.int (lk:Int)),u9]/\Bw (cs t) H2 H' x [] cur (all.take n) []) ⟨_,_,_,_,rfl,B0⟩ ?_ ?_
      ·rintro i σ H3 hi ⟨u4,u5,u6,u9,rfl,B⟩;refine⟨fun bb H'=>bb=false/\aq H3 H',?_,?_⟩
       ·tm_up;refine⟨by show 2<=sizeLine;decide,fun tu htu=>?_⟩;have T1:=aq.upd (o:=.tup [V.str "redo",V.str ""]) htu;have t1:=ae (H:=H3) (a:=tu) (o:=.tup [V.str "redo",V.str ""]);generalize upd H3 tu (.tup [V.str "redo",V.str ""])=H4 at T1 t1;have B4:=B.same T1;obtain⟨F4,b4,f4,z4,o4⟩:=B4.ex;refine⟨x,_,F4,⟨cur,all.take n,[]⟩,⟨.qL,"","",0,("",0),0,0,false⟩,0,rfl,b4,⟨tu,_,rfl,t1,rfl,rfl,(fun z=>by rcases z with z|z <;> cases z),fun z=>nomatch z⟩,e00,e00,?_,?_⟩
        ·show(all.take n).length+0<=900;rw[length_take];omega
        rw[ans rfl];intro t0 H5 S5 ht0;refine cg (i:=1) ht0 rfl ?_;have B5:=B4.same S5;refine .inl ⟨rfl,_,rfl,?_⟩;rw[show decide (V.str Rf.jv.str=V.str (Str.ofString "NoMore"))=true from decide_eq_true rfl];refine bF ?_;refine⟨_,rfl,_,rfl,1,rfl,?_⟩;obtain⟨F6,b6,_⟩:=B5.ex;obtain⟨zlv,anJ,dl2,rfl,anK⟩:=rC pz an;refine .inl ⟨c2,_,-1,.ref dl2,rfl,rfl,aX.of (B5.sm _ _ kz),?_,?_⟩
        ·exact acj (by omega) anJ
        ·exact⟨x,dl2,F6,cur,_,_,rfl,b6,anK.same B5.sm,fun H7 S7=>⟨_,rfl,rfl,(T1.trans S5).trans S7⟩⟩
       rintro _ H4 ⟨rfl,S4⟩;exact bF ⟨_,_,_,_,rfl,B.same S4⟩
      ·rintro σ H3 _;exact hN _ _ (q _)
theorem abh {us:List Value}(h:us.length=1):∃ a0,us=[a0]:=match us,h with|[a0],_=>⟨a0,rfl⟩
theorem pP {p:List Value->Prop}(h:∀ a0,p [a0])(us:List Value)(e:us.length=1):p us:=by obtain⟨_,rfl⟩:=abh e;exact h _
theorem ahE {us:List Value}(h:us.length=2):∃ a0 a1,us=[a0,a1]:=match us,h with|[a0,a1],_=>⟨a0,a1,rfl⟩
theorem eE {p:List Value->Prop}(h:∀ a0 a1,p [a0,a1])(us:List Value)(e:us.length=2):p us:=by obtain⟨_,_,rfl⟩:=ahE e;exact h _ _
theorem ae5 {us:List Value}(h:(us++[]).length=2):∃ a0 a1,us=[a0,a1]:=ahE (by rw[append_nil]at h;exact h)
theorem ahF {us:List Value}(h:us.length=3):∃ a0 a1 a2,us=[a0,a1,a2]:=match us,h with|[a0,a1,a2],_=>⟨a0,a1,a2,rfl⟩
theorem Lm {p:List Value->Prop}(h:∀ a0 a1 a2,p [a0,a1,a2])(us:List Value)(e:us.length=3):p us:=by obtain⟨_,_,_,rfl⟩:=ahF e;exact h _ _ _
theorem ale {us:List Value}(h:us.length=4):∃ a0 a1 a2 a3,us=[a0,a1,a2,a3]:=match us,h with|[a0,a1,a2,a3],_=>⟨a0,a1,a2,a3,rfl⟩
theorem NT {p:List Value->Prop}(h:∀ a0 a1 a2 a3,p [a0,a1,a2,a3])(us:List Value)(e:us.length=4):p us:=by obtain⟨_,_,_,_,rfl⟩:=ale e;exact h _ _ _ _
theorem alf {us:List Value}(h:us.length=5):∃ a0 a1 a2 a3 a4,us=[a0,a1,a2,a3,a4]:=match us,h with|[a0,a1,a2,a3,a4],_=>⟨a0,a1,a2,a3,a4,rfl⟩
theorem alg {p:List Value->Prop}(h:∀ a0 a1 a2 a3 a4,p [a0,a1,a2,a3,a4])(us:List Value)(e:us.length=5):p us:=by obtain⟨_,_,_,_,_,rfl⟩:=alf e;exact h _ _ _ _ _
theorem alh {us:List Value}(h:us.length=6):∃ a0 a1 a2 a3 a4 a5,us=[a0,a1,a2,a3,a4,a5]:=match us,h with|[a0,a1,a2,a3,a4,a5],_=>⟨a0,a1,a2,a3,a4,a5,rfl⟩
theorem ali {us:List Value}(h:(us++[]).length=6):∃ a0 a1 a2 a3 a4 a5,us=[a0,a1,a2,a3,a4,a5]:=alh (by rw[append_nil]at h;exact h)
set_option maxHeartbeats 0 in
theorem all_mk {l:OpenLaw}{w:World}{K:Frag}{h:Heap}{mg:Str->Option Value}{fa dA bq ba cY nF jA jB jC nG nH nI dq cO dr jD h8 fZ ly f6 d3 kK nM f7 bD bI bE dC cZ eL cI bL jf bH BB cz wF nP kM eZ rR d4 gF dD ck eM j9 lz eI nR nS rS kO tK nV gG bV BF Mj d5 dt cP cQ iu nX rT AE rW cA dE jE rX nY wJ rY jF kP Nf eN gH d6 c6 du e8 dF dG cm bj aZ aQ cv a6 aT a7 a8 a9 bo:Addr}(X:K.In h)(G:h.Ns mainGlobals mg)(hfa:mg "law"=some (.ref fa)){Io Ip Yv Yw RW RY RZ R0 R1 R3 Yx Yy Yz YA YB YC FD FE BY BZ FF FG R4 R5 R6 R7 R8 R9 YD YE Sa Sb Iq Ir V6 V7 YF YG Px Py B7 Ca zi zj AR AS LM LN Iu Iv NU NV FH FI FJ FK Cb wY wZ agC agD Cc Cd ae6 ae7 YH YI V8 V9 LO LP aco acp Wa Wb Wc Wd Sd Se FL FN Sf Sh agE agF YJ YK Pz PB YL YM YN YO acq acr We Wf Si YQ YR NW NX w4 w5 agG agH ae8 Iw Iy FO FP Ce Cf Cg Ci PD PJ YS YT acs acu YU acv acw Sj Sk Sl Sm So Sq acx acy YV YW ae9 afa acz acA Sr Ss Wg Wh ai8 ai9 NY NZ Iz IA FQ LQ:Option Addr}{IB YX Su Sv Sw YY YZ Y0 FR Cj FT Sx Sy Sz Y1 SA IC Wi Y2 PK Ck zk AU LR ID N0 FU FV Cm w6 agI Cn afb Y3 Wj LS acB Wk Wl SD FW SE agJ Y4 PL Y5 Y6 acC Wm SF Y7 N1 xa agK afc IE FX Co Cp PM Y8 acD Y9 acE SG SH SI acF Za afd acG SJ Wn aja N2 N3 IF IG FY LV:Array (Option Value)}{IH II IJ IK vY IL Zb Zc Zd Ze N4 Zf SK SM SN SO FZ SQ SR SU SV SW F1 SX SY S9 Ta Tb F2 Tc Zg Zh Zi Zj N5 Zk Zl Zm Zn Zo N6 Zp Zq Zr Zs Zt N7 Zu F5 F7 F8 F9 uk Ga Cq Cr Ct Cu sv Cv Gb Gd Ge Gf um Gg Td Te Tf Tg Gh Ti Tj Tn To Tp Gi Tq Tr Ts Tt Tu Gj Tv Zv Zw Zx Zy N8 Zz Tw Tx Tz TB Gk TC IM IP IQ IS vZ IT Wo Wq Wr Ws Ln Wt ZA ZC ZD ZE N9 ZF PN PQ PR PU Bc PV Cw Cy Cz CA sx CC zm zo zp zq pQ zr AV AW AX AY qC AZ LW LX LY LZ ye L0 IU IV IW IX v7 IY Oa Ob Oc Od zt Oe Gm Gn Gp Gq uo Gs Gu Gv Gw Gx uq Gy CF xc xf xg xh mr xi agL agM agN agO abi agP CG CH CI CJ sy CK afe aff afg afh Wu afi ZG ZH ZI ZJ Of ZK Wv Ww Wx Wz Lo WA L1 L3 L4 L5 yf L6 acH acI acJ acK QL acL WB WC WE WG Lp WH WI WJ WK WL Lq WM TF TJ TK TL Gz TM GA GB GC GD ur GF TN TQ TR TV GG TX agQ agR agS agT abj agU ZL ZM ZN ZO Og ZP PX PY PZ P0 Bd P1 ZQ ZR ZS ZT Oh ZU ZV ZW ZX ZY Oi ZZ acM acN acO acP QM acQ WN WO WQ WR Lr WS TY Z0 Z1 Z2 Z3 Oj Z4 Ol Om Oo Oq zu Ot xj xk xm xn mv xo agV agW agX agY abk agZ afj IZ Ja Jb Jc v8 Jd GH GI GJ GK uv GL CL CM CN CO sA CP CQ CS CU CW sC CY P2 P4 P5 P6 Be P7 Z5 Z6 Z7 Z8 Ou Z9 acR acS acT acU QN acV aaa acW acX acY acZ QO ac0 TZ T7 T8 T9 GN Ua Ub Uc Ud Ue GO Ug Uh Ui Uj Uk GP Ul ac1 ac2 ac3 ac4 QP ac5 aab aac aad aae Ov aaf afk afl afm afn WT afo ac6 ac7 ac8 ac9 QR ada Um Uo Up Uq GQ Ur WU WV WW WY Ls WZ ajb ajc ajd aje afp ajf:Value}{eX eY lR yN rV Ow Ox Oy Oz OA OB Je Jf Jg Jh Ji GR GS GU GW L7 L8 L9 Ma Mb lU Jj Jk Jl Jm Jn Jo Jp Jq Jr Js Jt Ju Jv Jw Jx Jy Jz JA JB JC JD JE CZ C0 C1 C2 qO jg kx lV AF lW o5 qP EK AG:Tok}{C3 Us afq aag P8 P9 Mc Md JF OC OD OE JG:Nat}(OF:nsIn K mainGlobals "Voice"=some (some (.ref dA)))(Ut:nsIn K mainGlobals "Deed"=some (some (.ref bq)))(Uu:nsIn K mainGlobals "Book"=some (some (.ref ba)))(p4:findIn K (.ref ba) "__init__"=some (some (.ref cY)))(p5:K.lookup cY=some ⟨IH,Io,.func (fnOf "__init__" "Book.__init__" (aG fN) (ay fN) (ah fN) .none II IJ IK Ip vY IL),IB⟩)(p6:codeIn K vY "Book.__init__" = true)(p7:keepIn K (.ref cY)=true)(om:isFn K (.ref cY)=true)(JH:nsIn K mainGlobals "_law_begun"=some (some (.ref nF)))(JI:K.lookup nF=some ⟨Zb,Yv,.func (fnOf "_law_begun" "_law_begun" (aG qU) (ay qU) (ah qU) .none Zc Zd Ze Yw N4 Zf),YX⟩)(JJ:codeIn K N4 "_law_begun"=true)(JK:keepIn K (.ref nF)=true)(zw:nsIn K mainGlobals "_law_cell_at"=some (some (.ref jA)))(zx:K.lookup jA=some ⟨SK,RW,.func (fnOf "_law_cell_at" "_law_cell_at" (aG lh) (ay lh) (ah lh) .none SM SN SO RY FZ SQ),Su⟩)(zy:codeIn K FZ "_law_cell_at"=true)(zA:keepIn K (.ref jA)=true)(zB:nsIn K mainGlobals "_law_sign_by"=some (some (.ref jB)))(zC:K.lookup jB=some ⟨SR,RZ,.func (fnOf "_law_sign_by" "_law_sign_by" (aG lj) (ay lj) (ah lj) .none SU SV SW R0 F1 SX),Sv⟩)(zD:codeIn K F1 "_law_sign_by"=true)(zE:keepIn K (.ref jB)=true)(zF:nsIn K mainGlobals "_law_deed_by"=some (some (.ref jC)))(zG:K.lookup jC=some ⟨SY,R1,.func (fnOf "_law_deed_by" "_law_deed_by" (aG bG) (ay bG) (ah bG) .none S9 Ta Tb R3 F2 Tc),Sw⟩)(zH:codeIn K F2 "_law_deed_by"=true)(zI:keepIn K (.ref jC)=true)(JL:nsIn K mainGlobals "_law_mixed"=some (some (.ref nG)))(JM:K.lookup nG=some ⟨Zg,Yx,.func (fnOf "_law_mixed" "_law_mixed" (aG qV) (ay qV) (ah qV) .none Zh Zi Zj Yy N5 Zk),YY⟩)(JN:codeIn K N5 "_law_mixed"=true)(JO:keepIn K (.ref nG)=true)(JP:nsIn K mainGlobals "_law_deeds"=some (some (.ref nH)))(JQ:K.lookup nH=some ⟨Zl,Yz,.func (fnOf "_law_deeds" "_law_deeds" (aG qW) (ay qW) (ah qW) .none Zm Zn Zo YA N6 Zp),YZ⟩)(JR:codeIn K N6 "_law_deeds"=true)(JS:keepIn K (.ref nH)=true)(JT:nsIn K mainGlobals "_law_place"=some (some (.ref nI)))(JU:K.lookup nI=some ⟨Zq,YB,.func (fnOf "_law_place" "_law_place" (aG qX) (ay qX) (ah qX) .none Zr Zs Zt YC N7 Zu),Y0⟩)(JV:codeIn K N7 "_law_place"=true)(JW:keepIn K (.ref nI)=true)(oo:nsIn K mainGlobals "_law_name_refused"=some (some (.ref dq)))(oq:K.lookup dq=some ⟨F5,FD,.func (fnOf "_law_name_refused" "_law_name_refused" (aG eQ) (ay eQ) (ah eQ) .none F7 F8 F9 FE uk Ga),FR⟩)(ot:codeIn K uk "_law_name_refused"=true)(ou:keepIn K (.ref dq)=true)(mw:nsIn K mainGlobals "_law_canon_refused"=some (some (.ref cO)))(mx:K.lookup cO=some ⟨Cq,BY,.func (fnOf "_law_canon_refused" "_law_canon_refused" (aG dW) (ay dW) (ah dW) .none Cr Ct Cu BZ sv Cv),Cj⟩)(my:codeIn K sv "_law_canon_refused"=true)(mz:keepIn K (.ref cO)=true)(ow:nsIn K mainGlobals "_law_line_refused"=some (some (.ref dr)))(ox:K.lookup dr=some ⟨Gb,FF,.func (fnOf "_law_line_refused" "_law_line_refused" (aG eR) (ay eR) (ah eR) .none Gd Ge Gf FG um Gg),FT⟩)(oy:codeIn K um "_law_line_refused"=true)(oz:keepIn K (.ref dr)=true)(zJ:nsIn K mainGlobals "_law_refused"=some (some (.ref jD)))(zK:K.lookup jD=some ⟨Td,R4,.func (fnOf "_law_refused" "_law_refused" (aG lp) (ay lp) (ah lp) .none Te Tf Tg R5 Gh Ti),Sx⟩)(zL:codeIn K Gh "_law_refused"=true)(zM:keepIn K (.ref jD)=true)(zN:findIn K (.ref bq) "undo"=some (some (.ref h8)))(zO:K.lookup h8=some ⟨Tj,R6,.func (fnOf "undo" "Deed.undo" (aG lq) (ay lq) (ah lq) .none Tn To Tp R7 Gi Tq),Sy⟩)(zP:codeIn K Gi "Deed.undo" = true)(uw:keepIn K (.ref h8)=true)(xp:isFn K (.ref h8)=true)(zQ:findIn K (.ref ba) "undo"=some (some (.ref fZ)))(zR:K.lookup fZ=some ⟨Tr,R8,.func (fnOf "undo" "Book.undo" (aG jw) (ay jw) (ah jw) .none Ts Tt Tu R9 Gj Tv),Sz⟩)(zS:codeIn K Gj "Book.undo" = true)(uy:keepIn K (.ref fZ)=true)(xq:isFn K (.ref fZ)=true)(JX:findIn K (.ref bq) "do"=some (some (.ref ly)))(JY:K.lookup ly=some ⟨Zv,YD,.func (fnOf "do" "Deed.do" (aG qY) (ay qY) (ah qY) .none Zw Zx Zy YE N8 Zz),Y1⟩)(JZ:codeIn K N8 "Deed.do" = true)(AL:keepIn K (.ref ly)=true)(C4:isFn K (.ref ly)=true)(zT:findIn K (.ref ba) "redo"=some (some (.ref f6)))(zU:K.lookup f6=some ⟨Tw,Sa,.func (fnOf "redo" "Book.redo" (aG jx) (ay jx) (ah jx) .none Tx Tz TB Sb Gk TC),SA⟩)(zV:codeIn K Gk "Book.redo" = true)(uz:keepIn K (.ref f6)=true)(xr:isFn K (.ref f6)=true)(p8:nsIn K mainGlobals "_law_line_behind"=some (some (.ref d3)))(p9:K.lookup d3=some ⟨IM,Iq,.func (fnOf "_law_line_behind" "_law_line_behind" (aG fO) (ay fO) (ah fO) .none IP IQ IS Ir vZ IT),IC⟩)(qa:codeIn K vZ "_law_line_behind"=true)(qb:keepIn K (.ref d3)=true)(C5:nsIn K mainGlobals "_law_behind"=some (some (.ref kK)))(C6:K.lookup kK=some ⟨Wo,V6,.func (fnOf "_law_behind" "_law_behind" (aG nk) (ay nk) (ah nk) .none Wq Wr Ws V7 Ln Wt),Wi⟩)(C7:codeIn K Ln "_law_behind"=true)(C8:keepIn K (.ref kK)=true)(J0:nsIn K mainGlobals "is_name"=some (some (.ref nM)))(J1:K.lookup nM=some ⟨ZA,YF,.func (fnOf "is_name" "is_name" (aG qZ) (ay qZ) (ah qZ) .none ZC ZD ZE YG N9 ZF),Y2⟩)(J2:codeIn K N9 "is_name"=true)(J3:keepIn K (.ref nM)=true)(xt:findIn K (.ref ba) "names"=some (some (.ref f7)))(xu:K.lookup f7=some ⟨PN,Px,.func (fnOf "names" "Book.names" (aG jR) (ay jR) (ah jR) .none PQ PR PU Py Bc PV),PK⟩)(xw:codeIn K Bc "Book.names" = true)(qS:keepIn K (.ref f7)=true)(uU:isFn K (.ref f7)=true)(mB:findIn K (.ref ba) "refuse_new"=some (some (.ref bD)))(mC:K.lookup bD=some ⟨Cw,B7,.func (fnOf "refuse_new" "Book.refuse_new" (aG bY) (ay bY) (ah bY) .none Cy Cz CA Ca sx CC),Ck⟩)(mD:codeIn K sx "Book.refuse_new" = true)(jm:keepIn K (.ref bD)=true)(kR:isFn K (.ref bD)=true)(kc:findIn K (.ref ba) "voice_called"=some (some (.ref bI)))(kd:K.lookup bI=some ⟨zm,zi,.func (fnOf "voice_called" "Book.voice_called" (aG cu) (ay cu) (ah cu) .none zo zp zq zj pQ zr),zk⟩)(ke:codeIn K pQ "Book.voice_called" = true)(gP:keepIn K (.ref bI)=true)(jM:isFn K (.ref bI)=true)(kS:findIn K (.ref ba) "plain_voice"=some (some (.ref bE)))(kU:K.lookup bE=some ⟨AV,AR,.func (fnOf "plain_voice" "Book.plain_voice" (aG b9) (ay b9) (ah b9) .none AW AX AY AS qC AZ),AU⟩)(kW:codeIn K qC "Book.plain_voice" = true)(iD:keepIn K (.ref bE)=true)(kf:isFn K (.ref bE)=true)(sE:findIn K (.ref ba) "perform"=some (some (.ref dC)))(sF:K.lookup dC=some ⟨LW,LM,.func (fnOf "perform" "Book.perform" (aG gU) (ay gU) (ah gU) .none LX LY LZ LN ye L0),LR⟩)(sG:codeIn K ye "Book.perform" = true)(mE:keepIn K (.ref dC)=true)(qc:isFn K (.ref dC)=true)(qd:findIn K (.ref bq) "__init__"=some (some (.ref cZ)))(qe:K.lookup cZ=some ⟨IU,Iu,.func (fnOf "__init__" "Deed.__init__" (aG fP) (ay fP) (ah fP) .none IV IW IX Iv v7 IY),ID⟩)(qf:codeIn K v7 "Deed.__init__" = true)(qg:keepIn K (.ref cZ)=true)(oB:isFn K (.ref cZ)=true)(uV:findIn K (.ref ba) "put_in"=some (some (.ref eL)))(uW:K.lookup eL=some ⟨Oa,NU,.func (fnOf "put_in" "Book.put_in" (aG iR) (ay iR) (ah iR) .none Ob Oc Od NV zt Oe),N0⟩)(uX:codeIn K zt "Book.put_in" = true)(ph:keepIn K (.ref eL)=true)(sH:isFn K (.ref eL)=true)(oC:findIn K (.ref dA) "__init__"=some (some (.ref cI)))(oE:K.lookup cI=some ⟨Gm,FH,.func (fnOf "__init__" "Voice.__init__" (aG eS) (ay eS) (ah eS) .none Gn Gp Gq FI uo Gs),FU⟩)(oF:codeIn K uo "Voice.__init__" = true)(oG:keepIn K (.ref cI)=true)(mF:isFn K (.ref cI)=true)(oH:findIn K (.ref ba) "add_canon"=some (some (.ref bL)))(oI:K.lookup bL=some ⟨Gu,FJ,.func (fnOf "add_canon" "Book.add_canon" (aG cj) (ay cj) (ah cj) (.ref jf) Gv Gw Gx FK uq Gy),FV⟩)(oJ:codeIn K uq "Book.add_canon" = true)(j1:keepIn K (.ref bL)=true)(mG:isFn K (.ref bL)=true)(jn:K.lookup jf=some ⟨CF,Cb,.seq #[.int 0 eX,.int 1 eY,.bool false] C3,Cm⟩)(i4:nsIn K mainGlobals "refuse_other_places"=some (some (.ref bH)))(i5:K.lookup bH=some ⟨xc,wY,.func (fnOf "refuse_other_places" "refuse_other_places" (aG bU) (ay bU) (ah bU) .none xf xg xh wZ mr xi),w6⟩)(i6:codeIn K mr "refuse_other_places"=true)(i7:keepIn K (.ref bH)=true)(aah:nsIn K mainGlobals "good"=some (some (.ref BB)))(aai:K.lookup BB=some ⟨agL,agC,.func (fnOf "good" "good" (aG Hg) (ay Hg) (ah Hg) .none agM agN agO agD abi agP),agI⟩)(aaj:codeIn K abi "good"=true)(aak:keepIn K (.ref BB)=true)(mH:nsIn K mainGlobals "refuse_bad_sign"=some (some (.ref cz)))(mI:K.lookup cz=some ⟨CG,Cc,.func (fnOf "refuse_bad_sign" "refuse_bad_sign" (aG cN) (ay cN) (ah cN) .none CH CI CJ Cd sy CK),Cn⟩)(mJ:codeIn K sy "refuse_bad_sign"=true)(mK:keepIn K (.ref cz)=true)(Uv:nsIn K mainGlobals "small"=some (some (.ref wF)))(Uw:K.lookup wF=some ⟨afe,ae6,.func (fnOf "small" "small" (aG AB) (ay AB) (ah AB) .none aff afg afh ae7 Wu afi),afb⟩)(Ux:codeIn K Wu "small"=true)(Fn:keepIn K (.ref wF)=true)(J4:nsIn K mainGlobals "low_end"=some (some (.ref nP)))(J5:K.lookup nP=some ⟨ZG,YH,.func (fnOf "low_end" "low_end" (aG q0) (ay q0) (ah q0) .none ZH ZI ZJ YI Of ZK),Y3⟩)(J6:codeIn K Of "low_end"=true)(J7:keepIn K (.ref nP)=true)(C9:nsIn K mainGlobals "high_end"=some (some (.ref kM)))(Dc:K.lookup kM=some ⟨Wv,V8,.func (fnOf "high_end" "high_end" (aG nq) (ay nq) (ah nq) .none Ww Wx Wz V9 Lo WA),Wj⟩)(Df:codeIn K Lo "high_end"=true)(Dg:keepIn K (.ref kM)=true)(sI:nsIn K mainGlobals "sets_measure"=some (some (.ref eZ)))(sJ:K.lookup eZ=some ⟨L1,LO,.func (fnOf "sets_measure" "sets_measure" (aG gW) (ay gW) (ah gW) .none L3 L4 L5 LP yf L6),LS⟩)(sL:codeIn K yf "sets_measure"=true)(sM:keepIn K (.ref eZ)=true)(OG:nsIn K mainGlobals "window"=some (some (.ref rR)))(OH:K.lookup rR=some ⟨acH,aco,.func (fnOf "window" "window" (aG vv) (ay vv) (ah vv) .none acI acJ acK acp QL acL),acB⟩)(OI:codeIn K QL "window"=true)(OJ:keepIn K (.ref rR)=true)(Dh:findIn K (.ref ba) "put"=some (some (.ref d4)))(Di:K.lookup d4=some ⟨WB,Wa,.func (fnOf "put" "Book.put" (aG gE) (ay gE) (ah gE) .none WC WE WG Wb Lp WH),Wk⟩)(Dj:codeIn K Lp "Book.put" = true)(xy:keepIn K (.ref d4)=true)(zW:isFn K (.ref d4)=true)(Dk:findIn K (.ref ba) "cut"=some (some (.ref gF)))(Dl:K.lookup gF=some ⟨WI,Wc,.func (fnOf "cut" "Book.cut" (aG jy) (ay jy) (ah jy) .none WJ WK WL Wd Lq WM),Wl⟩)(Dm:codeIn K Lq "Book.cut" = true)(xA:keepIn K (.ref gF)=true)(zX:isFn K (.ref gF)=true)(zY:findIn K (.ref ba) "swap"=some (some (.ref dD)))(zZ:K.lookup dD=some ⟨TF,Sd,.func (fnOf "swap" "Book.swap" (aG fX) (ay fX) (ah fX) .none TJ TK TL Se Gz TM),SD⟩)(z0:codeIn K Gz "Book.swap" = true)(uA:keepIn K (.ref dD)=true)(xB:isFn K (.ref dD)=true)(oK:findIn K (.ref ba) "add_voice"=some (some (.ref ck)))(oM:K.lookup ck=some ⟨GA,FL,.func (fnOf "add_voice" "Book.add_voice" (aG dm) (ay dm) (ah dm) .none GB GC GD FN ur GF),FW⟩)(oN:codeIn K ur "Book.add_voice" = true)(j2:keepIn K (.ref ck)=true)(mL:isFn K (.ref ck)=true)(z9:findIn K (.ref ba) "drop"=some (some (.ref eM)))(Aa:K.lookup eM=some ⟨TN,Sf,.func (fnOf "drop" "Book.drop" (aG hZ) (ay hZ) (ah hZ) .none TQ TR TV Sh GG TX),SE⟩)(Ab:codeIn K GG "Book.drop" = true)(uB:keepIn K (.ref eM)=true)(xC:isFn K (.ref eM)=true)(aal:nsIn K mainGlobals "_law_do"=some (some (.ref j9)))(aam:K.lookup j9=some ⟨agQ,agE,.func (fnOf "_law_do" "_law_do" (aG kJ) (ay kJ) (ah kJ) .none agR agS agT agF abj agU),agJ⟩)(aan:codeIn K abj "_law_do"=true)(aao:keepIn K (.ref j9)=true)(J8:nsIn K mainGlobals "_law_tried"=some (some (.ref lz)))(J9:K.lookup lz=some ⟨ZL,YJ,.func (fnOf "_law_tried" "_law_tried" (aG nt) (ay nt) (ah nt) .none ZM ZN ZO YK Og ZP),Y4⟩)(Ka:codeIn K Og "_law_tried"=true)(Kb:keepIn K (.ref lz)=true)(xE:findIn K (.ref ba) "canon"=some (some (.ref eI)))(xF:K.lookup eI=some ⟨PX,Pz,.func (fnOf "canon" "Book.canon" (aG ip) (ay ip) (ah ip) .none PY PZ P0 PB Bd P1),PL⟩)(xG:codeIn K Bd "Book.canon" = true)(qT:keepIn K (.ref eI)=true)(uY:isFn K (.ref eI)=true)(Kc:nsIn K mainGlobals "_law_whole"=some (some (.ref nR)))(Ke:K.lookup nR=some ⟨ZQ,YL,.func (fnOf "_law_whole" "_law_whole" (aG q8) (ay q8) (ah q8) .none ZR ZS ZT YM Oh ZU),Y5⟩)(Kf:codeIn K Oh "_law_whole"=true)(Kg:keepIn K (.ref nR)=true)(Kh:nsIn K mainGlobals "_law_signs"=some (some (.ref nS)))(Ki:K.lookup nS=some ⟨ZV,YN,.func (fnOf "_law_signs" "_law_signs" (aG q9) (ay q9) (ah q9) .none ZW ZX ZY YO Oi ZZ),Y6⟩)(Kj:codeIn K Oi "_law_signs"=true)(Kk:keepIn K (.ref nS)=true)(OK:nsIn K mainGlobals "_law_nums"=some (some (.ref rS)))(OL:K.lookup rS=some ⟨acM,acq,.func (fnOf "_law_nums" "_law_nums" (aG vy) (ay vy) (ah vy) .none acN acO acP acr QM acQ),acC⟩)(OM:codeIn K QM "_law_nums"=true)(ON:keepIn K (.ref rS)=true)(Dn:nsIn K mainGlobals "measures"=some (some (.ref kO)))(Dp:K.lookup kO=some ⟨WN,We,.func (fnOf "measures" "measures" (aG nC) (ay nC) (ah nC) (.ref tK) WO WQ WR Wf Lr WS),Wm⟩)(Dq:codeIn K Lr "measures"=true)(Dr:keepIn K (.ref kO)=true)(uC:K.lookup tK=some ⟨TY,Si,.seq #[.int 3 lR] Us,SF⟩)(Kl:nsIn K mainGlobals "kind_at"=some (some (.ref nV)))(Km:K.lookup nV=some ⟨Z0,YQ,.func (fnOf "kind_at" "kind_at" (aG rb) (ay rb) (ah rb) .none Z1 Z2 Z3 YR Oj Z4),Y7⟩)(Kn:codeIn K Oj "kind_at"=true)(Ko:keepIn K (.ref nV)=true)(uZ:nsIn K mainGlobals "plain_worth"=some (some (.ref gG)))(va:K.lookup gG=some ⟨Ol,NW,.func (fnOf "plain_worth" "plain_worth" (aG iS) (ay iS) (ah iS) .none Om Oo Oq NX zu Ot),N1⟩)(vb:codeIn K zu "plain_worth"=true)(vc:keepIn K (.ref gG)=true)(i8:nsIn K mainGlobals "worths_without_runs"=some (some (.ref bV)))(i9:K.lookup bV=some ⟨xj,w4,.func (fnOf "worths_without_runs" "worths_without_runs" (aG cB) (ay cB) (ah cB) .none xk xm xn w5 mv xo),xa⟩)(ja:codeIn K mv "worths_without_runs"=true)(jb:keepIn K (.ref bV)=true)(aap:nsIn K mainGlobals "runs"=some (some (.ref BF)))(aaq:K.lookup BF=some ⟨agV,agG,.func (fnOf "runs" "runs" (aG Hh) (ay Hh) (ah Hh) (.ref Mj) agW agX agY agH abk agZ),agK⟩)(aar:codeIn K abk "runs"=true)(aas:keepIn K (.ref BF)=true)(Mm:K.lookup Mj=some ⟨afj,ae8,.seq #[.int 3 yN] afq,afc⟩)(qh:nsIn K mainGlobals "has_left_note"=some (some (.ref d5)))(qi:K.lookup d5=some ⟨IZ,Iw,.func (fnOf "has_left_note" "has_left_note" (aG fQ) (ay fQ) (ah fQ) .none Ja Jb Jc Iy v8 Jd),IE⟩)(qj:codeIn K v8 "has_left_note"=true)(qk:keepIn K (.ref d5)=true)(oO:nsIn K mainGlobals "has_right_note"=some (some (.ref dt)))(oP:K.lookup dt=some ⟨GH,FO,.func (fnOf "has_right_note" "has_right_note" (aG eU) (ay eU) (ah eU) .none GI GJ GK FP uv GL),FX⟩)(oQ:codeIn K uv "has_right_note"=true)(oR:keepIn K (.ref dt)=true)(mM:nsIn K mainGlobals "settle_one_over"=some (some (.ref cP)))(mO:K.lookup cP=some ⟨CL,Ce,.func (fnOf "settle_one_over" "settle_one_over" (aG dX) (ay dX) (ah dX) .none CM CN CO Cf sA CP),Co⟩)(mP:codeIn K sA "settle_one_over"=true)(mQ:keepIn K (.ref cP)=true)(mR:nsIn K mainGlobals "settle_two_over"=some (some (.ref cQ)))(mS:K.lookup cQ=some ⟨CQ,Cg,.func (fnOf "settle_two_over" "settle_two_over" (aG dY) (ay dY) (ah dY) .none CS CU CW Ci sC CY),Cp⟩)(mT:codeIn K sC "settle_two_over"=true)(mU:keepIn K (.ref cQ)=true)(xH:nsIn K mainGlobals "settle_run"=some (some (.ref iu)))(xI:K.lookup iu=some ⟨P2,PD,.func (fnOf "settle_run" "settle_run" (aG jS) (ay jS) (ah jS) .none P4 P5 P6 PJ Be P7),PM⟩)(xJ:codeIn K Be "settle_run"=true)(xK:keepIn K (.ref iu)=true)(Kp:nsIn K mainGlobals "reading"=some (some (.ref nX)))(Kq:K.lookup nX=some ⟨Z5,YS,.func (fnOf "reading" "reading" (aG rf) (ay rf) (ah rf) .none Z6 Z7 Z8 YT Ou Z9),Y8⟩)(Kr:codeIn K Ou "reading"=true)(Ks:keepIn K (.ref nX)=true)(OO:nsIn K mainGlobals "worths"=some (some (.ref rT)))(OP:K.lookup rT=some ⟨acR,acs,.func (fnOf "worths" "worths" (aG vz) (ay vz) (ah vz) (.ref AE) acS acT acU acu QN acV),acD⟩)(OQ:codeIn K QN "worths"=true)(OR:keepIn K (.ref rT)=true)(AM:K.lookup AE=some ⟨aaa,YU,.seq #[.int 3 rV] aag,Y9⟩)(OS:nsIn K mainGlobals "turned"=some (some (.ref rW)))(OT:K.lookup rW=some ⟨acW,acv,.func (fnOf "turned" "turned" (aG vA) (ay vA) (ah vA) .none acX acY acZ acw QO ac0),acE⟩)(OU:codeIn K QO "turned"=true)(OV:keepIn K (.ref rW)=true)(Ac:findIn K (.ref ba) "line"=some (some (.ref cA)))(Ad:K.lookup cA=some ⟨TZ,Sj,.func (fnOf "line" "Book.line" (aG dB) (ay dB) (ah dB) .none T7 T8 T9 Sk GN Ua),SG⟩)(Ae:codeIn K GN "Book.line" = true)(uD:keepIn K (.ref cA)=true)(xM:isFn K (.ref cA)=true)(Af:findIn K (.ref ba) "kept"=some (some (.ref dE)))(Ag:K.lookup dE=some ⟨Ub,Sl,.func (fnOf "kept" "Book.kept" (aG fY) (ay fY) (ah fY) .none Uc Ud Ue Sm GO Ug),SH⟩)(Ah:codeIn K GO "Book.kept" = true)(uE:keepIn K (.ref dE)=true)(xN:isFn K (.ref dE)=true)(Ai:nsIn K mainGlobals "_law_line_of"=some (some (.ref jE)))(Aj:K.lookup jE=some ⟨Uh,So,.func (fnOf "_law_line_of" "_law_line_of" (aG lr) (ay lr) (ah lr) .none Ui Uj Uk Sq GP Ul),SI⟩)(Ak:codeIn K GP "_law_line_of"=true)(Al:keepIn K (.ref jE)=true)(OW:nsIn K mainGlobals "_law_base"=some (some (.ref rX)))(OX:K.lookup rX=some ⟨ac1,acx,.func (fnOf "_law_base" "_law_base" (aG vB) (ay vB) (ah vB) .none ac2 ac3 ac4 acy QP ac5),acF⟩)(OY:codeIn K QP "_law_base"=true)(OZ:keepIn K (.ref rX)=true)(Kt:nsIn K mainGlobals "_law_three"=some (some (.ref nY)))(Ku:K.lookup nY=some ⟨aab,YV,.func (fnOf "_law_three" "_law_three" (aG rg) (ay rg) (ah rg) .none aac aad aae YW Ov aaf),Za⟩)(Kv:codeIn K Ov "_law_three"=true)(Kw:keepIn K (.ref nY)=true)(Uy:nsIn K mainGlobals "_law_run"=some (some (.ref wJ)))(Uz:K.lookup wJ=some ⟨afk,ae9,.func (fnOf "_law_run" "_law_run" (aG AD) (ay AD) (ah AD) .none afl afm afn afa WT afo),afd⟩)(UA:codeIn K WT "_law_run"=true)(UB:keepIn K (.ref wJ)=true)(O0:nsIn K mainGlobals "_law_read"=some (some (.ref rY)))(O1:K.lookup rY=some ⟨ac6,acz,.func (fnOf "_law_read" "_law_read" (aG vC) (ay vC) (ah vC) .none ac7 ac8 ac9 acA QR ada),acG⟩)(O2:codeIn K QR "_law_read"=true)(O3:keepIn K (.ref rY)=true)(Am:nsIn K mainGlobals "_law_kept_of"=some (some (.ref jF)))(An:K.lookup jF=some ⟨Um,Sr,.func (fnOf "_law_kept_of" "_law_kept_of" (aG lu) (ay lu) (ah lu) .none Uo Up Uq Ss GQ Ur),SJ⟩)(Ao:codeIn K GQ "_law_kept_of"=true)(Ap:keepIn K (.ref jF)=true)(Ds:nsIn K mainGlobals "_law_stands"=some (some (.ref kP)))(Dt:K.lookup kP=some ⟨WU,Wg,.func (fnOf "_law_stands" "_law_stands" (aG nE) (ay nE) (ah nE) .none WV WW WY Wh Ls WZ),Wn⟩)(Du:codeIn K Ls "_law_stands"=true)(Dv:keepIn K (.ref kP)=true)(abl:nsIn K mainGlobals "law"=some (some (.ref Nf)))(afr:K.lookup Nf=some ⟨ajb,ai8,.func (fnOf "law" "law" (aG yB) (ay yB) (ah yB) .none ajc ajd aje ai9 afp ajf),aja⟩)(afs:codeIn K afp "law"=true)(aft:keepIn K (.ref Nf)=true)(afu:nsIn K mainGlobals "all"=some none)(afv:nsIn K mainGlobals "any"=some none)(aat:nsIn K mainGlobals "bool"=some none)(aau:nsIn K mainGlobals "dict"=some none)(Aq:nsIn K mainGlobals "enumerate"=some none)(afw:nsIn K mainGlobals "int"=some none)(xO:nsIn K mainGlobals "isinstance"=some none)(afx:nsIn K mainGlobals "len"=some none)(aav:nsIn K mainGlobals "list"=some none)(afy:nsIn K mainGlobals "max"=some none)(afz:nsIn K mainGlobals "min"=some none)(UC:nsIn K mainGlobals "range"=some none)(afA:nsIn K mainGlobals "str"=some none)(UD:nsIn K mainGlobals "tuple"=some none)(afB:nsIn K mainGlobals "zip"=some none)(sN:nsIn K mainGlobals "GREAT_KINDS"=some (some (.ref eN)))(sO:K.lookup eN=some ⟨.type "tuple",NY,.seq #[.str (Str.ofString "G") Ow,.str (Str.ofString "D") Ox,.str (Str.ofString "R") Oy] P8,N2⟩)(sP:nsIn K mainGlobals "SMALL_KINDS"=some (some (.ref gH)))(sQ:K.lookup gH=some ⟨.type "tuple",NZ,.seq #[.str (Str.ofString "s") Oz,.str (Str.ofString "d") OA,.str (Str.ofString "r") OB] P9,N3⟩)(oS:nsIn K mainGlobals "PARTING_KINDS"=some (some (.ref d6)))(oT:K.lookup d6=some ⟨.type "tuple",Iz,.seq #[.str (Str.ofString ".") Je,.str (Str.ofString "3") Jf,.str (Str.ofString "2") Jg] Mc,IF⟩)(oU:nsIn K mainGlobals "MEASURE_KINDS"=some (some (.ref c6)))(oV:K.lookup c6=some ⟨.type "tuple",IA,.seq #[.str (Str.ofString "3") Jh,.str (Str.ofString "2") Ji] Md,IG⟩)(mV:nsIn K mainGlobals "SOUNDING_KINDS"=some (some (.ref du)))(mW:K.lookup du=some ⟨.type "tuple",FQ,.seq #[.str (Str.ofString "G") GR,.str (Str.ofString "D") GS,.str (Str.ofString "s") GU,.str (Str.ofString "d") GW] JF,FY⟩)(qm:nsIn K mainGlobals "SILENT_KINDS"=some (some (.ref e8)))(qo:K.lookup e8=some ⟨.type "tuple",LQ,.seq #[.str (Str.ofString "R") L7,.str (Str.ofString "r") L8,.str (Str.ofString ".") L9,.str (Str.ofString "3") Ma,.str (Str.ofString "2") Mb] OC,LV⟩)(qp:nsIn K mainGlobals "HIGHEST_TONE"=some (some (.int 99 lU)))(qq:nsIn K mainGlobals "TURNED_KINDS"=some (some (.ref dF)))(qr:K.lookup dF=some ⟨.type "dict",none,.dict #[⟨PyData.keyHash w.params (Str.ofString "3"),.str (Str.ofString "3") Jl,.str (Str.ofString "2") Jj⟩,⟨PyData.keyHash w.params (Str.ofString "2"),.str (Str.ofString "2") Jm,.str (Str.ofString "3") Jk⟩] OD,#[]⟩)(qt:(dF==sysModules)=false)(qu:nsIn K mainGlobals "PLAIN_WORTHS"=some (some (.ref dG)))(qv:K.lookup dG=some ⟨.type "dict",none,.dict #[⟨PyData.keyHash w.params (Str.ofString "G"),.str (Str.ofString "G") Jw,.int 3 Jn⟩,⟨PyData.keyHash w.params (Str.ofString "D"),.str (Str.ofString "D") Jx,.int 2 Jo⟩,⟨PyData.keyHash w.params (Str.ofString "R"),.str (Str.ofString "R") Jy,.int 3 Jp⟩,⟨PyData.keyHash w.params (Str.ofString "s"),.str (Str.ofString "s") Jz,.int 1 Jq⟩,⟨PyData.keyHash w.params (Str.ofString "d"),.str (Str.ofString "d") JA,.int 1 Jr⟩,⟨PyData.keyHash w.params (Str.ofString "r"),.str (Str.ofString "r") JB,.int 1 Js⟩,⟨PyData.keyHash w.params (Str.ofString "."),.str (Str.ofString ".") JC,.int 0 Jt⟩,⟨PyData.keyHash w.params (Str.ofString "3"),.str (Str.ofString "3") JD,.int 0 Ju⟩,⟨PyData.keyHash w.params (Str.ofString "2"),.str (Str.ofString "2") JE,.int 0 Jv⟩] OE,#[]⟩)(qw:(dG==sysModules)=false)(mX:nsIn K mainGlobals "TWOFOLD_WORTHS"=some (some (.ref cm)))(mY:K.lookup cm=some ⟨.type "dict",none,.dict #[⟨PyData.keyHash w.params (Str.ofString "G"),.str (Str.ofString "G") C1,.int 2 CZ⟩,⟨PyData.keyHash w.params (Str.ofString "R"),.str (Str.ofString "R") C2,.int 2 C0⟩] JG,#[]⟩)(mZ:(cm==sysModules)=false)(vd:nsIn K mainGlobals "FULL_WORTH"=some (some (.int 3 qO)))(kX:nsIn K mainGlobals "SHORTENED_WORTH"=some (some (.int 2 jg)))(oW:nsIn K mainGlobals "DOUBLED_WORTH"=some (some (.int 2 kx)))(qx:nsIn K mainGlobals "DOTTED_WORTH"=some (some (.int 3 lV)))(Dw:nsIn K mainGlobals "LETTERS"=some (some (.str (Str.ofString "abcdefghijklmnopqrstuvwxyz") AF)))(qy:nsIn K mainGlobals "LONGEST_NAME"=some (some (.int 8 lW)))(sR:nsIn K mainGlobals "MOST_VOICES"=some (some (.int 12 o5)))(ve:nsIn K mainGlobals "MOST_SIGNS"=some (some (.int 200 qP)))(Kx:nsIn K mainGlobals "LATEST"=some (some (.int 999 EK)))(Dx:nsIn K mainGlobals "SLOWEST"=some (some (.int 9 AG)))(Ky:makesIn K dA=true)(Kz:keepIn K (.ref dA)=true)(O4:plainGet K dA Str.empty=true)(O5:hasDictIn K dA=true)(O6:plainOver K dA=true)(O7:findIn K (.ref dA) "__setattr__"=some (some (.builtin "object.__setattr__")))(gI:findIn K (.ref dA) "name"=some none)(cR:findIn K (.ref dA) "terms"=some none)(cC:findIn K (.ref dA) "signs"=some none)(O8:makesIn K bq=true)(O9:keepIn K (.ref bq)=true)(UE:plainGet K bq Str.empty=true)(UG:hasDictIn K bq=true)(UH:plainOver K bq=true)(UI:findIn K (.ref bq) "__setattr__"=some (some (.builtin "object.__setattr__")))(fb:findIn K (.ref bq) "things"=some none)(iA:findIn K (.ref bq) "at"=some none)(fc:findIn K (.ref bq) "before"=some none)(gJ:findIn K (.ref bq) "after"=some none)(Pa:makesIn K ba=true)(Pb:keepIn K (.ref ba)=true)(UJ:plainGet K ba Str.empty=true)(UK:hasDictIn K ba=true)(UL:plainOver K ba=true)(UM:findIn K (.ref ba) "__setattr__"=some (some (.builtin "object.__setattr__")))(bT:findIn K (.ref ba) "voices"=some none)(eJ:findIn K (.ref ba) "done"=some none)(cS:findIn K (.ref ba) "undone"=some none)(KA:nsIn K mainGlobals "NoMore"=some (some (.ref bj)))(Dy:nsIn K mainGlobals "BadName"=some (some (.ref aZ)))(xP:nsIn K mainGlobals "NameTaken"=some (some (.ref aQ)))(UN:nsIn K mainGlobals "Full"=some (some (.ref cv)))(Dz:nsIn K mainGlobals "NoVoice"=some (some (.ref a6)))(Ar:nsIn K mainGlobals "NotPlain"=some (some (.ref aT)))(DA:nsIn K mainGlobals "BadTerm"=some (some (.ref a7)))(DB:nsIn K mainGlobals "NoPlace"=some (some (.ref a8)))(DC:nsIn K mainGlobals "BadSign"=some (some (.ref a9)))(KC:nsIn K mainGlobals "Leaned"=some (some (.ref bo)))(KG:excIn K bj vm "ValueError.__new__" = true)(KH:findIn K (.ref bj) "__getattribute__"=some (some (.builtin "BaseException.__getattribute__")))(KJ:findIn K (.ref bj) "__getattr__"=some none)(KL:findIn K (.ref bj) "__class__"=some (some (.builtin "object.__class__")))(DD:excIn K aZ vm "ValueError.__new__" = true)(DE:findIn K (.ref aZ) "__getattribute__"=some (some (.builtin "BaseException.__getattribute__")))(DF:findIn K (.ref aZ) "__getattr__"=some none)(DG:findIn K (.ref aZ) "__class__"=some (some (.builtin "object.__class__")))(xQ:excIn K aQ vm "ValueError.__new__" = true)(xR:findIn K (.ref aQ) "__getattribute__"=some (some (.builtin "BaseException.__getattribute__")))(xS:findIn K (.ref aQ) "__getattr__"=some none)(xV:findIn K (.ref aQ) "__class__"=some (some (.builtin "object.__class__")))(UO:excIn K cv vm "ValueError.__new__" = true)(UP:findIn K (.ref cv) "__getattribute__"=some (some (.builtin "BaseException.__getattribute__")))(UQ:findIn K (.ref cv) "__getattr__"=some none)(UR:findIn K (.ref cv) "__class__"=some (some (.builtin "object.__class__")))(DH:excIn K a6 vm "ValueError.__new__" = true)(DI:findIn K (.ref a6) "__getattribute__"=some (some (.builtin "BaseException.__getattribute__")))(DJ:findIn K (.ref a6) "__getattr__"=some none)(DK:findIn K (.ref a6) "__class__"=some (some (.builtin "object.__class__")))(As:excIn K aT vm "ValueError.__new__" = true)(Au:findIn K (.ref aT) "__getattribute__"=some (some (.builtin "BaseException.__getattribute__")))(Av:findIn K (.ref aT) "__getattr__"=some none)(Aw:findIn K (.ref aT) "__class__"=some (some (.builtin "object.__class__")))(DM:excIn K a7 vm "ValueError.__new__" = true)(DN:findIn K (.ref a7) "__getattribute__"=some (some (.builtin "BaseException.__getattribute__")))(DO:findIn K (.ref a7) "__getattr__"=some none)(DP:findIn K (.ref a7) "__class__"=some (some (.builtin "object.__class__")))(DQ:excIn K a8 vm "ValueError.__new__" = true)(DR:findIn K (.ref a8) "__getattribute__"=some (some (.builtin "BaseException.__getattribute__")))(DS:findIn K (.ref a8) "__getattr__"=some none)(DT:findIn K (.ref a8) "__class__"=some (some (.builtin "object.__class__")))(DV:excIn K a9 vm "ValueError.__new__" = true)(DW:findIn K (.ref a9) "__getattribute__"=some (some (.builtin "BaseException.__getattribute__")))(DX:findIn K (.ref a9) "__getattr__"=some none)(DY:findIn K (.ref a9) "__class__"=some (some (.builtin "object.__class__")))(KN:excIn K bo vm "ValueError.__new__" = true)(KO:findIn K (.ref bo) "__getattribute__"=some (some (.builtin "BaseException.__getattribute__")))(KP:findIn K (.ref bo) "__getattr__"=some none)(KQ:findIn K (.ref bo) "__class__"=some (some (.builtin "object.__class__")))(gm:exmOne K (.ref bj) (.ref aZ)=some false)(eh:exmOne K (.ref bj) (.ref aQ)=some false)(jK:exmOne K (.ref bj) (.ref cv)=some false)(gn:exmOne K (.ref bj) (.ref a6)=some false)(ff:exmOne K (.ref bj) (.ref aT)=some false)(gp:exmOne K (.ref bj) (.ref a8)=some false)(gq:exmOne K (.ref bj) (.ref a9)=some false)(gs:exmOne K (.ref bj) (.ref a7)=some false)(g7:exmOne K (.ref bj) (.ref bo)=some false)(g8:exmOne K (.ref bj) (.ref bj)=some true)(fg:exmOne K (.ref aZ) (.ref aZ)=some true)(dJ:exmOne K (.ref aQ) (.ref aZ)=some false)(cT:exmOne K (.ref aQ) (.ref aQ)=some true)(iK:exmOne K (.ref cv) (.ref aZ)=some false)(gu:exmOne K (.ref cv) (.ref aQ)=some false)(mh:exmOne K (.ref cv) (.ref cv)=some true)(fh:exmOne K (.ref a6) (.ref aZ)=some false)(dM:exmOne K (.ref a6) (.ref aQ)=some false)(iL:exmOne K (.ref a6) (.ref cv)=some false)(fi:exmOne K (.ref a6) (.ref a6)=some true)(en:exmOne K (.ref aT) (.ref aZ)=some false)(dg:exmOne K (.ref aT) (.ref aQ)=some false)(g9:exmOne K (.ref aT) (.ref cv)=some false)(eo:exmOne K (.ref aT) (.ref a6)=some false)(dN:exmOne K (.ref aT) (.ref aT)=some true)(fk:exmOne K (.ref a7) (.ref aZ)=some false)(dO:exmOne K (.ref a7) (.ref aQ)=some false)(iN:exmOne K (.ref a7) (.ref cv)=some false)(fm:exmOne K (.ref a7) (.ref a6)=some false)(eA:exmOne K (.ref a7) (.ref aT)=some false)(fo:exmOne K (.ref a7) (.ref a8)=some false)(fq:exmOne K (.ref a7) (.ref a9)=some false)(fu:exmOne K (.ref a7) (.ref a7)=some true)(fA:exmOne K (.ref a8) (.ref aZ)=some false)(dP:exmOne K (.ref a8) (.ref aQ)=some false)(iO:exmOne K (.ref a8) (.ref cv)=some false)(fB:exmOne K (.ref a8) (.ref a6)=some false)(eB:exmOne K (.ref a8) (.ref aT)=some false)(fD:exmOne K (.ref a8) (.ref a8)=some true)(fE:exmOne K (.ref a9) (.ref aZ)=some false)(dQ:exmOne K (.ref a9) (.ref aQ)=some false)(iP:exmOne K (.ref a9) (.ref cv)=some false)(fF:exmOne K (.ref a9) (.ref a6)=some false)(eC:exmOne K (.ref a9) (.ref aT)=some false)(fG:exmOne K (.ref a9) (.ref a8)=some false)(fH:exmOne K (.ref a9) (.ref a9)=some true)(gw:exmOne K (.ref bo) (.ref aZ)=some false)(eD:exmOne K (.ref bo) (.ref aQ)=some false)(jL:exmOne K (.ref bo) (.ref cv)=some false)(gx:exmOne K (.ref bo) (.ref a6)=some false)(fI:exmOne K (.ref bo) (.ref aT)=some false)(gy:exmOne K (.ref bo) (.ref a8)=some false)(gA:exmOne K (.ref bo) (.ref a9)=some false)(gB:exmOne K (.ref bo) (.ref a7)=some false)(hG:exmOne K (.ref bo) (.ref bo)=some true) :
  ∃ fd:FuncData,(∀(s:Shared)(v:Value),BindsTo s fd ⟨[v],[]⟩ [("_law_script",v)])/\∀ base:Heap,K.In base->base.Ns mainGlobals mg->bA l.prog w K mg base k9 9 fa fd ["_law_script"] (MJ K):=by
 have e:=hfa.symm.trans (mg_of X G abl);cases e;have ky:=aV (st:=fN) p5 p6 p7;have pY:=ky.binds (ps:=["self"]) fun _ _ _ _ _ _=>pP fun _=>rfl;have vE:=aV (st:=qU) JI JJ JK;have HK:=vE.binds (ps:=["_law_cell"]) fun _ _ _ _ _ _=>pP fun _=>rfl;have gb:=aV (st:=lh) zx zy zA;have jG:=gb.binds (ps:=["_law_script","_law_k"]) fun _ _ _ _ _ _=>eE fun _ _=>rfl;have pJ:=aV (st:=lj) zC zD zE;have yR:=pJ.binds (ps:=["_law_number"]) fun _ _ _ _ _ _=>pP fun _=>rfl;have lB:=aV (st:=bG) zG zH zI;have tM:=lB.binds (ps:=["_law_number"]) fun _ _ _ _ _ _=>pP fun _=>rfl;have nZ:=aV (st:=qV) JM JN JO;have vF:=nZ.binds (ps:=["_law_seed","_law_k"]) fun _ _ _ _ _ _=>eE fun _ _=>rfl;have vG:=aV (st:=qW) JQ JR JS;have HL:=vG.binds (ps:=["_law_script","_law_at","_law_many"]) fun _ _ _ _ _ _=>Lm fun _ _ _=>rfl;have n0:=aV (st:=qX) JU JV JW;have vH:=n0.binds (ps:=["_law_voices","_law_deed"]) fun _ _ _ _ _ _=>eE fun _ _=>rfl;have gY:=aV (st:=eQ) oq ot ou;have n5:=gY.binds (ps:=["_law_voices","_law_name"]) fun _ _ _ _ _ _=>eE fun _ _=>rfl;have gf:=aV (st:=dW) mx my mz;have lY:=gf.binds (ps:=["_law_voices","_law_deed"]) fun _ _ _ _ _ _=>eE fun _ _=>rfl;have gZ:=aV (st:=eR) ox oy oz;have n6:=gZ.binds (ps:=["_law_voices","_law_deed"]) fun _ _ _ _ _ _=>eE fun _ _=>rfl;have pK:=aV (st:=lp) zK zL zM;have yS:=pK.binds (ps:=["_law_stand","_law_deed"]) fun _ _ _ _ _ _=>eE fun _ _=>rfl;have tN:=aV (st:=lq) zO zP uw;have yT:=tN.binds (ps:=["self"]) fun _ _ _ _ _ _=>pP fun _=>rfl;have tO:=aV (st:=jw) zR zS uy;have tP:=tO.binds (ps:=["self"]) fun _ _ _ _ _ _=>pP fun _=>rfl;have AH:=aV (st:=qY) JY JZ AL;have AI:=AH.binds (ps:=["self"]) fun _ _ _ _ _ _=>pP fun _=>rfl;have tQ:=aV (st:=jx) zU zV uz;have tR:=tQ.binds (ps:=["self"]) fun _ _ _ _ _ _=>pP fun _=>rfl;have iI:=aV (st:=fO) p9 qa qb;have pZ:=iI.binds (ps:=["_law_line","_law_deed","_law_at"]) fun _ _ _ _ _ _=>Lm fun _ _ _=>rfl;have rZ:=aV (st:=nk) C6 C7 C8;have BK:=rZ.binds (ps:=["_law_stand","_law_deed"]) fun _ _ _ _ _ _=>eE fun _ _=>rfl;have vI:=aV (st:=qZ) J1 J2 J3;have HN:=vI.binds (ps:=["name"]) fun _ _ _ _ _ _=>pP fun _=>rfl;have qQ:=aV (st:=jR) xu xw qS;have jU:=qQ.binds (ps:=["self"]) fun _ _ _ _ _ _=>pP fun _=>rfl;have jh:=aV (st:=bY) mC mD jm;have ji:=jh.binds (ps:=["self","name"]) fun _ _ _ _ _ _=>eE fun _ _=>rfl;have gM:=aV (st:=cu) kd ke gP;have cw:=gM.binds (ps:=["self","name"]) fun _ _ _ _ _ _=>eE fun _ _=>rfl;have iw:=aV (st:=b9) kU kW iD;have dw:=iw.binds (ps:=["self","name"]) fun _ _ _ _ _ _=>eE fun _ _=>rfl;have lZ:=aV (st:=gU) sF sG mE;have e9:=lZ.binds (ps:=["self","deed"]) fun _ _ _ _ _ _=>eE fun _ _=>rfl;have kA:=aV (st:=fP) qe qf qg;have d7:=kA.binds (ps:=["self","things","at","before","after"]) fun _ _ _ _ _ _=>alg fun _ _ _ _ _=>rfl;have o7:=aV (st:=iR) uW uX ph;have o8:=o7.binds (ps:=["self","voice"]) fun _ _ _ _ _ _=>eE fun _ _=>rfl;have jV:=aV (st:=eS) oE oF oG;have jW:=jV.binds (ps:=["self","name","terms"]) fun _ _ _ _ _ _=>Lm fun _ _ _=>rfl;have g5:=Mg (st:=cj) oI oJ j1;have n8:Binds K _ ["self","name","leader","later","slow","is_turned"] []:=g5.binds (ds:=[]) jn rfl fun _ _ _ _ _ _ us hl=>by obtain⟨_,_,_,_,_,_,rfl⟩:=ali hl;exact⟨_,rfl,rfl⟩
 have l4:Binds K _ ["self","name","leader","later","slow","is_turned"] [.int 0 eX,.int 1 eY,.bool false]:=g5.binds jn rfl fun _ _ _ _ _ _ us hl=>by have hl:us.length=3:=(by simpa using hl);obtain⟨_,_,_,rfl⟩:=ahF hl;exact⟨_,rfl,rfl⟩
 have bW:=aV (st:=bU) i5 i6 i7;have dc:=bW.binds (ps:=["at","last"]) fun _ _ _ _ _ _=>eE fun _ _=>rfl;have Nh:=aV (st:=Hg) aai aaj aak;have X1:=Nh.binds (ps:=["sign"]) fun _ _ _ _ _ _=>pP fun _=>rfl;have dZ:=aV (st:=cN) mI mJ mK;have jj:=dZ.binds (ps:=["sign"]) fun _ _ _ _ _ _=>pP fun _=>rfl;have AJ:=aV (st:=AB) Uw Ux Fn;have Ml:=AJ.binds (ps:=["sign"]) fun _ _ _ _ _ _=>pP fun _=>rfl;have vJ:=aV (st:=q0) J5 J6 J7;have HP:=vJ.binds (ps:=["line","at"]) fun _ _ _ _ _ _=>eE fun _ _=>rfl;have r9:=aV (st:=nq) Dc Df Dg;have BL:=r9.binds (ps:=["line","first","kinds"]) fun _ _ _ _ _ _=>Lm fun _ _ _=>rfl;have g6:=aV (st:=gW) sJ sL sM;have l8:=g6.binds (ps:=["sign"]) fun _ _ _ _ _ _=>pP fun _=>rfl;have sd:=aV (st:=vv) OH OI OJ;have yV:=sd.binds (ps:=["line","at","behind","changed"]) fun _ _ _ _ _ _=>NT fun _ _ _ _=>rfl;have wK:=aV (st:=gE) Di Dj xy;have BM:=wK.binds (ps:=["self","name","at","sign"]) fun _ _ _ _ _ _=>NT fun _ _ _ _=>rfl;have wL:=aV (st:=jy) Dl Dm xA;have BN:=wL.binds (ps:=["self","name","at"]) fun _ _ _ _ _ _=>Lm fun _ _ _=>rfl;have tT:=aV (st:=fX) zZ z0 uA;have yW:=tT.binds (ps:=["self","name","at","sign"]) fun _ _ _ _ _ _=>NT fun _ _ _ _=>rfl;have jX:=aV (st:=dm) oM oN j2;have n9:=jX.binds (ps:=["self","name"]) fun _ _ _ _ _ _=>eE fun _ _=>rfl;have tU:=aV (st:=hZ) Aa Ab uB;have yX:=tU.binds (ps:=["self","name"]) fun _ _ _ _ _ _=>eE fun _ _=>rfl;have Ni:=aV (st:=kJ) aam aan aao;have X3:=Ni.binds (ps:=["_law_book","_law_deed","_law_at"]) fun _ _ _ _ _ _=>Lm fun _ _ _=>rfl;have oa:=aV (st:=nt) J9 Ka Kb;have vK:=oa.binds (ps:=["_law_book","_law_deed","_law_at"]) fun _ _ _ _ _ _=>Lm fun _ _ _=>rfl;have qR:=aV (st:=ip) xF xG qT;have jY:=qR.binds (ps:=["self","name"]) fun _ _ _ _ _ _=>eE fun _ _=>rfl;have lC:=aV (st:=q8) Ke Kf Kg;have rj:=lC.binds (ps:=["_law_found"]) fun _ _ _ _ _ _=>pP fun _=>rfl;have vL:=aV (st:=q9) Ki Kj Kk;have HR:=vL.binds (ps:=["_law_found","_law_due"]) fun _ _ _ _ _ _=>eE fun _ _=>rfl;have yY:=aV (st:=vy) OL OM ON;have Nj:=yY.binds (ps:=["_law_found","_law_due"]) fun _ _ _ _ _ _=>eE fun _ _=>rfl;have kQ:=Mg (st:=nC) Dp Dq Dr;have wO:Binds K _ ["line","begin"] []:=kQ.binds (ds:=[]) uC rfl fun _ _ _ _ _ _ us hl=>by obtain⟨_,_,rfl⟩:=ae5 hl;exact⟨_,rfl,rfl⟩
 have K9:Binds K _ ["line","begin"] [.int 3 lR]:=kQ.binds uC rfl fun _ _ _ _ _ _ us hl=>by have hl:us.length=1:=(by simpa using hl);obtain⟨_,rfl⟩:=abh hl;exact⟨_,rfl,rfl⟩
 have fR:=aV (st:=rb) Km Kn Ko;have iT:=fR.binds (ps:=["line","at"]) fun _ _ _ _ _ _=>eE fun _ _=>rfl;have ko:=aV (st:=iS) va vb vc;have uR:=ko.binds (ps:=["kind","measure"]) fun _ _ _ _ _ _=>eE fun _ _=>rfl;have df:=aV (st:=cB) i9 ja jb;have iZ:=df.binds (ps:=["line","begin"]) fun _ _ _ _ _ _=>eE fun _ _=>rfl;have HS:=Mg (st:=Hh) aaq aar aas;have X5:Binds K _ ["line","begin"] []:=HS.binds (ds:=[]) Mm rfl fun _ _ _ _ _ _ us hl=>by obtain⟨_,_,rfl⟩:=ae5 hl;exact⟨_,rfl,rfl⟩
 have aa2:Binds K _ ["line","begin"] [.int 3 yN]:=HS.binds Mm rfl fun _ _ _ _ _ _ us hl=>by have hl:us.length=1:=(by simpa using hl);obtain⟨_,rfl⟩:=abh hl;exact⟨_,rfl,rfl⟩
 have fS:=aV (st:=fQ) qi qj qk;have kB:=fS.binds (ps:=["line","found","first"]) fun _ _ _ _ _ _=>Lm fun _ _ _=>rfl;have eV:=aV (st:=eU) oP oQ oR;have jZ:=eV.binds (ps:=["line","behind"]) fun _ _ _ _ _ _=>eE fun _ _=>rfl;have gh:=aV (st:=dX) mO mP mQ;have l9:=gh.binds (ps:=["line","found","first","behind"]) fun _ _ _ _ _ _=>NT fun _ _ _ _=>rfl;have gi:=aV (st:=dY) mS mT mU;have ma:=gi.binds (ps:=["line","found","first","behind"]) fun _ _ _ _ _ _=>NT fun _ _ _ _=>rfl;have md:=aV (st:=jS) xI xJ xK;have wR:=md.binds (ps:=["line","found","first","behind"]) fun _ _ _ _ _ _=>NT fun _ _ _ _=>rfl;have vN:=aV (st:=rf) Kq Kr Ks;have HU:=vN.binds (ps:=["line","begin"]) fun _ _ _ _ _ _=>eE fun _ _=>rfl;have se:=Mg (st:=vz) OP OQ OR;have ET:Binds K _ ["line","begin"] []:=se.binds (ds:=[]) AM rfl fun _ _ _ _ _ _ us hl=>by obtain⟨_,_,rfl⟩:=ae5 hl;exact⟨_,rfl,rfl⟩
 have Qx:Binds K _ ["line","begin"] [.int 3 rV]:=se.binds AM rfl fun _ _ _ _ _ _ us hl=>by have hl:us.length=1:=(by simpa using hl);obtain⟨_,rfl⟩:=abh hl;exact⟨_,rfl,rfl⟩
 have vO:=aV (st:=vA) OT OU OV;have EU:=vO.binds (ps:=["line"]) fun _ _ _ _ _ _=>pP fun _=>rfl;have pL:=aV (st:=dB) Ad Ae uD;have jI:=pL.binds (ps:=["self","name"]) fun _ _ _ _ _ _=>eE fun _ _=>rfl;have tW:=aV (st:=fY) Ag Ah uE;have tX:=tW.binds (ps:=["self","name"]) fun _ _ _ _ _ _=>eE fun _ _=>rfl;have lD:=aV (st:=lr) Aj Ak Al;have tY:=lD.binds (ps:=["_law_voices","_law_name"]) fun _ _ _ _ _ _=>eE fun _ _=>rfl;have yZ:=aV (st:=vB) OX OY OZ;have Nl:=yZ.binds (ps:=["_law_line","_law_begin"]) fun _ _ _ _ _ _=>eE fun _ _=>rfl;have vP:=aV (st:=rg) Ku Kv Kw;have HV:=vP.binds (ps:=["_law_line","_law_begin"]) fun _ _ _ _ _ _=>eE fun _ _=>rfl;have EX:=aV (st:=AD) Uz UA UB;have RA:=EX.binds (ps:=["_law_line","_law_told","_law_low","_law_high"]) fun _ _ _ _ _ _=>NT fun _ _ _ _=>rfl;have vQ:=aV (st:=vC) O1 O2 O3;have EY:=vQ.binds (ps:=["_law_line","_law_begin"]) fun _ _ _ _ _ _=>eE fun _ _=>rfl;have pM:=aV (st:=lu) An Ao Ap;have y8:=pM.binds (ps:=["_law_voices","_law_name"]) fun _ _ _ _ _ _=>eE fun _ _=>rfl;have jJ:=aV (st:=nE) Dt Du Dv;have og:=jJ.binds (ps:=["_law_book","_law_voices"]) fun _ _ _ _ _ _=>eE fun _ _=>rfl;have aa3:=aV (st:=yB) afr afs aft;have ahA:=aa3.binds (ps:=["_law_script"]) fun _ _ _ _ _ _=>pP fun _=>rfl;have T:Txt K w mg ⟨_,_,_,_,_,_,_,_,_,_,_,_,_,_,_,_,_,_,_,_,_,_,_,_,_,_,_,_,_,_,_,_,_,_,_,_,_,_,_,_,_,_,_,_,_,_,_,_,_,_,_,_,_,_,_,_,_,eX,eY,_,_,_,_,_,_,_,_,_,_,_,_,_,_,_,_,_,_,_,_,_,_,_,_,_,_,_,_,_,_,_,_,_,_,_,_,_,_,_,_,_,lR,_,_,_,_,_,_,_,_,_,yN,_,_,_,_,_,_,_,_,_,_,_,_,_,_,_,rV,_,_,_,_,_,_,_,_,_,_,_,_,_,_,_,_,_,_,_,_,_,_,eN,gH,d6,c6,du,e8,lU,dF,dG,cm,qO,jg,kx,lV,AF,lW,o5,qP,EK,AG,dA,bq,ba,bj,aZ,aQ,cv,a6,aT,a7,a8,a9,bo⟩:=⟨ky,pY,vE,HK,mg_of X G JH,gb,jG,mg_of X G zw,pJ,yR,mg_of X G zB,lB,tM,mg_of X G zF,nZ,vF,mg_of X G JL,vG,HL,mg_of X G JP,n0,vH,mg_of X G JT,gY,n5,mg_of X G oo,gf,lY,mg_of X G mw,gZ,n6,mg_of X G ow,pK,yS,mg_of X G zJ,tN,yT,⟨zN,xp,uw⟩,tO,tP,⟨zQ,xq,uy⟩,AH,AI,⟨JX,C4,AL⟩,tQ,tR,⟨zT,xr,uz⟩,iI,pZ,mg_of X G p8,rZ,BK,mg_of X G C5,vI,HN,mg_of X G J0,qQ,jU,⟨xt,uU,qS⟩,jh,ji,⟨mB,kR,jm⟩,gM,cw,⟨kc,jM,gP⟩,iw,dw,⟨kS,kf,iD⟩,lZ,e9,⟨sE,qc,mE⟩,kA,d7,o7,o8,⟨uV,sH,ph⟩,jV,jW,g5,l4,n8,⟨oH,mG,j1⟩,bW,dc,mg_of X G i4,Nh,X1,mg_of X G aah,dZ,jj,mg_of X G mH,AJ,Ml,mg_of X G Uv,vJ,HP,mg_of X G J4,r9,BL,mg_of X G C9,g6,l8,mg_of X G sI,sd,yV,mg_of X G OG,wK,BM,⟨Dh,zW,xy⟩,wL,BN,⟨Dk,zX,xA⟩,tT,yW,⟨zY,xB,uA⟩,jX,n9,⟨oK,mL,j2⟩,tU,yX,⟨z9,xC,uB⟩,Ni,X3,mg_of X G aal,oa,vK,mg_of X G J8,qR,jY,⟨xE,uY,qT⟩,lC,rj,mg_of X G Kc,vL,HR,mg_of X G Kh,yY,Nj,mg_of X G OK,kQ,K9,wO,mg_of X G Dn,fR,iT,mg_of X G Kl,ko,uR,mg_of X G uZ,df,iZ,mg_of X G i8,HS,aa2,X5,mg_of X G aap,fS,kB,mg_of X G qh,eV,jZ,mg_of X G oO,gh,l9,mg_of X G mM,gi,ma,mg_of X G mR,md,wR,mg_of X G xH,vN,HU,mg_of X G Kp,se,Qx,ET,mg_of X G OO,vO,EU,mg_of X G OS,pL,jI,⟨Ac,xM,uD⟩,tW,tX,⟨Af,xN,uE⟩,lD,tY,mg_of X G Ai,yZ,Nl,mg_of X G OW,vP,HV,mg_of X G Kt,EX,RA,mg_of X G Uy,vQ,EY,mg_of X G O0,pM,y8,mg_of X G Am,jJ,og,mg_of X G Ds,aa3,ahA,mg_of X G abl,mg_none_of X G afu,mg_none_of X G afv,mg_none_of X G aat,mg_none_of X G aau,mg_none_of X G Aq,mg_none_of X G afw,mg_none_of X G xO,mg_none_of X G afx,mg_none_of X G aav,mg_none_of X G afy,mg_none_of X G afz,mg_none_of X G UC,mg_none_of X G afA,mg_none_of X G UD,mg_none_of X G afB,mg_of X G sN,(fun H=>.inr ⟨_,_,_,sO,rfl,rfl,(by show 3<=sizeLine;decide),(.cons ⟨_,rfl⟩ (.cons ⟨_,rfl⟩ (.cons ⟨_,rfl⟩ .nil)))⟩),mg_of X G sP,(fun H=>.inr ⟨_,_,_,sQ,rfl,rfl,(by show 3<=sizeLine;decide),(.cons ⟨_,rfl⟩ (.cons ⟨_,rfl⟩ (.cons ⟨_,rfl⟩ .nil)))⟩),mg_of X G oS,(fun H=>.inr ⟨_,_,_,oT,rfl,rfl,(by show 3<=sizeLine;decide),(.cons ⟨_,rfl⟩ (.cons ⟨_,rfl⟩ (.cons ⟨_,rfl⟩ .nil)))⟩),mg_of X G oU,(fun H=>.inr ⟨_,_,_,oV,rfl,rfl,(by show 2<=sizeLine;decide),(.cons ⟨_,rfl⟩ (.cons ⟨_,rfl⟩ .nil))⟩),mg_of X G mV,(fun H=>.inr ⟨_,_,_,mW,rfl,rfl,(by show 4<=sizeLine;decide),(.cons ⟨_,rfl⟩ (.cons ⟨_,rfl⟩ (.cons ⟨_,rfl⟩ (.cons ⟨_,rfl⟩ .nil))))⟩),mg_of X G qm,(fun H=>.inr ⟨_,_,_,qo,rfl,rfl,(by show 5<=sizeLine;decide),(.cons ⟨_,rfl⟩ (.cons ⟨_,rfl⟩ (.cons ⟨_,rfl⟩ (.cons ⟨_,rfl⟩ (.cons ⟨_,rfl⟩ .nil)))))⟩),mg_of X G qp,mg_of X G qq,⟨qt,_,_,qr,(.cons ⟨_,rfl⟩ (.cons ⟨_,rfl⟩ .nil)),by lk⟩,mg_of X G qu,⟨qw,_,_,qv,(.cons ⟨_,rfl⟩ (.cons ⟨_,rfl⟩ (.cons ⟨_,rfl⟩ (.cons ⟨_,rfl⟩ (.cons ⟨_,rfl⟩ (.cons ⟨_,rfl⟩ (.cons ⟨_,rfl⟩ (.cons ⟨_,rfl⟩ (.cons ⟨_,rfl⟩ .nil))))))))),by lk⟩,mg_of X G mX,⟨mZ,_,_,mY,(.cons ⟨_,rfl⟩ (.cons ⟨_,rfl⟩ .nil)),by lk⟩,mg_of X G vd,mg_of X G kX,mg_of X G oW,mg_of X G qx,mg_of X G Dw,mg_of X G qy,mg_of X G sR,mg_of X G ve,mg_of X G Kx,mg_of X G Dx,mg_of X G OF,⟨Ky,oC,mF,Kz⟩,⟨O4,O5,O6,O7⟩,gI,cR,cC,mg_of X G Ut,⟨O8,qd,oB,O9⟩,⟨UE,UG,UH,UI⟩,fb,iA,fc,gJ,mg_of X G Uu,⟨Pa,p4,om,Pb⟩,⟨UJ,UK,UL,UM⟩,bT,eJ,cS,mg_of X G KA,mg_of X G Dy,mg_of X G xP,mg_of X G UN,mg_of X G Dz,mg_of X G Ar,mg_of X G DA,mg_of X G DB,mg_of X G DC,mg_of X G KC,⟨KG,KH,KJ,KL⟩,⟨DD,DE,DF,DG⟩,⟨xQ,xR,xS,xV⟩,⟨UO,UP,UQ,UR⟩,⟨DH,DI,DJ,DK⟩,⟨As,Au,Av,Aw⟩,⟨DM,DN,DO,DP⟩,⟨DQ,DR,DS,DT⟩,⟨DV,DW,DX,DY⟩,⟨KN,KO,KP,KQ⟩,gm,eh,jK,gn,ff,gp,gq,gs,g7,g8,fg,dJ,cT,iK,gu,mh,fh,dM,iL,fi,en,dg,g9,eo,dN,fk,dO,iN,fm,eA,fo,fq,fu,fA,dP,iO,fB,eB,fD,fE,dQ,iP,fF,eC,fG,fH,gw,eD,jL,gx,fI,gy,gA,gB,hG⟩;exact⟨_,fun s v=>.of_eq rfl,fun base _ _=>ai4 T⟩
theorem walk {l:OpenLaw}{q:Program}{loose:List Str}{XP:(Str->Option Value)->Heap->Prop}{YP:World->Heap->Prop}{d:DefRec}{K:Params->Frag}(hn:l.most=some 63)(hdf:d.params.defaults=[])
  (hY:∀(w:World)(h:Heap),YP w h->(K w.params).In h)
  (F:∀(w:World)(mg:Str->Option Value)(fa:Addr)(h:Heap),(K w.params).In h->h.Ns mainGlobals mg->mg d.name=some (.ref fa) ->
   ∃ fd:FuncData,(∀(s:Shared)(u:Value),BindsTo s fd ⟨[u],[]⟩ [("_law_script",u)])/\∀ base:Heap,(K w.params).In base->base.Ns mainGlobals mg->bA l.prog w (K w.params) mg base k9 9 fa fd ["_law_script"] (MJ (K w.params))) :
  WalkO q loose XP YP l.row.toRowW d [] (fun f vs=>PySem.call f vs) :=
 L2.afT (n:=63) (k:=9) (x:="_law_script") (CX:=fun _=>k9) (sp:=fun w=>MJ (K w.params)) hn (by decide) hdf ⟨rfl,by decide,by decide⟩ hY F (fun _ H a ns hl hO hS=>abT hl hO hS) fun _ _ _ _ _ z=>z
end Ha
namespace PySem.W.Fast
def tw6779500907344105616:=()
def tw11857081474420417102:=()
def tw4767341296170659319:=()
def tw8038736202530163901:=()
def tw9443707031643954850:=()
def tw9022953709596970264:=()
def tw8979556909592970002:=()
def tw7656490805664134030:=()
def tw4517555372915137158:=()
def tw6763948231369567154:=()
def tw4692631224847344372:=()
def tw16158241089244910497:=()
def tw17496460945334861923:=()
def tw12583443676515453233:=()
def tw15629919455969994256:=()
def tw4196966408237972186:=()
def tw11927673704516674968:=()
def tw9955990397887433473:=()
def tw301152390797716674:=()
def tw16346772117771663086:=()
def tw4833041874067572515:=()
def tw1290863592629804107:=()
def tw2067582955647726803:=()
def tw3255366748758300208:=()
def tw13868077529451516691:=()
def tw7021451628064342452:=()
def tw5790667100289496777:=()
def tw11784991843006738325:=()
def tw4937973391671703392:=()
def tw5417938242876614483:=()
def tw7595240419705146188:=()
def tw13562785138079051338:=()
def tw16528969497102039651:=()
def tw12998569381415325176:=()
def tw16654681992045865805:=()
def tw524222795524569082:=()
def tw14386000321775185316:=()
def tw17497052493261162213:=()
def tw521131507707885625:=()
def tw13891257590931853748:=()
def tw17049399787703166900:=()
def tw3688584333353997326:=()
def tw3231774139847311424:=()
def tw10640480443964226047:=()
def tw9761635752922660957:=()
def tw16524236518835980361:=()
def tw9379423330390087630:=()
def tw9222880331521443915:=()
def tw16042430929295300114:=()
def tw5852705771358849270:=()
def tw1811087181863595848:=()
def tw16076438175504253645:=()
def tw14040536630089645259:=()
def tw2058224575944187010:=()
def tw14290104655525712272:=()
def tw7447047639610528335:=()
def tw9604177982686121487:=()
def tw1502422478100165525:=()
def tw1623753003503822704:=()
def tw4719991846662415236:=()
def tw10444499119017621050:=()
def tw11558488945130393786:=()
def tw12971268575232076322:=()
def tw16965466433279195742:=()
def tw12441264319088565372:=()
def tw1328868771500961444:=()
def tw10904041408317272949:=()
def tw3158806122068147489:=()
def tw17566699539427834485:=()
def tw360686821900237668:=()
def tw2167340959332163229:=()
def tw1976179698929162439:=()
def tw4144744719007095602:=()
def tw4174674820326381422:=()
def tw15356665749448679628:=()
def tw12026377972081895034:=()
def tw16057609444460150523:=()
def tw4394142426655579768:=()
def tw1222637333937749928:=()
def tw10013266323535159968:=()
def tw15798496936214693024:=()
def tw13764878229146610518:=()
def tw10414350911345117463:=()
def tw13501707632789628396:=()
def tw7602189423780465842:=()
def tw7712237600747677884:=()
def tw17892671539582237287:=()
def tw16575256083593426216:=()
def tw10518809264508996826:=()
def tw13894695911859128697:=()
def tw9404940477758862469:=()
def tw16508862306990519296:=()
def tw2724553048378750569:=()
def tw17343064905862506887:=()
def tw11238631459921498769:=()
def tw14338967387722752214:=()
def tw7234383099586294933:=()
def tw2837738932424428137:=()
def tw12850951268047038945:=()
def tw18371060352615315093:=()
def tw17920293098891449138:=()
def tw16567475880698599229:=()
def tw16488591450958699921:=()
def tw3131435179009144755:=()
def tw5268972258124288832:=()
def tw11647147321717994607:=()
def tw2424040758179113092:=()
def tw7844518640425692726:=()
def tw11110807425950813412:=()
def tw2063606410300766283:=()
def tw1028275829416661461:=()
def tw16665269731152906612:=()
def tw14949937679566221099:=()
def tw13328483879214864250:=()
def tw6048294439624759095:=()
def tw169869744864477136:=()
def tw9808934252218709651:=()
def tw16118918793574681928:=()
def tw2569876164731926546:=()
def tw952878631882892594:=()
def tw11311562838841631566:=()
def tw9999377667058940491:=()
def tw14949506161903786178:=()
def tw1049688878187789313:=()
def tw7432403762164377013:=()
def tw459786425641219040:=()
def tw6826265111421280:=()
def tw15582827636327064812:=()
def tw10315786401423954842:=()
def tw10015688368240308549:=()
def tw18140742263389541343:=()
def tw5422661023034483583:=()
def tw7123920984517039547:=()
def tw531061695541249242:=()
def tw9675097966165886165:=()
def tw2080595896696328853:=()
def tw3038840893949469718:=()
def tw5644949034746477870:=()
def tw8915177761761160776:=()
def tw16579387700642132429:=()
def tw3963237332775333001:=()
def tw3534946954670124265:=()
def tw5706353664883020373:=()
def tw12575024080672811012:=()
def tw2471827565853799266:=()
def tw14500854404338786382:=()
def tw2164243152437286554:=()
def tw1456178521932830035:=()
def tw6654734174041695492:=()
def tw4559777371316772475:=()
def tw2937170442529326972:=()
def tw3645067037365310171:=()
def tw2499505947162058760:=()
def tw11662672021895444477:=()
def tw10540760901339907572:=()
def tw7015535872318486708:=()
def tw3919558767803046165:=()
def tw12850395603006689729:=()
def tw9941516751919611766:=()
def tw9745777870117129055:=()
def tw2588145499774237904:=()
def tw8105543816133110108:=()
def tw1776327425942861747:=()
def tw14680153798347518549:=()
def tw10176319209496360686:=()
def tw12037136380054385072:=()
def tw13674098161995586332:=()
def tw14327811760313256233:=()
def tw3561957993336610591:=()
def tw13208046343253841827:=()
def tw730469737523594508:=()
def tw4926211529210907174:=()
def tw9591290209804229107:=()
def tw3316142411972202276:=()
def tw239924845890674620:=()
def tw5117728446100974168:=()
def tw10721052898586414198:=()
def tw6298674423928057936:=()
def tw6775815515382967746:=()
def tw14433264769849971671:=()
def tw4415877203426628965:=()
def tw2815263080432616842:=()
def tw905005177533617665:=()
def tw18054029521072220743:=()
def tw972423192890476293:=()
def tw1435690986459196440:=()
def tw13820820785701510805:=()
def tw14505018578931595423:=()
def tw7715600837077539209:=()
def tw13524000670671786138:=()
def tw3546026020490902112:=()
def tw9673135374303393191:=()
def tw11592457416035561092:=()
def tw16877725355909503136:=()
def tw3977791825609222319:=()
def tw11223744174463333763:=()
def tw4129842457969658390:=()
def tw17449610205196574899:=()
def tw15269437194154732766:=()
def tw12155181554234203534:=()
def tw13214282236273821933:=()
def tw4024695799079729440:=()
def tw10417362504721701877:=()
def tw9949248555005878915:=()
def tw10864741005158448616:=()
def tw7020638311911441700:=()
def tw12047548029410607877:=()
def tw12441441336135052501:=()
def tw13435311000678751924:=()
def tw11163247634224327701:=()
def tw9896622491479108681:=()
def tw5619684904283468760:=()
def tw4999767442863150981:=()
def tw13771220289308629610:=()
def tw13508064348555891730:=()
def tw8113369678174878650:=()
def tw3180930836893667359:=()
def tw4398021165443817961:=()
def tw15181564185502366650:=()
def tw6119456542136838784:=()
def tw196406119653602320:=()
def tw14504500253178340745:=()
def tw6913803077392592157:=()
def tw9760230515551666736:=()
def tw2345863896708448045:=()
def tw17262280175250000460:=()
def tw3716352078468613801:=()
def tw178446376086015017:=()
def tw3921650824167246970:=()
def tw11068109731872363971:=()
def tw9716672751812159447:=()
def tw9024311267591131322:=()
def tw16176292306048484318:=()
def tw16139566843541590693:=()
def tw4675881666024743702:=()
def tw8492113608685993882:=()
def tw12723698067383306448:=()
def tw3286387430215071009:=()
def tw12211607627468970294:=()
def tw8926104961062809778:=()
def tw7428766718997292744:=()
def tw15225609001007453628:=()
def tw6566043362529637639:=()
def tw8047013621963742401:=()
def tw815654267050885859:=()
def tw13100519971542311795:=()
def tw7511508907945752784:=()
def tw15576226863904578815:=()
def tw14446250583863013351:=()
def tw2098690229190893435:=()
def tw756761438189466061:=()
def tw4931123590963801396:=()
def tw13121674107866485220:=()
def tw1132456763512298056:=()
def tw9433635128517699400:=()
def tw2784364584504964623:=()
def tw599773697144931970:=()
def tw13253751384294983554:=()
def tw7133639397848728446:=()
def tw4274554265798061036:=()
def tw12246126237799118603:=()
def tw11337103040474292502:=()
def tw396400704645276379:=()
def tw5725760320512655359:=()
def tw17399826992512606051:=()
def tw1353167169106637474:=()
def tw14662071418390096817:=()
def tw8049155548453139018:=()
def tw5858337263253603110:=()
def tw16310468756777739577:=()
def tw2932171858694918801:=()
def tw13917856272871291335:=()
def tw358916365837745575:=()
def tw3668570354414545038:=()
def tw15800623859701240168:=()
def tw5362752331949708964:=()
def tw17750396798936694931:=()
def tw11530212424148404270:=()
def tw16597041129211350359:=()
def tw15835594199284208457:=()
def tw17263249585733718801:=()
def tw14650935634161614004:=()
def tw2818664209352071252:=()
def tw14774187536771654411:=()
def tw3204192322773417647:=()
def tw9674815028853739787:=()
def tw4988366273398370069:=()
def tw1080690128097081462:=()
def tw4477596535265936130:=()
def tw12083171921404144757:=()
def tw1408117378970568813:=()
def tw8838336268292396562:=()
def tw6620648214720717865:=()
def tw15832888036456077042:=()
def tw17813783135294660831:=()
def tw14745141448382647669:=()
def tw216717109919575541:=()
def tw10534956079966075680:=()
def tw12697657832472145849:=()
def tw17642475096902067274:=()
def tw1164541817464792717:=()
def tw9617912444429680661:=()
def tw14140055802667133776:=()
def tw11288448522060974038:=()
def tw15234508368210358464:=()
def tw10061668145055982249:=()
def tw15058051266771289315:=()
def tw7086104308583232484:=()
def tw11210870298856794382:=()
def tw18224841218466010400:=()
def tw9117651427133199878:=()
def tw6196238002726144020:=()
def tw8382615335257786522:=()
def tw10281339290614770544:=()
def tw11207740219743681776:=()
def tw6663970886241901708:=()
def tw3767634290652435951:=()
def tw10261968070158740835:=()
def tw15168549059677857211:=()
def tw9913855700765994275:=()
def tw1548896178823412238:=()
def tw13227341034868147190:=()
def tw9375601845579872252:=()
def tw684667959177570401:=()
def tw15128956231133942217:=()
def tw17942495169742187591:=()
def tw2094253429944236790:=()
def tw214194462232846501:=()
def tw6826831573413221602:=()
def tw7573966876720943616:=()
def tw11417686969435336538:=()
def tw9914724248161783599:=()
def tw9903239005039306833:=()
def tw17753622120709121661:=()
def tw3996192362400972266:=()
def tw16210333548352794646:=()
def tw9214273649122140174:=()
def tw15001552289133865918:=()
def tw1147750063850155967:=()
def tw9752320786168427750:=()
def tw3536496244511797829:=()
def tw11700407718904983986:=()
def tw17613502052340092645:=()
def tw15816031843258429925:=()
def tw17373235137584413593:=()
def tw779290417642473439:=()
def tw4471441990087915566:=()
def tw1404396353709562557:=()
def tw10000666966257738468:=()
def tw17501650783519074211:=()
def tw17222118797914806405:=()
def tw3767883478430031507:=()
def tw11253367549536676006:=()
def tw17458337101889032270:=()
def tw11365005424951643037:=()
def tw8502302526452980846:=()
def tw822315438232729545:=()
def tw1143746643603550927:=()
def tw14633241053151975467:=()
def tw581197664100491268:=()
def tw960150339286924387:=()
def tw7230505736525224069:=()
def tw5751825856199369143:=()
def tw14869689843785024179:=()
def tw16794154162576542851:=()
def tw7337108289407816947:=()
def tw8239549189678762600:=()
def tw16993362979153126336:=()
def tw6424267394678131439:=()
def tw3703319628824875049:=()
def tw8470884674437982840:=()
def tw12530714412517995923:=()
def tw6897692496295847519:=()
def tw11871039916159930142:=()
def tw12810162653552543140:=()
def tw5123936147951316560:=()
def tw16785441928684499144:=()
def tw76979113871770204:=()
def tw468794690210381667:=()
def tw15880968588050039170:=()
def tw8218340210112049257:=()
def tw18104007725061304679:=()
def tw13215387395822753351:=()
def tw13238654315141496120:=()
def tw1753636075500847519:=()
def tw17568193546986595968:=()
def tw16728390522195993081:=()
def tw12926900776669489277:=()
def tw953292476964110033:=()
def tw14137173212749247227:=()
def tw11894406412992888972:=()
def tw8783414553636802098:=()
def tw16117874439839475383:=()
def tw938635086289637858:=()
def tw11262740363501629327:=()
def tw17573588461092975364:=()
def tw8499232733187698028:=()
def tw7107066389761270405:=()
def tw12219135543094573621:=()
def tw14039693929088113766:=()
def tw15893349903106763774:=()
def tw6949157039346698995:=()
def tw13739867216034512397:=()
def tw14996299624426037703:=()
def tw1168286196155669114:=()
def tw12579620384680234155:=()
def tw11972311107324716286:=()
def tw5084422569676363535:=()
def tw18214240872039225706:=()
def tw4008187635152606371:=()
def tw16041749597444025894:=()
def tw8665885353842612883:=()
def tw15409904534795366856:=()
def tw14631097771796452091:=()
def tw10213145521797282709:=()
def tw6958687657981727831:=()
def tw3274251401110969789:=()
def tw8997864329959298837:=()
def tw57921493408579246:=()
def tw4012184281961996396:=()
def tw13479703714476143072:=()
def tw537320442817303040:=()
def tw8394024625023130235:=()
def tw16930042230110676875:=()
def tw18107796232020675448:=()
def tw6056768617225075220:=()
def tw5836272728093803240:=()
def tw13944738843454871277:=()
def tw5905280742379019807:=()
def tw16489224652237229577:=()
def tw15005418796480658850:=()
def tw14810222530495625832:=()
def tw10331802593004021013:=()
def tw8936858686472045499:=()
def tw16762918422696632011:=()
def tw16824367793718340710:=()
def tw17410078975948574915:=()
def tw6663902549049375605:=()
def tw6816998518750615840:=()
def tw7520087317697891634:=()
def tw9972079279371536942:=()
def tw13164521618624864694:=()
def tw13449086183035583472:=()
def tw7838493842547644490:=()
def tw15031421271930467925:=()
def tw3488530906532261441:=()
def tw15235943701024258283:=()
def tw16758077432305759470:=()
def tw10220211092133238320:=()
def tw2377399285248875814:=()
def tw4092782291553260776:=()
def tw14272325897043141104:=()
def tw16102639747045164429:=()
def tw17569029016973807190:=()
def tw8563843387601720737:=()
def tw14641375665996271633:=()
def tw6105069779855916482:=()
def tw11062248944440781638:=()
def tw1864666434248369212:=()
def tw1773401363909795297:=()
def tw1092932117044301921:=()
def tw16932203170366680567:=()
def tw5911790083615380290:=()
def tw5923043413017193495:=()
def tw5539388632308898150:=()
def tw17092235592463161272:=()
def tw1280578410948973587:=()
def tw17481074450649659292:=()
def tw13458089919041758441:=()
def tw3774173950771067592:=()
def tw5360711361117395565:=()
def tw16815783710602724635:=()
def tw1471049570224905579:=()
def tw5957538799217363460:=()
def tw8266617235802655624:=()
def tw6329736967359372919:=()
def tw17586500271754952725:=()
def tw1141270932019795584:=()
def tw7207367742615315772:=()
def tw6140895903308635177:=()
def tw17680312471894471261:=()
def tw16323210770853029082:=()
end PySem.W.Fast
open PySem PySem.W PyProof.Rows
set_option maxRecDepth 100000 in
set_option maxHeartbeats 0 in
theorem PySem.Challenge.cw_noteworth_k34_whole_way_back_holds : PySem.Challenge.rw_noteworth_k34_whole_way_back.Holds := by
 w_on;o_law;k_head;(case hw=>w_witness2)
 k_fill
 refine Ha.walk (l:=PySem.Challenge.rw_noteworth_k34_whole_way_back) rfl rfl (fun w h Y=>PySem.W.kIn_of Y) ?F
 case F =>
  intro w mg fa h KX G hmg
  refine' Ha.all_mk KX G hmg ?OF ?Ut ?Uu ?p4 ?p5 ?p6 ?p7 ?om ?JH ?JI ?JJ ?JK ?zw ?zx ?zy ?zA ?zB ?zC ?zD ?zE ?zF ?zG ?zH ?zI ?JL ?JM ?JN ?JO ?JP ?JQ ?JR ?JS ?JT ?JU ?JV ?JW ?oo ?oq ?ot ?ou ?mw ?mx ?my ?mz ?ow ?ox ?oy ?oz ?zJ ?zK ?zL ?zM ?zN ?zO ?zP ?uw ?xp ?zQ ?zR ?zS ?uy ?xq ?JX ?JY ?JZ ?AL ?C4 ?zT ?zU ?zV ?uz ?xr ?p8 ?p9 ?qa ?qb ?C5 ?C6 ?C7 ?C8 ?J0 ?J1 ?J2 ?J3 ?xt ?xu ?xw ?qS ?uU ?mB ?mC ?mD ?jm ?kR ?kc ?kd ?ke ?gP ?jM ?kS ?kU ?kW ?iD ?kf ?sE ?sF ?sG ?mE ?qc ?qd ?qe ?qf ?qg ?oB ?uV ?uW ?uX ?ph ?sH ?oC ?oE ?oF ?oG ?mF ?oH ?oI ?oJ ?j1 ?mG ?jn ?i4 ?i5 ?i6 ?i7 ?aah ?aai ?aaj ?aak ?mH ?mI ?mJ ?mK ?Uv ?Uw ?Ux ?Fn ?J4 ?J5 ?J6 ?J7 ?C9 ?Dc ?Df ?Dg ?sI ?sJ ?sL ?sM ?OG ?OH ?OI ?OJ ?Dh ?Di ?Dj ?xy ?zW ?Dk ?Dl ?Dm ?xA ?zX ?zY ?zZ ?z0 ?uA ?xB ?oK ?oM ?oN ?j2 ?mL ?z9 ?Aa ?Ab ?uB ?xC ?aal ?aam ?aan ?aao ?J8 ?J9 ?Ka ?Kb ?xE ?xF ?xG ?qT ?uY ?Kc ?Ke ?Kf ?Kg ?Kh ?Ki ?Kj ?Kk ?OK ?OL ?OM ?ON ?Dn ?Dp ?Dq ?Dr ?uC ?Kl ?Km ?Kn ?Ko ?uZ ?va ?vb ?vc ?i8 ?i9 ?ja ?jb ?aap ?aaq ?aar ?aas ?Mm ?qh ?qi ?qj ?qk ?oO ?oP ?oQ ?oR ?mM ?mO ?mP ?mQ ?mR ?mS ?mT ?mU ?xH ?xI ?xJ ?xK ?Kp ?Kq ?Kr ?Ks ?OO ?OP ?OQ ?OR ?AM ?OS ?OT ?OU ?OV ?Ac ?Ad ?Ae ?uD ?xM ?Af ?Ag ?Ah ?uE ?xN ?Ai ?Aj ?Ak ?Al ?OW ?OX ?OY ?OZ ?Kt ?Ku ?Kv ?Kw ?Uy ?Uz ?UA ?UB ?O0 ?O1 ?O2 ?O3 ?Am ?An ?Ao ?Ap ?Ds ?Dt ?Du ?Dv ?abl ?afr ?afs ?aft ?afu ?afv ?aat ?aau ?Aq ?afw ?xO ?afx ?aav ?afy ?afz ?UC ?afA ?UD ?afB ?sN ?sO ?sP ?sQ ?oS ?oT ?oU ?oV ?mV ?mW ?qm ?qo ?qp ?qq ?qr ?qt ?qu ?qv ?qw ?mX ?mY ?mZ ?vd ?kX ?oW ?qx ?Dw ?qy ?sR ?ve ?Kx ?Dx ?Ky ?Kz ?O4 ?O5 ?O6 ?O7 ?gI ?cR ?cC ?O8 ?O9 ?UE ?UG ?UH ?UI ?fb ?iA ?fc ?gJ ?Pa ?Pb ?UJ ?UK ?UL ?UM ?bT ?eJ ?cS ?KA ?Dy ?xP ?UN ?Dz ?Ar ?DA ?DB ?DC ?KC ?KG ?KH ?KJ ?KL ?DD ?DE ?DF ?DG ?xQ ?xR ?xS ?xV ?UO ?UP ?UQ ?UR ?DH ?DI ?DJ ?DK ?As ?Au ?Av ?Aw ?DM ?DN ?DO ?DP ?DQ ?DR ?DS ?DT ?DV ?DW ?DX ?DY ?KN ?KO ?KP ?KQ ?gm ?eh ?jK ?gn ?ff ?gp ?gq ?gs ?g7 ?g8 ?fg ?dJ ?cT ?iK ?gu ?mh ?fh ?dM ?iL ?fi ?en ?dg ?g9 ?eo ?dN ?fk ?dO ?iN ?fm ?eA ?fo ?fq ?fu ?fA ?dP ?iO ?fB ?eB ?fD ?fE ?dQ ?iP ?fF ?eC ?fG ?fH ?gw ?eD ?jL ?gx ?fI ?gy ?gA ?gB ?hG
  (case OF|Ut|Uu|p4|p5|p6|p7|om|JH|JI|JJ|JK|zw|zx|zy|zA|zB|zC|zD|zE|zF|zG|zH|zI|JL|JM|JN|JO|JP|JQ|JR|JS|JT|JU|JV|JW|oo|oq|ot|ou|mw|mx|my|mz|ow|ox|oy|oz|zJ|zK|zL|zM|zN|zO|zP|uw|xp|zQ|zR|zS|uy|xq|JX|JY|JZ|AL|C4|zT|zU|zV|uz|xr|p8|p9|qa|qb|C5|C6|C7|C8|J0|J1|J2|J3|xt|xu|xw|qS|uU|mB|mC|mD|jm|kR|kc|kd|ke|gP|jM|kS|kU|kW|iD|kf|sE|sF|sG|mE|qc|qd|qe|qf|qg|oB|uV|uW|uX|ph|sH|oC|oE|oF|oG|mF|oH|oI|oJ|j1|mG|jn|i4|i5|i6|i7|aah|aai|aaj|aak|mH|mI|mJ|mK|Uv|Uw|Ux|Fn|J4|J5|J6|J7|C9|Dc|Df|Dg|sI|sJ|sL|sM|OG|OH|OI|OJ|Dh|Di|Dj|xy|zW|Dk|Dl|Dm|xA|zX|zY|zZ|z0|uA|xB|oK|oM|oN|j2|mL|z9|Aa|Ab|uB|xC|aal|aam|aan|aao|J8|J9|Ka|Kb|xE|xF|xG|qT|uY|Kc|Ke|Kf|Kg|Kh|Ki|Kj|Kk|OK|OL|OM|ON|Dn|Dp|Dq|Dr|uC|Kl|Km|Kn|Ko|uZ|va|vb|vc|i8|i9|ja|jb|aap|aaq|aar|aas|Mm|qh|qi|qj|qk|oO|oP|oQ|oR|mM|mO|mP|mQ|mR|mS|mT|mU|xH|xI|xJ|xK|Kp|Kq|Kr|Ks|OO|OP|OQ|OR|AM|OS|OT|OU|OV|Ac|Ad|Ae|uD|xM|Af|Ag|Ah|uE|xN|Ai|Aj|Ak|Al|OW|OX|OY|OZ|Kt|Ku|Kv|Kw|Uy|Uz|UA|UB|O0|O1|O2|O3|Am|An|Ao|Ap|Ds|Dt|Du|Dv|abl|afr|afs|aft|afu|afv|aat|aau|Aq|afw|xO|afx|aav|afy|afz|UC|afA|UD|afB|sN|sO|sP|sQ|oS|oT|oU|oV|mV|mW|qm|qo|qp|qq|qr=>k_is)
  (case qt=>rfl)
  (case qu|qv=>k_is)
  (case qw=>rfl)
  (case mX|mY=>k_is)
  (case mZ=>rfl)
  (case vd|kX|oW|qx|Dw|qy|sR|ve|Kx|Dx|Ky|Kz|O4|O5|O6|O7|gI|cR|cC|O8|O9|UE|UG|UH|UI|fb|iA|fc|gJ|Pa|Pb|UJ|UK|UL|UM|bT|eJ|cS|KA|Dy|xP|UN|Dz|Ar|DA|DB|DC|KC=>k_is)
  (case KG=>k_exc)
  (case KH|KJ|KL=>k_is)
  (case DD=>k_exc)
  (case DE|DF|DG=>k_is)
  (case xQ=>k_exc)
  (case xR|xS|xV=>k_is)
  (case UO=>k_exc)
  (case UP|UQ|UR=>k_is)
  (case DH=>k_exc)
  (case DI|DJ|DK=>k_is)
  (case As=>k_exc)
  (case Au|Av|Aw=>k_is)
  (case DM=>k_exc)
  (case DN|DO|DP=>k_is)
  (case DQ=>k_exc)
  (case DR|DS|DT=>k_is)
  (case DV=>k_exc)
  (case DW|DX|DY=>k_is)
  (case KN=>k_exc)
  (case KO|KP|KQ=>k_is)
  (case gm|eh|jK|gn|ff|gp|gq|gs|g7|g8|fg|dJ|cT|iK|gu|mh|fh|dM|iL|fi|en|dg|g9|eo|dN|fk|dO|iN|fm|eA|fo|fq|fu|fA|dP|iO|fB|eB|fD|fE|dQ|iP|fF|eC|fG|fH|gw|eD|jL|gx|fI|gy|gA|gB|hG=>kts_exm)
