import PyProof.Rows.All
import Wide.All
import OpenK.AllK
import Wide.FinOn
import Lean
import PyProof.EqAt
import PyProof.EqKinds
import PyProof.TupleCall
import PySem.Challenge.RW_noteworth_k43_whole_rubs
set_option Elab.async false
set_option linter.all false
set_option maxRecDepth 100000
open PySem.W (Frag OpenLaw WalkO callWith_K callWith_K0 codeIn emptyDict excIn findIn fnOf handedIn hasDictIn instObj isFn keepIn kia_one kitOne kitx_dict kitx_list lookIn makesIn methodCall_KW methodObj mg_none_of mg_of mroIn nsIn plainGet plainGet_of plainOver specialIn takerIn)
open List (length_map length_append length_take length_drop mem_append mem_singleton mem_cons_self mem_cons_of_mem mem_append_left mem_append_right mem_of_getElem? size_toArray take_length getElem?_map map_append map_cons length_cons take_succ getElem?_eq_getElem getElem?_append_left getElem?_append_right mem_map any_eq_true all_eq_true length_range mem_range getElem?_drop length_singleton map_take append_nil nil_append getElem?_of_mem)
open PySem.F (entry_zip_next plainAttrs_list slot_dict_get slot_enumerate_next slot_list_pop slot_zip_next type_list_pop)
noncomputable section
set_option compiler.extract_closed false
set_option bootstrap.genMatcherCode false
set_option genInjectivity false
set_option genSizeOf false
local macro_rules | `(tactic| lk) => `(tactic| decide +kernel)
local macro_rules | `(tactic| z_go) => `(tactic| first | (exact fun _ _ _ _ _ _ us hl => match us, hl with | [_], _ => rfl) | (exact fun _ _ _ _ _ _ us hl => match us, hl with | [_, _], _ => rfl) | (exact fun _ _ _ _ _ _ us hl => match us, hl with | [_, _, _], _ => rfl) | (exact fun _ _ _ _ _ _ us hl => match us, hl with | [_, _, _, _], _ => rfl) | (exact fun _ _ _ _ _ _ us hl => match us, hl with | [_, _, _, _, _], _ => rfl) | (exact fun _ _ _ _ _ _ us hl => match us, hl with | [_, _, _, _, _, _], _ => rfl))
def A' := @PySem.wpAny_bind
def C' := @List.getElem?_eq_some_iff
def G' := @List.getElem?_eq_getElem
def J' := @List.length_map
def K' := @of_decide_eq_true
def L' := @PySem.Heap.get?_push_of_some
def N' := @decide_eq_true
def P' := @PySem.wpAny_pure
def R' := @Nat.le_refl
def S' := @PySem.Heap.lt_size
def T' := @List.length_append
def U' := @Bool.eq_false_iff
def V' := @absurd
def W' := @Option.some.inj
def X' := @List.mem_of_getElem?
def Y' := @decide_eq_false
def Z' := @Bool.false_ne_true
namespace L2
open PySem PySem.Spec PyProof.Rows
noncomputable abbrev Key:=Sum Int Str
noncomputable def KN:Key->Value->Bool
 |.inl k,v=>Value.isInt k v
 |.inr x,v=>Value.isStrOf x v
noncomputable def amc (w:World):Key->Int
 |.inl k=>hashInt k
 |.inr x=>hashStr w x
theorem dP:∀{k:Key} {v:Value},KN k v=true->(∃ i t,k=Sum.inl i/\v=Value.int i t)\/(∃ x t,k=Sum.inr x/\v=Value.str x t)
 |.inl i,v,h=>by
  obtain⟨t,e⟩:=Value.isInt_shape (k:=i) (v:=v) h;exact .inl ⟨i,t,rfl,e⟩
 |.inr x,v,h=>by
  obtain⟨t,e⟩:=Value.isStrOf_shape (x:=x) (v:=v) h;exact .inr ⟨x,t,rfl,e⟩
theorem aaf (i:Int)(t:Tok):KN (.inl i) (.int i t)=true:=by simp[KN,Value.isInt]
theorem aag (x:Str)(t:Tok):KN (.inr x) (.str x t)=true:=by simp[KN,Value.isStrOf]
theorem ahQ (a b:Int):decide ((Sum.inl a:Key)=Sum.inl b)=(a==b):=by
 by_cases e:a=b
 ·subst e;simp
 ·have h:¬(Sum.inl a:Key)=Sum.inl b:=fun q=>e (Sum.inl.inj q);rw[Y' h];exact(beq_eq_false_iff_ne.mpr e).symm
theorem ahR (a b:Str):decide ((Sum.inr a:Key)=Sum.inr b)=decide (a=b):=by
 by_cases e:a=b
 ·subst e;simp
 ·have h:¬(Sum.inr a:Key)=Sum.inr b:=fun q=>e (Sum.inr.inj q);rw[Y' h,Y' e]
theorem ahS (a:Int)(b:Str):decide ((Sum.inl a:Key)=Sum.inr b)=false:=Y' (fun q=>nomatch q)
theorem ahT (a:Str)(b:Int):decide ((Sum.inr a:Key)=Sum.inl b)=false:=Y' (fun q=>nomatch q)
noncomputable def bX (prog:Program)(w:World):PySem.KeyKind prog w Key where
 is:=KN
 hash:=amc w
 inj:=fun v a b ha hb=>by
  rcases dP ha with ⟨i,t,rfl,rfl⟩|⟨x,t,rfl,rfl⟩
  ·rcases dP hb with ⟨j,u,rfl,e⟩|⟨y,u,rfl,e⟩
   ·injection e with e1 _;rw[e1]
   ·exact nomatch e
  ·rcases dP hb with ⟨j,u,rfl,e⟩|⟨y,u,rfl,e⟩
   ·exact nomatch e
   ·injection e with e1 _;rw[e1]
 byValue:=fun k v h=>by
  rcases dP h with ⟨i,t,rfl,rfl⟩|⟨x,t,rfl,rfl⟩ <;> rfl
 pyHash:=fun hv h=>by
  rcases dP hv with ⟨i,t,rfl,rfl⟩|⟨x,t,rfl,rfl⟩
  ·exact wpAny_pyHash_int h
  ·exact wpAny_pyHash_str h
 eqBool:=fun hu hv h=>by
  rcases dP hu with ⟨i,t,rfl,rfl⟩|⟨x,t,rfl,rfl⟩
  ·rcases dP hv with ⟨j,u,rfl,rfl⟩|⟨y,u,rfl,rfl⟩
   ·rw[ahQ]at h;exact wpAny_eqBool_int h
   ·rw[ahS]at h;exact SeqAt.EqAt.int_str i t y u _ _ _ _ h
  ·rcases dP hv with ⟨j,u,rfl,rfl⟩|⟨y,u,rfl,rfl⟩
   ·rw[ahT]at h;exact SeqAt.EqAt.str_int x t j u _ _ _ _ h
   ·rw[ahR]at h;exact wpAny_eqBool_str h
 «strs»:=fun k x t v h=>by
  rcases dP h with ⟨i,u,rfl,e⟩|⟨y,u,rfl,e⟩
  ·exact nomatch e
  ·injection e with e1 _
   subst e1;cases v <;> rfl
theorem UJ (prog:Program)(w:World)(i:Int)(t:Tok):(bX prog w).is (.inl i) (.int i t)=true:=aaf i t
theorem ki (prog:Program)(w:World)(x:Str)(t:Tok):(bX prog w).is (.inr x) (.str x t)=true:=aag x t
end L2
namespace L2
open PySem PySem.Spec PyProof.Rows
set_option genInjectivity true in
inductive V where
 |non|bl (b:Bool)|int (i:Int)|str (x:Str)|byt (b:Array UInt8)|flt (b:UInt64)|ref (a:Addr)|ty (n:String)
 deriving DecidableEq
noncomputable def RelV:V->Value->Prop
 |.non,u=>u=Value.none
 |.bl b,u=>u=Value.bool b
 |.int i,u=>∃ t,u=Value.int i t
 |.str x,u=>∃ t,u=Value.str x t
 |.byt b,u=>∃ t,u=Value.bytes b t
 |.flt b,u=>∃ t,u=Value.float b t
 |.ref a,u=>u=Value.ref a
 |.ty n,u=>u=Value.type n
noncomputable abbrev Vals:List V->List Value->Prop:=Paired RelV
theorem Vals.length {xs:List V}{us:List Value}(r:Vals xs us):xs.length=us.length:=Paired.length r
theorem Vals.get:∀{xs:List V} {us:List Value} {i:Nat} {x:V},Vals xs us->xs[i]? = some x->∃ u,us[i]? = some u/\RelV x u
 |_,_,_,_,.nil,e=>by simp at e
 |_,_,0,_,.cons r _,e=>by simp at e;subst e;exact⟨_,rfl,r⟩
 |_,_,i+1,x,.cons _ t,e=>by
  obtain⟨u,h1,h2⟩:=Vals.get (i:=i) (x:=x) t (by simpa using e);exact⟨u,by simpa using h1,h2⟩
theorem Vals.set {x:V}{u:Value}(r:RelV x u):∀{xs:List V} {us:List Value} (i:Nat),Vals xs us->Vals (xs.set i x) (us.set i u)
 |_,_,_,.nil=>.nil
 |_,_,0,.cons _ t=>.cons r t
 |_,_,i+1,.cons q t=>.cons q (Vals.set r i t)
theorem Vals.append:∀{xs ys:List V} {us ws:List Value},Vals xs us->Vals ys ws->Vals (xs++ys) (us++ws)
 |_,_,_,_,.nil,s=>s
 |_,_,_,_,.cons r t,s=>.cons r (Vals.append t s)
theorem Vals.take:∀{xs:List V} {us:List Value} (n:Nat),Vals xs us->Vals (xs.take n) (us.take n)
 |_,_,0,_=>.nil
 |_,_,_+1,.nil=>.nil
 |_,_,n+1,.cons r t=>.cons r (Vals.take n t)
theorem Vals.drop:∀{xs:List V} {us:List Value} (n:Nat),Vals xs us->Vals (xs.drop n) (us.drop n)
 |_,_,0,r=>r
 |_,_,_+1,.nil=>.nil
 |_,_,n+1,.cons _ t=>Vals.drop n t
noncomputable def uI:Option V->Option Value->Prop
 |some v,some u=>RelV v u
 |none,none=>True
 |_,_=>False
noncomputable def KV {κ:Type}:List (κ×V)->List (κ×Value)->Prop:=Paired fun(p:κ×V)(q:κ×Value)=>p.1=q.1/\RelV p.2 q.2
noncomputable def kV:Key->V
 |.inl i=>.int i
 |.inr x=>.str x
inductive HO where
 /-- a list -/
 |lst (xs:List V)
 /-- a tuple (never changes) -/
 |tup (xs:List V)
 /-- a dict whose keys are ints and texts;one whose keys are tuples of ints and texts (the empty one is both) -/
 |dK (kvs:List (Key×V))|dT (kvs:List (List Key×V))
 /-- a set of ints: its members,its size -/
 |set (S:Int->Bool) (n:Nat)
 /-- an instance of the class at C,its dict at dx,its attributes -/
 |ins (C dx:Addr) (fs:List (Str×V))
 /-- the dict of the instance at x -/
 |own (x:Addr)
 /-- the dict of an exception -/
 |xd (fs:List (Str×V))
 /-- a bound method,f of x -/
 |met (f x:Addr)
 /-- a range object lo,lo+1,.. below hi -/
 |rng (lo hi:Int)
 /-- a thing that is known to the object (the script;a dict while a loop walks it): read,never written while it is so -/
 |Zo (o:Obj) (u:HO)
 /-- a code object's table -/
 |tbl (ps:Array Value)
 /-- any other thing,by what is true of its one object (a def of one's own: apo a S n:=HO.ext fun h=>..) -/
 |ext (φ:Heap->Prop)
noncomputable abbrev Hp:=Addr->Option HO
noncomputable def upd (H:Hp)(a:Addr)(o:HO):Hp:=fun b=>if b=a then some o else H b
theorem af {H:Hp}{a:Addr}{o:HO}:upd H a o a=some o:=by unfold upd;rw[if_pos rfl]
theorem ak {H:Hp}{a b:Addr}{o:HO}(h:b≠a):upd H a o b=H b:=by unfold upd;rw[if_neg h]
theorem df {H:Hp}{a:Addr}{o u:HO}:upd (upd H a o) a u=upd H a u:=by
 funext b;unfold upd;split <;> rfl
theorem mQ {H:Hp}{a b:Addr}{o u:HO}(h:H a=some o)(h':H b=some u)(d:o≠u):a≠b:=by
 intro e;subst e;rw[h]at h';exact d (W' h')
theorem ar {H:Hp}{a b:Addr}{o:HO}(h:H a=some o)(h':H b=none):a≠b:=by
 intro e;subst e;rw[h]at h';cases h'
section
variable (P:Program) (w:World)
noncomputable def fA (H:Hp)(h:Heap)(a:Addr):HO->Prop
 |.lst xs=>xs.length<=sizeLine/\∃(its:List Value)(n:Nat),Vals xs its/\h.get? a=some { cls:=.type "list",data:=.seq its.toArray n }
 |.tup xs=>xs.length<=sizeLine/\∃ its:List Value,Vals xs its/\IsTup h a its.toArray
 |.dK kvs=>kvs.length<=sizeLine/\(a==sysModules)=false/\∃ vs,KV kvs vs/\h.DictOf (bX P w) a vs
 |.dT kvs=>kvs.length<=sizeLine/\(a==sysModules)=false/\∃ xs:List (List Key×Addr×Value),
   Paired (fun(p:List Key×V)(q:List Key×Addr×Value)=>p.1=q.1/\H q.2.1=some (.tup (p.1.map kV))/\RelV p.2 q.2.2) kvs xs /\
   ∃ o es ep,h.get? a=some o/\o.ExactDict/\o.data=.dict es ep/\es.toList=xs.map (entryOfKey (tupleKind (bX P w)))/\(xs.map (·.1)).Nodup
 |.set S n=>h.SetOf (intKind P w) a S n
 |.ins C dx fs=>H dx=some (.own a)/\fs.length<=1000/\dx≠a/\h.get? a=some (instObj C dx) /\
   ∃ mA,h.Ns1 dx mA/\(∀ f,uI (fs.lookup f) (mA f))/\PySem.Within mA (fs.map (·.1))
 |.own _=>∃ o,h.get? a=some o
 |.xd fs=>∃ mA,h.Ns1 a mA/\∀ f,uI (fs.lookup f) (mA f)
 |.rng lo hi=>∃ t u v,h.get? a=some { cls:=.type "range",data:=.fields #[.int lo t,.int hi u,.int 1 v] }
 |.Zo o u=>h.get? a=some o/\fA H h a u
 |.tbl ps=>h.get? a=some { cls:=.none,data:=.fields ps }
 |.met f x=>h.get? a=some (methodObj (.ref f) (.ref x))
 |.ext φ=>φ h/\(∃ o,h.get? a=some o)/\∀ h1 h2:Heap,φ h1->(∀ o,h1.get? a=some o->h2.get? a=some o)->φ h2
noncomputable def Bl (H:Hp)(h:Heap):Prop:=∀ a o,H a=some o->fA P w H h a o
end
section
variable {P:Program} {w:World} {H H':Hp} {h h':Heap} {a:Addr} {o:HO}
theorem fA.lt (x:fA P w H h a o):a<h.objs.size:=by
 cases o with
 |lst xs=>obtain⟨_,_,_,_,e⟩:=x;exact S' e
 |tup xs=>obtain⟨_,_,_,p⟩:=x;exact p.lt
 |dK kvs=>obtain⟨_,_,_,_,o,_,_,e,_⟩:=x;exact S' e
 |dT kvs=>obtain⟨_,_,_,_,o,_,_,e,_⟩:=x;exact S' e
 |set S n=>obtain⟨o,_,_,_,e,_⟩:=x;exact S' e
 |ins C dx fs=>obtain⟨_,_,_,e,_⟩:=x;exact S' e
 |own y=>obtain⟨_,e⟩:=x;exact S' e
 |xd fs=>obtain⟨_,⟨_,_,_,e,_⟩,_⟩:=x;exact S' e
 |rng lo hi=>obtain⟨_,_,_,e⟩:=x;exact S' e
 |Zo ob u=>obtain⟨e,_⟩:=x;exact S' e
 |tbl ps=>exact S' (show h.get? a=some _ from x)
 |met f y=>exact S' (show h.get? a=some _ from x)
 |ext φ=>obtain⟨_,⟨_,e⟩,_⟩:=x;exact S' e
theorem Paired.ajK {α β:Type}{F G:α->β->Prop}:∀{l₁:List α} {l₂:List β},Paired F l₁ l₂->(∀ a b,F a b->G a b)->Paired G l₁ l₂
 |_,_,.nil,_=>.nil
 |_,_,.cons r t,f=>.cons (f _ _ r) (Paired.ajK t f)
theorem fA.stay (x:fA P w H h a o)(k:∀ b u,(b=a\/H b=some (.own a))->h.get? b=some u->h'.get? b=some u)
  (ho:∀ b,H b=some (.own a)->H' b=some (.own a)) (ht:∀ b xs,H b=some (.tup xs)->H' b=some (.tup xs)):fA P w H' h' a o:=by
 induction o with
 |lst xs=>obtain⟨z,its,n,r,e⟩:=x;exact⟨z,its,n,r,k _ _ (.inl rfl) e⟩
 |tup xs=>obtain⟨z,its,r,ob,e,c⟩:=x;exact⟨z,its,r,ob,k _ _ (.inl rfl) e,c⟩
 |dK kvs=>obtain⟨z,y,vs,r,ob,es,ep,e,c⟩:=x;exact⟨z,y,vs,r,ob,es,ep,k _ _ (.inl rfl) e,c⟩
 |dT kvs =>
  obtain⟨z,y,xs,r,ob,es,ep,e,c⟩:=x;exact⟨z,y,xs,Paired.ajK r fun p q z=>⟨z.1,ht _ _ z.2.1,z.2.2⟩,ob,es,ep,k _ _ (.inl rfl) e,c⟩
 |set S n=>obtain⟨ob,es,ep,t,e,c⟩:=x;exact⟨ob,es,ep,t,k _ _ (.inl rfl) e,c⟩
 |ins C dx fs =>
  obtain⟨d,z,ne,e,mA,⟨od,es,ep,e2,c⟩,r⟩:=x;exact⟨ho _ d,z,ne,k _ _ (.inl rfl) e,mA,⟨od,es,ep,k _ _ (.inr d) e2,c⟩,r⟩
 |own y=>obtain⟨ob,e⟩:=x;exact⟨ob,k _ _ (.inl rfl) e⟩
 |xd fs=>obtain⟨mA,⟨od,es,ep,e,c⟩,r⟩:=x;exact⟨mA,⟨od,es,ep,k _ _ (.inl rfl) e,c⟩,r⟩
 |rng lo hi=>obtain⟨t,u,v,e⟩:=x;exact⟨t,u,v,k _ _ (.inl rfl) e⟩
 |Zo ob u ih=>obtain⟨e,q⟩:=x;exact⟨k _ _ (.inl rfl) e,ih q⟩
 |tbl ps =>
  have e:h.get? a=some { cls:=.none,data:=.fields ps }:=x;show h'.get? a=some { cls:=.none,data:=.fields ps };exact k a _ (.inl rfl) e
 |met f y =>
  have e:h.get? a=some (methodObj (.ref f) (.ref y)):=x;show h'.get? a=some (methodObj (.ref f) (.ref y));exact k a _ (.inl rfl) e
 |ext φ=>obtain⟨p,⟨o,e⟩,st⟩:=x;exact⟨st _ _ p fun o q=>k _ _ (.inl rfl) q,⟨o,k _ _ (.inl rfl) e⟩,st⟩
theorem Bl.lt (x:Bl P w H h)(e:H a=some o):a<h.objs.size:=(x a o e).lt
theorem Bl.fresh (x:Bl P w H h)(e:h.objs.size<=a):H a=none:=by
 cases q:H a with
 |none=>rfl
 |some u=>exact V' (Nat.lt_of_lt_of_le (x.lt q) e) (Nat.lt_irrefl _)
theorem Bl.kept (x:Bl P w H h)(k:∀ b u,h.get? b=some u->h'.get? b=some u):Bl P w H h':=fun a o e =>
 (x a o e).stay (fun b u _ q=>k b u q) (fun _ q=>q) fun _ _ q=>q
theorem Bl.laid (x:Bl P w H h)(k:∀ b u,h.get? b=some u->h'.get? b=some u)(hp:h.objs.size<=a)(new:fA P w (upd H a o) h' a o):Bl P w (upd H a o) h':=fun b u e=>by
 have hn:=x.fresh hp
 by_cases hb:b=a
 ·subst hb;rw[af]at e;cases e;exact new
 ·rw[ak hb]at e;exact(x b u e).stay (fun c v _ q=>k c v q) (fun c q=>by rw[ak (ar q hn)];exact q) fun c xs q=>by rw[ak (ar q hn)];exact q
end
noncomputable def Rd (H:Hp)(a:Addr)(u:HO):Prop:=H a=some u\/∃ o,H a=some (.Zo o u)
theorem Rd.ok {P:Program}{w:World}{H:Hp}{h:Heap}{a:Addr}{u:HO}(r:Rd H a u)(x:Bl P w H h):fA P w H h a u:=by
 rcases r with r|⟨o,r⟩
 ·exact x a u r
 ·obtain⟨_,q⟩:=x a _ r;exact q
noncomputable def Mut:Option HO->Prop
 |some (.lst _)=>True
 |some (.dK _)=>True
 |some (.dT _)=>True
 |some (.set _ _)=>True
 |some (.ins _ _ _)=>True
 |some (.ext _)=>True
 |_=>False
section
variable {P:Program} {w:World} {H:Hp} {h h':Heap} {x e:Addr} {o':HO}
theorem Bl.write (ok:Bl P w H h)(mu:Mut (H x))(he:e=x\/H e=some (.own x))(k:∀ b u,b≠e->h.get? b=some u->h'.get? b=some u)(heo:∃ u,h'.get? e=some u)
  (new:fA P w (upd H x o') h' x o'):Bl P w (upd H x o') h':=fun b u q=>by
 have ajM:∀ c y,H c=some (.own y)->c≠x:=fun c y r z=>by subst z;rw[r]at mu;exact mu
 have ame:∀ c xs,H c=some (.tup xs)->c≠x:=fun c xs r z=>by subst z;rw[r]at mu;exact mu
 by_cases hb:b=x
 ·subst hb;rw[af]at q;cases q;exact new
 ·rw[ak hb]at q
  by_cases hbe:b=e
  ·have q':H b=some (.own x):=by
    rcases he with z|z
    ·exact V' (hbe.trans z) hb
    ·rw[hbe];exact z
   rw[q]at q';cases q';obtain⟨v,hv⟩:=heo;exact⟨v,by rw[hbe];exact hv⟩
  ·refine(ok b u q).stay (fun c v hc r=>k c v ?_ r) (fun c r=>by rw[ak (ajM c b r)];exact r) fun c xs r=>by rw[ak (ame c xs r)];exact r
   rcases hc with rfl|hc
   ·exact hbe
   ·rintro rfl;rcases he with z|z
    ·exact ajM c b hc z
    ·rw[hc]at z;cases z;exact hb rfl
end
structure Un (fs ex:List Addr)(H H':Hp)(h h':Heap):Prop where
 keep:∀ b o,h.get? b=some o->H b=none->b ∉ fs->b ∉ ex->h'.get? b=some o
 slot:∀ b o,h.get? b=some o->H b=none->b∈fs->b ∉ ex->∃ sl,h'.get? b=some { o with slots:=sl }
 free:∀ b o,h.get? b=some o->H b=none->b ∉ ex->H' b=none
 there:∀ b o,h.get? b=some o->b ∉ ex->∃ o',h'.get? b=some o'
 tups:∀ b xs,H b=some (.tup xs)->H' b=some (.tup xs)
 NZ:∀ b o u,H b=some (.Zo o u)->H' b=some (.Zo o u)
 Qj:∀ b ps,H b=some (.tbl ps)->∃ more,H' b=some (.tbl (ps++more))
section
variable {fs fs' ex ex':List Addr} {H H1 H2:Hp} {h h1 h2 h':Heap} {a x e:Addr} {o:HO}
theorem Un.any (u:Un fs ex H H1 h h1){b:Addr}{ob:Obj}(q:h.get? b=some ob)(n:H b=none)(hx:b ∉ ex):∃ sl,h1.get? b=some { ob with slots:=sl }:=by
 by_cases hb:b∈fs
 ·exact u.slot b ob q n hb hx
 ·exact⟨ob.slots,u.keep b ob q n hb hx⟩
theorem Un.kept (k:∀ b u,h.get? b=some u->h'.get? b=some u):Un fs ex H H h h' :=
 ⟨fun b ob q _ _ _=>k b ob q,fun b ob q _ _ _=>⟨ob.slots,k b ob q⟩,fun _ _ _ n _=>n,fun b ob q _=>⟨ob,k b ob q⟩,fun _ _ q=>q,fun _ _ _ q=>q,fun _ ps q=>⟨#[],by rw[q];simp⟩⟩
theorem Un.refl:Un fs ex H H h h:=Un.kept fun _ _ q=>q
theorem Un.laid (k:∀ b u,h.get? b=some u->h'.get? b=some u)(hp:h.objs.size<=a)(hn:H a=none):Un fs ex H (upd H a o) h h' where
 keep:=fun b u q _ _ _=>k b u q
 slot:=fun b u q _ _ _=>⟨u.slots,k b u q⟩
 free:=fun b u q n _=>by rw[ak (Nat.ne_of_lt (Nat.lt_of_lt_of_le (S' q) hp))];exact n
 there:=fun b u q _=>⟨u,k b u q⟩
 tups:=fun b xs q=>by rw[ak (ar q hn)];exact q
 NZ:=fun b u xs q=>by rw[ak (ar q hn)];exact q
 Qj:=fun b ps q=>⟨#[],by rw[ak (ar q hn),q];simp⟩
theorem Un.write (mu:Mut (H x))(he:e=x\/H e=some (.own x))(k:∀ b u,b≠e->h.get? b=some u->h'.get? b=some u)(heo:∃ u,h'.get? e=some u):Un fs ex H (upd H x o) h h':=by
 have hx:∀ b,H b=none->b≠x:=fun b n z=>by subst z;rw[n]at mu;exact mu
 have hb:∀ b,H b=none->b≠e:=fun b n z=>by
  subst z;rcases he with r|r
  ·exact hx b n r
  ·rw[n]at r;cases r
 have hm:∀ b u,H b=some u->¬ Mut (some u)->b≠x:=fun b u q nm z=>by subst z;rw[q]at mu;exact nm mu
 refine⟨fun b u q n _ _=>k b u (hb b n) q,fun b u q n _ _=>⟨u.slots,k b u (hb b n) q⟩,fun b u q n _=>by rw[ak (hx b n)];exact n,fun b u q _=>?_,
  fun b xs q=>by rw[ak (hm b _ q fun z=>z)];exact q,fun b u xs q=>by rw[ak (hm b _ q fun z=>z)];exact q,fun b ps q=>⟨#[],by rw[ak (hm b _ q fun z=>z),q];simp⟩⟩
 by_cases hbe:b=e
 ·subst hbe;exact heo
 ·exact⟨u,k b u hbe q⟩
end
noncomputable def trk (h:Heap)(H:Hp):List Addr:=(List.range h.objs.size).filter fun a=>(H a).isSome
noncomputable def Qk (h:Heap)(H:Hp):Heap:=PySem.W.hideAll h (trk h H)
theorem aah (h:Heap)(H:Hp):(Qk h H).objs.size=h.objs.size:=PySem.W.hideAll_size _ _
theorem acV {h:Heap}{H:Hp}{b:Addr}{o:Obj}(e:h.get? b=some o)(n:H b=none):(Qk h H).get? b=some o :=
 PySem.W.hideAll_get _ e fun hm=>by
  have q:(H b).isSome=true:=(List.mem_filter.mp hm).2;rw[n]at q;simp at q
theorem afC {h:Heap}{H:Hp}{b:Addr}{o:Obj}(e:(Qk h H).get? b=some o):h.get? b=some o/\H b=none:=by
 have e':h.get? b=some o:=PySem.W.of_hideAll (trk h H) e;refine⟨e',?_⟩;cases q:H b with
 |none=>rfl
 |some x =>
  have hm:b∈trk h H:=List.mem_filter.mpr ⟨mem_range.mpr (S' e'),by simp[q]⟩;have z:(Qk h H).get? b=none:=PySem.W.hideAll_none (trk h H) hm;rw[z]at e;cases e
noncomputable def afD (g h:Heap)(L:Addr):List (Addr×Obj):=(List.range h.objs.size).filterMap fun a=>if a=L\/(g.get? a).isSome=true then none else(h.get? a).map fun o=>(a,o)
noncomputable def rest (g h:Heap)(L d:Addr):List (Addr×Obj):=(afD g h L).filter fun p=>decide (p.1≠d)
end L2
namespace L2
open PySem PySem.Spec PyProof.Rows
structure Mod (K:Frag)(mg:Str->Option Value)(base:Heap):Prop where
 kin:K.In base
 glob:base.Ns mainGlobals mg
 blt:∃ mb,base.Ns builtinsNs mb/\∀ x:Str,x ≠ "__name__"->mb x=bootBuiltins x
 nolimit:base.NoLimit
structure Cx where
 prog:Program
 w:World
 K:Frag
 mg:Str->Option Value
 base:Heap
 A:Around
 N:List Str
 s₀:Shared
 H₀:Hp
 env:Env
 outer:List Env
 stack:List Env
 ex:List Addr
 fn:Str->Bool
 calm:Bool
 pn:List (Addr×Obj)
 xe:Value->Shared->Prop
noncomputable def frs (l:List Env):List Addr:=l.filterMap (·.frame)
noncomputable abbrev Cx.fs (X:Cx):List Addr:=frs X.outer
noncomputable def Vis (sc:Scope)(x:Str):Prop:=sc.names.lookup x=some .local\/sc.names.lookup x=some .cell\/sc.names.lookup x=some .free
noncomputable def Loc (sc:Scope)(x:Str):Prop:=sc.names.lookup x=some .local\/sc.names.lookup x=some .cell
noncomputable def Look (env:Env)(h:Heap)(m:Str->Option Value)(x:Str)(u:Value):Prop :=
 (env.kindOf x=some .local/\m x=some u)\/((env.kindOf x=some .cell\/env.kindOf x=some .free)/\∃ c,env.cells.lookup x=some c/\h.IsCell c (some u))
structure Cx.Ok (X:Cx):Prop where
 mod:Mod X.K X.mg X.base
 kind:X.env.scope.kind=.function
 glob:X.env.globals=mainGlobals
 blt:X.env.builtins=builtinsNs
 above:X.s₀.heap.objs.size<=X.env.locals
 inj:∀ x y c,X.env.cells.lookup x=some c->X.env.cells.lookup y=some c->x=y
 has:∀ x,(X.env.kindOf x=some .cell\/X.env.kindOf x=some .free)->∃ c,X.env.cells.lookup x=some c
 cab:∀ x c,X.fn x=true->X.env.cells.lookup x=some c->X.s₀.heap.objs.size<=c
 hd:X.calm=true->X.A.handled=none
 frames:X.A.frames=some X.stack
 stk:X.stack=X.outer\/(X.stack=X.env::X.outer/\X.env.frame=some X.env.locals)
 exf:∀ b∈X.ex,b≠X.env.locals/\∀ x c,X.env.cells.lookup x=some c->c≠b
 bs:∀ b o,X.base.get? b=some o->X.s₀.heap.get? b=some o/\X.H₀ b=none
 WH:X.base.objs.size<=X.s₀.heap.objs.size
 UK:∀ b o,X.base.get? b=some o->b ∉ X.ex
 UL:∀ b∈X.ex,b ∉ X.fs
 DS:X.s₀.heap.FunFrames X.base X.outer
 frf:∀ b∈X.fs,X.H₀ b=none
structure Inv (X:Cx)(pins:List (Addr×Obj))(σ:List (Option V))(H:Hp)(s:Shared):Prop where
 ok:X.Ok
 os:s.os=X.s₀.os
 bare:AllBare s.gens
 base:Un X.fs X.ex X.H₀ H X.s₀.heap s.heap
 loc:∃ m,s.heap.Ns X.env.locals m/\∀(i:Nat)(x:Str)(v:V),X.N[i]? = some x->σ[i]? = some (some v)->Vis X.env.scope x->∃ u,RelV v u/\Look X.env s.heap m x u
 cell:∀ x c,X.env.cells.lookup x=some c->∃ v,s.heap.IsCell c v
 free:H X.env.locals=none
 uJ:∀ x c,X.env.cells.lookup x=some c->H c=none
 pin:∀ p∈X.pn++pins,s.heap.get? p.1=some p.2/\H p.1=none/\p.1≠X.env.locals/\p.1 ∉ X.fs/\∀ v,p.2.data≠.cell v
 hok:Bl X.prog X.w H s.heap
 len:σ.length=X.N.length
section
variable {X:Cx} {pins:List (Addr×Obj)} {σ:List (Option V)} {H H':Hp} {s:Shared} {h':Heap}
theorem Cx.Ok.amf (ok:X.Ok){b:Addr}{o:Obj}(e:X.base.get? b=some o):b ∉ X.fs:=fun hb=>by
 have:=(ok.DS.mem hb).1;rw[e]at this;cases this
theorem Inv.bs (I:Inv X pins σ H s):∀ b o,X.base.get? b=some o->s.heap.get? b=some o/\H b=none:=fun b o e =>
 ⟨I.base.keep b o (I.ok.bs b o e).1 (I.ok.bs b o e).2 (I.ok.amf e) (I.ok.UK b o e),I.base.free b o (I.ok.bs b o e).1 (I.ok.bs b o e).2 (I.ok.UK b o e)⟩
theorem Inv.bk (I:Inv X pins σ H s):∀ b o,X.base.get? b=some o->s.heap.get? b=some o:=fun b o e=>(I.bs b o e).1
theorem Inv.mod (I:Inv X pins σ H s):Mod X.K X.mg X.base:=I.ok.mod
theorem Inv.DQ (I:Inv X pins σ H s):X.K.In s.heap:=I.ok.mod.kin.keeps I.bk
theorem Inv.lt (I:Inv X pins σ H s):X.env.locals<s.heap.objs.size:=let ⟨_,hn,_⟩:=I.loc;hn.lt
theorem Inv.sz (I:Inv X pins σ H s):X.s₀.heap.objs.size<=s.heap.objs.size:=Nat.le_trans I.ok.above (Nat.le_of_lt I.lt)
theorem Inv.amg (I:Inv X pins σ H s){a:Addr}(h:s.heap.objs.size<=a):a ∉ X.fs:=fun hb=>by
 obtain⟨_,o,ho,_⟩:=I.ok.DS.mem hb;exact V' (Nat.lt_of_lt_of_le (S' ho) (Nat.le_trans I.sz h)) (Nat.lt_irrefl _)
theorem Inv.cne (I:Inv X pins σ H s):∀ x c,X.env.cells.lookup x=some c->c≠X.env.locals:=fun x c e z=>by
 obtain⟨v,o,ho,hd⟩:=I.cell x c e;obtain⟨m,⟨o',es,ep,ho',hd',_⟩,_⟩:=I.loc;rw[z,ho']at ho;cases ho;rw[hd']at hd;cases hd
theorem Inv.DS (I:Inv X pins σ H s):s.heap.FunFrames X.base X.outer:=by
 have all:∀(l:List Env),(∀ b∈frs l,b∈X.fs)->X.s₀.heap.FunFrames X.base l->s.heap.FunFrames X.base l:=by
  intro l
  induction l with
  |nil=>intro _ _;trivial
  |cons env r ih =>
   intro hs hl;obtain⟨hk,⟨L,o,hf,hn,ho,hd⟩,hr⟩:=hl;have hL:L∈X.fs:=hs L (by unfold frs;rw[List.filterMap_cons,hf];exact mem_cons_self);obtain⟨sl,e⟩:=I.base.slot L o ho (I.ok.frf L hL) hL fun z=>I.ok.UL L z hL;exact⟨hk,⟨L,_,hf,hn,e,hd⟩,ih (fun b hb=>hs b (by unfold frs;rw[List.filterMap_cons,hf];exact mem_cons_of_mem _ hb)) hr⟩
 exact all X.outer (fun _ hb=>hb) I.ok.DS
theorem Inv.stack (I:Inv X pins σ H s):s.heap.FunFrames X.base X.stack:=by
 rcases I.ok.stk with e|⟨e,hf⟩
 ·rw[e];exact I.DS
 ·rw[e];obtain⟨m,hn,_⟩:=I.loc;refine .cons (by rw[I.ok.kind];decide) hf hn ?_ I.DS;exact Heap.get?_none_of_le (Nat.le_trans I.ok.WH I.ok.above)
theorem Inv.Ql (I:Inv X pins σ H s):∀ b∈frs X.stack,b∈X.env.locals::X.fs:=fun b hb=>by
 rcases I.ok.stk with e|⟨e,hf⟩
 ·rw[e]at hb;exact mem_cons_of_mem _ hb
 ·rw[e]at hb;unfold frs at hb;rw[List.filterMap_cons,hf]at hb;exact hb
theorem Inv.Qm (I:Inv X pins σ H s):∀ b∈frs X.stack,H b=none:=fun b hb=>by
 rcases List.mem_cons.mp (I.Ql b hb) with e|hb
 ·rw[e];exact I.free
 ·obtain⟨_,o,ho,_⟩:=I.ok.DS.mem hb;exact I.base.free b o ho (I.ok.frf b hb) fun z=>I.ok.UL b z hb
theorem Inv.step {g':Array GenState}{t':Nat}{d':Drawn}{ch:List Addr}(I:Inv X pins σ H s)
  (hch:∀ b∈ch,(b∈X.ex\/X.s₀.heap.objs.size<=b)/\b≠X.env.locals/\(∀ x c,X.env.cells.lookup x=some c->c≠b)/\∀ p∈X.pn++pins,p.1≠b)
  (keep:∀ b o,b≠X.env.locals->b ∉ X.fs->b ∉ ch->s.heap.get? b=some o->H b=none->h'.get? b=some o)
  (slot:∀ b o,b≠X.env.locals->b∈X.fs->b ∉ ch->s.heap.get? b=some o->H b=none->∃ sl,h'.get? b=some { o with slots:=sl }) (free:∀ b o,b ∉ ch->s.heap.get? b=some o->H b=none->H' b=none)
  (there:∀ b o,b ∉ ch->s.heap.get? b=some o->∃ o',h'.get? b=some o')
  (tups:∀ b xs,H b=some (.tup xs)->H' b=some (.tup xs)) (NZ:∀ b o u,H b=some (.Zo o u)->H' b=some (.Zo o u)) (Qj:∀ b ps,H b=some (.tbl ps)->∃ more,H' b=some (.tbl (ps++more)))
  (ns:∀ m,s.heap.Ns X.env.locals m->h'.Ns X.env.locals m) (hok:Bl X.prog X.w H' h') (hg:AllBare g') :
  Inv X pins σ H' { s with heap:=h',gens:=g',drawn:=d',toks:=t' }:=by
 have neL:∀ b o,X.s₀.heap.get? b=some o->b≠X.env.locals:=fun b o e=>Nat.ne_of_lt (Nat.lt_of_lt_of_le (S' e) I.ok.above);have neC:∀ b o,X.s₀.heap.get? b=some o->b ∉ X.ex->b ∉ ch:=fun b o e hx hb=>by
  rcases (hch b hb).1 with z|z
  ·exact hx z
  ·exact V' (Nat.lt_of_lt_of_le (S' e) z) (Nat.lt_irrefl _)
 have cellK:∀ x c,X.env.cells.lookup x=some c->∀ v,s.heap.IsCell c v->h'.IsCell c v:=fun x c e v ⟨o,ho,hd⟩=>by
  have nch:c ∉ ch:=fun z=>(hch c z).2.2.1 x c e rfl
  by_cases hc:c∈X.fs
  ·obtain⟨sl,q⟩:=slot c o (I.cne x c e) hc nch ho (I.uJ x c e);exact⟨_,q,hd⟩
  ·exact⟨o,keep c o (I.cne x c e) hc nch ho (I.uJ x c e),hd⟩
 refine⟨I.ok,I.os,hg,⟨fun b o e n hb hx=>?_,fun b o e n hb hx=>?_,fun b o e n hx=>?_,fun b o e hx=>?_,fun b xs e=>tups b xs (I.base.tups b xs e),fun b o xs e=>NZ b o xs (I.base.NZ b o xs e),fun b ps e=>?_⟩,?_,fun x c e=>?_,?_,fun x c e=>?_,fun p hp=>?_,hok,I.len⟩
 ·exact keep b o (neL b o e) hb (neC b o e hx) (I.base.keep b o e n hb hx) (I.base.free b o e n hx)
 ·obtain⟨sl,e1⟩:=I.base.slot b o e n hb hx;obtain⟨sl',e2⟩:=slot b _ (neL b o e) hb (neC b o e hx) e1 (I.base.free b o e n hx);exact⟨sl',e2⟩
 ·obtain⟨o',e1⟩:=I.base.there b o e hx;exact free b o' (neC b o e hx) e1 (I.base.free b o e n hx)
 ·obtain⟨o',e1⟩:=I.base.there b o e hx;exact there b o' (neC b o e hx) e1
 ·obtain⟨m1,e1⟩:=I.base.Qj b ps e;obtain⟨m2,e2⟩:=Qj b _ e1;exact⟨m1++m2,by rw[e2,Array.append_assoc]⟩
 ·obtain⟨m,hn,hl⟩:=I.loc;refine⟨m,ns m hn,fun i x v e1 e2 e3=>?_⟩;obtain⟨u,r,l⟩:=hl i x v e1 e2 e3;refine⟨u,r,?_⟩;rcases l with l|⟨k,c,e,z⟩
  ·exact .inl l
  ·exact .inr ⟨k,c,e,cellK x c e _ z⟩
 ·obtain⟨v,z⟩:=I.cell x c e;exact⟨v,cellK x c e v z⟩
 ·obtain⟨m,⟨o,_,_,ho,_⟩,_⟩:=I.loc;exact free _ o (fun z=>(hch _ z).2.1 rfl) ho I.free
 ·obtain⟨v,o,ho,hd⟩:=I.cell x c e;exact free c o (fun z=>(hch c z).2.2.1 x c e rfl) ho (I.uJ x c e)
 ·obtain⟨e,n,ne,nf,d⟩:=I.pin p hp;have nch:p.1 ∉ ch:=fun z=>(hch p.1 z).2.2.2 p hp rfl;exact⟨keep p.1 p.2 ne nf nch e n,free p.1 p.2 nch e n,ne,nf,d⟩
theorem Inv.un {t':Nat}(I:Inv X pins σ H s)(u:Un X.fs [] H H' s.heap h')(hok:Bl X.prog X.w H' h'):Inv X pins σ H' { s with heap:=h',toks:=t' }:=by
 obtain⟨m,⟨o,es,ep,ho,r⟩,_⟩:=id I.loc;obtain⟨sl,hL⟩:=u.any ho I.free (by simp);exact I.step (g':=s.gens) (d':=s.drawn) (ch:=[]) (fun _ z=>nomatch z) (fun b o _ hb _ e n=>u.keep b o e n hb (by simp)) (fun b o _ hb _ e n=>u.slot b o e n hb (by simp)) (fun b o _ e n=>u.free b o e n (by simp)) (fun b o _ e=>u.there b o e (by simp)) u.tups u.NZ u.Qj (fun m' hm=>by
  obtain⟨o',es',ep',ho',r'⟩:=hm;rw[ho]at ho';cases ho';exact⟨_,es',ep',hL,r'⟩) hok I.bare
theorem Inv.call {g':Array GenState}{t':Nat}{d':Drawn}{ch:List Addr}(I:Inv X pins σ H s)(u:Un (frs X.stack) ch H H' s.heap h')(hok:Bl X.prog X.w H' h')(hg:AllBare g')
  (hch:∀ b∈ch,(b∈X.ex\/X.s₀.heap.objs.size<=b)/\b≠X.env.locals/\(∀ x c,X.env.cells.lookup x=some c->c≠b)/\∀ p∈X.pn++pins,p.1≠b) :
  Inv X pins σ H' { s with heap:=h',gens:=g',drawn:=d',toks:=t' }:=by
 obtain⟨m,⟨o,es,ep,ho,r⟩,_⟩:=id I.loc;obtain⟨sl,hL⟩:=u.any ho I.free fun z=>(hch _ z).2.1 rfl;exact I.step (ch:=ch) hch (fun b o hL hb hc e n=>u.keep b o e n (fun z=>(List.mem_cons.mp (I.Ql b z)).elim hL hb) hc) (fun b o _ _ hc e n=>u.any e n hc) (fun b o hc e n=>u.free b o e n hc) (fun b o hc e=>u.there b o e hc) u.tups u.NZ u.Qj (fun m' hm=>by
  obtain⟨o',es',ep',ho',r'⟩:=hm;rw[ho]at ho';cases ho';exact⟨_,es',ep',hL,r'⟩) hok hg
theorem Inv.turned {t':Nat}{it:Addr}(I:Inv X pins σ H s)(k:∀ b o,b≠it->s.heap.get? b=some o->h'.get? b=some o)(hn:H it=none)(hL:it≠X.env.locals)
  (h1:it∈X.ex\/X.s₀.heap.objs.size<=it) (h2:∀ x c,X.env.cells.lookup x=some c->c≠it) (h3:∀ p∈X.pn++pins,p.1≠it):Inv X pins σ H { s with heap:=h',toks:=t' }:=by
 have nit:∀ b u,H b=some u->b≠it:=fun b u e z=>by rw[z,hn]at e;cases e
 refine I.step (g':=s.gens) (d':=s.drawn) (ch:=[it]) (fun b hb=>?_) (fun b o _ _ hc e _=>k b o (fun z=>hc (by simp[z])) e) (fun b o _ _ hc e _=>⟨o.slots,k b o (fun z=>hc (by simp[z])) e⟩) (fun _ _ _ _ n=>n)
  (fun b o hc e=>⟨o,k b o (fun z=>hc (by simp[z])) e⟩) (fun _ _ e=>e) (fun _ _ _ e=>e) (fun b ps e=>⟨#[],by rw[e];simp⟩) (fun m hm=>?_) (fun b u e=>?_) I.bare
 ·have e:b=it:=by simpa using hb
  subst e;exact⟨h1,hL,h2,h3⟩
 ·obtain⟨o,es,ep,ho,r⟩:=hm;exact⟨o,es,ep,k _ o (Ne.symm hL) ho,r⟩
 ·refine(I.hok b u e).stay (fun c v hc q=>k c v ?_ q) (fun _ q=>q) fun _ _ q=>q;rcases hc with z|z
  ·rw[z];exact nit b u e
  ·exact nit c _ z
theorem Inv.tok (I:Inv X pins σ H s)(t:Nat):Inv X pins σ H { s with toks:=t }:=I.un (h':=s.heap) (t':=t) Un.refl I.hok
theorem Inv.kept {t':Nat}(I:Inv X pins σ H s)(k:∀ b u,s.heap.get? b=some u->h'.get? b=some u):Inv X pins σ H { s with heap:=h',toks:=t' }:=I.un (Un.kept k) (I.hok.kept k)
theorem Inv.laid {a:Addr}{o:HO}{t':Nat}(I:Inv X pins σ H s)(k:∀ b u,s.heap.get? b=some u->h'.get? b=some u)(hp:s.heap.objs.size<=a)(new:fA X.prog X.w (upd H a o) h' a o) :
  Inv X pins σ (upd H a o) { s with heap:=h',toks:=t' }:=I.un (Un.laid k hp (I.hok.fresh hp)) (I.hok.laid k hp new)
theorem Inv.write {x e:Addr}{o:HO}{t':Nat}(I:Inv X pins σ H s)(mu:Mut (H x))(he:e=x\/H e=some (.own x))(k:∀ b u,b≠e->s.heap.get? b=some u->h'.get? b=some u)(heo:∃ u,h'.get? e=some u)
  (new:fA X.prog X.w (upd H x o) h' x o):Inv X pins σ (upd H x o) { s with heap:=h',toks:=t' }:=I.un (Un.write mu he k heo) (I.hok.write mu he k heo new)
theorem Inv.Zp {acW:List (Addr×Obj)}(I:Inv X pins σ H s)(h:∀ p∈acW,s.heap.get? p.1=some p.2/\H p.1=none/\p.1≠X.env.locals/\p.1 ∉ X.fs/\∀ v,p.2.data≠.cell v):Inv X acW σ H s :=
 ⟨I.ok,I.os,I.bare,I.base,I.loc,I.cell,I.free,I.uJ,fun p hp=>(mem_append.mp hp).elim (fun z=>I.pin p (mem_append_left _ z)) (h p),I.hok,I.len⟩
theorem UM {N:List Str}(hN:N.Nodup){i j:Nat}{x:Str}(a:N[i]? = some x)(b:N[j]? = some x):i=j:=by
 obtain⟨h1,e1⟩:=C'.mp a;obtain⟨h2,e2⟩:=C'.mp b;exact(List.getElem_inj hN).mp (e1.trans e2.symm)
theorem Gp {M:Model}{A:Around}{E:Value->Shared->Prop}{i:Nat}{x:Str}{v:V}{u:Value}{Q:Unit->Shared->Prop}(I:Inv X pins σ H s)(hN:X.N.Nodup)(hi:X.N[i]? = some x)(hx:Loc X.env.scope x)(r:RelV v u)
  (h:∀ s',Inv X pins (σ.set i (some v)) H s'->(∃ a,Heap.SameBut a s.heap s'.heap/\(a=X.env.locals\/X.env.cells.lookup x=some a))->Q () s') (hf:X.fn x=true\/X.env.scope.names.lookup x=some .local:=by first|exact .inl rfl|exact .inr rfl|assumption):wpAny M A (storeName X.env x u) Q E s:=by
 obtain⟨m,hn,hl⟩:=id I.loc;have hcls:(X.env.scope.kind == .class||(X.env.scope.kind == .module&&X.env.locals != X.env.globals))=false:=by rw[I.ok.kind];rfl
 have aom:i<σ.length:=by rw[I.len];exact(C'.mp hi).1
 have cne:=I.cne;have tracked:∀{a:Addr} {h':Heap},(∃ o,s.heap.get? a=some o/\H a=none)->Heap.SameBut a s.heap h'->Bl X.prog X.w H h':=fun {a h'} ha hs b ob e=>by
  obtain⟨_,_,hfree⟩:=ha;refine(I.hok b ob e).stay (fun c w' hc q=>(hs.2 c ?_).trans q) (fun _ q=>q) fun _ _ q=>q;rintro rfl;rcases hc with rfl|hc
  ·rw[hfree]at e;cases e
  ·rw[hfree]at hc;cases hc
 rcases hx with hk|hk
 ·refine wpAny_storeName_local hk hn (fun h' hn' hs=>?_) hcls;obtain⟨oL,_,_,hoL,_⟩:=id hn;refine h _ ⟨I.ok,I.os,I.bare,⟨fun b o e n hb hx=>?_,fun b o e n hb hx=>?_,I.base.free,fun b o e hx=>?_,I.base.tups,I.base.NZ,I.base.Qj⟩,⟨_,hn',fun j y v' e1 e2 e3=>?_⟩,fun y c e=>?_,I.free,I.uJ,fun p hp=>?_,tracked ⟨oL,hoL,I.free⟩ hs,by simpa using I.len⟩ ⟨_,hs,.inl rfl⟩
  ·exact(hs.2 b (Nat.ne_of_lt (Nat.lt_of_lt_of_le (S' e) I.ok.above))).trans (I.base.keep b o e n hb hx)
  ·obtain⟨sl,e1⟩:=I.base.slot b o e n hb hx;exact⟨sl,(hs.2 b (Nat.ne_of_lt (Nat.lt_of_lt_of_le (S' e) I.ok.above))).trans e1⟩
  ·obtain⟨o',e1⟩:=I.base.there b o e hx;exact⟨o',(hs.2 b (Nat.ne_of_lt (Nat.lt_of_lt_of_le (S' e) I.ok.above))).trans e1⟩
  ·by_cases hj:j=i
   ·subst hj;rw[hi]at e1;cases e1;rw[List.getElem?_set_self aom]at e2;cases e2;exact⟨u,r,.inl ⟨hk,by simp⟩⟩
   ·rw[List.getElem?_set_ne (Ne.symm hj)]at e2;obtain⟨u',r',q⟩:=hl j y v' e1 e2 e3;refine⟨u',r',?_⟩;rcases q with ⟨k,e⟩|⟨k,c,e,z⟩
    ·refine .inl ⟨k,?_⟩;have:y≠x:=fun e=>hj (UM hN e1 (e ▸ hi));simp[this,e]
    ·exact .inr ⟨k,c,e,z.sameBut hs (cne y c e)⟩
  ·obtain⟨w',z⟩:=I.cell y c e;exact⟨w',z.sameBut hs (cne y c e)⟩
  ·obtain⟨e,n,ne,nf,d⟩:=I.pin p hp;exact⟨(hs.2 p.1 ne).trans e,n,ne,nf,d⟩
 ·have hfn:X.fn x=true:=by
   rcases hf with z|z
   ·exact z
   ·rw[z]at hk;cases hk
  obtain⟨c,hc⟩:=I.ok.has x (.inl hk);obtain⟨w',z⟩:=I.cell x c hc;refine wpAny_storeName_cell I.ok.kind hk hc z (fun h' hc' hs=>?_);obtain⟨oc,hoc,amh⟩:=id z;refine h { s with heap:=h' } ⟨I.ok,I.os,I.bare,⟨fun b o e n hb hx=>?_,fun b o e n hb hx=>?_,I.base.free,fun b o e hx=>?_,I.base.tups,I.base.NZ,I.base.Qj⟩,⟨m,hn.sameBut hs (Ne.symm (cne x c hc)),fun j y v' e1 e2 e3=>?_⟩,fun y c' e=>?_,I.free,I.uJ,fun p hp=>?_,tracked ⟨oc,hoc,I.uJ x c hc⟩ hs,by simpa using I.len⟩ ⟨c,hs,.inr hc⟩
  ·exact(hs.2 b (Nat.ne_of_lt (Nat.lt_of_lt_of_le (S' e) (I.ok.cab x c hfn hc)))).trans (I.base.keep b o e n hb hx)
  ·obtain⟨sl,e1⟩:=I.base.slot b o e n hb hx;exact⟨sl,(hs.2 b (Nat.ne_of_lt (Nat.lt_of_lt_of_le (S' e) (I.ok.cab x c hfn hc)))).trans e1⟩
  ·obtain⟨o',e1⟩:=I.base.there b o e hx;exact⟨o',(hs.2 b (Nat.ne_of_lt (Nat.lt_of_lt_of_le (S' e) (I.ok.cab x c hfn hc)))).trans e1⟩
  ·by_cases hj:j=i
   ·subst hj;rw[hi]at e1;cases e1;rw[List.getElem?_set_self aom]at e2;cases e2;exact⟨u,r,.inr ⟨.inl hk,c,hc,hc'⟩⟩
   ·rw[List.getElem?_set_ne (Ne.symm hj)]at e2;obtain⟨u',r',q⟩:=hl j y v' e1 e2 e3;refine⟨u',r',?_⟩;rcases q with q|⟨k,c',e,z'⟩
    ·exact .inl q
    ·refine .inr ⟨k,c',e,z'.sameBut hs ?_⟩;rintro rfl;exact hj (UM hN e1 (I.ok.inj _ _ _ e hc ▸ hi))
  ·by_cases hcc:c'=c
   ·subst hcc;exact⟨_,hc'⟩
   ·obtain⟨w2,z2⟩:=I.cell y c' e;exact⟨w2,z2.sameBut hs hcc⟩
  ·obtain⟨e,n,ne,nf,d⟩:=I.pin p hp;refine⟨(hs.2 p.1 ?_).trans e,n,ne,nf,d⟩;intro q;rw[q,hoc]at e;have q':oc=p.2:=W' e;exact d w' (by rw[<-q'];exact amh)
theorem KO {M:Model}{A:Around}{E:Value->Shared->Prop}{i:Nat}{x:Str}{v:V}{u:Value}{Q:Unit->Shared->Prop}(I:Inv X pins σ H s)(hN:X.N.Nodup)(hi:X.N[i]? = some x)(hx:Loc X.env.scope x)(r:RelV v u)
  (h:∀ s',Inv X pins (σ.set i (some v)) H s'->Q () s') (hf:X.fn x=true\/X.env.scope.names.lookup x=some .local:=by first|exact .inl rfl|exact .inr rfl|assumption):wpAny M A (storeName X.env x u) Q E s :=
 Gp I hN hi hx r (fun s' I' _=>h s' I') hf
theorem Inv.call' {s':Shared}{ch:List Addr}(I:Inv X pins σ H s)(ho:s'.os=s.os)(u:Un (frs X.stack) ch H H' s.heap s'.heap)(hok:Bl X.prog X.w H' s'.heap)(hg:AllBare s'.gens)
  (hch:∀ b∈ch,(b∈X.ex\/X.s₀.heap.objs.size<=b)/\b≠X.env.locals/\(∀ x c,X.env.cells.lookup x=some c->c≠b)/\∀ p∈X.pn++pins,p.1≠b):Inv X pins σ H' s':=by
 obtain⟨h',g',d',t',o'⟩:=s';have e:o'=s.os:=ho;subst e;exact I.call (g':=g') (t':=t') (d':=d') u hok hg hch
end
noncomputable abbrev XK:=Value->Option Addr->Hp->Prop
noncomputable abbrev St:=List (Option V)
noncomputable abbrev VK:=V->Hp->Prop
noncomputable abbrev TE:=St->Hp->VK->Prop
noncomputable abbrev TT:=St->Hp->(Bool->Hp->Prop)->Prop
noncomputable abbrev TA:=St->Hp->(List V->Hp->Prop)->Prop
structure Ends where
 nx:St->Hp->Prop
 rt:VK
 bk:St->Hp->Prop:=fun _ _=>False
 ct:St->Hp->Prop:=fun _ _=>False
noncomputable abbrev TS:=Ends->St->Hp->Prop
noncomputable def EP (X:Cx)(pins:List (Addr×Obj))(σ:St)(Q:VK)(u:Value)(s':Shared):Prop:=∃ v H',Inv X pins σ H' s'/\RelV v u/\Q v H'
noncomputable def TP (X:Cx)(pins:List (Addr×Obj))(σ:St)(Q:Bool->Hp->Prop)(b:Bool)(s':Shared):Prop:=∃ H',Inv X pins σ H' s'/\Q b H'
noncomputable def AP (X:Cx)(pins:List (Addr×Obj))(σ:St)(Q:List V->Hp->Prop)(us:List Value)(s':Shared):Prop:=∃ vs H',Inv X pins σ H' s'/\Vals vs us/\Q vs H'
noncomputable def SP (X:Cx)(pins:List (Addr×Obj))(D:Ends)(f:Flow)(s':Shared):Prop :=
 match f with
 |.next=>∃ σ' H',Inv X pins σ' H' s'/\D.nx σ' H'
 |.brk=>∃ σ' H',Inv X pins σ' H' s'/\D.bk σ' H'
 |.cont=>∃ σ' H',Inv X pins σ' H' s'/\D.ct σ' H'
 |.ret u=>∃ v σ' H',Inv X pins σ' H' s'/\RelV v u/\D.rt v H'
noncomputable def PE (X:Cx)(e:Expr)(t:TE):Prop :=
 ∀(pins:List (Addr×Obj)) (s:Shared) (σ:St) (H:Hp) (Q:VK),Inv X pins σ H s->t σ H Q->wpAny (model X.prog X.w) X.A (eval e X.env) (EP X pins σ Q) X.xe s
noncomputable def PT (X:Cx)(e:Expr)(t:TT):Prop :=
 ∀(pins:List (Addr×Obj)) (s:Shared) (σ:St) (H:Hp) (Q:Bool->Hp->Prop),Inv X pins σ H s->t σ H Q->wpAny (model X.prog X.w) X.A (isTrue e X.env (eval e X.env)) (TP X pins σ Q) X.xe s
noncomputable def PW (X:Cx)(e:Expr)(t:TT):Prop :=
 ∀(whole:Sem Value)(pins:List (Addr×Obj)) (s:Shared) (σ:St) (H:Hp) (Q:Bool->Hp->Prop),Inv X pins σ H s->t σ H Q->wpAny (model X.prog X.w) X.A (isTrue e X.env whole) (TP X pins σ Q) X.xe s
theorem PW.pt {X:Cx}{e:Expr}{t:TT}(h:PW X e t):PT X e t:=h _
noncomputable def PA (X:Cx)(es:List Expr)(t:TA):Prop :=
 ∀(pos:Pos)(pins:List (Addr×Obj)) (s:Shared) (σ:St) (H:Hp) (Q:List V->Hp->Prop),Inv X pins σ H s->t σ H Q->wpAny (model X.prog X.w) X.A (spliced (backTo pos (starEach es X.env))) (AP X pins σ Q) X.xe s
noncomputable def PS (X:Cx)(st:Stmt)(t:TS):Prop :=
 ∀(pins:List (Addr×Obj)) (s:Shared) (σ:St) (H:Hp) (D:Ends),Inv X pins σ H s->t D σ H->wpAny (model X.prog X.w) X.A (exec st X.env) (SP X pins D) X.xe s
noncomputable def WB (X:Cx)(st:List Stmt)(t:TS):Prop :=
 ∀(pins:List (Addr×Obj)) (s:Shared) (σ:St) (H:Hp) (D:Ends),Inv X pins σ H s->t D σ H->wpAny (model X.prog X.w) X.A (execs st X.env) (SP X pins D) X.xe s
theorem cQ {α:Type}{t:Sem α}{Q Q':α->Shared->Prop}{M:Model}{A:Around}{E:Value->Shared->Prop}{s:Shared}(h:wpAny M A t Q E s)(hQ:∀ a s,Q a s->Q' a s):wpAny M A t Q' E s:=wpAny_mono h hQ fun _ _ x=>x
end L2
namespace L2
open PySem PySem.Spec PyProof.Rows
section
variable {X:Cx}
inductive ag3 (i:Nat)(σ:St)(H:Hp)(Q:VK):Prop
 |mk (v:_) (dE:σ[i]? = some (some v)) (dF:Q v H):ag3 i σ H Q
noncomputable def ajP (i:Nat):TE:=fun σ H Q=>ag3 i σ H Q
noncomputable def tC (v:V):TE:=fun _ H Q=>Q v H
theorem ahW {i:Nat}{x:Str}{pos:Pos}(hN:X.N[i]? = some x)(hv:Vis X.env.scope x)(hd:(x==("__debug__":Str))=false:=by decide)(hcd:(x==("__classdict__":Str))=false:=by decide):PE X (.Name x pos) (ajP i):=by
 intro pins s σ H Q I h;obtain⟨v,e,h⟩:=h;obtain⟨m,hn,hl⟩:=I.loc;obtain⟨u,r,l⟩:=hl i x v hN e hv;have fin:EP X pins σ Q u s:=⟨v,H,I,r,h⟩;rcases l with ⟨hk,hm⟩|⟨hk,c,hc,hcell⟩
 ·exact wpAny_Name (wpAny_loadName_local I.ok.kind hk hn hm fin) hd
 ·rcases hk with hk|hk
  ·exact wpAny_Name (wpAny_loadName_cell I.ok.kind hk hc hcell fin) hd
  ·exact wpAny_Name (wpAny_loadName_free I.ok.kind hk hc hcell fin hcd) hd
theorem aj {i j pos}:PE X (.Constant (.int i) j pos) (tC (.int i)):=fun _ _ _ H _ I h=>wpAny_Constant_int ⟨.int i,H,I.tok _,⟨_,rfl⟩,h⟩
theorem de {b j pos}:PE X (.Constant (.bool b) j pos) (tC (.bl b)):=fun _ _ _ H _ I h=>Constant_bool ⟨.bl b,H,I,rfl,h⟩
theorem BF {j pos}:PE X (.Constant .none j pos) (tC .non):=fun _ _ _ H _ I h=>Constant_none ⟨.non,H,I,rfl,h⟩
theorem bG {x j pos}:PE X (.Constant (.str x) j pos) (tC (.str x)):=fun _ _ _ H _ I h=>Calls.Constant_str ⟨.str x,H,I.tok _,⟨_,rfl⟩,h⟩
noncomputable def Gl (X:Cx)(x:Str):Prop:=X.env.kindOf x=some .globalImplicit
theorem Kt {E:Value->Shared->Prop}{pins:List (Addr×Obj)}{s:Shared}{σ:St}{H:Hp}{x:Str}{u:Value}{pos:Pos}{Q:Value->Shared->Prop}(I:Inv X pins σ H s)(hg:Gl X x)(hm:X.mg x=some u)(h:Q u s)
  (hd:(x==("__debug__":Str))=false:=by decide):wpAny (model X.prog X.w) X.A (eval (.Name x pos) X.env) Q E s :=
 Calls.Name_function_global I.ok.kind hg (Calls.loadGlobal_global (by rw[I.ok.glob];exact I.mod.glob.keeps I.bk) hm h) hd
theorem qU {E:Value->Shared->Prop}{pins:List (Addr×Obj)}{s:Shared}{σ:St}{H:Hp}{x:Str}{u:Value}{pos:Pos}{Q:Value->Shared->Prop}(I:Inv X pins σ H s)(hg:Gl X x)(hm:X.mg x=none)(hv:bootBuiltins x=some u)(h:Q u s)
  (hn:x ≠ "__name__":=by decide) (hd:(x==("__debug__":Str))=false:=by decide):wpAny (model X.prog X.w) X.A (eval (.Name x pos) X.env) Q E s:=by
 obtain⟨mb,h1,h2⟩:=I.mod.blt;exact Calls.Name_function_global I.ok.kind hg (Calls.loadGlobal_builtin (by rw[I.ok.glob];exact I.mod.glob.keeps I.bk) hm (by rw[I.ok.blt];exact h1.keeps I.bk) ((h2 x hn).trans hv) h) hd
theorem bR {x:Str}{v:V}{u:Value}{pos:Pos}(hg:Gl X x)(hm:X.mg x=some u)(r:RelV v u)(hd:(x==("__debug__":Str))=false:=by decide):PE X (.Name x pos) (tC v) :=
 fun _ _ _ H _ I h=>Kt I hg hm ⟨v,H,I,r,h⟩ hd
theorem cW {x:Str}{v:V}{u:Value}{pos:Pos}(hg:Gl X x)(hm:X.mg x=none)(hv:bootBuiltins x=some u)(r:RelV v u)(hn:x ≠ "__name__":=by decide)(hd:(x==("__debug__":Str))=false:=by decide):PE X (.Name x pos) (tC v) :=
 fun _ _ _ H _ I h=>qU I hg hm hv ⟨v,H,I,r,h⟩ hn hd
variable {a b:Expr} {ta tb:TE} {pos:Pos}
noncomputable def tB (t:TE):TT:=fun σ H Q=>t σ H fun x H1=>∃ c,x=.bl c/\Q c H1
theorem aX {e:Expr}{t:TE}(h:PE X e t)(he:∀ whole,isTrue e X.env whole=(do let v <-whole;standAt e.pos;holding [v] (truthy v)):=by intro _;rfl):PT X e (tB t):=by
 intro pins s σ H Q I hw;refine isTrue_plain (cQ (h pins s σ H _ I hw) fun v s1 ⟨x,H1,I1,r1,q1⟩=>?_) (he _);obtain⟨d,rfl,q⟩:=q1;cases r1;exact wpAny_truthy_bool ⟨H1,I1,q⟩
variable {tA tB':TT} {rest:List Expr}
noncomputable def ami (t u:TT):TT:=fun σ H Q=>t σ H fun c H1=>if c=true then u σ H1 Q else Q false H1
noncomputable def tOr (t u:TT):TT:=fun σ H Q=>t σ H fun c H1=>if c=true then Q true H1 else u σ H1 Q
noncomputable def amj (t:TT):TT:=fun σ H Q=>t σ H fun c H1=>Q (!c) H1
theorem dn (ha:PT X a tA):PW X (.BoolOp .And [a] pos) tA:=by
 intro wh pins s σ H Q I h;refine isTrue_and (cQ (ha pins s σ H Q I h) fun c s1 e=>?_);cases c with
 |true=>exact isTrue_and_nil e
 |false=>exact e
theorem fJ (ha:PT X a tA):PW X (.BoolOp .Or [a] pos) tA:=by
 intro wh pins s σ H Q I h;refine isTrue_or (cQ (ha pins s σ H Q I h) fun c s1 e=>?_);cases c with
 |false=>exact isTrue_or_nil e
 |true=>exact e
theorem cU (ha:PT X a tA)(hb:PW X (.BoolOp .And (b::rest) pos) tB'):PW X (.BoolOp .And (a::b::rest) pos) (ami tA tB'):=by
 intro wh pins s σ H Q I h;refine isTrue_and (cQ (ha pins s σ H _ I h) fun c s1 ⟨H1,I1,q1⟩=>?_);cases c with
 |true=>exact hb wh pins s1 σ H1 Q I1 q1
 |false=>exact⟨H1,I1,q1⟩
theorem iG (ha:PT X a tA)(hb:PW X (.BoolOp .Or (b::rest) pos) tB'):PW X (.BoolOp .Or (a::b::rest) pos) (tOr tA tB'):=by
 intro wh pins s σ H Q I h;refine isTrue_or (cQ (ha pins s σ H _ I h) fun c s1 ⟨H1,I1,q1⟩=>?_);cases c with
 |true=>exact⟨H1,I1,q1⟩
 |false=>exact hb wh pins s1 σ H1 Q I1 q1
theorem bJ (ha:PT X a tA):PT X (.UnaryOp .Not a pos) (amj tA):=by
 intro pins s σ H Q I h;exact isTrue_not (ha pins s σ H (fun c H1=>Q (!c) H1) I h)
noncomputable def ajQ (ta tb:TE):TE:=fun σ H Q=>ta σ H fun x H1=>∃ c,x=.bl c/\if c=true then tb σ H1 Q else Q (.bl false) H1
noncomputable def amk (ta tb:TE):TE:=fun σ H Q=>ta σ H fun x H1=>∃ c,x=.bl c/\if c=true then Q (.bl true) H1 else tb σ H1 Q
noncomputable def ajR (ta:TE):TE:=fun σ H Q=>ta σ H fun x H1=>∃ c,x=.bl c/\Q (.bl (!c)) H1
theorem pA {op}{t:TE}(h:PE X a t):PE X (.BoolOp op [a] pos) t:=fun pins s σ H Q I hw=>BoolOp_one (h pins s σ H Q I hw)
theorem pB (ha:PE X a ta)(hb:PE X (.BoolOp .And (b::rest) pos) tb):PE X (.BoolOp .And (a::b::rest) pos) (ajQ ta tb):=by
 intro pins s σ H Q I h;refine BoolOp_and (cQ (ha pins s σ H _ I h) fun v s1 ⟨x,H1,I1,r1,q1⟩=>?_);obtain⟨c,rfl,q1⟩:=q1;cases r1;refine wpAny_truthy_bool ?_;cases c with
 |true=>exact hb pins s1 σ H1 Q I1 q1
 |false=>exact⟨.bl false,H1,I1,rfl,q1⟩
theorem acX (ha:PE X a ta)(hb:PE X (.BoolOp .Or (b::rest) pos) tb):PE X (.BoolOp .Or (a::b::rest) pos) (amk ta tb):=by
 intro pins s σ H Q I h;refine BoolOp_or (cQ (ha pins s σ H _ I h) fun v s1 ⟨x,H1,I1,r1,q1⟩=>?_);obtain⟨c,rfl,q1⟩:=q1;cases r1;refine wpAny_truthy_bool ?_;cases c with
 |false=>exact hb pins s1 σ H1 Q I1 q1
 |true=>exact⟨.bl true,H1,I1,rfl,q1⟩
theorem ahX (ha:PE X a ta):PE X (.UnaryOp .Not a pos) (ajR ta):=by
 intro pins s σ H Q I h;refine UnaryOp_ (cQ (ha pins s σ H _ I h) fun v s1 ⟨x,H1,I1,r1,q1⟩=>?_);obtain⟨c,rfl,q1⟩:=q1;cases r1;exact not_of (wpAny_truthy_bool ⟨.bl (!c),H1,I1,rfl,q1⟩)
noncomputable def tIf (t:TT)(ta tb:TE):TE:=fun σ H Q=>t σ H fun c H1=>if c=true then ta σ H1 Q else tb σ H1 Q
theorem gI {c:Expr}(hc:PT X c tA)(ha:PE X a ta)(hb:PE X b tb):PE X (.IfExp c a b pos) (tIf tA ta tb):=by
 intro pins s σ H Q I h;refine wpAny_IfExp (cQ (hc pins s σ H _ I h) fun d s1 ⟨H1,I1,q1⟩=>?_);cases d with
 |true=>exact ha pins s1 σ H1 Q I1 q1
 |false=>exact hb pins s1 σ H1 Q I1 q1
end
end L2
namespace L2
open PySem PySem.Spec PyProof.Rows
noncomputable def aO (K:Frag)(H:Hp)(a:Addr)(xs:List V):Prop :=
 Rd H a (.lst xs) \/
  ∃(o:Obj)(its:Array Value)(n:Nat),K.lookup a=some o/\o.cls=.type "list"/\o.dict=none/\o.data=.seq its n/\its.size<=sizeLine/\Vals xs its.toList
noncomputable def ij (K:Frag)(H:Hp)(a:Addr)(xs:List V):Prop :=
 Rd H a (.tup xs) \/
  ∃(o:Obj)(its:Array Value)(n:Nat),K.lookup a=some o/\o.cls=.type "tuple"/\o.data=.seq its n/\its.size<=sizeLine/\Vals xs its.toList
noncomputable def aml:Value->Option V
 |.none=>some .non
 |.bool b=>some (.bl b)
 |.int i _=>some (.int i)
 |.str x _=>some (.str x)
 |.bytes b _=>some (.byt b)
 |.float b _=>some (.flt b)
 |.ref a=>some (.ref a)
 |.type n=>some (.ty n)
 |_=>none
theorem RelV.abs {x:V}{u:Value}(r:RelV x u):aml u=some x:=by
 cases x with
 |non=>cases r;rfl
 |bl _=>cases r;rfl
 |int _=>obtain⟨t,rfl⟩:=r;rfl
 |str _=>obtain⟨t,rfl⟩:=r;rfl
 |byt _=>obtain⟨t,rfl⟩:=r;rfl
 |flt _=>obtain⟨t,rfl⟩:=r;rfl
 |ref _=>cases r;rfl
 |ty _=>cases r;rfl
theorem RelV.inj {x y:V}{u:Value}(r:RelV x u)(q:RelV y u):x=y:=W' (r.abs.symm.trans q.abs)
theorem Vals.inj:∀{xs ys:List V} {us:List Value},Vals xs us->Vals ys us->xs=ys
 |_,_,_,.nil,.nil=>rfl
 |_,_,_,.cons r t,.cons r' t'=>by rw[r.inj r',Vals.inj t t']
section
variable {X:Cx} {pins:List (Addr×Obj)} {σ:St} {H:Hp} {s:Shared} {a:Addr} {xs ys:List V}
theorem aO.of {K:Frag}(h:H a=some (.lst xs)):aO K H a xs:=.inl (.inl h)
theorem ij.of {K:Frag}(h:H a=some (.tup xs)):ij K H a xs:=.inl (.inl h)
theorem Inv.list (I:Inv X pins σ H s)(h:aO X.K H a xs):∃ its:List Value,Vals xs its/\PlainL s.heap a its.toArray/\xs.length<=sizeLine:=by
 rcases h with h|⟨o,its,n,hk,hc,hd,hs,hz,r⟩
 ·obtain⟨z,its,n,r,e⟩:=h.ok I.hok;exact⟨its,r,⟨_,n,e,rfl,rfl,rfl⟩,z⟩
 ·refine⟨its.toList,r,⟨o,n,I.DQ a o hk,hc,hd,by simpa using hs⟩,?_⟩;have e:=r.length;simp only [Array.length_toList]at e;omega
theorem Inv.tuple (I:Inv X pins σ H s)(h:ij X.K H a xs):∃ its:List Value,Vals xs its/\IsTup s.heap a its.toArray/\xs.length<=sizeLine:=by
 rcases h with h|⟨o,its,n,hk,hc,hs,hz,r⟩
 ·obtain⟨z,its,r,p⟩:=h.ok I.hok;exact⟨its,r,p,z⟩
 ·refine⟨its.toList,r,⟨o,I.DQ a o hk,hc,n,by simpa using hs⟩,?_⟩;have e:=r.length;simp only [Array.length_toList]at e;omega
theorem Inv.UN (I:Inv X pins σ H s)(h:aO X.K H a xs)(h':aO X.K H a ys):xs=ys:=by
 obtain⟨its,r,⟨o,n,e,_,_,d⟩,_⟩:=I.list h;obtain⟨its',r',⟨o',n',e',_,_,d'⟩,_⟩:=I.list h';rw[e]at e';cases e';rw[d]at d'
 injection d' with d1 _
 have:its=its':=by simpa using congrArg Array.toList d1
 subst this;exact r.inj r'
end
noncomputable abbrev Cx.wish (X:Cx)(E:Value->Shared->Prop):Cx:={ X with xe:=E }
noncomputable abbrev Cx.nox (X:Cx):Cx:=X.wish fun _ _=>False
theorem Cx.Ok.wish {X:Cx}(ok:X.Ok)(E:Value->Shared->Prop):(X.wish E).Ok :=
 ⟨ok.mod,ok.kind,ok.glob,ok.blt,ok.above,ok.inj,ok.has,ok.cab,ok.hd,ok.frames,ok.stk,ok.exf,ok.bs,ok.WH,ok.UK,ok.UL,ok.DS,ok.frf⟩
theorem Cx.Ok.yc {X:Cx}{E:Value->Shared->Prop}(ok:(X.wish E).Ok):X.Ok :=
 ⟨ok.mod,ok.kind,ok.glob,ok.blt,ok.above,ok.inj,ok.has,ok.cab,ok.hd,ok.frames,ok.stk,ok.exf,ok.bs,ok.WH,ok.UK,ok.UL,ok.DS,ok.frf⟩
section
variable {X:Cx} {pins:List (Addr×Obj)} {σ:St} {H:Hp} {s:Shared} {E:Value->Shared->Prop}
theorem Inv.wish (I:Inv X pins σ H s)(E:Value->Shared->Prop):Inv (X.wish E) pins σ H s:=⟨I.ok.wish E,I.os,I.bare,I.base,I.loc,I.cell,I.free,I.uJ,I.pin,I.hok,I.len⟩
theorem Inv.yc (I:Inv (X.wish E) pins σ H s):Inv X pins σ H s:=⟨I.ok.yc,I.os,I.bare,I.base,I.loc,I.cell,I.free,I.uJ,I.pin,I.hok,I.len⟩
theorem SP.yc {D:Ends}{f:Flow}{s':Shared}(h:SP (X.wish E) pins D f s'):SP X pins D f s':=by
 cases f with
 |next=>obtain⟨σ',H',I,q⟩:=h;exact⟨σ',H',I.yc,q⟩
 |brk=>obtain⟨σ',H',I,q⟩:=h;exact⟨σ',H',I.yc,q⟩
 |cont=>obtain⟨σ',H',I,q⟩:=h;exact⟨σ',H',I.yc,q⟩
 |ret u=>obtain⟨v,σ',H',I,r,q⟩:=h;exact⟨v,σ',H',I.yc,r,q⟩
theorem WB.nox {st:List Stmt}{t:TS}(h:WB X.nox st t):WB X st t:=fun pins s σ H D I hw =>
 wpAny_mono (h pins s σ H D (I.wish _) hw) (fun _ _ q=>q.yc) fun _ _ z=>False.elim z
end
section
variable {X:Cx} {st:Stmt} {rest:List Stmt} {t u:TS} {e:Expr} {te:TE} {pos:Pos}
noncomputable def ajS:TS:=fun D σ H=>D.nx σ H
noncomputable def ajT (t u:TS):TS:=fun D σ H=>t { D with nx:=u D } σ H
theorem aD:WB X [] ajS:=fun _ _ σ H _ I h=>wpAny_execs_nil ⟨σ,H,I,h⟩
theorem ag (h1:PS X st t)(h2:WB X rest u):WB X (st::rest) (ajT t u):=by
 intro pins s σ H D I h;refine wpAny_execs_cons (cQ (h1 pins s σ H { D with nx:=u D } I h) fun f s1 q=>?_);cases f with
 |next =>
  obtain⟨σ',H',I',q⟩:=q;exact h2 pins s1 σ' H' D I' q
 |ret v=>exact q
 |brk=>exact q
 |cont=>exact q
theorem ah (h1:PS X st t):WB X [st] t:=by
 intro pins s σ H D I h;refine wpAny_execs_cons (cQ (h1 pins s σ H D I h) fun f s1 q=>?_);cases f with
 |next=>exact wpAny_execs_nil q
 |ret v=>exact q
 |brk=>exact q
 |cont=>exact q
theorem Inv.quiet {pins:List (Addr×Obj)}{σ:St}{H:Hp}{s:Shared}(I:Inv X pins σ H s):interactive X.env=false:=by simp[interactive,I.ok.kind]
noncomputable def ajU (te:TE):TS:=fun D σ H=>te σ H fun _ H1=>D.nx σ H1
theorem aP (he:PE X e te)(hs:swapsWith e none pos.line X.env=pure false:=by rfl):PS X (.Expr e pos) (ajU te):=by
 intro pins s σ H D I h;exact wpAny_Expr_any (cQ (he pins s σ H _ I h) fun v s1 ⟨x,H1,I1,r1,q1⟩=>⟨σ,H1,I1,q1⟩) I.quiet hs
noncomputable def amm (te:TE):TS:=fun D σ H=>te σ H D.rt
theorem ax (he:PE X e te):PS X (.Return (some e) pos) (amm te):=by
 intro pins s σ H D I h;exact wpAny_Return_some (cQ (he pins s σ H _ I h) fun v s1 ⟨x,H1,I1,r1,q1⟩=>⟨x,σ,H1,I1,r1,q1⟩)
noncomputable def amn (c:TT)(t u:TS):TS:=fun D σ H=>c σ H fun b H1=>if b=true then t D σ H1 else u D σ H1
theorem aU {c:Expr}{a b:List Stmt}{tc:TT}(hc:PT X c tc)(ha:WB X a t)(hb:WB X b u):PS X (.If c a b pos) (amn tc t u):=by
 intro pins s σ H D I h;refine wpAny_If (cQ (hc pins s σ H _ I h) fun d s1 ⟨H1,I1,q1⟩=>?_);cases d with
 |true=>exact ha pins s1 σ H1 D I1 q1
 |false=>exact hb pins s1 σ H1 D I1 q1
noncomputable def ahY:TS:=fun _ _ _=>False
theorem iH:PS X st ahY:=fun _ _ _ _ _ _ h=>h.elim
end
noncomputable abbrev TG:=V->St->Hp->(St->Hp->Prop)->Prop
noncomputable abbrev TGs:=List V->St->Hp->(St->Hp->Prop)->Prop
noncomputable def PG (X:Cx)(target:Expr)(t:TG):Prop :=
 ∀(pins:List (Addr×Obj)) (s:Shared) (σ:St) (H:Hp) (v:V) (u:Value) (Q:St->Hp->Prop),Inv X pins σ H s->RelV v u->t v σ H Q ->
  wpAny (model X.prog X.w) X.A (assign target X.env u) (fun _ s'=>∃ σ' H',Inv X pins σ' H' s'/\Q σ' H') X.xe s
noncomputable def PGs (X:Cx)(ts:List Expr)(t:TGs):Prop :=
 ∀(pins:List (Addr×Obj)) (s:Shared) (σ:St) (H:Hp) (vs:List V) (us:List Value) (Q:St->Hp->Prop),Inv X pins σ H s->Vals vs us->t vs σ H Q ->
  wpAny (model X.prog X.w) X.A (assignInOrder ((assignEach ts X.env).map (·.2)) us) (fun _ s'=>∃ σ' H',Inv X pins σ' H' s'/\Q σ' H') X.xe s
noncomputable abbrev ahZ:=V->V->V->Hp->(Hp->Prop)->Prop
noncomputable def ajV (X:Cx)(t:ahZ):Prop :=
 ∀(pins:List (Addr×Obj)) (s:Shared) (σ:St) (H:Hp) (o i v:V) (ov iv u:Value) (Q:Hp->Prop),Inv X pins σ H s->RelV o ov->RelV i iv->RelV v u->t o i v H Q ->
  wpAny (model X.prog X.w) X.A (setItem ov iv u) (fun _ s'=>∃ H',Inv X pins σ H' s'/\Q H') X.xe s
noncomputable abbrev TIp:=V->V->Hp->VK->Prop
noncomputable def PIp (X:Cx)(op:Operator)(t:TIp):Prop :=
 ∀(pins:List (Addr×Obj)) (s:Shared) (σ:St) (H:Hp) (x y:V) (v u:Value) (Q:VK),Inv X pins σ H s->RelV x v->RelV y u->t x y H Q ->
  wpAny (model X.prog X.w) X.A (inplaceOp op v u) (EP X pins σ Q) X.xe s
section
variable {X:Cx} {pos:Pos}
noncomputable def DT (i:Nat):TG:=fun v σ H Q=>Q (σ.set i (some v)) H
theorem aB {i:Nat}{x:Str}(hN:X.N.Nodup)(hi:X.N[i]? = some x)(hx:Loc X.env.scope x)(hf:X.fn x=true\/X.env.scope.names.lookup x=some .local:=by first|exact .inl rfl|exact .inr rfl|assumption):PG X (.Name x pos) (DT i):=by
 intro pins s σ H v u Q I r h;exact wpAny_assign_Name (KO I hN hi hx r (fun s' I'=>⟨_,H,I',h⟩) hf)
noncomputable def amo:TGs:=fun vs σ H Q=>vs=[]/\Q σ H
inductive acY (t:TG)(u:TGs)(vs:List V)(σ:St)(H:Hp)(Q:(St->Hp->Prop)):Prop
 |mk (v:_) (r:_) (dE:vs=v::r) (dF:t v σ H fun σ' H'=>u r σ' H' Q):acY t u vs σ H Q
noncomputable def ajW (t:TG)(u:TGs):TGs:=fun vs σ H Q=>acY t u vs σ H Q
theorem cq:PGs X [] amo:=by
 intro pins s σ H vs us Q I r h;obtain⟨e,h⟩:=h;subst e;cases r;exact assignInOrder_nil ⟨σ,H,I,h⟩
theorem aK {e:Expr}{es:List Expr}{t:TG}{u:TGs}(h1:PG X e t)(h2:PGs X es u)
  (hs:(assignEach (e::es) X.env).map (·.2)=assign e X.env::(assignEach es X.env).map (·.2):=by rfl):PGs X (e::es) (ajW t u):=by
 intro pins s σ H vs us Q I r h;obtain⟨v,vr,e1,h⟩:=h;subst e1;cases r with
 |cons r rr =>
  rw[hs];refine assignInOrder_cons (cQ (h1 pins s σ H _ _ _ I r h) fun _ s1 ⟨σ1,H1,I1,q1⟩=>?_);exact h2 pins s1 σ1 H1 _ _ Q I1 rr q1
inductive ag4 (K:Frag)(n:Nat)(t:TGs)(v:V)(σ:St)(H:Hp)(Q:(St->Hp->Prop)):Prop
 |mk (a:_) (xs:_) (dE:v=.ref a) (dF:ij K H a xs) (eQ:xs.length=n) (jv:t xs σ H Q):ag4 K n t v σ H Q
noncomputable def amq (K:Frag)(n:Nat)(t:TGs):TG:=fun v σ H Q=>ag4 K n t v σ H Q
theorem dA {es:List Expr}{k:Nat}{t:TGs}{n:Nat}(hc:X.calm=true)(h:PGs X es t)
  (hn:(assignEach es X.env).length=n:=by rfl) (hst:(assignEach es X.env).findIdx? (·.1)=none:=by rfl):PG X (.Tuple es k pos) (amq X.K n t):=by
 intro pins s σ H v u Q I r hw;obtain⟨a,xs,e1,hq,hl,hw⟩:=hw;subst e1;cases r;obtain⟨its,rv,ht,hz⟩:=I.tuple hq;refine assign_Tuple_tuple (I.ok.hd hc) ht (by simp[hn,<-hl,rv.length]) hst fun h' hx=>?_;have I1:Inv X pins σ H { s with heap:=h' }:=I.kept (t':=s.toks) fun b o e=>hx b o (Nat.ne_of_lt (S' e)) e;exact h pins _ σ H xs _ Q I1 (by simpa using rv) hw
noncomputable def amr (to ti:TE)(t:ahZ):TG:=fun v σ H Q=>to σ H fun o H1=>ti σ H1 fun i H2=>t o i v H2 fun H3=>Q σ H3
theorem yd {o i:Expr}{to ti:TE}{t:ahZ}(ho:PE X o to)(hi:PE X i ti)(hs:ajV X t)
  (ha:∀ v,assign (.Subscript o i pos) X.env v=(do
   let ov <-holding [v] (eval o X.env)
   let iv <-holding [v,ov] (eval i X.env)
   standAt pos
   holding [v,ov,iv] (setItem ov iv v)
   release [v,ov,iv] []):=by intro _;rfl):PG X (.Subscript o i pos) (amr to ti t):=by
 intro pins s σ H v u Q I r h;rw[ha];refine A' (wpAny_holding (cQ (ho pins s σ H _ I h) fun ov s1 ⟨x,H1,I1,r1,q1⟩=>?_));refine A' (wpAny_holding (cQ (hi pins s1 σ H1 _ I1 q1) fun iv s2 ⟨y,H2,I2,r2,q2⟩=>?_));refine A' (wpAny_standAt (A' (wpAny_holding (cQ (hs pins s2 σ H2 x y v ov iv u _ I2 r1 r2 r q2) fun _ s3 ⟨H3,I3,q3⟩=>?_))));exact wpAny_release ⟨σ,H3,I3,q3⟩
noncomputable def acZ (te:TE)(g:TG):TS:=fun D σ H=>te σ H fun x H1=>g x σ H1 D.nx
theorem kS {tg e:Expr}{te:TE}{g:TG}(he:PE X e te)(hg:PG X tg g)(hs:swapsWithSole [tg] e pos.line X.env=pure false:=by rfl)(hw:swappedStores [tg] e X.env=pure none:=by rfl)
  (h1:(assignEach [tg] X.env).map (·.2)=[assign tg X.env]:=by rfl):PS X (.Assign [tg] e pos) (acZ te g):=by
 intro pins s σ H D I h;refine wpAny_Assign_stores (cQ (he pins s σ H _ I h) fun v s1 ⟨x,H1,I1,r1,q1⟩=>?_) hs hw;rw[h1];exact cQ (hg pins s1 σ H1 x v _ I1 r1 q1) fun _ s2 q=>q
theorem aH {i:Nat}{x:Str}{e:Expr}{te:TE}{pos':Pos}(hN:X.N.Nodup)(hi:X.N[i]? = some x)(hx:Loc X.env.scope x)(he:PE X e te)(hs:swapsWith e (some (.Name x pos')) pos.line X.env=pure false:=by rfl)(hf:X.fn x=true\/X.env.scope.names.lookup x=some .local:=by first|exact .inl rfl|exact .inr rfl|assumption) :
  PS X (.Assign [.Name x pos'] e pos) (acZ te (DT i)):=by
 intro pins s σ H D I h;refine wpAny_Assign_Name (cQ (he pins s σ H _ I h) fun v s1 ⟨y,H1,I1,r1,q1⟩=>?_) hs;exact KO I1 hN hi hx r1 (fun s2 I2=>⟨_,H1,I2,q1⟩) hf
noncomputable def ams (i:Nat)(te:TE)(ti:TIp):TS:=fun D σ H=>∃ x,σ[i]? = some (some x)/\te σ H fun y H1=>ti x y H1 fun z H2=>D.nx (σ.set i (some z)) H2
theorem Qn {i:Nat}{x:Str}{e:Expr}{te:TE}{op:Operator}{ti:TIp}{pos':Pos}(hN:X.N.Nodup)(hi:X.N[i]? = some x)(hx:Loc X.env.scope x)(he:PE X e te)(ho:PIp X op ti)(hf:X.fn x=true\/X.env.scope.names.lookup x=some .local:=by first|exact .inl rfl|exact .inr rfl|assumption) :
  PS X (.AugAssign (.Name x pos') op e pos) (ams i te ti):=by
 intro pins s σ H D I h;obtain⟨v,e1,h⟩:=h;obtain⟨m,hn,hl⟩:=I.loc;have vis:Vis X.env.scope x:=by rcases hx with k|k;exact .inl k;exact .inr (.inl k)
 obtain⟨u,r,l⟩:=hl i x v hi e1 vis;refine wpAny_AugAssign_Name ?_;have go:wpAny (model X.prog X.w) X.A (eval e X.env) (fun w s₂=>wpAny (model X.prog X.w) X.A (inplaceOp op u w) (fun r s₃=>wpAny (model X.prog X.w) X.A (storeName X.env x r) (fun _=>SP X pins D .next) X.xe s₃) X.xe s₂) X.xe s:=by
  refine cQ (he pins s σ H _ I h) fun w s1 ⟨y,H1,I1,r1,q1⟩=>?_;refine cQ (ho pins s1 σ H1 v y u w _ I1 r r1 q1) fun z s2 ⟨zv,H2,I2,r2,q2⟩=>?_;exact KO I2 hN hi hx r2 (fun s3 I3=>⟨_,H2,I3,q2⟩) hf
 rcases l with ⟨hk,hm⟩|⟨hk,c,hc,hcell⟩
 ·exact wpAny_loadName_local I.ok.kind hk hn hm go
 ·rcases hk with hk|hk
  ·exact wpAny_loadName_cell I.ok.kind hk hc hcell go
  ·rcases hx with k|k
   ·have:X.env.scope.names.lookup x=some .free:=hk;rw[k]at this;cases this
   ·have:X.env.scope.names.lookup x=some .free:=hk;rw[k]at this;cases this
noncomputable def ipI (f:Int->Int->Int):TIp:=fun x y H Q=>∃ i j,x=.int i/\y=.int j/\Q (.int (f i j)) H
theorem Qo:PIp X .Add (ipI fun i j=>i+j):=by
 intro pins s σ H x y v u Q I r1 r2 h;obtain⟨i,j,e1,e2,q⟩:=h;subst e1;subst e2;obtain⟨t,rfl⟩:=r1;obtain⟨t',rfl⟩:=r2;exact iadd_int ⟨.int _,H,I.tok _,⟨_,rfl⟩,q⟩
end
section
variable {X:Cx} {pos:Pos}
noncomputable def ah0 (c:TT)(tb:TS):TS:=fun D σ H=>∃ W:Nat->St->Hp->Prop,(∃ m,W m σ H)/\∀ m σ H,W m σ H ->
 c σ H fun b H1=>if b=true then ∃ N:St->Hp->Prop,(∀ σ' H',N σ' H'->∃ m',m'<m/\W m' σ' H')/\tb { D with nx:=N,ct:=N,bk:=D.nx } σ H1 else D.nx σ H1
theorem ye {c:Expr}{body:List Stmt}{tc:TT}{tb:TS}(hp:PassesOwn (model X.prog X.w) X.A X.env X.xe)(hc:PT X c tc)(hb:WB X body tb):PS X (.While c body [] pos) (ah0 tc tb):=by
 intro pins s σ H D I h;obtain⟨W,⟨m0,w0⟩,turn⟩:=h;refine wpAny_While (codeAny_whileLoop (fun n s'=>∃ σ' H',Inv X pins σ' H' s'/\W n σ' H') ?_ m0 ⟨σ,H,I,w0⟩);rintro n s1 ⟨σ1,H1,I1,w1⟩;refine wpAny_passesOwn hp (cQ (hc pins s1 σ1 H1 _ I1 (turn n σ1 H1 w1)) fun b s2 ⟨H2,I2,q2⟩=>?_);cases b with
 |true =>
  obtain⟨N,hN,q2⟩:=q2;rw[if_pos rfl];refine wpAny_passesOwn hp (cQ (hb pins s2 σ1 H2 _ I2 q2) fun f s3 q3=>?_);cases f with
  |next =>
   obtain⟨σ3,H3,I3,n3⟩:=q3;obtain⟨m',hm,w3⟩:=hN σ3 H3 n3;exact⟨m',hm,σ3,H3,I3,w3⟩
  |cont =>
   obtain⟨σ3,H3,I3,n3⟩:=q3;obtain⟨m',hm,w3⟩:=hN σ3 H3 n3;exact⟨m',hm,σ3,H3,I3,w3⟩
  |brk=>exact q3
  |ret v=>exact q3
 |false =>
  rw[if_neg Z'];exact wpAny_execs_nil ⟨σ1,H2,I2,q2⟩
end
structure It where
 go:Nat->Hp->Prop
 WC:Nat->Hp->V->Hp->Prop
 stop:Nat->Hp->Prop
noncomputable def jZ (X:Cx)(pins:List (Addr×Obj))(H:Hp)(b:Addr):Prop :=
 H b=none/\b≠X.env.locals/\b ∉ X.fs/\(b∈X.ex\/X.s₀.heap.objs.size<=b)/\(∀ x c,X.env.cells.lookup x=some c->c≠b)/\∀ p∈X.pn++pins,p.1≠b
theorem Inv.KP {X:Cx}{pins:List (Addr×Obj)}{σ:St}{H H':Hp}{s:Shared}{b:Addr}(I:Inv X pins σ H s)(hb:s.heap.objs.size<=b)(hn:H' b=none):jZ X pins H' b:=by
 refine⟨hn,Nat.ne_of_gt (Nat.lt_of_lt_of_le I.lt hb),I.amg hb,.inr (Nat.le_trans I.sz hb),fun x c e z=>?_,fun p hp z=>?_⟩
 ·obtain⟨v,q⟩:=I.cell x c e;exact V' (Nat.lt_of_lt_of_le q.lt (by rw[z];exact hb)) (Nat.lt_irrefl _)
 ·exact V' (Nat.lt_of_lt_of_le (S' (I.pin p hp).1) (by rw[z];exact hb)) (Nat.lt_irrefl _)
structure Turn (P:Program)(w:World)(K:Frag)(tg:Expr)(J:It)(fp:List Addr)(it:Addr)(tn:Nat->Heap->Prop):Prop where
 mem:it∈fp
 obj:∀ i h,tn i h->∀ b∈fp,∃ o,h.get? b=some o/\∀ v,o.data≠.cell v
 keep:∀ i h h',tn i h->(∀ b∈fp,∀ o,h.get? b=some o->h'.get? b=some o)->tn i h'
 item:∀(X:Cx),X.prog=P->X.w=w->X.K=K->X.calm=true->∀(i:Nat)(pins:List (Addr×Obj)) (s:Shared) (σ:St) (H:Hp) (E:Value->Shared->Prop),Inv X pins σ H s->(∀ b∈fp,jZ X pins H b)->tn i s.heap->J.go i H ->
  wpAny (model P w) X.A (pyNext (.ref it)) (fun r s1=>∃ u,r=some u /\
   wpAny (model P w) X.A (letOwnedTupleGo tg (.ref it) u) (fun _ s2=>∃ x H',Inv X pins σ H' s2/\RelV x u/\J.WC i H x H'/\tn (i+1) s2.heap/\∀ b∈fp,H' b=none) E s1) E s
 done:∀(X:Cx),X.prog=P->X.w=w->X.K=K->X.calm=true->∀(i:Nat)(pins:List (Addr×Obj)) (s:Shared) (σ:St) (H:Hp) (E:Value->Shared->Prop),Inv X pins σ H s->(∀ b∈fp,jZ X pins H b)->tn i s.heap->J.stop i H ->
  wpAny (model P w) X.A (pyNext (.ref it)) (fun r s1=>r=none/\Inv X pins σ H s1) E s
 self:∀(A:Around)(i:Nat)(s:Shared)(Q:Value->Shared->Prop)(E:Value->Shared->Prop),tn i s.heap->Q (.ref it) s->wpAny (model P w) A (pyIter (.ref it)) Q E s
noncomputable abbrev TI:=St->Hp->(It->Hp->Prop)->Prop
noncomputable def PIE (X:Cx)(pins:List (Addr×Obj))(σ:St)(tg:Expr)(R:It->Hp->Prop)(itv:Value)(s2:Shared):Prop :=
 ∃(it:Addr)(fp:List Addr)(tn:Nat->Heap->Prop)(J:It)(H':Hp),itv=.ref it/\Inv X pins σ H' s2/\Turn X.prog X.w X.K tg J fp it tn/\tn 0 s2.heap/\(∀ b∈fp,jZ X pins H' b)/\R J H'
noncomputable def PI (X:Cx)(tg iter:Expr)(wi:TI):Prop :=
 ∀(pins:List (Addr×Obj)) (s:Shared) (σ:St) (H:Hp) (R:It->Hp->Prop),Inv X pins σ H s->wi σ H R ->
  wpAny (model X.prog X.w) X.A (eval iter X.env) (fun v s1=>wpAny (model X.prog X.w) X.A (pyIter v) (PIE X pins σ tg R) X.xe s1) X.xe s
theorem Zq {M:Model}{A:Around}{E:Value->Shared->Prop}{s:Shared}{tg:Expr}{it:Addr}{u:Value}{o:Obj}{n:String}{vs:Array Value}{Q:Unit->Shared->Prop}(ho:s.heap.get? it=some o)(hc:o.cls=.type n)(hd:o.data=.fields vs)
  (hn:["enumerate","zip","dict_itemiterator","dict_reverseitemiterator","odict_iterator","itertools.zip_longest","itertools.pairwise"].contains n=false) (hQ:Q () s):wpAny M A (letOwnedTupleGo tg (.ref it) u) Q E s:=by
 unfold letOwnedTupleGo;cases tg <;> first
  |exact P' hQ
  |(cases u <;> first
    |exact P' hQ
    |(refine A' (wpAny_load ho ?_);rw[hc,hd];show wpAny M A (if(["enumerate","zip","dict_itemiterator","dict_reverseitemiterator","odict_iterator","itertools.zip_longest","itertools.pairwise"].contains n&&vs[0]? == some (rawInt _))=true then _ else _) Q E s;rw[if_neg (by intro h;rw[hn,Bool.false_and]at h;cases h)];exact P' hQ))
noncomputable def Itl (K:Frag)(a:Addr):It :=
 ⟨fun i H=>∃ xs x,aO K H a xs/\xs[i]? = some x,fun i H x H'=>H'=H/\∀ xs,aO K H a xs->xs[i]? = some x,fun i H=>∃ xs,aO K H a xs/\xs.length<=i⟩
noncomputable def Itr (lo:Int)(n:Nat):It:=⟨fun i _=>i<n,fun i H x H'=>H'=H/\x=.int (lo+i),fun i _=>n<=i⟩
theorem aaj {P:Program}{w:World}{K:Frag}{tg:Expr}(a it:Addr):Turn P w K tg (Itl K a) [it] it (fun i h=>h.IsListIter it a i) where
 mem:=by simp
 obj:=fun i h st b hb=>by
  have e:b=it:=by simpa using hb
  subst e;obtain⟨o,e,c,d⟩:=st;exact⟨o,e,fun v z=>by rw[d]at z;cases z⟩
 keep:=fun i h h' st k=>st.at fun o e=>k it (by simp) o e
 item:=by
  intro X hP hw hK hc i pins s σ H E I hf st hg;subst hP hw hK;obtain⟨xs,x,hq,hx⟩:=hg;obtain⟨its,rv,p,hz⟩:=I.list hq;obtain⟨u,hu,ru⟩:=rv.get hx;obtain⟨f0,f1,f2,f3,f4,f5⟩:=hf it (by simp);refine wpAny_pyNext_list_item st p.isList (x:=u) (by simpa using hu) fun h' st' sb=>?_;have I1:Inv X pins σ H { s with heap:=h' }:=I.turned (t':=s.toks) (fun b o hb e=>(sb.2 b hb).trans e) f0 f1 f3 f4 f5;obtain⟨o,e,c,d⟩:=id st';exact⟨u,rfl,Zq (s:={ s with heap:=h' }) e c d (by decide) ⟨x,H,I1,ru,⟨rfl,fun ys hy=>by rw[I.UN hy hq];exact hx⟩,st',fun b hb=>(hf b hb).1⟩⟩
 done:=by
  intro X hP hw hK hc i pins s σ H E I hf st hg;subst hP hw hK;obtain⟨xs,hq,hx⟩:=hg;obtain⟨its,rv,p,hz⟩:=I.list hq;obtain⟨f0,f1,f2,f3,f4,f5⟩:=hf it (by simp);have hl:=rv.length;exact wpAny_pyNext_list_end (I.ok.hd hc) st p.isList (by simp;omega) fun h' eb=>⟨rfl,I.turned (t':=s.toks) (fun b o hb e=>eb b o hb e) f0 f1 f3 f4 f5⟩
 self:=fun _ _ _ _ _ st h=>wpAny_pyIter_listiter st h
theorem WI {P:Program}{w:World}{K:Frag}{tg:Expr}(it:Addr)(lo:Int)(n:Nat):Turn P w K tg (Itr lo n) [it] it (fun i h=>IsRangeIter h it (lo+(i:Nat) * 1) ((n:Int)-(i:Nat)) 1) where
 mem:=by simp
 obj:=fun i h st b hb=>by
  have e:b=it:=by simpa using hb
  subst e;exact⟨_,st,fun v z=>by
   have z':Data.fields _=Data.cell v:=z;cases z'⟩
 keep:=fun i h h' st k=>k it (by simp) _ st
 item:=by
  intro X hP hw hK hc i pins s σ H E I hf st hg;subst hP hw hK;obtain⟨f0,f1,f2,f3,f4,f5⟩:=hf it (by simp);have W:=Walks.range (prog:=X.prog) (w:=X.w) (I.ok.hd hc) it lo 1 n;refine W.item i s _ _ hg st fun v h' tk hv st' kk=>?_;obtain⟨t,rfl⟩:=hv;have I1:Inv X pins σ H { s with heap:=h',toks:=tk }:=I.turned (fun b o hb e=>kk b o (by simpa using hb) e) f0 f1 f3 f4 f5;refine⟨_,rfl,Zq (s:={ s with heap:=h',toks:=tk }) (n:="range_iterator") st' rfl rfl (by decide) ⟨.int (lo+i),H,I1,⟨t,?_⟩,⟨rfl,rfl⟩,st',fun b hb=>(hf b hb).1⟩⟩;rw[Int.mul_one]
 done:=by
  intro X hP hw hK hc i pins s σ H E I hf st hg;subst hP hw hK;obtain⟨f0,f1,f2,f3,f4,f5⟩:=hf it (by simp);exact wpAny_pyNext_range_end (I.ok.hd hc) st (by have:n<=i:=hg;omega) fun h' eb=>⟨rfl,I.turned (t':=s.toks) (fun b o hb e=>eb b o hb e) f0 f1 f3 f4 f5⟩
 self:=fun _ _ _ _ _ st h=>wpAny_pyIter_rangeiter st h
end L2
namespace L2
open PySem PySem.Spec PyProof.Rows
section
variable {X:Cx} {tg:Expr}
inductive ac0 (K:Frag)(R:(It->Hp->Prop))(x:V)(H1:Hp):Prop
 |mk (a:_) (dE:x=.ref a) (dF:(∃ xs,aO K H1 a xs)/\R (Itl K a) H1):ac0 K R x H1
noncomputable def ajY (K:Frag)(tl:TE):TI:=fun σ H R=>tl σ H fun x H1=>ac0 K R x H1
theorem cu {l:Expr}{tl:TE}(hl:PE X l tl):PI X tg l (ajY X.K tl):=by
 intro pins s σ H R I h;refine cQ (hl pins s σ H _ I h) fun v s1 ⟨x,H1,I1,r1,q1⟩=>?_;obtain⟨a,e,⟨xs,hq⟩,q⟩:=q1;subst e;cases r1;obtain⟨its,rv,p,hz⟩:=I1.list hq;refine wpAny_pyIter_list p.isList ?_;refine⟨s1.heap.objs.size,[s1.heap.objs.size],_,_,H1,rfl,I1.kept (t':=s1.toks) fun b o e=>L' _ e,aaj a _,⟨_,Heap.get?_push_size _ rfl,rfl,rfl⟩,fun b hb=>?_,q⟩;have e:b=s1.heap.objs.size:=by simpa using hb
 subst e;exact I1.KP (R' _) (I1.hok.fresh (R' _))
theorem UO {pins:List (Addr×Obj)}{σ:St}{H:Hp}{s:Shared}{R:It->Hp->Prop}{E:Value->Shared->Prop}{lo hi:Int}{t u v:Tok}{tk:Nat}(I:Inv X pins σ H s)(h1:-(2 ^ 62)<=lo)(h2:lo<2 ^ 62)(h3:-(2 ^ 62)<=hi)(h4:hi<2 ^ 62)
  (q:R (Itr lo (hi-lo).toNat) H):wpAny (model X.prog X.w) X.A (pyIter (.ref s.heap.objs.size)) (PIE X pins σ tg R) E { s with heap:=s.heap.push { cls:=.type "range",data:=.fields #[.int lo t,.int hi u,.int 1 v] },toks:=tk }:=by
 refine wpAny_pyIter_range (IsRange.new ..) (small_one h1 h2 h3 h4) ?_;have I1:Inv X pins σ H { s with heap:=s.heap.push { cls:=.type "range",data:=.fields #[.int lo t,.int hi u,.int 1 v] },toks:=tk }:=I.kept fun b o e=>L' _ e;refine⟨(s.heap.push { cls:=.type "range",data:=.fields #[.int lo t,.int hi u,.int 1 v] }).objs.size,[(s.heap.push { cls:=.type "range",data:=.fields #[.int lo t,.int hi u,.int 1 v] }).objs.size],_,_,H,rfl,
  I1.kept (t':=tk) fun b o e=>L' _ e,WI _ lo (hi-lo).toNat,?_,fun b hb=>?_,q⟩
 ·have e1:lo+((0:Nat):Int) * 1=lo:=by simp
  have e2:(((hi-lo).toNat:Nat):Int)-((0:Nat):Int)=Builtin.Range.rangeSize lo hi 1:=by rw[rangeSize_one];split <;> omega
  show IsRangeIter _ _ (lo+((0:Nat):Int) * 1) ((((hi-lo).toNat:Nat):Int)-((0:Nat):Int)) 1;rw[e1,e2];exact Heap.get?_push_size _ rfl
 ·have e:b=(s.heap.push { cls:=.type "range",data:=.fields #[.int lo t,.int hi u,.int 1 v] }).objs.size:=by simpa using hb
  subst e;exact I1.KP (R' _) (I1.hok.fresh (R' _))
inductive ac1 (R:(It->Hp->Prop))(vs:List V)(H1:Hp):Prop
 |mk (j:Int) (dE:vs=[.int j]) (dF:-(2 ^ 62)<=j/\j<2 ^ 62/\R (Itr 0 j.toNat) H1):ac1 R vs H1
noncomputable def aj0 (ta:TA):TI:=fun σ H R=>ta σ H fun vs H1=>ac1 R vs H1
inductive ac2 (R:(It->Hp->Prop))(vs:List V)(H1:Hp):Prop
 |mk (i j:Int) (dE:vs=[.int i,.int j]) (dF:(-(2 ^ 62)<=i/\i<2 ^ 62/\-(2 ^ 62)<=j/\j<2 ^ 62)) (eQ:R (Itr i (j-i).toNat) H1):ac2 R vs H1
noncomputable def aj1 (ta:TA):TI:=fun σ H R=>ta σ H fun vs H1=>ac2 R vs H1
theorem kj {a:Expr}{ta:TA}{p pos:Pos}(hg:Gl X "range")(hm:X.mg "range"=none)(ha:PA X [a] ta)(hs:starEach [a] X.env=[(false,eval a X.env)]:=by rfl):PI X tg (.Call (.Name "range" p) [a] [] pos) (aj0 ta):=by
 intro pins s σ H R I h;refine Call_ (qU I hg hm boot_range (PyProof.Rows.callWith_type1 (cQ (ha pos pins s σ H _ I h) fun us s1 ⟨vs,H1,I1,r1,q1⟩=>?_) hs rfl));obtain⟨j,e,q1,q2,q⟩:=q1;subst e;cases r1 with
 |cons r rr =>
  cases rr;obtain⟨t,rfl⟩:=r;exact call_range_1 (UO I1 (by omega) (by omega) q1 q2 (by simpa using q))
theorem O9 {a b:Expr}{ta:TA}{p pos:Pos}(hg:Gl X "range")(hm:X.mg "range"=none)(ha:PA X [a,b] ta)(hs:starEach [a,b] X.env=[(false,eval a X.env),(false,eval b X.env)]:=by rfl)(hs2:starEach [b] X.env=[(false,eval b X.env)]:=by rfl) :
  PI X tg (.Call (.Name "range" p) [a,b] [] pos) (aj1 ta):=by
 intro pins s σ H R I h;refine Call_ (qU I hg hm boot_range (PyProof.Rows.callWith_type1 (cQ (ha pos pins s σ H _ I h) fun us s1 ⟨vs,H1,I1,r1,q1⟩=>?_) (by rw[hs,hs2]) (by rw[hs2];rfl)));obtain⟨i,j,e,⟨q1,q2,q3,q4⟩,q⟩:=q1;subst e;cases r1 with
 |cons r rr =>
  cases rr with
  |cons r' rr =>
   cases rr;obtain⟨t,rfl⟩:=r;obtain⟨t',rfl⟩:=r';exact call_range_2 (UO I1 q1 q2 q3 q4 q)
noncomputable def amt (wi:TI)(g:TG)(tb:TS):TS:=fun D σ H=>wi σ H fun J H1=>∃ W:Nat->Nat->St->Hp->Prop,(∃ m,W 0 m σ H1)/\∀ i m σ H,W i m σ H ->
 (J.stop i H/\D.nx σ H)\/(J.go i H/\∃ N:St->Hp->Prop,(∀ σ' H',N σ' H'->∃ m',m'<m/\W (i+1) m' σ' H')/\∀ x H',J.WC i H x H'->g x σ H' fun σ2 H2=>tb { D with nx:=N,ct:=N,bk:=D.nx } σ2 H2)
noncomputable def Gq (fp:List Addr)(h:Heap):List (Addr×Obj):=fp.filterMap fun b=>(h.get? b).map fun o=>(b,o)
theorem mU {fp:List Addr}{h:Heap}{b:Addr}{o:Obj}(hb:b∈fp)(e:h.get? b=some o):(b,o)∈Gq fp h:=List.mem_filterMap.mpr ⟨b,hb,by rw[e];rfl⟩
theorem aak {fp:List Addr}{h:Heap}{p:Addr×Obj}(hp:p∈Gq fp h):p.1∈fp/\h.get? p.1=some p.2:=by
 obtain⟨b,hb,e⟩:=List.mem_filterMap.mp hp;cases q:h.get? b with
 |none=>rw[q]at e;cases e
 |some o =>
  rw[q]at e;have e':(b,o)=p:=W' e;subst e';exact⟨hb,q⟩
theorem Inv.pinned {pins:List (Addr×Obj)}{σ:St}{H:Hp}{s:Shared}{fp:List Addr}(I:Inv X pins σ H s)(hf:∀ b∈fp,jZ X pins H b)(ho:∀ b∈fp,∃ o,s.heap.get? b=some o/\∀ v,o.data≠.cell v):Inv X (pins++Gq fp s.heap) σ H s :=
 I.Zp fun p hp=>(mem_append.mp hp).elim (fun z=>I.pin p (mem_append_right _ z)) fun z=>by
  obtain⟨hb,e⟩:=aak z;obtain⟨f0,f1,f2,_⟩:=hf p.1 hb;obtain⟨o,e',d⟩:=ho p.1 hb;rw[e]at e';cases e';exact⟨e,f0,f1,f2,d⟩
theorem Inv.qV {pins pl:List (Addr×Obj)}{σ:St}{H:Hp}{s:Shared}(I:Inv X (pins++pl) σ H s):Inv X pins σ H s:=I.Zp fun p hp=>I.pin p (mem_append_right _ (mem_append_left _ hp))
theorem cE {iter:Expr}{body:List Stmt}{wi:TI}{g:TG}{tb:TS}{pos:Pos}(hp:PassesOwn (model X.prog X.w) X.A X.env X.xe)(hc:X.calm=true)(hi:PI X tg iter wi)(hg:PG X tg g)(hb:WB X body tb)
  (hs:∀ x,foldedSetIterable iter X.env x=pure x:=by intro _;rfl):PS X (.For tg iter body [] pos) (amt wi g tb):=by
 intro pins s σ H D I h;refine wpAny_For (cQ (hi pins s σ H _ I h) fun v s1 h1=>cQ h1 fun itv s2 h2=>?_) hs;obtain⟨it,fp,tn,J,H2,e,I2,T,st2,f2,W,⟨m0,w0⟩,turn⟩:=h2;subst e;have stat:∀{H':Hp},(∀ b∈fp,H' b=none)->∀ b∈fp,jZ X pins H' b:=fun hn b hb=>⟨hn b hb,(f2 b hb).2⟩;refine codeAny_forLoop_any (fun n s'=>∃ i σ' H',Inv X pins σ' H' s'/\tn i s'.heap/\(∀ b∈fp,H' b=none)/\W i n σ' H') ?_ m0 ⟨0,σ,H2,I2,st2,fun b hb=>(f2 b hb).1,w0⟩;rintro n s3 ⟨i,σ3,H3,I3,st3,fr3,w3⟩;rcases turn i n σ3 H3 w3 with ⟨stop,qn⟩|⟨go,N,hN,step⟩
 ·refine wpAny_passesOwn hp (cQ (T.done X rfl rfl rfl hc i pins s3 σ3 H3 X.xe I3 (stat fr3) st3 stop) fun r s4 ⟨hr,I4⟩=>?_);subst hr;exact wpAny_execs_nil ⟨σ3,H3,I4,qn⟩
 ·refine wpAny_passesOwn hp (cQ (T.item X rfl rfl rfl hc i pins s3 σ3 H3 X.xe I3 (stat fr3) st3 go) fun r s4 ⟨u,hr,h4⟩=>?_);subst hr;refine wpAny_passesOwn hp (cQ h4 fun _ s5 ⟨x,H5,I5,r5,y5,st5,fr5⟩=>?_);have I5':=I5.pinned (stat fr5) (T.obj _ _ st5);refine wpAny_passesOwn hp (cQ (hg _ s5 σ3 H5 x u _ I5' r5 (step x H5 y5)) fun _ s6 ⟨σ6,H6,I6,q6⟩=>?_);refine wpAny_passesOwn hp (cQ (hb _ s6 σ6 H6 _ I6 q6) fun f s7 q7=>?_);have again:∀{σ7:St} {H7:Hp},Inv X (pins++Gq fp s5.heap) σ7 H7 s7->N σ7 H7->∃ m,m<n/\∃ i σ' H',Inv X pins σ' H' s7/\tn i s7.heap/\(∀ b∈fp,H' b=none)/\W i m σ' H':=fun {σ7 H7} I7 n7=>by
   obtain⟨m',hm,w7⟩:=hN σ7 H7 n7;refine⟨m',hm,i+1,σ7,H7,I7.qV,T.keep _ _ _ st5 fun b hb o e=>(I7.pin (b,o) (mem_append_right _ (mem_append_right _ (mU hb e)))).1,fun b hb=>?_,w7⟩;obtain⟨o,e,d⟩:=T.obj _ _ st5 b hb;exact(I7.pin (b,o) (mem_append_right _ (mem_append_right _ (mU hb e)))).2.1
  cases f with
  |next=>obtain⟨σ7,H7,I7,n7⟩:=q7;exact again I7 n7
  |cont=>obtain⟨σ7,H7,I7,n7⟩:=q7;exact again I7 n7
  |brk=>obtain⟨σ7,H7,I7,q7⟩:=q7;exact⟨σ7,H7,I7.qV,q7⟩
  |ret v=>obtain⟨x7,σ7,H7,I7,r7,q7⟩:=q7;exact⟨x7,σ7,H7,I7.qV,r7,q7⟩
end
theorem gJ {K:Frag}{a:Addr}{xs:List V}{g:TG}{tb:TS}{D:Ends}{σ:St}{H:Hp}(Pv:Nat->St->Hp->Prop)(h0:Pv 0 σ H)(hl:∀ i σ H,i<=xs.length->Pv i σ H->aO K H a xs)
  (hs:∀ i x σ H,xs[i]? = some x->Pv i σ H->g x σ H fun σ2 H2=>tb { D with nx:=Pv (i+1),ct:=Pv (i+1),bk:=D.nx } σ2 H2) (hd:∀ σ H,Pv xs.length σ H->D.nx σ H) :
  ∃ W:Nat->Nat->St->Hp->Prop,(∃ m,W 0 m σ H)/\∀ i m σ H,W i m σ H ->
   ((Itl K a).stop i H/\D.nx σ H)\/((Itl K a).go i H/\∃ N:St->Hp->Prop,(∀ σ' H',N σ' H'->∃ m',m'<m/\W (i+1) m' σ' H')/\∀ x H',(Itl K a).WC i H x H'->g x σ H' fun σ2 H2=>tb { D with nx:=N,ct:=N,bk:=D.nx } σ2 H2):=by
 refine⟨fun i m σ H=>m=xs.length-i/\i<=xs.length/\Pv i σ H,⟨xs.length,by simp,Nat.zero_le _,h0⟩,?_⟩;rintro i m σ H ⟨rfl,hi,p⟩;have q:=hl i σ H hi p
 by_cases hlt:i<xs.length
 ·refine .inr ⟨⟨xs,xs[i],q,by simp[hlt]⟩,Pv (i+1),fun σ' H' p'=>⟨xs.length-(i+1),by omega,rfl,hlt,p'⟩,fun x H' y=>?_⟩;obtain⟨e,y⟩:=y;subst e;exact hs i x σ _ (y xs q) p
 ·have e:i=xs.length:=by omega
  subst e;exact .inl ⟨⟨xs,q,R' _⟩,hd σ H p⟩
theorem km {lo:Int}{n:Nat}{g:TG}{tb:TS}{D:Ends}{σ:St}{H:Hp}(Pv:Nat->St->Hp->Prop)(h0:Pv 0 σ H)
  (hs:∀ i σ H,i<n->Pv i σ H->g (.int (lo+i)) σ H fun σ2 H2=>tb { D with nx:=Pv (i+1),ct:=Pv (i+1),bk:=D.nx } σ2 H2) (hd:∀ σ H,Pv n σ H->D.nx σ H) :
  ∃ W:Nat->Nat->St->Hp->Prop,(∃ m,W 0 m σ H)/\∀ i m σ H,W i m σ H ->
   ((Itr lo n).stop i H/\D.nx σ H)\/((Itr lo n).go i H/\∃ N:St->Hp->Prop,(∀ σ' H',N σ' H'->∃ m',m'<m/\W (i+1) m' σ' H')/\∀ x H',(Itr lo n).WC i H x H'->g x σ H' fun σ2 H2=>tb { D with nx:=N,ct:=N,bk:=D.nx } σ2 H2):=by
 refine⟨fun i m σ H=>m=n-i/\i<=n/\Pv i σ H,⟨n,by simp,Nat.zero_le _,h0⟩,?_⟩;rintro i m σ H ⟨rfl,hi,p⟩
 by_cases hlt:i<n
 ·refine .inr ⟨hlt,Pv (i+1),fun σ' H' p'=>⟨n-(i+1),by omega,rfl,hlt,p'⟩,fun x H' y=>?_⟩;obtain⟨e,y⟩:=y;subst e y;exact hs i σ _ hlt p
 ·have e:i=n:=by omega
  subst e;exact .inl ⟨R' _,hd σ H p⟩
end L2
namespace L2
open PySem PySem.Spec PyProof.Rows
noncomputable abbrev R2:=V->V->Hp->VK->Prop
noncomputable def vE (X:Cx)(f:Value->Value->Sem Value)(r:R2):Prop :=
 ∀(pins:List (Addr×Obj)) (s:Shared) (σ:St) (H:Hp) (x y:V) (v u:Value) (Q:VK),Inv X pins σ H s->RelV x v->RelV y u->r x y H Q ->
  wpAny (model X.prog X.w) X.A (f v u) (EP X pins σ Q) X.xe s
noncomputable def UnR (X:Cx)(f:Value->Sem Value)(r:V->Hp->VK->Prop):Prop :=
 ∀(pins:List (Addr×Obj)) (s:Shared) (σ:St) (H:Hp) (x:V) (v:Value) (Q:VK),Inv X pins σ H s->RelV x v->r x H Q ->
  wpAny (model X.prog X.w) X.A (f v) (EP X pins σ Q) X.xe s
noncomputable def kU (X:Cx)(f:Value)(r:List V->Hp->VK->Prop):Prop :=
 ∀(pins:List (Addr×Obj)) (s:Shared) (σ:St) (H:Hp) (xs:List V) (us:List Value) (Q:VK),Inv X pins σ H s->Vals xs us->r xs H Q ->
  wpAny (model X.prog X.w) X.A (call f us) (EP X pins σ Q) X.xe s
noncomputable def tOp (r:R2)(ta tb:TE):TE:=fun σ H Q=>ta σ H fun x H1=>tb σ H1 fun y H2=>r x y H2 Q
noncomputable def tUn (r:V->Hp->VK->Prop)(ta:TE):TE:=fun σ H Q=>ta σ H fun x H1=>r x H1 Q
inductive rII (C:Int->Int->Prop)(g:Int->Int->V)(x:V)(y:V)(H:Hp)(Q:VK):Prop
 |mk (i:_) (j:_) (dE:x=.int i) (dF:y=.int j) (eQ:C i j/\Q (g i j) H):rII C g x y H Q
noncomputable def rI (C:Int->Int->Prop)(g:Int->Int->V):R2:=fun x y H Q=>rII C g x y H Q
inductive aj4 (g:Int->Int->V)(x:V)(y:V)(H:Hp)(Q:VK):Prop
 |mk (i:_) (j:_) (dE:x=.int i) (dF:y=.int j) (eQ:Q (g i j) H):aj4 g x y H Q
noncomputable def rI0 (g:Int->Int->V):R2:=fun x y H Q=>aj4 g x y H Q
noncomputable def rU (g:Int->V):V->Hp->VK->Prop:=fun x H Q=>∃ i,x=.int i/\Q (g i) H
section
variable {X:Cx} {a b c:Expr} {ta tb tc:TE} {pos:Pos}
theorem ah2 (ha:PE X a ta)(hb:PE X b tb){pins:List (Addr×Obj)}{s:Shared}{σ:St}{H:Hp}{R:V->V->Hp->Prop}(I:Inv X pins σ H s)
  (h:ta σ H fun x H1=>tb σ H1 fun y H2=>R x y H2) {Q:Value->Shared->Prop} {f:Value->Value->Sem Value}
  (hf:∀ v u s2 x y H2,Inv X pins σ H2 s2->RelV x v->RelV y u->R x y H2->wpAny (model X.prog X.w) X.A (f v u) Q X.xe s2) :
  wpAny (model X.prog X.w) X.A (eval a X.env) (fun v s₁=>wpAny (model X.prog X.w) X.A (eval b X.env) (fun u s₂=>wpAny (model X.prog X.w) X.A (f v u) Q X.xe s₂) X.xe s₁) X.xe s:=by
 refine cQ (ha pins s σ H _ I h) fun v s1 ⟨x,H1,I1,r1,q1⟩=>?_;refine cQ (hb pins s1 σ H1 _ I1 q1) fun u s2 ⟨y,H2,I2,r2,q2⟩=>?_;exact hf v u s2 x y H2 I2 r1 r2 q2
theorem aJ {op:Operator}{r:R2}(ho:vE X (binaryOp op) r)(ha:PE X a ta)(hb:PE X b tb):PE X (.BinOp a op b pos) (tOp r ta tb):=by
 intro pins s σ H Q I h;exact wpAny_BinOp (ah2 ha hb I h fun v u s2 x y H2 I2 rx ry q=>ho pins s2 σ H2 x y v u Q I2 rx ry q)
theorem Jo {op:UnaryOp}{r:V->Hp->VK->Prop}(ho:UnR X (unaryOp op) r)(ha:PE X a ta):PE X (.UnaryOp op a pos) (tUn r ta):=by
 intro pins s σ H Q I h;exact UnaryOp_ (cQ (ha pins s σ H _ I h) fun v s1 ⟨x,H1,I1,r1,q1⟩=>ho pins s1 σ H1 x v Q I1 r1 q1)
theorem opI {f:Value->Value->Sem Value}{C:Int->Int->Prop}{g:Int->Int->Int}
  (rule:∀(i j:Int)(t u:Tok)(s:Shared)(Q:Value->Shared->Prop)(E:Value->Shared->Prop),C i j->Q (.int (g i j) s.toks) { s with toks:=s.toks+1 }->wpAny (model X.prog X.w) X.A (f (.int i t) (.int j u)) Q E s) :
  vE X f (rI C fun i j=>.int (g i j)):=by
 intro pins s σ H x y v u Q I rx ry h;obtain⟨i,j,rfl,rfl,hc,q⟩:=h;obtain⟨t,rfl⟩:=rx;obtain⟨t',rfl⟩:=ry;exact rule i j t t' s _ _ hc ⟨.int (g i j),H,I.tok _,⟨_,rfl⟩,q⟩
theorem aj5 {f:Value->Value->Sem Value}{g:Int->Int->Int}
  (rule:∀(i j:Int)(t u:Tok)(s:Shared)(Q:Value->Shared->Prop)(E:Value->Shared->Prop),Q (.int (g i j) s.toks) { s with toks:=s.toks+1 }->wpAny (model X.prog X.w) X.A (f (.int i t) (.int j u)) Q E s) :
  vE X f (rI0 fun i j=>.int (g i j)):=by
 intro pins s σ H x y v u Q I rx ry h;obtain⟨i,j,rfl,rfl,q⟩:=h;obtain⟨t,rfl⟩:=rx;obtain⟨t',rfl⟩:=ry;exact rule i j t t' s _ _ ⟨.int (g i j),H,I.tok _,⟨_,rfl⟩,q⟩
theorem afG {f:Value->Value->Sem Value}{g:Int->Int->Bool}
  (rule:∀(i j:Int)(t u:Tok)(s:Shared)(Q:Value->Shared->Prop)(E:Value->Shared->Prop),Q (.bool (g i j)) s->wpAny (model X.prog X.w) X.A (f (.int i t) (.int j u)) Q E s) :
  vE X f (rI0 fun i j=>.bl (g i j)):=by
 intro pins s σ H x y v u Q I rx ry h;obtain⟨i,j,rfl,rfl,q⟩:=h;obtain⟨t,rfl⟩:=rx;obtain⟨t',rfl⟩:=ry;exact rule i j t t' s _ _ ⟨.bl (g i j),H,I,rfl,q⟩
noncomputable def amv (i j:Int):Prop:=0<j/\j<1073741824
noncomputable def amw (i j:Int):Prop:=0<=j/\j<=1000000/\i.natAbs<2 ^ 64
noncomputable def ah3 (i j:Int):Prop:=(-(2 ^ 64)<i/\i<2 ^ 64)\/(-(2 ^ 64)<j/\j<2 ^ 64)
theorem ah3.ok {i j:Int}(h:ah3 i j):IntMulOk i j:=by
 rcases h with ⟨h1,h2⟩|⟨h1,h2⟩
 ·exact .of_left (intBits_le_64 h1 h2)
 ·exact .of_right (intBits_le_64 h1 h2)
theorem a8:vE X (binaryOp .Add) (rI0 fun i j=>.int (i+j)):=aj5 fun _ _ _ _ _ _ _ q=>add_int q
theorem gT:vE X (binaryOp .Sub) (rI0 fun i j=>.int (i-j)):=aj5 fun _ _ _ _ _ _ _ q=>sub_int q
theorem pC:vE X (binaryOp .Mult) (rI ah3 fun i j=>.int (i * j)):=opI fun _ _ _ _ _ _ _ hc q=>mul_int q hc.ok
theorem oy:vE X (binaryOp .FloorDiv) (rI amv fun i j=>.int (i / j)):=opI fun i j _ _ _ _ _ hc q=>by
 have h1:(0:Int)<j:=hc.1;have h2:j<1073741824:=hc.2;exact floordiv_int (by omega) (by rw[Int.fdiv_eq_ediv_of_nonneg i (by omega)];exact q) (.inl (PyProof.noPylong_small (by omega)))
theorem cG:vE X (binaryOp .Mod) (rI (fun _ j=>0<j) fun i j=>.int (i % j)):=opI fun i j _ _ _ _ _ hc q=>by
 have h1:(0:Int)<j:=hc;exact mod_int' (by omega) (by rw[Int.fmod_eq_emod_of_nonneg i (by omega)];exact q)
theorem ac4:vE X (binaryOp .Pow) (rI amw fun i j=>.int (i ^ j.toNat)):=opI fun _ _ _ _ _ _ _ hc q=>pow_int_small hc.1 hc.2.1 hc.2.2 q
theorem unI {f:Value->Sem Value}{g:Int->Int}
  (rule:∀(i:Int)(t:Tok)(s:Shared)(Q:Value->Shared->Prop)(E:Value->Shared->Prop),Q (.int (g i) s.toks) { s with toks:=s.toks+1 }->wpAny (model X.prog X.w) X.A (f (.int i t)) Q E s) :
  UnR X f (rU fun i=>.int (g i)):=by
 intro pins s σ H x v Q I rx h;obtain⟨i,rfl,q⟩:=h;obtain⟨t,rfl⟩:=rx;exact rule i t s _ _ ⟨.int (g i),H,I.tok _,⟨_,rfl⟩,q⟩
theorem yf:UnR X (unaryOp .USub) (rU fun i=>.int (-i)):=unI fun _ _ _ _ _ q=>neg_int q
end
noncomputable def aj6:V->V->Bool
 |.non,.non=>true|.non,.int _=>true|.int _,.non=>true|.non,.bl _=>true|.bl _,.non=>true|.non,.str _=>true|.str _,.non=>true
 |.int _,.int _=>true|.bl _,.bl _=>true|.str _,.str _=>true|.byt _,.byt _=>true
 |.int _,.str _=>true|.str _,.int _=>true|.bl _,.str _=>true|.str _,.bl _=>true
 |_,_=>false
noncomputable def rEq:R2:=fun x y H Q=>aj6 x y=true/\Q (.bl (decide (x=y))) H
noncomputable def rNe:R2:=fun x y H Q=>aj6 x y=true/\Q (.bl (!decide (x=y))) H
theorem Zr {i j:Int}:decide (V.int i=V.int j)=(i==j):=by
 rw[Bool.eq_iff_iff];simp
theorem ac5 {i j:Bool}:decide (V.bl i=V.bl j)=(i==j):=by
 rw[Bool.eq_iff_iff];simp
theorem Zs {i j:Str}:decide (V.str i=V.str j)=(i==j):=by
 rw[Bool.eq_iff_iff];simp
theorem Zt {i j:Array UInt8}:decide (V.byt i=V.byt j)=(i.toList==j.toList):=by
 rw[Bool.eq_iff_iff];cases i;cases j;simp
section
variable {X:Cx} {a b c:Expr} {ta tb tc:TE} {pos:Pos}
theorem bU {pins:List (Addr×Obj)}{σ:St}{H:Hp}{s:Shared}{Q:VK}{k k':Bool}(I:Inv X pins σ H s)(q:Q (.bl k) H)(e:k=k'):EP X pins σ Q (.bool k') s:=by
 subst e;exact⟨.bl k,H,I,rfl,q⟩
theorem bQ:vE X (compareOp .Eq) rEq:=by
 intro pins s σ H x y v u Q I rx ry h;obtain⟨hs,q⟩:=h;cases x with
 |non =>
  cases rx;cases y with
  |non=>cases ry;exact PySem.EqNone.eq_none_none (bU I q (by simp))
  |bl j=>cases ry;exact PySem.EqNone.eq_none_bool (bU I q (by simp))
  |int j=>obtain⟨t',rfl⟩:=ry;exact PySem.EqNone.eq_none_int (bU I q (by simp))
  |str j=>obtain⟨t',rfl⟩:=ry;exact PySem.EqNone.eq_none_str (bU I q (by simp))
  |_=>exact V' (show false=true from hs) Z'
 |bl i =>
  cases rx;cases y with
  |non=>cases ry;exact PySem.EqNone.eq_bool_none (bU I q (by simp))
  |bl j=>cases ry;exact eq_bool (bU I q ac5)
  |str j=>obtain⟨t',rfl⟩:=ry;exact PySem.EqMixed.eq_bool_str (bU I q (by simp))
  |_=>exact V' (show false=true from hs) Z'
 |int i =>
  obtain⟨t,rfl⟩:=rx;cases y with
  |non=>cases ry;exact PySem.EqNone.eq_int_none (bU I q (by simp))
  |int j=>obtain⟨t',rfl⟩:=ry;exact eq_int (bU I q Zr)
  |str j=>obtain⟨t',rfl⟩:=ry;exact PySem.EqMixed.eq_int_str (bU I q (by simp))
  |_=>exact V' (show false=true from hs) Z'
 |str i =>
  obtain⟨t,rfl⟩:=rx;cases y with
  |non=>cases ry;exact PySem.EqNone.eq_str_none (bU I q (by simp))
  |bl j=>cases ry;exact PySem.EqMixed.eq_str_bool (bU I q (by simp))
  |int j=>obtain⟨t',rfl⟩:=ry;exact PySem.EqMixed.eq_str_int (bU I q (by simp))
  |str j=>obtain⟨t',rfl⟩:=ry;exact eq_str (bU I q Zs)
  |_=>exact V' (show false=true from hs) Z'
 |byt i =>
  obtain⟨t,rfl⟩:=rx;cases y with
  |byt j=>obtain⟨t',rfl⟩:=ry;exact PySem.W.eq_bytes (bU I q Zt)
  |_=>exact V' (show false=true from hs) Z'
 |_=>cases y <;> exact V' (show false=true from hs) Z'
theorem xK:vE X (compareOp .NotEq) rNe:=by
 intro pins s σ H x y v u Q I rx ry h;obtain⟨hs,q⟩:=h;cases x with
 |non =>
  cases rx;cases y with
  |non=>cases ry;exact PySem.EqNone.ne_none_none (bU I q (by simp))
  |bl j=>cases ry;exact PySem.EqNone.ne_none_bool (bU I q (by simp))
  |int j=>obtain⟨t',rfl⟩:=ry;exact PySem.EqNone.ne_none_int (bU I q (by simp))
  |str j=>obtain⟨t',rfl⟩:=ry;exact PySem.EqNone.ne_none_str (bU I q (by simp))
  |_=>exact V' (show false=true from hs) Z'
 |bl i =>
  cases rx;cases y with
  |non=>cases ry;exact PySem.EqNone.ne_bool_none (bU I q (by simp))
  |bl j=>cases ry;exact ne_bool (bU I q (congrArg not ac5))
  |str j=>obtain⟨t',rfl⟩:=ry;exact PySem.EqMixed.ne_bool_str (bU I q (by simp))
  |_=>exact V' (show false=true from hs) Z'
 |int i =>
  obtain⟨t,rfl⟩:=rx;cases y with
  |non=>cases ry;exact PySem.EqNone.ne_int_none (bU I q (by simp))
  |int j=>obtain⟨t',rfl⟩:=ry;exact ne_int (bU I q (congrArg not Zr))
  |str j=>obtain⟨t',rfl⟩:=ry;exact PySem.EqMixed.ne_int_str (bU I q (by simp))
  |_=>exact V' (show false=true from hs) Z'
 |str i =>
  obtain⟨t,rfl⟩:=rx;cases y with
  |non=>cases ry;exact PySem.EqNone.ne_str_none (bU I q (by simp))
  |bl j=>cases ry;exact PySem.EqMixed.ne_str_bool (bU I q (by simp))
  |int j=>obtain⟨t',rfl⟩:=ry;exact PySem.EqMixed.ne_str_int (bU I q (by simp))
  |str j=>obtain⟨t',rfl⟩:=ry;exact ne_str (bU I q (congrArg not Zs))
  |_=>exact V' (show false=true from hs) Z'
 |byt i =>
  obtain⟨t,rfl⟩:=rx;cases y with
  |byt j=>obtain⟨t',rfl⟩:=ry;exact PySem.W.ne_bytes (bU I q (congrArg not Zt))
  |_=>exact V' (show false=true from hs) Z'
 |_=>cases y <;> exact V' (show false=true from hs) Z'
theorem mR:vE X (compareOp .Lt) (rI0 fun i j=>.bl (decide (i<j))):=afG fun _ _ _ _ _ _ _ q=>lt_int q
theorem xM:vE X (compareOp .LtE) (rI0 fun i j=>.bl (decide (i<=j))):=afG fun _ _ _ _ _ _ _ q=>le_int q
theorem UP:vE X (compareOp .Gt) (rI0 fun i j=>.bl (decide (j<i))):=afG fun _ _ _ _ _ _ _ q=>gt_int q
theorem ag7:vE X (compareOp .GtE) (rI0 fun i j=>.bl (decide (j<=i))):=afG fun _ _ _ _ _ _ _ q=>ge_int q
theorem c0:vE X (compareOp .In) (fun x y H Q=>∃ i j,x=.str i/\y=.str j/\Q (.bl (!(Builtin.Str.occurrences j i 0 j.length 1).isEmpty)) H):=by
 intro pins s σ H x y v u Q I rx ry h;obtain⟨i,j,rfl,rfl,q⟩:=h;obtain⟨t,rfl⟩:=rx;obtain⟨t',rfl⟩:=ry;exact in_str (bU I q rfl)
theorem Qp:vE X (compareOp .Is) (fun x y H Q=>y=.non/\Q (.bl (decide (x=.non))) H):=by
 intro pins s σ H x y v u Q I rx ry h;obtain⟨rfl,q⟩:=h;cases ry;refine is_none_gen (bU I q ?_);cases x <;> first
  |(cases rx;rfl)
  |(obtain⟨t,rfl⟩:=rx;rfl)
theorem Zu:vE X (compareOp .IsNot) (fun x y H Q=>y=.non/\Q (.bl (!decide (x=.non))) H):=by
 intro pins s σ H x y v u Q I rx ry h;obtain⟨rfl,q⟩:=h;cases ry;refine isnot_none_gen (bU I q ?_);cases x <;> first
  |(cases rx;rfl)
  |(obtain⟨t,rfl⟩:=rx;rfl)
theorem vE.or {f:Value->Value->Sem Value}{r r':R2}(h:vE X f r)(h':vE X f r'):vE X f (fun x y H Q=>r x y H Q\/r' x y H Q):=by
 intro pins s σ H x y v u Q I rx ry q;rcases q with q|q
 ·exact h pins s σ H x y v u Q I rx ry q
 ·exact h' pins s σ H x y v u Q I rx ry q
theorem aG (b:Expr){op:CmpOp}(h:op≠.In:=by decide)(h2:op≠.NotIn:=by decide):behindInMarks op b=false:=by
 have e1:(op==CmpOp.In)=false:=by cases op <;> first|rfl|exact V' rfl h
 have e2:(op==CmpOp.NotIn)=false:=by cases op <;> first|rfl|exact V' rfl h2
 cases b <;> simp[behindInMarks,e1,e2]
theorem cC {op:CmpOp}{r:R2}(ho:vE X (compareOp op) r)(ha:PE X a ta)(hb:PE X b tb)(hm:behindInMarks op b=false):PE X (.Compare a [op] [b] pos) (tOp r ta tb):=by
 intro pins s σ H Q I h;exact wpAny_Compare1 (ah2 ha hb I h fun v u s2 x y H2 I2 rx ry q=>ho pins s2 σ H2 x y v u Q I2 rx ry q) hm
inductive ac6 (Q:(Bool->Hp->Prop))(x:V)(H':Hp):Prop
 |mk (k:_) (dE:x=.bl k) (dF:Q k H'):ac6 Q x H'
noncomputable def ag8 (t:TE):TT:=fun σ H Q=>t σ H fun x H'=>ac6 Q x H'
theorem aw {op:CmpOp}{r:R2}(ho:vE X (compareOp op) r)(ha:PE X a ta)(hb:PE X b tb)(hm:behindInMarks op b=false):PT X (.Compare a [op] [b] pos) (ag8 (tOp r ta tb)):=by
 intro pins s σ H Q I h;refine wpAny_isTrue_Compare1 (cQ (ha pins s σ H _ I h) fun v s1 ⟨x,H1,I1,r1,q1⟩=>cQ (hb pins s1 σ H1 _ I1 q1) fun u s2 ⟨y,H2,I2,r2,q2⟩ =>
  cQ (ho pins s2 σ H2 x y v u _ I2 r1 r2 q2) fun c s3 ⟨z,H3,I3,r3,k,e,q3⟩=>?_) hm
 subst e;cases r3;exact wpAny_truthy_bool ⟨H3,I3,q3⟩
noncomputable def ac7 (r r':R2)(ta tb tc:TE):TE:=fun σ H Q=>ta σ H fun x H1=>tb σ H1 fun y H2=>r x y H2 fun z H3=>∃ k,z=.bl k /\
 (if k=true then tc σ H3 fun w' H4=>r' y w' H4 Q else Q (.bl false) H3)
theorem UQ {op op':CmpOp}{r r':R2}(ho:vE X (compareOp op) r)(ho':vE X (compareOp op') r')(ha:PE X a ta)(hb:PE X b tb)(hc:PE X c tc)
  (hm:lastMarks [op,op'] [b,c]=false:=by with_unfolding_all rfl):PE X (.Compare a [op,op'] [b,c] pos) (ac7 r r' ta tb tc):=by
 intro pins s σ H Q I h;refine Compare_chain (cQ (ha pins s σ H _ I h) fun v s1 ⟨x,H1,I1,r1,q1⟩=>chain_link (cQ (hb pins s1 σ H1 _ I1 q1) fun u s2 ⟨y,H2,I2,r2,q2⟩ =>
  cQ (ho pins s2 σ H2 x y v u _ I2 r1 r2 q2) fun d s3 ⟨z,H3,I3,r3,k,e,q3⟩=>?_)) hm
 subst e;cases r3;refine wpAny_truthy_bool ?_;cases k with
 |false=>exact ite_ff ⟨.bl false,H3,I3,rfl,q3⟩
 |true=>exact ite_tt (chain_last (cQ (hc pins s3 σ H3 _ I3 q3) fun w' s4 ⟨z',H4,I4,r4,q4⟩=>ho' pins s4 σ H4 y z' u w' Q I4 r2 r4 q4))
theorem DV {op op':CmpOp}{r r':R2}(ho:vE X (compareOp op) r)(ho':vE X (compareOp op') r')(ha:PE X a ta)(hb:PE X b tb)(hc:PE X c tc)
  (hm:lastMarks [op,op'] [b,c]=false:=by with_unfolding_all rfl):PT X (.Compare a [op,op'] [b,c] pos) (ag8 (ac7 r r' ta tb tc)):=by
 intro pins s σ H Q I h;refine isTrue_chain (cQ (ha pins s σ H _ I h) fun v s1 ⟨x,H1,I1,r1,q1⟩=>test_link (cQ (hb pins s1 σ H1 _ I1 q1) fun u s2 ⟨y,H2,I2,r2,q2⟩ =>
  cQ (ho pins s2 σ H2 x y v u _ I2 r1 r2 q2) fun d s3 ⟨z,H3,I3,r3,k,e,q3⟩=>?_)) hm
 subst e;cases r3;refine wpAny_truthy_bool ?_;cases k with
 |false =>
  obtain⟨k',e',q'⟩:=q3;cases e';exact ite_ff ⟨H3,I3,q'⟩
 |true =>
  refine ite_tt (test_last (cQ (hc pins s3 σ H3 _ I3 q3) fun w' s4 ⟨z',H4,I4,r4,q4⟩=>cQ (ho' pins s4 σ H4 y z' u w' _ I4 r2 r4 q4) fun d' s5 ⟨z2,H5,I5,r5,k2,e2,q5⟩=>?_));subst e2;cases r5;exact wpAny_truthy_bool ⟨H5,I5,q5⟩
theorem Gs:(sizeLine:Nat)<2 ^ 63:=by rw[sizeLine_eq];decide
theorem aE:vE X (binaryOp .Add) (fun x y H Q=>∃ i j,x=.str i/\y=.str j/\i.length+j.length<=sizeLine/\Q (.str (i++j)) H):=by
 intro pins s σ H x y v u Q I rx ry h;obtain⟨i,j,rfl,rfl,hz,q⟩:=h;obtain⟨t,rfl⟩:=rx;obtain⟨t',rfl⟩:=ry;exact add_str (fun t' tk=>⟨.str (i++j),H,I.tok _,⟨_,rfl⟩,q⟩) hz
theorem vals1 {x:V}{us:List Value}(r:Vals [x] us):∃ u,us=[u]/\RelV x u:=by
 cases r with
 |cons r1 r2=>cases r2;exact⟨_,rfl,r1⟩
theorem vals2 {x y:V}{us:List Value}(r:Vals [x,y] us):∃ u w',us=[u,w']/\RelV x u/\RelV y w':=by
 cases r with
 |cons r1 r2 =>
  cases r2 with
  |cons r3 r4=>cases r4;exact⟨_,_,rfl,r1,r3⟩
theorem ac8:kU X (.builtin "abs") (fun xs H Q=>∃ i,xs=[.int i]/\Q (.int (if i<0 then -i else i)) H):=by
 intro pins s σ H xs us Q I r h;obtain⟨i,rfl,q⟩:=h;obtain⟨u,rfl,t,rfl⟩:=vals1 r;exact call_abs_int fun u tk=>⟨.int (if i<0 then -i else i),H,I.tok _,⟨_,rfl⟩,q⟩
theorem AV (hc:X.calm=true):kU X (.builtin "max") (fun xs H Q=>∃ i j,xs=[.int i,.int j]/\Q (.int (if j > i then j else i)) H):=by
 intro pins s σ H xs us Q I r h;obtain⟨i,j,rfl,q⟩:=h;obtain⟨u,w',rfl,⟨t,rfl⟩,⟨t',rfl⟩⟩:=vals2 r;refine max_two_ints (I.ok.hd hc) fun h' tk k=>⟨_,H,I.kept k,?_,q⟩
 by_cases hj:j > i
 ·rw[if_pos hj,if_pos hj];exact⟨_,rfl⟩
 ·rw[if_neg hj,if_neg hj];exact⟨_,rfl⟩
theorem AW (hc:X.calm=true):kU X (.builtin "min") (fun xs H Q=>∃ i j,xs=[.int i,.int j]/\Q (.int (if j<i then j else i)) H):=by
 intro pins s σ H xs us Q I r h;obtain⟨i,j,rfl,q⟩:=h;obtain⟨u,w',rfl,⟨t,rfl⟩,⟨t',rfl⟩⟩:=vals2 r;refine min_two_ints (I.ok.hd hc) fun h' tk k=>⟨_,H,I.kept k,?_,q⟩
 by_cases hj:j<i
 ·rw[if_pos hj,if_pos hj];exact⟨_,rfl⟩
 ·rw[if_neg hj,if_neg hj];exact⟨_,rfl⟩
theorem qH:kU X (.type "int") (fun xs H Q=>(∃ i,xs=[.int i]/\Q (.int i) H)\/∃ k,xs=[.bl k]/\Q (.int (if k then 1 else 0)) H):=by
 intro pins s σ H xs us Q I r h;rcases h with ⟨i,rfl,q⟩|⟨k,rfl,q⟩
 ·obtain⟨u,rfl,t,rfl⟩:=vals1 r;exact call_int_int ⟨.int i,H,I,⟨_,rfl⟩,q⟩
 ·obtain⟨u,rfl,r1⟩:=vals1 r;cases r1;exact call_int_bool ⟨.int (if k then 1 else 0),H,I.tok _,⟨_,rfl⟩,q⟩
end
end L2
namespace L2
open PySem PySem.Spec PyProof.Rows
structure WJ (h:Heap)(x dx C:Addr)(mA:Str->Option Value):Prop where
 obj:h.get? x=some (instObj C dx)
 ns:h.Ns1 dx mA
 ne:dx≠x
theorem aal {h:Heap}{dx:Addr}{mA:Str->Option Value}(n:h.Ns1 dx mA):∃ od,h.get? dx=some od/\∀ name,lookIn name od=some (mA name):=by
 obtain⟨o,es,ep,ho,hd,hk,_,hm⟩:=n;refine⟨o,ho,fun name=>?_⟩;have e:=hm name;unfold nsFind findBy at e;rw[<-Array.find?_toList]at e;unfold lookIn;rw[hd];dsimp only;split
 ·rename_i y q
  rw[q]at e;exact congrArg some e
 ·rename_i q
  rw[q]at e;have a:es.toList.any (·.refKey)=false:=by
   rw[List.any_eq_false];intro y hy;obtain⟨z,t,hkey⟩:=hk y (Array.mem_toList_iff.mp hy);simp[DictEntry.refKey,hkey]
  have a':¬ es.toList.any (·.refKey)=true:=by rw[a];exact Z'
  rw[if_neg a'];exact congrArg some e
theorem WJ.look {h:Heap}{x dx C:Addr}{mA:Str->Option Value}(I:WJ h x dx C mA):∃ od,PySem.W.InstAt h x (instObj C dx) C (some od)/\∀ name,lookIn name od=some (mA name) :=
 let ⟨od,ho,hl⟩:=aal I.ns
 ⟨od,⟨I.obj,rfl,rfl,ho⟩,hl⟩
section
variable {prog:Program} {w:World} {A:Around} {E:Value->Shared->Prop} {s:Shared} {K:Frag} {x dx C f:Addr} {mA:Str->Option Value} {name:Str} {v:Value}
theorem get_map {expr:Bool}{Q:Value->Shared->Prop}(X:K.In s.heap)(I:WJ s.heap x dx C mA)(hg:plainGet K C name=true)(hh:hasDictIn K C=true)
  (ha:findIn K (.ref C) name=some none) (hv:mA name=some v) (hv':handedIn v=true) (h:Q v { s with toks:=s.toks+1 }) :
  wpAny (model prog w) A (getAttr (.ref x) name expr) Q E s:=by
 obtain⟨od,J,hl⟩:=I.look;exact PySem.W.get_value X J (plainGet_of hg).1 (PySem.W.findObj_own hh ha rfl (by rw[hl,hv])) hv' h
theorem ac9 {pl:Sem Bool}{Q:Value×List Value->Shared->Prop}(X:K.In s.heap)(I:WJ s.heap x dx C mA)(hg:plainGet K C name=true)
  (hf:findIn K (.ref C) name=some (some (.ref f))) (ht:isFn K (.ref f)=true) (hv:mA name=none) (h:Q (.ref f,[.ref x]) s) :
  wpAny (model prog w) A (getMethod (.ref x) name pl) Q E s:=by
 obtain⟨od,J,hl⟩:=I.look;exact PySem.W.method_fn X J (plainGet_of hg).1 (plainGet_of hg).2 hf (beq_iff_eq.mp ht) (by show(lookIn name od).map (·.isSome)=some false;rw[hl,hv];rfl) h
theorem oB {ns:List Str}{Q:Unit->Shared->Prop}(X:K.In s.heap)(I:WJ s.heap x dx C mA)
  (hs:findIn K (.ref C) "__setattr__"=some (some (.builtin "object.__setattr__"))) (hp:plainOver K C=true) (ht:takerIn K C name=some none) (hh:hasDictIn K C=true)
  (hw:PySem.Within mA ns) (hsz:ns.length<=sizeLine)
  (h:∀ h',WJ h' x dx C (fun y=>if y=name then some v else mA y)->Heap.SameBut dx s.heap h'->Q () { s with heap:=h',toks:=s.toks+2 }) :
  wpAny (model prog w) A (setAttr (.ref x) name v) Q E s:=by
 obtain⟨od,J,hl⟩:=I.look;refine PySem.W.set_plain X J hs (PySem.W.osa_open (s:={ s with toks:=s.toks+1 }) (r:=none) X J hp ht fun b=>?_);obtain⟨cd,hc,hd'⟩:=PySem.W.any_some hh;have hx:s.heap.get? x=some ⟨.ref C,some dx,.plain,#[]⟩:=I.obj;refine A' (P' (A' (A' (wpAny_loadPart hx (A' (PySem.W.Looks.here (s:={ s with toks:=s.toks+1 }) (PySem.W.looks_clsIn X hc) ?_))))));rw[hd'];refine P' (a:=some dx) (A' (P' (A' ?_)));refine wpAny_nsSet1 (s:={ s with toks:=s.toks+1 }) I.ns fun h' hn2 hs2=>?_;obtain⟨oD,esD,epD,hoD,hdD,hcD⟩:=hn2.count (PySem.Within.cons name v hw);refine A' (wpAny_lookBehind hoD (by rw[hdD];exact pastItsLine_dict (Nat.le_trans hcD (by rw[length_cons];omega))) ?_);exact P' (h _ ⟨(hs2.2 _ (Ne.symm I.ne)).trans I.obj,hn2,I.ne⟩ hs2)
theorem ada {R:Result->Shared->Prop}{vs:List Value}{kw:List (Str×Value)}(X:K.In s.heap)(hm:makesIn K C=true)
  (hi:findIn K (.ref C) "__init__"=some (some (.ref f))) (hf:PySem.W.typeIn K (.ref f)=some (.type "function"))
  (h:codeAny (model prog w) (A.under (.builtin "type.__call__" ⟨.ref C::vs,kw⟩)) (.call (.ref f) ⟨.ref (s.heap.objs.size+1)::vs,kw⟩) (PySem.W.InitBack (s.heap.objs.size+1) R)
   { s with heap:=(s.heap.push emptyDict).push (instObj C s.heap.objs.size) }) :
  codeAny (model prog w) A (.call (.ref C) ⟨vs,kw⟩) R s:=by
 obtain⟨hh,g,d,t,os⟩:=s;exact PySem.W.make_core (PySem.W.makes_of X hm) (PySem.W.looks_findIn X hi) (fun self=>PySem.W.bind_fn X self hf) (.inl rfl) h
end
noncomputable def mO (f:Str)(v:V):List (Str×V)->List (Str×V)
 |[]=>[(f,v)]
 |(g,x)::r=>if g=f then(g,v)::r else(g,x)::mO f v r
theorem Jp (f g:Str)(v:V):∀ fs:List (Str×V),(mO f v fs).lookup g=if g=f then some v else fs.lookup g
 |[]=>by
  show List.lookup g [(f,v)]=_
  by_cases h:g=f
  ·have hb:(g==f)=true:=beq_iff_eq.mpr h;simp only [List.lookup,hb,if_pos h]
  ·have hb:(g==f)=false:=beq_eq_false_iff_ne.mpr h;simp only [List.lookup,hb,if_neg h]
 |(k,x)::r=>by
  have ih:=Jp f g v r;rw[show mO f v ((k,x)::r)=(if k=f then(k,v)::r else(k,x)::mO f v r) from rfl]
  by_cases hk:k=f
  ·rw[if_pos hk]
   by_cases h:g=k
   ·have hb:(g==k)=true:=beq_iff_eq.mpr h;simp only [List.lookup,hb,if_pos (h.trans hk)]
   ·have hb:(g==k)=false:=beq_eq_false_iff_ne.mpr h;simp only [List.lookup,hb,if_neg (fun e:g=f=>h (e.trans hk.symm))]
  ·rw[if_neg hk]
   by_cases h:g=k
   ·have hb:(g==k)=true:=beq_iff_eq.mpr h;simp only [List.lookup,hb,if_neg (fun e:g=f=>hk (h.symm.trans e))]
   ·have hb:(g==k)=false:=beq_eq_false_iff_ne.mpr h;simp only [List.lookup,hb];exact ih
theorem Gu (f:Str)(v:V):∀ fs:List (Str×V),f∈(mO f v fs).map (·.1)/\∀ g,g∈fs.map (·.1)->g∈(mO f v fs).map (·.1)
 |[]=>⟨by simp[mO],fun g h=>by simp at h⟩
 |(k,x)::r=>by
  obtain⟨i1,i2⟩:=Gu f v r;rw[show mO f v ((k,x)::r)=(if k=f then(k,v)::r else(k,x)::mO f v r) from rfl]
  by_cases hk:k=f
  ·rw[if_pos hk];subst hk;exact⟨by simp,fun g h=>by simpa using h⟩
  ·rw[if_neg hk];refine⟨?_,fun g h=>?_⟩
   ·rw[map_cons];exact mem_cons_of_mem _ i1
   ·rw[map_cons]at h ⊢;rcases List.mem_cons.mp h with e|e
    ·exact List.mem_cons.mpr (.inl e)
    ·exact mem_cons_of_mem _ (i2 g e)
theorem Jq (f:Str)(v:V):∀ fs:List (Str×V),(mO f v fs).length<=fs.length+1
 |[]=>by simp[mO]
 |(k,x)::r=>by
  have ih:=Jq f v r;rw[show mO f v ((k,x)::r)=(if k=f then(k,v)::r else(k,x)::mO f v r) from rfl]
  by_cases hk:k=f
  ·rw[if_pos hk,length_cons,length_cons];omega
  ·rw[if_neg hk,length_cons,length_cons];omega
theorem uI.some_of {v:V}{o:Option Value}(r:uI (some v) o):∃ u,o=some u/\RelV v u:=by
 cases o with
 |none=>exact(show False from r).elim
 |some u=>exact⟨u,rfl,r⟩
theorem uI.none_of {o:Option Value}(r:uI none o):o=none:=by
 cases o with
 |none=>rfl
 |some u=>exact(show False from r).elim
theorem aam {v:V}{u:Value}(r:RelV v u):handedIn u=true:=by
 cases v with
 |non=>cases (show u=Value.none from r);rfl
 |bl b=>cases (show u=Value.bool b from r);rfl
 |int i=>obtain⟨t,e⟩:=(show ∃ t,u=Value.int i t from r);cases e;rfl
 |str x=>obtain⟨t,e⟩:=(show ∃ t,u=Value.str x t from r);cases e;rfl
 |byt b=>obtain⟨t,e⟩:=(show ∃ t,u=Value.bytes b t from r);cases e;rfl
 |flt b=>obtain⟨t,e⟩:=(show ∃ t,u=Value.float b t from r);cases e;rfl
 |ref a=>cases (show u=Value.ref a from r);rfl
 |ty n=>cases (show u=Value.type n from r);rfl
section
variable {P:Program} {w:World} {H H':Hp} {h h':Heap} {a C dx:Addr} {fs fs':List (Str×V)}
theorem Ku (hok:Bl P w H h)(e:H a=some (.ins C dx fs)):∃ mA,WJ h a dx C mA/\(∀ f,uI (fs.lookup f) (mA f))/\PySem.Within mA (fs.map (·.1))/\fs.length<=1000/\H dx=some (.own a):=by
 obtain⟨d,z,ne,ob,mA,n,r,q⟩:=(show fA P w H h a (.ins C dx fs) from hok a _ e);exact⟨mA,⟨ob,n,ne⟩,r,q,z,d⟩
end
structure Cls (K:Frag)(C:Addr):Prop where
 pg:plainGet K C Str.empty=true
 hd:hasDictIn K C=true
 po:plainOver K C=true
 sa:findIn K (.ref C) "__setattr__"=some (some (.builtin "object.__setattr__"))
theorem Cls.get {K:Frag}{C:Addr}(c:Cls K C)(f:Str):plainGet K C f=true:=c.pg
noncomputable def jw (K:Frag)(C:Addr)(f:Str):Prop:=findIn K (.ref C) f=some none
theorem jw.taker {K:Frag}{C:Addr}{f:Str}(n:jw K C f):takerIn K C f=some none:=by
 unfold takerIn;rw[show findIn K (.ref C) f=some none from n];rfl
structure Meth (K:Frag)(C:Addr)(m:Str)(f:Addr):Prop where
 at_:findIn K (.ref C) m=some (some (.ref f))
 fn:isFn K (.ref f)=true
 kp:keepIn K (.ref f)=true
section
variable {X:Cx} {pins:List (Addr×Obj)} {σ:St} {H:Hp} {s:Shared} {a C dx:Addr} {fs:List (Str×V)} {f:Str} {v:V} {A:Around} {E:Value->Shared->Prop}
theorem WK {b:Bool}{Q:Value->Shared->Prop}(I:Inv X pins σ H s)(e:H a=some (.ins C dx fs))(c:Cls X.K C)(n:jw X.K C f)(l:fs.lookup f=some v)
  (h:∀ u s',Inv X pins σ H s'->RelV v u->Q u s'):wpAny (model X.prog X.w) A (getAttr (.ref a) f b) Q E s:=by
 obtain⟨mA,O,r,_,_,_⟩:=Ku I.hok e;obtain⟨u,hu,ru⟩:=uI.some_of (v:=v) (o:=mA f) (by rw[<-l];exact r f);exact get_map I.DQ O (c.get f) c.hd n hu (aam ru) (h u _ (I.tok _) ru)
theorem KQ {m:Str}{g:Addr}{pl:Sem Bool}{Q:Value×List Value->Shared->Prop}(I:Inv X pins σ H s)(e:H a=some (.ins C dx fs))(c:Cls X.K C)(k:Meth X.K C m g)(l:fs.lookup m=none)
  (h:Q (.ref g,[.ref a]) s):wpAny (model X.prog X.w) A (getMethod (.ref a) m pl) Q E s:=by
 obtain⟨mA,O,r,_,_,_⟩:=Ku I.hok e;have hn:mA m=none:=uI.none_of (by rw[<-l];exact r m);exact ac9 I.DQ O (c.get m) k.at_ k.fn hn h
theorem WL {y:V}{u:Value}{Q:Unit->Shared->Prop}(I:Inv X pins σ H s)(e:H a=some (.ins C dx fs))(c:Cls X.K C)(n:jw X.K C f)(hl:fs.length<1000)(ry:RelV y u)
  (h:∀ s',Inv X pins σ (upd H a (.ins C dx (mO f y fs))) s'->Q () s'):wpAny (model X.prog X.w) A (setAttr (.ref a) f u) Q E s:=by
 obtain⟨mA,O,r,wi,_,ho⟩:=Ku I.hok e;have hz:(fs.map (·.1)).length<=sizeLine:=by rw[J',sizeLine_eq];omega
 refine oB I.DQ O c.sa c.po n.taker c.hd wi hz fun h' O' sb=>h _ ?_;have hd:∃ o,h'.get? dx=some o:=let ⟨o,_,_,e',_⟩:=O'.ns;⟨o,e'⟩;refine I.write (x:=a) (e:=dx) (by rw[e];exact True.intro) (.inr ho) (fun b q hb z=>(sb.2 b hb).trans z) hd ?_;refine⟨by rw[ak O.ne];exact ho,?_,O.ne,O'.obj,_,O'.ns,fun g=>?_,fun g hg=>?_⟩
 ·have:=Jq f y fs;omega
 ·show uI ((mO f y fs).lookup g) (if g=f then some u else mA g);rw[Jp]
  by_cases q:g=f
  ·rw[if_pos q,if_pos q];exact ry
  ·rw[if_neg q,if_neg q];exact r g
 ·by_cases q:g=f
  ·rw[q];exact(Gu f y fs).1
  ·refine(Gu f y fs).2 g (wi g fun z=>hg ?_);show(if g=f then some u else mA g)=none;rw[if_neg q];exact z
theorem Inv.made (I:Inv X pins σ H s):Inv X pins σ (upd (upd H s.heap.objs.size (.own (s.heap.objs.size+1))) (s.heap.objs.size+1) (.ins C s.heap.objs.size []))
  { s with heap:=(s.heap.push emptyDict).push (instObj C s.heap.objs.size) }:=by
 have e1:(s.heap.push emptyDict).get? s.heap.objs.size=some emptyDict:=Heap.get?_push_size s.heap rfl;have e2:((s.heap.push emptyDict).push (instObj C s.heap.objs.size)).get? (s.heap.objs.size+1)=some (instObj C s.heap.objs.size):=by
  have:=Heap.get?_push_size (s.heap.push emptyDict) (o:=instObj C s.heap.objs.size) rfl
  rwa [Heap.size_push]at this
 have e3:(s.heap.push emptyDict).Ns s.heap.objs.size (fun _=>none):=⟨emptyDict,#[],_,e1,rfl,(fun e he=>V' he (by simp)),fun _=>rfl⟩;have I1:=I.laid (a:=s.heap.objs.size) (o:=.own (s.heap.objs.size+1)) (h':=s.heap.push emptyDict) (t':=s.toks) (fun b u q=>L' _ q) (R' _) ⟨_,e1⟩;refine I1.laid (a:=s.heap.objs.size+1) (o:=.ins C s.heap.objs.size []) (t':=s.toks) (fun b u q=>L' _ q) (Nat.le_of_eq (Heap.size_push _ _)) ?_;have ne:s.heap.objs.size≠s.heap.objs.size+1:=Nat.ne_of_lt (Nat.lt_succ_self _);refine⟨by rw[ak ne,af],Nat.zero_le _,ne,e2,fun _=>none,(Heap.Ns1.of_empty e3).at fun o q=>L' _ q,fun _=>True.intro,fun y hy=>V' rfl hy⟩
theorem afH {prog:Program}{w:World}{env:Env}{e:Expr}{f:Str}{pos:Pos}{s:Shared}{Q:Value->Shared->Prop}(hb:attributeBase e f env (eval e env)=eval e env)
  (h:wpAny (model prog w) A (eval e env) (fun o s₁=>wpAny (model prog w) A (getAttr o f true) Q E s₁) E s):wpAny (model prog w) A (eval (.Attribute e f pos) env) Q E s :=
 Attribute_any_ h (by rw[arm_eval_Attribute,hb])
end
inductive ag9 (K:Frag)(f:Str)(Q:VK)(x:V)(H1:Hp):Prop
 |mk (a:_) (C:_) (dx:_) (fs:_) (v:_) (dE:x=.ref a) (dF:H1 a=some (.ins C dx fs)) (eQ:Cls K C) (jv:jw K C f) (pE:fs.lookup f=some v) (Pa:Q v H1):ag9 K f Q x H1
noncomputable def amx (K:Frag)(ta:TE)(f:Str):TE:=fun σ H Q=>ta σ H fun x H1=>ag9 K f Q x H1
inductive aha (K:Frag)(f:Str)(D:Ends)(σ:St)(y:V)(x:V)(H2:Hp):Prop
 |mk (a:_) (C:_) (dx:_) (fs:_) (dE:x=.ref a) (dF:H2 a=some (.ins C dx fs)) (eQ:Cls K C) (jv:jw K C f) (pE:fs.length<1000) (Pa:D.nx σ (upd H2 a (.ins C dx (mO f y fs)))):aha K f D σ y x H2
noncomputable def amy (K:Frag)(ta tv:TE)(f:Str):TS:=fun D σ H=>tv σ H fun y H1=>ta σ H1 fun x H2=>aha K f D σ y x H2
section
variable {X:Cx} {o e value:Expr} {f:Str} {pos pos' tpos:Pos} {ta tv:TE}
theorem cj (he:PE X e ta)(hb:attributeBase e f X.env (eval e X.env)=eval e X.env):PE X (.Attribute e f pos) (amx X.K ta f):=by
 intro pins s σ H Q I h;refine afH hb (cQ (he pins s σ H _ I h) fun u s1 ⟨x,H1,I1,rx,a,C,dx,fs,v,ex,ea,c,n,l,q⟩=>?_);subst ex;obtain rfl:u=Value.ref a:=rx;exact WK I1 ea c n l fun u' s2 I2 ru=>⟨v,H1,I2,ru,q⟩
theorem t5 (ha:PE X o ta)(hv:PE X value tv)(hs:swapsWith value (some (.Attribute o f pos')) pos.line X.env=pure false):PS X (.Assign [.Attribute o f pos'] value pos) (amy X.K ta tv f):=by
 intro pins s σ H D I h;refine plainObj_wpAny_Assign_Attribute (cQ (hv pins s σ H _ I h) fun u s1 ⟨y,H1,I1,ry,q⟩=>cQ (ha pins s1 σ H1 _ I1 q) fun ov s2 ⟨x,H2,I2,rx,a,C,dx,fs,ex,ea,c,n,l,q2⟩=>?_) hs;subst ex;obtain rfl:ov=Value.ref a:=rx;exact WL I2 ea c n l ry fun s3 I3=>⟨σ,_,I3,q2⟩
end
section
variable {X:Cx} {pins:List (Addr×Obj)} {σ:St} {H:Hp} {s:Shared} {A:Around} {E:Value->Shared->Prop} {Q:Value->Shared->Prop} {c:Value} {b:Bool}
inductive eG (K:Frag)(H:Hp):V->Value->Prop where
 |non:eG K H .non (.type "NoneType")
 |bl (x:Bool):eG K H (.bl x) (.type "bool")
 |int (i:Int):eG K H (.int i) (.type "int")
 |str (x:Str):eG K H (.str x) (.type "str")
 |flt (x:UInt64):eG K H (.flt x) (.type "float")
 |lst {a:Addr} {xs:List V} (e:H a=some (.lst xs)):eG K H (.ref a) (.type "list")
 |Zo {a:Addr} {o:Obj} {xs:List V} (e:H a=some (.Zo o (.lst xs))):eG K H (.ref a) (.type "list")
 |tup {a:Addr} {xs:List V} (e:H a=some (.tup xs)):eG K H (.ref a) (.type "tuple")
 |dK {a:Addr} {kvs:List (Key×V)} (e:H a=some (.dK kvs)):eG K H (.ref a) (.type "dict")
 |dT {a:Addr} {kvs:List (List Key×V)} (e:H a=some (.dT kvs)):eG K H (.ref a) (.type "dict")
 |ins {a C dx:Addr} {fs:List (Str×V)} (e:H a=some (.ins C dx fs)) (cl:Cls K C) (ha:findIn K (.ref C) "__class__"=some (some (.builtin "object.__class__")))
   (hn:specialIn K (.builtin "object.__class__") "__get__"=some (some (.builtin "getset_descriptor.__get__"))) (htk:PySem.W.takesIn K (.builtin "object.__class__")=some true)
   (hm:mroIn K C (.type "object")=some true):eG K H (.ref a) (.ref C)
theorem aao {x:V}{u t:Value}(I:Inv X pins σ H s)(rx:RelV x u)(ty:eG X.K H x t)(e:kitOne X.K t c=some b)(h:∀ tk,Q (.bool b) { s with toks:=tk }) :
  wpAny (model X.prog X.w) A (call (.builtin "isinstance") [u,c]) Q E s:=by
 cases ty with
 |non=>cases (show u=Value.none from rx);exact kia_one PySem.W.kitx_none I.DQ True.intro e (fun z=>nomatch z) h
 |bl y=>cases (show u=Value.bool y from rx);exact kia_one PySem.W.kitx_bool I.DQ True.intro e (fun z=>nomatch z) h
 |int i=>obtain⟨t,q⟩:=(show ∃ t,u=Value.int i t from rx);cases q;exact kia_one PySem.W.kitx_int I.DQ True.intro e (fun z=>nomatch z) h
 |str y=>obtain⟨t,q⟩:=(show ∃ t,u=Value.str y t from rx);cases q;exact kia_one PySem.W.kitx_str I.DQ True.intro e (fun z=>nomatch z) h
 |flt y=>obtain⟨t,q⟩:=(show ∃ t,u=Value.float y t from rx);cases q;exact kia_one PySem.W.kitx_float I.DQ True.intro e (fun z=>nomatch z) h
 | @lst a xs ea =>
  cases (show u=Value.ref a from rx);obtain⟨_,_,n,_,h1⟩:=(show fA X.prog X.w H s.heap a (.lst xs) from I.hok a _ ea);exact kia_one kitx_list I.DQ ⟨_,h1,rfl⟩ e (fun z=>nomatch z) h
 | @Zo a ob xs ea =>
  cases (show u=Value.ref a from rx);obtain⟨_,_,_,n,_,h1⟩:=(show fA X.prog X.w H s.heap a (.Zo ob (.lst xs)) from I.hok a _ ea);exact kia_one kitx_list I.DQ ⟨_,h1,rfl⟩ e (fun z=>nomatch z) h
 | @tup a xs ea =>
  cases (show u=Value.ref a from rx);obtain⟨_,_,_,p⟩:=(show fA X.prog X.w H s.heap a (.tup xs) from I.hok a _ ea);obtain⟨o,h1,h2,_⟩:=p;exact kia_one PySem.W.kitx_tuple I.DQ ⟨o,h1,h2⟩ e (fun z=>nomatch z) h
 | @dK a kvs ea =>
  cases (show u=Value.ref a from rx);obtain⟨_,_,vs,_,p⟩:=(show fA X.prog X.w H s.heap a (.dK kvs) from I.hok a _ ea);obtain⟨o,es,ep,h1,h2,_⟩:=p;exact kia_one kitx_dict I.DQ ⟨o,h1,h2.1⟩ e (fun z=>nomatch z) h
 | @dT a kvs ea =>
  cases (show u=Value.ref a from rx);obtain⟨_,_,xs,_,o,es,ep,h1,h2,_⟩:=(show fA X.prog X.w H s.heap a (.dT kvs) from I.hok a _ ea);exact kia_one kitx_dict I.DQ ⟨o,h1,h2.1⟩ e (fun z=>nomatch z) h
 | @ins a C dx fs ea cl ha hn htk hm =>
  cases (show u=Value.ref a from rx);obtain⟨mA,O,_⟩:=Ku I.hok ea;obtain⟨od,J,_⟩:=O.look;exact kia_one (PySem.W.kitx_own (cl.get _) cl.hd ha hn htk hm) I.DQ J e (fun z=>nomatch z) h
end
end L2
namespace L2
open PySem PySem.Spec PyProof.Rows
structure mP (k:Nat)(A:Around):Prop where
 hd:A.handled=none
 dp:A.depth+3 * k+5<recursionLimit
 un:A.units+16 * k+200<cLine
theorem mP.mono {j k:Nat}{A:Around}(r:mP k A)(h:j<=k):mP j A:=⟨r.hd,by have:=r.dp;omega,by have:=r.un;omega⟩
theorem mP.deeper {k:Nat}{A:Around}(r:mP (k+1) A)(env:Env):mP k (A.deeper env) :=
 ⟨r.hd,by have:=r.dp;show A.depth+1+3 * k+5<_;omega,by have:=r.un;show A.units+3+16 * k+200<_;omega⟩
theorem WM {A:Around}{C:Addr}{us:List Value}{kw:List (Str×Value)}:(A.under (.builtin "type.__call__" ⟨.ref C::us,kw⟩)).depth=A.depth+1:=by
 first|rfl|simp[Around.under,Code.weight,Code.isCreation,Code.isGuard,Code.isCaller,Code.frames,Code.isFrame,guardIds]
theorem WN {A:Around}{C:Addr}{us:List Value}{kw:List (Str×Value)}:(A.under (.builtin "type.__call__" ⟨.ref C::us,kw⟩)).units=A.units+1:=by
 first|rfl|simp[Around.under,Code.cUnits,Code.frames,Code.isFrame]
theorem mP.make {k:Nat}{A:Around}(r:mP (k+1) A)(C:Addr)(us:List Value)(kw:List (Str×Value)):mP k (A.under (.builtin "type.__call__" ⟨.ref C::us,kw⟩)) :=
 ⟨r.hd,by have:=r.dp;rw[WM];omega,by have:=r.un;rw[WN];omega⟩
theorem mP.depth {k:Nat}{A:Around}(r:mP k A):A.depth<recursionLimit:=by have:=r.dp;omega
theorem mP.units {k:Nat}{A:Around}(r:mP k A):A.units+64<cLine:=by have:=r.un;omega
noncomputable def ah4:TA:=fun _ H Q=>Q [] H
noncomputable def aj7 (ta:TE)(tr:TA):TA:=fun σ H Q=>ta σ H fun x H1=>tr σ H1 fun xs H2=>Q (x::xs) H2
section
variable {X:Cx} {e:Expr} {es:List Expr} {te:TE} {t:TA} {pos:Pos}
theorem ae:PA X [] ah4:=fun _ _ _ _ H Q I h=>Calls.spliced_nil ⟨[],H,I,.nil,h⟩
theorem aa (ha:PE X e te)(hr:PA X es t)(hs:starEach (e::es) X.env=(false,eval e X.env)::starEach es X.env:=by rfl):PA X (e::es) (aj7 te t):=by
 intro pos pins s σ H Q I h;rw[hs];show wpAny _ _ (spliced ((false,eval e X.env)::backTo pos (starEach es X.env))) _ _ s;refine Calls.spliced_cons (cQ (ha pins s σ H _ I h) fun u s1 ⟨x,H1,I1,r1,q1⟩=>?_);exact cQ (hr pos pins s1 σ H1 _ I1 q1) fun us s2 ⟨xs,H2,I2,r2,q2⟩=>⟨x::xs,H2,I2,.cons r1 r2,q2⟩
noncomputable def amz (t:TA):TE:=fun σ H Q=>t σ H fun xs H1=>xs.length<=sizeLine/\∀ p,H1 p=none->Q (.ref p) (upd H1 p (.tup xs))
noncomputable def aj8 (t:TA):TE:=fun σ H Q=>t σ H fun xs H1=>xs.length<=sizeLine/\∀ p,H1 p=none->Q (.ref p) (upd H1 p (.lst xs))
theorem cV {x1}(h:PA X es t):PE X (.Tuple es x1 pos) (amz t):=by
 intro pins s σ H Q I hq;refine wpAny_Tuple_spliced (cQ (h pos pins s σ H _ I hq) fun us s1 ⟨xs,H1,I1,r,z,q⟩=>⟨by rw[<-r.length];exact z,?_⟩);have hf:H1 s1.heap.objs.size=none:=I1.hok.fresh (R' _);refine⟨.ref s1.heap.objs.size,upd H1 s1.heap.objs.size (.tup xs),I1.laid (t':=s1.toks) (fun b u e=>L' _ e) (R' _) ?_,rfl,q _ hf⟩;exact⟨z,us,r,⟨_,Heap.get?_push_size _ rfl,rfl,_,rfl⟩⟩
theorem bq (h:PA X es t):PE X (.List es pos) (aj8 t):=by
 intro pins s σ H Q I hq;refine wpAny_List_spliced (cQ (h pos pins s σ H _ I hq) fun us s1 ⟨xs,H1,I1,r,z,q⟩=>⟨by rw[<-r.length];exact z,?_⟩);have hf:H1 s1.heap.objs.size=none:=I1.hok.fresh (R' _);refine⟨.ref s1.heap.objs.size,upd H1 s1.heap.objs.size (.lst xs),I1.laid (t':=s1.toks) (fun b u e=>L' _ e) (R' _) ?_,rfl,q _ hf⟩;exact⟨z,us,0,r,Heap.get?_push_size _ rfl⟩
end
noncomputable abbrev Sp:=List V->Hp->VK->XK->Prop
noncomputable abbrev CXT:=List Env->Hp->Shared->XK->Value->Shared->Prop
structure WO (P:Program)(w:World)(K:Frag)(mg:Str->Option Value)(base:Heap)(A:Around)(outer:List Env)(s:Shared)(H:Hp):Prop where
 frames:A.frames=some outer
 mod:Mod K mg base
 bs:∀ b o,base.get? b=some o->s.heap.get? b=some o/\H b=none
 WH:base.objs.size<=s.heap.objs.size
 DS:s.heap.FunFrames base outer
 frf:∀ b∈frs outer,H b=none
 hok:Bl P w H s.heap
 bare:AllBare s.gens
noncomputable def CE (outer:List Env)(P:Program)(w:World)(H:Hp)(s:Shared)(Q:VK)(u:Value)(s':Shared):Prop :=
 ∃ v H',s'.os=s.os/\AllBare s'.gens/\Un (frs outer) [] H H' s.heap s'.heap/\Bl P w H' s'.heap/\RelV v u/\Q v H'
noncomputable def CR (CX:CXT)(outer:List Env)(P:Program)(w:World)(H:Hp)(s:Shared)(Q:VK)(E:XK)(r:Result)(s':Shared):Prop :=
 match r with
 |.ok (.ret u)=>CE outer P w H s Q u s'
 |.ok _=>False
 |.error e=>CX outer H s E e s'
structure br (P:Program)(w:World)(K:Frag)(mg:Str->Option Value)(base:Heap)(CX:CXT)(k:Nat)(f:Addr)(fd:FuncData)(ps:List Str)(sp:Sp):Prop where
 len:∀ vs H Q E,sp vs H Q E->vs.length=ps.length
 run:∀(A:Around)(outer:List Env)(s:Shared)(H:Hp)(args:Args)(us:List Value)(vs:List V)(Q:VK)(E:XK),mP k A->WO P w K mg base A outer s H->BindsTo s fd args (ps.zip us)->Vals vs us->sp vs H Q E ->
  codeAny (model P w) A (.call (.ref f) args) (CR CX outer P w H s Q E) s
theorem WO.make {P:Program}{w:World}{K:Frag}{mg:Str->Option Value}{base:Heap}{A:Around}{outer:List Env}{s:Shared}{H:Hp}(e:WO P w K mg base A outer s H)(C:Addr)(us:List Value)(kw:List (Str×Value)) :
  WO P w K mg base (A.under (.builtin "type.__call__" ⟨.ref C::us,kw⟩)) outer s H:=⟨by first|exact e.frames|(simpa [Around.under,Code.envs,Code.isFrame,pushEnvs] using e.frames),e.mod,e.bs,e.WH,e.DS,e.frf,e.hok,e.bare⟩
section
variable {X:Cx} {pins:List (Addr×Obj)} {σ:St} {H:Hp} {s s':Shared}
theorem Inv.env0 (I:Inv X pins σ H s):WO X.prog X.w X.K X.mg X.base X.A X.stack s H :=
 ⟨I.ok.frames,I.ok.mod,I.bs,Nat.le_trans I.ok.WH I.sz,I.stack,I.Qm,I.hok,I.bare⟩
theorem Inv.after {Q:VK}{u:Value}(I:Inv X pins σ H s)(h:CE X.stack X.prog X.w H s Q u s'):EP X pins σ Q u s':=by
 obtain⟨v,H',os,bare,un,hok,r,q⟩:=h;obtain⟨hh,g,d,t,os'⟩:=s';obtain rfl:os'=s.os:=os;exact⟨v,H',I.call (h':=hh) (g':=g) (d':=d) (t':=t) (ch:=[]) un hok bare (fun b z=>V' z (by simp)),r,q⟩
end
noncomputable def aj9 (sp:Sp)(DR:List V)(E:XK)(t:TA):TE:=fun σ H Q=>t σ H fun vs H1=>sp (vs++DR) H1 Q E
inductive ade (C:Addr)(m:Str)(sp:Sp)(DR:List V)(E:XK)(t:TA)(σ:St)(Q:VK)(x:V)(H1:Hp):Prop
 |mk (a:_) (dx:_) (fs:_) (dE:x=.ref a) (dF:H1 a=some (.ins C dx fs)) (eQ:fs.lookup m=none) (jv:t σ H1 fun vs H2=>sp (x::(vs++DR)) H2 Q E):ade C m sp DR E t σ Q x H1
noncomputable def ahb (C:Addr)(m:Str)(sp:Sp)(DR:List V)(E:XK)(ta:TE)(t:TA):TE:=fun σ H Q=>ta σ H fun x H1=>ade C m sp DR E t σ Q x H1
noncomputable def ahc (C:Addr)(sp:Sp)(DR:List V)(E:XK)(t:TA):TE:=fun σ H Q=>t σ H fun vs H1=>∀ x dx,H1 x=none->H1 dx=none->dx≠x ->
 sp (.ref x::(vs++DR)) (upd (upd H1 dx (.own x)) x (.ins C dx [])) (fun v H2=>v=.non/\Q (.ref x) H2) E
noncomputable def Binds (K:Frag)(fd:FuncData)(ps:List Str)(ds:List Value):Prop :=
 ∀(s:Shared)(us:List Value),K.In s.heap->(us++ds).length=ps.length->BindsTo s fd ⟨us,[]⟩ (ps.zip (us++ds))
theorem Binds.all {K:Frag}{fd:FuncData}{ps:List Str}(h:∀ us:List Value,us.length=ps.length->bindArgs fd ⟨us,[]⟩=pure (ps.zip us)):Binds K fd ps []:=fun s us _ hl=>by
 rw[append_nil]at hl ⊢;exact .of_eq (h us hl)
noncomputable def Passes (CX:CXT)(X:Cx)(E:XK):Prop:=∀(pins:List (Addr×Obj)) (σ:St) (H:Hp) (s:Shared) (e:Value) (s':Shared),Inv X pins σ H s->CX X.stack H s E e s'->X.xe e s'
section
variable {X:Cx} {CX:CXT} {k:Nat} {f C:Addr} {fd:FuncData} {ps:List Str} {sp:Sp} {DR:List V} {ds:List Value} {E:XK} {x m:Str} {p pos apos:Pos} {e o:Expr} {es:List Expr} {ta:TE} {t:TA}
theorem WQ {pins:List (Addr×Obj)}{σ:St}{H:Hp}{s:Shared}{Q:VK}{us:List Value}{vs:List V}(F:br X.prog X.w X.K X.mg X.base CX k f fd ps sp)(hr:mP k X.A)(hb:Binds X.K fd ps ds)(hd:Vals DR ds)(hx:Passes CX X E)
  (I:Inv X pins σ H s) (r:Vals vs us) (h:sp (vs++DR) H Q E):wpAny (model X.prog X.w) X.A (call (.ref f) us) (EP X pins σ Q) X.xe s:=by
 have r2:Vals (vs++DR) (us++ds):=r.append hd;have hl:(us++ds).length=ps.length:=by rw[<-r2.length];exact F.len _ _ _ _ h
 refine wpAny_call (codeAny_mono (F.run X.A X.stack s H ⟨us,[]⟩ (us++ds) (vs++DR) Q E hr I.env0 (hb s us I.DQ hl) r2 h) fun r s' hq=>?_);cases r with
 |error e=>exact hx pins σ H s e s' I hq
 |ok fl =>
  cases fl with
  |ret u=>exact I.after hq
  |next=>exact False.elim hq
  |brk=>exact False.elim hq
  |cont=>exact False.elim hq
theorem aq (F:br X.prog X.w X.K X.mg X.base CX k f fd ps sp)(hr:mP k X.A)(hg:Gl X x)(hm:X.mg x=some (.ref f))(hk:keepIn X.K (.ref f)=true)(hb:Binds X.K fd ps ds)(hd:Vals DR ds)(hx:Passes CX X E)
  (ha:PA X (e::es) t) (hdb:(x==("__debug__":Str))=false:=by decide) (he:starEach (e::es) X.env=(false,eval e X.env)::starEach es X.env:=by rfl) (hpl:(backTo pos (starEach es X.env)).any (·.1)=false:=by rfl) :
  PE X (.Call (.Name x p) (e::es) [] pos) (aj9 sp DR E t):=by
 intro pins s σ H Q I h;refine wpAny_Call_Name_kw (Kt I hg hm ?_ hdb);refine callWith_K (h₀:=X.base) I.ok.mod.kin hk (cQ (ha pos pins s σ H _ I h) fun us s1 ⟨vs,H1,I1,r,q⟩=>⟨I1.DQ,?_⟩) he hpl;exact WQ F hr hb hd hx I1 r q
theorem bj {pl:Sem Bool}(he:PE X o ta)(c:Cls X.K C)(hm:Meth X.K C m f)(F:br X.prog X.w X.K X.mg X.base CX k f fd ps sp)(hr:mP k X.A)(hb:Binds X.K fd ps ds)(hd:Vals DR ds)(hx:Passes CX X E)(ha:PA X (e::es) t)
  (hst:starEach (e::es) X.env=(false,eval e X.env)::starEach es X.env:=by rfl) (hpl:(backTo pos (starEach es X.env)).any (·.1)=false:=by rfl)
  (ht:eval (.Call (.Attribute o m apos) (e::es) [] pos) X.env=(do
   let ov <-eval o X.env
   standAt apos.atName
   let (f,first) <-holding [ov] (getMethod ov m pl)
   callWith pos f first (backTo pos (starEach (e::es) X.env)) (backToKw pos (keywordEach [] X.env))):=by rfl) :
  PE X (.Call (.Attribute o m apos) (e::es) [] pos) (ahb C m sp DR E ta t):=by
 intro pins s σ H Q I h;refine methodCall_KW (pl:=pl) (cQ (he pins s σ H _ I h) fun u s1 ⟨x,H1,I1,rx,a,dx,fs,ex,ea,l,q⟩=>?_) ht;subst ex;obtain rfl:u=Value.ref a:=rx;refine KQ I1 ea c hm l ?_;refine callWith_K (first:=[.ref a]) (h₀:=X.base) I.ok.mod.kin hm.kp (cQ (ha pos pins s1 σ H1 _ I1 q) fun us s2 ⟨vs,H2,I2,r,q2⟩=>⟨I2.DQ,?_⟩) hst hpl;exact WQ (us:=.ref a::us) (vs:=.ref a::vs) F hr hb hd hx I2 (.cons rfl r) q2
theorem d4 {pl:Sem Bool}(he:PE X o ta)(c:Cls X.K C)(hm:Meth X.K C m f)(F:br X.prog X.w X.K X.mg X.base CX k f fd ps sp)(hr:mP k X.A)(hb:Binds X.K fd ps ds)(hd:Vals DR ds)(hx:Passes CX X E)
  (ht:eval (.Call (.Attribute o m apos) [] [] pos) X.env=(do
   let ov <-eval o X.env
   standAt apos.atName
   let (f,first) <-holding [ov] (getMethod ov m pl)
   callWith pos f first (backTo pos (starEach [] X.env)) (backToKw pos (keywordEach [] X.env))):=by rfl) :
  PE X (.Call (.Attribute o m apos) [] [] pos) (ahb C m sp DR E ta ah4):=by
 intro pins s σ H Q I h;refine methodCall_KW (pl:=pl) (cQ (he pins s σ H _ I h) fun u s1 ⟨x,H1,I1,rx,a,dx,fs,ex,ea,l,q⟩=>?_) ht;subst ex;obtain rfl:u=Value.ref a:=rx;refine KQ I1 ea c hm l ?_;exact callWith_K0 (first:=[.ref a]) I1.DQ hm.kp (WQ (us:=[.ref a]) (vs:=[.ref a]) F hr hb hd hx I1 (.cons rfl .nil) q)
structure Mk (K:Frag)(C f:Addr):Prop where
 makes:makesIn K C=true
 init:findIn K (.ref C) "__init__"=some (some (.ref f))
 fn:isFn K (.ref f)=true
 kp:keepIn K (.ref C)=true
theorem UR {pins:List (Addr×Obj)}{σ:St}{H:Hp}{s:Shared}{Q:VK}{us:List Value}{vs:List V}(M:Mk X.K C f)(F:br X.prog X.w X.K X.mg X.base CX k f fd ps sp)(hr:mP (k+1) X.A)(hb:Binds X.K fd ps ds)(hd:Vals DR ds)
  (hx:Passes CX X E) (I:Inv X pins σ H s) (r:Vals vs us)
  (h:∀ x dx,H x=none->H dx=none->dx≠x->sp (.ref x::(vs++DR)) (upd (upd H dx (.own x)) x (.ins C dx [])) (fun v H2=>v=.non/\Q (.ref x) H2) E) :
  wpAny (model X.prog X.w) X.A (call (.ref C) us) (EP X pins σ Q) X.xe s:=by
 have hq:=h (s.heap.objs.size+1) s.heap.objs.size (I.hok.fresh (Nat.le_succ _)) (I.hok.fresh (R' _)) (Nat.ne_of_lt (Nat.lt_succ_self _));have I2:=Inv.made (C:=C) I;have r2:Vals (V.ref (s.heap.objs.size+1)::(vs++DR)) (Value.ref (s.heap.objs.size+1)::(us++ds)):=.cons rfl (r.append hd);have hl:(Value.ref (s.heap.objs.size+1)::us++ds).length=ps.length:=by
  have e:=r2.length;rw[F.len _ _ _ _ hq]at e;exact e.symm
 refine wpAny_call (ada (f:=f) I.DQ M.makes M.init (beq_iff_eq.mp M.fn) (codeAny_mono (F.run _ X.stack _ _ ⟨Value.ref (s.heap.objs.size+1)::us,[]⟩ (Value.ref (s.heap.objs.size+1)::(us++ds)) _ _ E (hr.make C us [])
  (I2.env0.make C us []) (hb _ (Value.ref (s.heap.objs.size+1)::us) I2.DQ hl) r2 hq) fun r s' hq'=>?_))
 cases r with
 |error e=>exact hx pins σ _ _ e s' I2 hq'
 |ok fl =>
  cases fl with
  |ret u =>
   obtain⟨v,H',I3,rv,ev,q3⟩:=I2.after hq';subst ev;exact⟨rv,⟨V.ref (s.heap.objs.size+1),H',I3,rfl,q3⟩⟩
  |next=>exact False.elim hq'
  |brk=>exact False.elim hq'
  |cont=>exact False.elim hq'
theorem AX (M:Mk X.K C f)(F:br X.prog X.w X.K X.mg X.base CX k f fd ps sp)(hr:mP (k+1) X.A)(hg:Gl X x)(hm:X.mg x=some (.ref C))(hb:Binds X.K fd ps ds)(hd:Vals DR ds)(hx:Passes CX X E)
  (ha:PA X (e::es) t) (hdb:(x==("__debug__":Str))=false:=by decide) (he:starEach (e::es) X.env=(false,eval e X.env)::starEach es X.env:=by rfl) (hpl:(backTo pos (starEach es X.env)).any (·.1)=false:=by rfl) :
  PE X (.Call (.Name x p) (e::es) [] pos) (ahc C sp DR E t):=by
 intro pins s σ H Q I h;refine wpAny_Call_Name_kw (Kt I hg hm ?_ hdb);refine callWith_K (h₀:=X.base) I.ok.mod.kin M.kp (cQ (ha pos pins s σ H _ I h) fun us s1 ⟨vs,H1,I1,r,q⟩=>⟨I1.DQ,?_⟩) he hpl;exact UR M F hr hb hd hx I1 r q
theorem adf (M:Mk X.K C f)(F:br X.prog X.w X.K X.mg X.base CX k f fd ps sp)(hr:mP (k+1) X.A)(hg:Gl X x)(hm:X.mg x=some (.ref C))(hb:Binds X.K fd ps ds)(hd:Vals DR ds)(hx:Passes CX X E)
  (hdb:(x==("__debug__":Str))=false:=by decide):PE X (.Call (.Name x p) [] [] pos) (ahc C sp DR E ah4):=by
 intro pins s σ H Q I h;refine wpAny_Call_Name_kw (Kt I hg hm ?_ hdb);exact callWith_K0 I.DQ M.kp (UR (us:=[]) M F hr hb hd hx I .nil h)
end
section
variable {X:Cx} {CX:CXT} {k:Nat} {f C:Addr} {fd:FuncData} {ps ks:List Str} {sp:Sp} {E:XK} {x m:Str} {p pos apos apB:Pos} {e o:Expr} {es:List Expr} {kws:List Keyword} {te ta:TE} {t tk:TA} {nm:Option Str}
variable {g:List Value->List Value->List Value} {gV:List V->List V->List V}
end
structure aF (N P:List Str)(sc:Scope):Prop where
 kind:sc.kind=.function
 co:sc.isCoroutine=false
 gen:sc.isGenerator=false
 nd:N.Nodup
 pre:N.take P.length=P
 par:∀ x∈P,sc.names.lookup x=some .local\/sc.names.lookup x=some .cell
 ah5:∀ y∈sc.names,y.2≠.free
theorem Pb {kindOf:Str->Option NameKind}{x:Str}:∀{binds:List (Str×Value)} {m:Str->Option Value},(∀ v,(x,v) ∉ binds)->bindL kindOf binds m x=m x
 |[],_,_=>rfl
 |(n,v)::r,m,h=>by
  unfold bindL;rw[Pb fun w hw=>h w (mem_cons_of_mem _ hw)];split
  ·have:x≠n:=by rintro rfl;exact h v mem_cons_self
   simp[this]
  ·rfl
theorem Pc {kindOf:Str->Option NameKind}{x:Str}:∀{binds:List (Str×Value)} {m:Str->Option Value},(∀ v,(x,v) ∉ binds)->bindC kindOf binds m x=m x
 |[],_,_=>rfl
 |(n,v)::r,m,h=>by
  unfold bindC;rw[Pc fun w hw=>h w (mem_cons_of_mem _ hw)];split
  ·rfl
  ·have:x≠n:=by rintro rfl;exact h v mem_cons_self
   simp[this]
theorem Pd {kindOf:Str->Option NameKind}{x:Str}{v:Value}:∀{P:List Str} {vs:List Value} {i:Nat} {m:Str->Option Value},P.Nodup->P[i]? = some x->vs[i]? = some v->kindOf x=some .local ->
  bindL kindOf (P.zip vs) m x=some v
 |[],_,_,_,_,h,_,_=>by simp at h
 |_::_,[],_,_,_,_,h,_=>by simp at h
 |p::P,w::vs,0,m,nd,h1,h2,hk=>by
  simp at h1 h2;subst h1;subst h2;show bindL kindOf ((p,w)::P.zip vs) m p=_;unfold bindL;rw[Pb fun v hv=>(List.nodup_cons.mp nd).1 (List.of_mem_zip hv).1,if_pos hk];simp
 |p::P,w::vs,i+1,m,nd,h1,h2,hk=>by
  show bindL kindOf ((p,w)::P.zip vs) m x=_;unfold bindL;exact Pd (i:=i) (List.nodup_cons.mp nd).2 (by simpa using h1) (by simpa using h2) hk
theorem Pe {kindOf:Str->Option NameKind}{x:Str}{v:Value}:∀{P:List Str} {vs:List Value} {i:Nat} {m:Str->Option Value},P.Nodup->P[i]? = some x->vs[i]? = some v->kindOf x≠some .local ->
  bindC kindOf (P.zip vs) m x=some v
 |[],_,_,_,_,h,_,_=>by simp at h
 |_::_,[],_,_,_,_,h,_=>by simp at h
 |p::P,w::vs,0,m,nd,h1,h2,hk=>by
  simp at h1 h2;subst h1;subst h2;show bindC kindOf ((p,w)::P.zip vs) m p=_;unfold bindC;rw[Pc fun v hv=>(List.nodup_cons.mp nd).1 (List.of_mem_zip hv).1,if_neg hk];simp
 |p::P,w::vs,i+1,m,nd,h1,h2,hk=>by
  show bindC kindOf ((p,w)::P.zip vs) m x=_;unfold bindC;exact Pe (i:=i) (List.nodup_cons.mp nd).2 (by simpa using h1) (by simpa using h2) hk
noncomputable def start (N:List Str)(vs:List V):St:=vs.map some++List.replicate (N.length-vs.length) none
noncomputable def WR (CX:CXT)(P:Program)(w:World)(K:Frag)(mg:Str->Option Value)(base:Heap)(N:List Str)(qual:Str)(scope:Scope)(f:Addr)(cd:Value)(A:Around)(outer:List Env)(s:Shared)(H:Hp)(E:XK):Cx where
 prog:=P
 w:=w
 K:=K
 mg:=mg
 base:=base
 A:=A.deeper (envOfC qual scope s.heap.objs.size f cd)
 N:=N
 s₀:=s
 H₀:=H
 env:=envOfC qual scope s.heap.objs.size f cd
 outer:=outer
 stack:=envOfC qual scope s.heap.objs.size f cd::outer
 ex:=[]
 calm:=true
 fn:=fun _=>true
 pn:=[]
 xe:=fun e s'=>wpAny (model P w) (A.deeper (envOfC qual scope s.heap.objs.size f cd)) (leaving (envOfC qual scope s.heap.objs.size f cd) e) (fun _ s''=>CX outer H s E e s'') (fun e' s''=>CX outer H s E e' s'') s'
theorem US {sc:Scope}{n:Nat}{x:Str}(h:sc.names.lookup x=some .cell):∃ c,(cellsFrom n sc.names []).lookup x=some c:=by
 have q:=PySem.W.cellsFrom_some sc.names n [] (.inl h);exact Option.isSome_iff_exists.mp q
theorem aap {CX:CXT}{P:Program}{w:World}{K:Frag}{mg:Str->Option Value}{base:Heap}{N ps:List Str}{qual:Str}{scope:Scope}{f:Addr}{cd:Value}{A:Around}{outer:List Env}{s s1:Shared}{H:Hp}{E:XK}{us:List Value}{vs:List V}
  (S:aF N ps scope) (hd:A.handled=none) (e0:WO P w K mg base A outer s H) (hl:vs.length=ps.length) (r:Vals vs us)
  (x:InCallC s s.heap.objs.size (bindL (envOfC qual scope s.heap.objs.size f cd).kindOf (ps.zip us) fun _=>none) (cellsFrom (s.heap.objs.size+1) scope.names []) (bindC (envOfC qual scope s.heap.objs.size f cd).kindOf (ps.zip us) fun _=>none) s1) :
  Inv (WR CX P w K mg base N qual scope f cd A outer s H E) [] (start N vs) H s1:=by
 have hpl:ps.length<=N.length:=by have:=congrArg List.length S.pre;rw[length_take]at this;omega
 obtain⟨h1,tk,rfl,hk⟩:=x.done;have noA:∀ b:Addr,b ∉ (WR CX P w K mg base N qual scope f cd A outer s H E).ex:=fun b z=>V' (show b∈([]:List Addr) from z) (by simp);refine⟨⟨e0.mod,S.kind,rfl,rfl,R' _,fun y z c h1 h2=>?_,fun y hy=>?_,fun y c _ h=>?_,fun _=>hd,Around.frames_deeper e0.frames,.inr ⟨rfl,rfl⟩,fun b z=>V' z (noA b),e0.bs,e0.WH,fun b _ _=>noA b,fun b z=>V' z (noA b),e0.DS,e0.frf⟩,
  rfl,e0.bare,Un.kept hk,⟨_,x.toInCall.ns,fun i y v h1 h2 h3=>?_⟩,fun y c h=>⟨_,x.cell y c h⟩,e0.hok.fresh (R' _),fun y c h=>?_,fun p hp=>V' (show p∈([]:List (Addr×Obj)) from hp) (by simp),e0.hok.kept hk,?_⟩
 ·exact name_of_addr x.apart (PySem.mem_of_lookup h1) (PySem.mem_of_lookup h2)
 ·have hy:scope.names.lookup y=some .cell\/scope.names.lookup y=some .free:=hy;rcases hy with hy|hy
  ·exact US hy
  ·exact V' rfl (S.ah5 _ (PySem.mem_of_lookup hy))
 ·exact Nat.le_of_lt (x.above y c (PySem.mem_of_lookup h))
 ·have hi:i<vs.length:=by
   unfold start at h2
   by_cases hi:i<vs.length
   ·exact hi
   ·rw[getElem?_append_right (by simpa using hi)]at h2;rw[List.getElem?_replicate]at h2;split at h2 <;> cases h2
  have ha:vs[i]? = some v:=by
   unfold start at h2;rw[getElem?_append_left (by simpa using hi),getElem?_map]at h2;cases e:vs[i]? with
   |none=>rw[e]at h2;cases h2
   |some a=>rw[e]at h2;cases h2;rfl
  obtain⟨u,hu,rv⟩:=r.get ha;have hp:ps[i]? = some y:=by
   rw[<-S.pre,List.getElem?_take_of_lt (by omega)];exact h1
  have ndP:ps.Nodup:=by rw[<-S.pre];exact S.nd.sublist (List.take_sublist _ _)
  refine⟨u,rv,?_⟩;rcases S.par y (X' hp) with k|k
  ·exact .inl ⟨k,Pd ndP hp hu k⟩
  ·obtain⟨c,e⟩:=US (n:=s.heap.objs.size+1) k;refine .inr ⟨.inl k,c,e,?_⟩;have q:=x.cell y c e;rw[Pe ndP hp hu (by show scope.names.lookup y≠_;rw[k];decide)]at q;exact q
 ·exact e0.hok.fresh (Nat.le_of_lt (x.above y c (PySem.mem_of_lookup h)))
 ·unfold start;show _=N.length;rw[T',J',List.length_replicate];omega
theorem ahd {CX:CXT}{P:Program}{w:World}{K:Frag}{mg:Str->Option Value}{base:Heap}{k:Nat}{f:Addr}{name qual:Str}{params:Arguments}{body:List Stmt}{scope:Scope}{dV kV doc pm cdv ct oc:Value}{an od:Option Addr}
  {osl:Array (Option Value)} {N ps:List Str} {sp:Sp} (lk:K.lookup f=some ⟨oc,od,.func (fnOf name qual params body scope dV kV doc pm an cdv ct),osl⟩) (hcd:codeIn K cdv qual=true) (S:aF N ps scope)
  (len:∀ vs H Q E,sp vs H Q E->vs.length=ps.length)
  (hbody:∀(A:Around)(outer:List Env)(s:Shared)(H:Hp)(vs:List V)(Q:VK)(E:XK),mP k (A.deeper (envOfC qual scope s.heap.objs.size f cdv))->sp vs H Q E ->
   ∃ t,WB (WR CX P w K mg base N qual scope f cdv A outer s H E) body t/\t { nx:=fun _ H'=>Q .non H',rt:=Q } (start N vs) H) :
  br P w K mg base CX (k+1) f (fnOf name qual params body scope dV kV doc pm an cdv ct) ps sp:=by
 refine⟨len,fun A outer s H args us vs Q E hr e0 hb r hsp=>?_⟩;have hl:=len _ _ _ _ hsp;have KX:K.In s.heap:=e0.mod.kin.keeps fun b o e=>(e0.bs b o e).1;have lim:s.heap.NoLimit:=e0.mod.nolimit.keeps fun b o e=>(e0.bs b o e).1;have hkind:∀ y∈ps.zip us,scope.names.lookup y.1=some .local\/(scope.names.lookup y.1=some .cell/\((cellsFrom (s.heap.objs.size+1) scope.names []).lookup y.1).isSome=true):=fun⟨n,v⟩ hy=>by
  rcases S.par n (List.of_mem_zip hy).1 with q|q
  ·exact .inl q
  ·exact .inr ⟨q,PySem.W.cellsFrom_some _ _ _ (.inl q)⟩
 refine codeAny_call_function hr.depth (KX _ _ lk) rfl S.co S.gen rfl (PySem.W.codeRec_of KX hcd) (hb _ _ _ _ ?_);refine wpAny_newFunctionEnv_cells S.kind hkind fun env he s1 x=>?_;subst he;refine⟨lim.keeps x.toInCall.keep,codeAny_func ?_⟩;obtain⟨t,ht,hq⟩:=hbody A outer s H vs Q E (hr.deeper _) hsp;have I:Inv (WR CX P w K mg base N qual scope f cdv A outer s H E) [] (start N vs) H s1:=aap S hr.hd e0 hl r x;refine wpAny_mono (ht [] s1 (start N vs) H _ I hq) (fun fl s' hs=>?_) fun e s' hs=>hs;have fin:∀{σ':St} {H':Hp} {v:V} {u:Value},Inv (WR CX P w K mg base N qual scope f cdv A outer s H E) [] σ' H' s'->RelV v u->Q v H'->CE outer P w H s Q u s' :=
  fun {σ' H' v u} J rv q=>⟨v,H',J.os,J.bare,J.base,J.hok,rv,q⟩
 cases fl with
 |ret u =>
  obtain⟨v,σ',H',J,rv,q⟩:=hs;exact fin J rv q
 |next =>
  obtain⟨σ',H',J,q⟩:=hs;exact fin (v:=V.non) (u:=Value.none) J rfl q
 |brk =>
  obtain⟨_,_,_,q⟩:=hs;exact False.elim q
 |cont =>
  obtain⟨_,_,_,q⟩:=hs;exact False.elim q
end L2
namespace L2
open PySem PySem.Spec PyProof.Rows
section
variable {X:Cx} {x:Str} {p pos:Pos} {e:Expr} {es:List Expr} {t:TA} {id T:String} {r:List V->Hp->VK->Prop}
noncomputable def tCB (r:List V->Hp->VK->Prop)(t:TA):TE:=fun σ H Q=>t σ H fun vs H1=>r vs H1 Q
theorem av (hc:kU X (.builtin id) r)(hg:Gl X x)(hm:X.mg x=none)(hv:bootBuiltins x=some (.builtin id))(ha:PA X (e::es) t)(hn:x ≠ "__name__":=by decide)(hdb:(x==("__debug__":Str))=false:=by decide)
  (he:starEach (e::es) X.env=(false,eval e X.env)::starEach es X.env:=by rfl) (hpl:(backTo pos (starEach es X.env)).any (·.1)=false:=by rfl):PE X (.Call (.Name x p) (e::es) [] pos) (tCB r t):=by
 intro pins s σ H Q I h;refine wpAny_Call_Name_kw (qU I hg hm hv ?_ hn hdb);exact PyProof.Rows.callWith_builtin1 (cQ (ha pos pins s σ H _ I h) fun us s1 ⟨vs,H1,I1,r1,q1⟩=>hc pins s1 σ H1 vs us Q I1 r1 q1) he hpl
theorem bH (hc:kU X (.type T) r)(hg:Gl X x)(hm:X.mg x=none)(hv:bootBuiltins x=some (.type T))(ha:PA X (e::es) t)(hn:x ≠ "__name__":=by decide)(hdb:(x==("__debug__":Str))=false:=by decide)
  (he:starEach (e::es) X.env=(false,eval e X.env)::starEach es X.env:=by rfl) (hpl:(backTo pos (starEach es X.env)).any (·.1)=false:=by rfl):PE X (.Call (.Name x p) (e::es) [] pos) (tCB r t):=by
 intro pins s σ H Q I h;refine wpAny_Call_Name_kw (qU I hg hm hv ?_ hn hdb);exact PyProof.Rows.callWith_type1 (cQ (ha pos pins s σ H _ I h) fun us s1 ⟨vs,H1,I1,r1,q1⟩=>hc pins s1 σ H1 vs us Q I1 r1 q1) he hpl
end
end L2
namespace HT
open PySem PyProof.Rows
section
open PySem.SeqAt
open PySem.AutoSeq1 (wpAny_loadPart')
open PySem.MeetsSeq PySem.MeetsSeq2 PySem.MeetsSeq3
end
section
variable {prog:Program} {w:World} {A:Around} {E:Value->Shared->Prop} {s:Shared}
noncomputable def mN (n d:Nat):Option Int->Nat
 |none=>d
 |some v=>if v<0 then(v+(n:Int)).toNat else min v.toNat n
theorem KR (n d:Nat):mN n d none=d:=rfl
theorem Zv (n d k:Nat):mN n d (some (k:Int))=min k n:=by
 show(if(k:Int)<0 then((k:Int)+(n:Int)).toNat else min (k:Int).toNat n)=min k n;rw[if_neg (by omega),Int.toNat_natCast]
theorem ah6 (n d:Nat)(hd:d<=n)(o:Option Int):mN n d o<=n:=by
 cases o with
 |none=>exact hd
 |some v =>
  show(if v<0 then(v+(n:Int)).toNat else min v.toNat n)<=n
  by_cases hv:v<0
  ·rw[if_pos hv];omega
  ·rw[if_neg hv];exact Nat.min_le_right _ _
theorem Zw (v:Int)(n d:Nat):(if v<0 then max (v+(n:Int)) 0 else min v (n:Int))=((mN n d (some v):Nat):Int):=by
 show(if v<0 then max (v+(n:Int)) 0 else min v (n:Int))=(((if v<0 then(v+(n:Int)).toNat else min v.toNat n):Nat):Int)
 by_cases hv:v<0
 ·simp only [if_pos hv];omega
 ·simp only [if_neg hv];omega
theorem WS (lo hi:Option Int)(n:Nat):Builtin.Slice.sliceAdjust lo hi 1 (n:Int)=(((mN n 0 lo:Nat):Int),((mN n n hi:Nat):Int)):=by
 have h1:¬((1:Int)<0):=by omega
 unfold Builtin.Slice.sliceAdjust;simp only [h1,if_false];refine Prod.ext ?_ ?_
 ·cases lo with
  |none=>rfl
  |some v=>exact Zw v n 0
 ·cases hi with
  |none=>rfl
  |some v=>exact Zw v n n
theorem WT (i j:Nat):Builtin.Slice.slicePlaces (i:Int) (j:Int) 1=j-i:=by
 unfold Builtin.Slice.slicePlaces;have h1:(1:Int) > 0:=by omega
 simp only [h1,if_true,Int.ediv_one];split <;> omega
theorem KS {v:Value}{o:Option Int}{Q:Option Int->Shared->Prop}(p:IsPart v o)(h:Q o s):wpAny (model prog w) A (Builtin.Slice.slicePartIndex v) Q E s:=by
 cases p with
 |none=>exact slicePart_none h
 |int i t=>exact slicePart_int h
theorem Gv {sl:Addr}{vl vu:Value}{lo hi:Option Int}{n:Nat}{Q:Int×Int×Nat->Shared->Prop}(hs:s.heap.IsSliceOf sl vl vu .none)(pl:IsPart vl lo)(pu:IsPart vu hi)
  (h:Q (((mN n 0 lo:Nat):Int),1,mN n n hi-mN n 0 lo) s):wpAny (model prog w) A (Builtin.Slice.sliceApplied (.ref sl) (pure (n:Int))) Q E s:=by
 obtain⟨os,hos,hcs,hds⟩:=id hs;unfold Builtin.Slice.sliceApplied Builtin.Slice.sliceFields;refine A' (A' (wpAny_field hos hds (x:=vl) rfl (A' (wpAny_field hos hds (x:=vu) rfl (A' (wpAny_field hos hds (x:=.none) rfl (P' ?_)))))));refine A' (slicePart_none ?_);show wpAny _ _ (if((1:Int)==0)=true then _ else _) _ _ s;rw[if_neg (by decide)];refine A' (KS pl (A' (KS pu (A' (P' ?_)))));show wpAny _ _ (match Builtin.Slice.sliceAdjust lo hi 1 (n:Int) with|(lo,hi)=>pure (lo,(1:Int),Builtin.Slice.slicePlaces lo hi 1)) _ _ s;rw[WS lo hi n];show wpAny _ _ (pure (((mN n 0 lo:Nat):Int),(1:Int),Builtin.Slice.slicePlaces ((mN n 0 lo:Nat):Int) ((mN n n hi:Nat):Int) 1)) _ _ s;rw[WT];exact P' h
theorem adg (xs:Array Value)(i k:Nat):((List.range k).filterMap fun(m:Nat)=>xs[((i:Int)+(m:Int) * 1).toNat]?).toArray=((xs.toList.drop i).take k).toArray:=by
 have e:(fun(m:Nat)=>xs[((i:Int)+(m:Int) * 1).toNat]?)=fun m=>xs[i+m]?:=by
  funext m
  have:((i:Int)+(m:Int) * 1).toNat=i+m:=by omega
  rw[this]
 rw[e];have:=pick_run xs i k;rw[List.filterMap_map]at this;have e2:((fun x=>xs[x]?) ∘ fun x=>i+x)=fun m=>xs[i+m]?:=rfl;rw[e2]at this;rw[this]
theorem DW {t sl:Addr}{items:Array Value}{vl vu:Value}{lo hi:Option Int}{Q:Value->Shared->Prop}(ht:IsTup s.heap t items)(hs:s.heap.IsSliceOf sl vl vu .none)(pl:IsPart vl lo)(pu:IsPart vu hi)
  (hw:¬(mN items.size 0 lo=0/\mN items.size items.size hi=items.size))
  (h:Q (.ref s.heap.objs.size) { s with heap:=s.heap.push { cls:=.type "tuple",data:=.seq ((items.toList.drop (mN items.size 0 lo)).take (mN items.size items.size hi-mN items.size 0 lo)).toArray } })
  (hsz:items.size<=sizeLine):wpAny (model prog w) A (getItem (.ref t) (.ref sl)) Q E s:=by
 have Zx:sizeOk (.seq ((items.toList.drop (mN items.size 0 lo)).take (mN items.size items.size hi-mN items.size 0 lo)).toArray):=by
  show((items.toList.drop (mN items.size 0 lo)).take (mN items.size items.size hi-mN items.size 0 lo)).toArray.size<=sizeLine;rw[size_toArray,length_take,length_drop,Array.length_toList];omega
 have hj:mN items.size items.size hi<=items.size:=ah6 _ _ (R' _) hi;obtain⟨os,hos,hcs,hds⟩:=id hs;have hTs:s.TypeIs (.ref sl) "slice":=⟨os,hos,hcs⟩;unfold getItem
 try with_reducible refine wpAny_holding ?_
 first|refine A' (P' ?_)|skip
 refine A' (wpAny_sequenceKey ht.typeIs (by decide) ?_);refine A' (wpAny_callSpecial?_slot (name:=Str.ofString "__getitem__") ht.typeIs PyProof.Rows.slot_tuple_getitem
  (wpAny_call_entry PyProof.Rows.slot_tuple_getitem ht.typeIs entry_tuple_getitem ?_ (args_tuple_getitem _ _)))
 show wpAny _ _ (Builtin.Tuple.tupleItemsOf (.ref t) >>= _) _ _ s;refine A' (tupleItemsOf_ ht ?_);refine A' (wpAny_typeOf hTs ?_);rw[if_pos (by decide)];refine A' (Gv hs pl pu ?_);have hno:¬((((mN items.size 0 lo:Nat):Int)==0&&(1:Int)==1&&(mN items.size items.size hi-mN items.size 0 lo)==items.size)=true):=by
  intro q;rw[Bool.and_eq_true,Bool.and_eq_true]at q;have q1:((mN items.size 0 lo:Nat):Int)=0:=eq_of_beq q.1.1;have q2:mN items.size items.size hi-mN items.size 0 lo=items.size:=eq_of_beq q.2;exact hw ⟨by omega,by omega⟩
 show wpAny _ _ (if(((mN items.size 0 lo:Nat):Int)==0&&(1:Int)==1&&(mN items.size items.size hi-mN items.size 0 lo)==items.size)=true then _ else _) _ _ s;rw[if_neg hno,adg]
 first
  |exact A' (m:=Builtin.Tuple.tupleExact _) (wpAny_newObj_type (P' ⟨_,rfl,P' h⟩) Zx)
  |exact A' (m:=Builtin.Tuple.tupleExact _) (wpAny_newObj_type (A' (P' (P' ⟨_,rfl,P' h⟩))) Zx)
  |exact A' (A' (m:=Builtin.Tuple.tupleExact _) (wpAny_newObj_type (P' (P' ⟨_,rfl,P' h⟩)) Zx))
  |exact A' (A' (m:=Builtin.Tuple.tupleExact _) (wpAny_newObj_type (P' ⟨_,rfl,P' h⟩) Zx))
end
end HT
namespace L2
open PySem PySem.Spec PyProof.Rows
noncomputable abbrev TO:=St->Hp->(Option Int->Hp->Prop)->Prop
noncomputable def PO (X:Cx)(e:Option Expr)(t:TO):Prop :=
 ∀(pins:List (Addr×Obj)) (s:Shared) (σ:St) (H:Hp) (Q:Option Int->Hp->Prop),Inv X pins σ H s->t σ H Q ->
  wpAny (model X.prog X.w) X.A (evalPart e X.env) (fun u s'=>∃ o H',Inv X pins σ H' s'/\IsPart u o/\Q o H') X.xe s
noncomputable def afI:TO:=fun _ H Q=>Q none H
inductive adh (Q:(Option Int->Hp->Prop))(x:V)(H1:Hp):Prop
 |mk (i:_) (dE:x=.int i) (dF:Q (some i) H1):adh Q x H1
noncomputable def akb (t:TE):TO:=fun σ H Q=>t σ H fun x H1=>adh Q x H1
section
variable {X:Cx} {e:Expr} {te:TE} {lo hi:Option Expr} {tl th:TO} {pos p2:Pos}
theorem kW:PO X none afI:=by
 intro pins s σ H Q I h;rw[evalPart_none];exact P' ⟨none,H,I,.none,h⟩
theorem gh (h:PE X e te):PO X (some e) (akb te):=by
 intro pins s σ H Q I hw;rw[evalPart_some];refine cQ (h pins s σ H _ I hw) fun u s1 ⟨x,H1,I1,r1,q1⟩=>?_;obtain⟨i,rfl,q⟩:=q1;obtain⟨t,rfl⟩:=r1;exact⟨some i,H1,I1,.int i t,q⟩
noncomputable def SlR (X:Cx)(r:V->Option Int->Option Int->Hp->VK->Prop):Prop :=
 ∀(pins:List (Addr×Obj)) (s:Shared) (σ:St) (H:Hp) (x:V) (v vl vu:Value) (lo hi:Option Int) (sl:Addr) (Q:VK),Inv X pins σ H s->RelV x v->s.heap.IsSliceOf sl vl vu .none->IsPart vl lo->IsPart vu hi->r x lo hi H Q ->
  ∃ T id,typeLookup (.type T) "__getitem__"=pure (some (.builtin id))/\s.TypeIs v T/\wpAny (model X.prog X.w) X.A (getItem v (.ref sl)) (EP X pins σ Q) X.xe s
theorem SlR.or {r r':V->Option Int->Option Int->Hp->VK->Prop}(h:SlR X r)(h':SlR X r'):SlR X (fun x lo hi H Q=>r x lo hi H Q\/r' x lo hi H Q):=by
 intro pins s σ H x v vl vu lo hi sl Q I rx hs pl pu q;rcases q with q|q
 ·exact h pins s σ H x v vl vu lo hi sl Q I rx hs pl pu q
 ·exact h' pins s σ H x v vl vu lo hi sl Q I rx hs pl pu q
noncomputable def tSl (r:V->Option Int->Option Int->Hp->VK->Prop)(te:TE)(tl th:TO):TE:=fun σ H Q=>te σ H fun x H1=>tl σ H1 fun l H2=>th σ H2 fun u H3=>r x l u H3 Q
theorem iI {r:V->Option Int->Option Int->Hp->VK->Prop}(hr:SlR X r)(he:PE X e te)(hl:PO X lo tl)(hu:PO X hi th):PE X (.Subscript e (.Slice lo hi none p2) pos) (tSl r te tl th):=by
 intro pins s σ H Q I h;refine Subscript_ (cQ (he pins s σ H _ I h) fun v s1 ⟨x,H1,I1,r1,q1⟩=>?_);refine wpAny_Slice (cQ (hl pins s1 σ H1 _ I1 q1) fun vl s2 ⟨l,H2,I2,pl,q2⟩=>cQ (hu pins s2 σ H2 _ I2 q2) fun vu s3 ⟨u,H3,I3,pu,q3⟩=>?_);rw[evalPart_none];refine P' ?_;have I4:Inv X pins σ H3 { s3 with heap:=s3.heap.push { cls:=.type "slice",data:=.fields #[vl,vu,.none] } }:=I3.kept (t':=s3.toks) fun b ob q=>L' _ q;obtain⟨T,id,hT,ht,hg⟩:=hr pins { s3 with heap:=s3.heap.push { cls:=.type "slice",data:=.fields #[vl,vu,.none] } } σ H3 x v vl vu l u s3.heap.objs.size Q I4 r1 (Heap.IsSliceOf.new ..) pl pu q3;show wpAny (model X.prog X.w) X.A (subscriptTail e (.Slice lo hi none p2) v (.ref s3.heap.objs.size)) (EP X pins σ Q) X.xe { s3 with heap:=s3.heap.push { cls:=.type "slice",data:=.fields #[vl,vu,.none] } };exact tail_any (ops:=[.ref s3.heap.objs.size,v]) ht hT hg (by with_unfolding_all rfl)
noncomputable def BG (xs:List V)(lo hi:Option Int):List V:=(xs.drop (HT.mN xs.length 0 lo)).take (HT.mN xs.length xs.length hi-HT.mN xs.length 0 lo)
theorem Jr (xs:List V)(lo hi:Option Int):(BG xs lo hi).length<=xs.length:=by
 unfold BG;rw[length_take,length_drop];omega
inductive ahf (K:Frag)(x:V)(lo:Option Int)(hi:Option Int)(H:Hp)(Q:VK):Prop
 |mk (a:_) (xs:_) (dE:x=.ref a) (dF:ij K H a xs) (eQ:¬(HT.mN xs.length 0 lo=0/\HT.mN xs.length xs.length hi=xs.length)) (jv:∀ p,H p=none->Q (.ref p) (upd H p (.tup (BG xs lo hi)))):ahf K x lo hi H Q
noncomputable def amB (K:Frag):V->Option Int->Option Int->Hp->VK->Prop:=fun x lo hi H Q=>ahf K x lo hi H Q
theorem qW:SlR X (amB X.K):=by
 intro pins s σ H x v vl vu lo hi sl Q I rx hs pl pu h;obtain⟨a,xs,rfl,hx,hw,q⟩:=h;cases rx;obtain⟨its,r,ht,hz⟩:=I.tuple hx;have hlen:its.toArray.size=xs.length:=by rw[size_toArray];exact r.length.symm
 refine⟨"tuple",_,PyProof.Rows.slot_tuple_getitem.lookup,ht.typeIs,?_⟩;refine HT.DW ht hs pl pu (by rw[hlen];exact hw) ?_ (by rw[hlen];exact hz);rw[hlen];refine⟨.ref s.heap.objs.size,_,I.laid (t':=s.toks) (o:=.tup (BG xs lo hi)) (fun b ob q=>L' _ q) (R' _) ?_,rfl,q _ (I.hok.fresh (R' _))⟩;exact⟨Nat.le_trans (Jr xs lo hi) hz,_,(r.drop (HT.mN xs.length 0 lo)).take (HT.mN xs.length xs.length hi-HT.mN xs.length 0 lo),IsTup.new _ _⟩
end
end L2
namespace L2
open PySem PySem.Spec PyProof.Rows
noncomputable def ixN (n:Nat)(i:Int):Option Nat:=if 0<=i then(if i<n then some i.toNat else none) else if -(n:Int)<=i then some (i+n).toNat else none
noncomputable def atI {α:Type}(xs:List α)(i:Int):Option α:=(ixN xs.length i).bind fun j=>xs[j]?
theorem Zy {n:Nat}{i:Int}{j:Nat}(h:ixN n i=some j):seqIndex? i n=some j/\j<n/\-(n:Int)<=i/\i<n:=by
 unfold ixN at h
 by_cases h0:0<=i
 ·rw[if_pos h0]at h
  by_cases h1:i<n
  ·rw[if_pos h1]at h;have e:i.toNat=j:=W' h;exact⟨by rw[seqIndex_of h0 h1,e],by omega,by omega,h1⟩
  ·rw[if_neg h1]at h;cases h
 ·rw[if_neg h0]at h
  by_cases h1:-(n:Int)<=i
  ·rw[if_pos h1]at h;have e:(i+n).toNat=j:=W' h;exact⟨by rw[seqIndex_neg (by omega) h1,e],by omega,h1,by omega⟩
  ·rw[if_neg h1]at h;cases h
theorem Qq {α:Type}{xs:List α}{i:Int}{v:α}(h:atI xs i=some v):∃ j,seqIndex? i xs.length=some j/\xs[j]? = some v/\j<xs.length/\-(xs.length:Int)<=i/\i<xs.length:=by
 unfold atI at h;cases e:ixN xs.length i with
 |none=>rw[e]at h;cases h
 |some j =>
  rw[e]at h;obtain⟨h1,h2,h3,h4⟩:=Zy e;exact⟨j,h1,h,h2,h3,h4⟩
theorem DX {α:Type}{xs:List α}{j:Nat}{v:α}(h:xs[j]? = some v):atI xs (j:Int)=some v:=by
 have hj:j<xs.length:=(C'.mp h).1;have e:ixN xs.length (j:Int)=some j:=by
  unfold ixN;rw[if_pos (by omega),if_pos (by omega)];simp
 unfold atI;rw[e];exact h
theorem yg {α:Type}(xs:List α)(v:α):atI (xs++[v]) (-1)=some v:=by
 have hl:(xs++[v]).length=xs.length+1:=by simp
 have e:ixN (xs++[v]).length (-1)=some xs.length:=by
  unfold ixN;rw[hl,if_neg (by decide),if_pos (by omega)]
  congr 1
  omega
 unfold atI;rw[e];show(xs++[v])[xs.length]? = some v;simp
noncomputable def afJ (b:Expr):Prop:=∀ o i,subscripted b false o i=operate [o,i] (getItem o i)
noncomputable def IxR (X:Cx)(r:R2):Prop :=
 ∀(value slice:Expr)(pins:List (Addr×Obj)) (s:Shared) (σ:St) (H:Hp) (x y:V) (v u:Value) (Q:VK),Inv X pins σ H s->RelV x v->RelV y u->r x y H Q ->
  subscripted slice false v u=operate [v,u] (getItem v u)->wpAny (model X.prog X.w) X.A (subscriptTail value slice v u) (EP X pins σ Q) X.xe s
noncomputable def MtR (X:Cx)(id:String)(r:V->List V->Hp->VK->Prop):Prop :=
 ∀(pins:List (Addr×Obj)) (s:Shared) (σ:St) (H:Hp) (x:V) (xs:List V) (v:Value) (us:List Value) (Q:VK),Inv X pins σ H s->RelV x v->Vals xs us->r x xs H Q ->
  wpAny (model X.prog X.w) X.A (call (.builtin id) (v::us)) (EP X pins σ Q) X.xe s
section
variable {X:Cx} {a b:Expr} {ta tb:TE} {pos:Pos}
theorem IxR.or {r r':R2}(h:IxR X r)(h':IxR X r'):IxR X (fun x y H Q=>r x y H Q\/r' x y H Q):=by
 intro value slice pins s σ H x y v u Q I rx ry q hs;rcases q with q|q
 ·exact h value slice pins s σ H x y v u Q I rx ry q hs
 ·exact h' value slice pins s σ H x y v u Q I rx ry q hs
theorem aT {r:R2}(hr:IxR X r)(ha:PE X a ta)(hb:PE X b tb)(hs:afJ b):PE X (.Subscript a b pos) (tOp r ta tb):=by
 intro pins s σ H Q I h;exact Subscript_ (ah2 ha hb I h fun v u s2 x y H2 I2 rx ry q=>hr a b pins s2 σ H2 x y v u Q I2 rx ry q (hs _ _))
inductive ahg (K:Frag)(x:V)(y:V)(H:Hp)(Q:VK):Prop
 |mk (p:_) (xs:_) (i:_) (v:_) (dE:x=.ref p) (dF:y=.int i) (eQ:aO K H p xs) (jv:atI xs i=some v) (pE:Q v H):ahg K x y H Q
noncomputable def UT (K:Frag):R2:=fun x y H Q=>ahg K x y H Q
inductive ahh (K:Frag)(x:V)(y:V)(H:Hp)(Q:VK):Prop
 |mk (p:_) (xs:_) (i:_) (v:_) (dE:x=.ref p) (dF:y=.int i) (eQ:ij K H p xs) (jv:atI xs i=some v) (pE:Q v H):ahh K x y H Q
noncomputable def UU (K:Frag):R2:=fun x y H Q=>ahh K x y H Q
inductive ahi (x:V)(y:V)(H:Hp)(Q:VK):Prop
 |mk (z:_) (i:_) (c:_) (dE:x=.str z) (dF:y=.int i) (eQ:z.length<=sizeLine) (jv:atI z.cps.toList i=some c) (pE:Q (.str ⟨#[c]⟩) H):ahi x y H Q
noncomputable def UW :R2:=fun x y H Q=>ahi x y H Q
theorem afK:IxR X (UT X.K):=by
 intro value slice pins s σ H x y v u Q I rx ry h hs;obtain⟨p,xs,i,z,rfl,rfl,hq,he,q⟩:=h;cases rx;obtain⟨t,rfl⟩:=ry;obtain⟨its,r,pl,hz⟩:=I.list hq;obtain⟨j,h1,h2,h3,h4,h5⟩:=Qq he;obtain⟨w,ew,rw'⟩:=r.get h2;have hl:=r.length;have hn:=Gs;have fin:EP X pins σ Q w s:=⟨z,H,I,rw',q⟩
 by_cases h0:0<=i
 ·have hj:i.toNat=j:=by
   rw[seqIndex_of h0 h5]at h1;exact W' h1
  exact item_listR pl.isList h0 (by omega) (by rw[hj];simpa using ew) fin hs
 ·have hj:(i+(its.toArray.size:Int)).toNat=j:=by
   rw[seqIndex_neg (by omega) h4]at h1;rw[size_toArray,<-hl];exact W' h1
  exact subscriptTail_builtinR (x:=w) pl.isList.typeIs slot_list_getitem.lookup
   (wpAny_getItem_list_neg (Q:=fun r s'=>r=w/\EP X pins σ Q r s') pl.isList (by omega) (by rw[size_toArray] <;> omega) (by omega) (by rw[hj];simpa using ew) ⟨rfl,fin⟩) hs
theorem ah7:IxR X (UU X.K):=by
 intro value slice pins s σ H x y v u Q I rx ry h hs;obtain⟨p,xs,i,z,rfl,rfl,hq,he,q⟩:=h;cases rx;obtain⟨t,rfl⟩:=ry;obtain⟨its,r,pl,hz⟩:=I.tuple hq;obtain⟨j,h1,h2,h3,h4,h5⟩:=Qq he;obtain⟨w,ew,rw'⟩:=r.get h2;have hl:=r.length;have hn:=Gs;have fin:EP X pins σ Q w s:=⟨z,H,I,rw',q⟩;exact subscriptTail_builtinR (x:=w) pl.typeIs slot_tuple_getitem.lookup
  (getItem_tuple (j:=j) (Q:=fun r s'=>r=w/\EP X pins σ Q r s') pl (by omega) (by omega) (by rw[size_toArray,<-hl];exact h1) (by simpa using ew) ⟨rfl,fin⟩) hs
theorem ah8:IxR X UW:=by
 intro value slice pins s σ H x y v u Q I rx ry h hs;obtain⟨z,i,c,rfl,rfl,hz,he,q⟩:=h;obtain⟨t,rfl⟩:=rx;obtain⟨t',rfl⟩:=ry;obtain⟨j,h1,h2,h3,h4,h5⟩:=Qq he;have hl:z.cps.toList.length=z.length:=by simp[Str.length]
 rw[hl]at h1 h4 h5;have hn:=Gs;exact tail_any (typeIs_str s z t) slot_str_getitem.lookup (getItem_str (c:=c) (by
  have e1:decide (i < -(2 ^ 63:Int))=false:=Y' (by omega);have e2:decide (i ≥ 2 ^ 63)=false:=Y' (by omega);rw[e1,e2,Bool.or_false]) (by rw[h1];simpa using h2) ⟨.str ⟨#[c]⟩,H,I.tok _,⟨_,rfl⟩,q⟩) hs
noncomputable def rIx (K:Frag):R2:=fun x y H Q=>UT K x y H Q\/UU K x y H Q\/UW x y H Q
theorem aI:IxR X (rIx X.K):=afK.or (ah7.or ah8)
theorem WU (its:List Value)(n j:Nat)(u:Value):Obj.mapSeq (·.setIfInBounds j u) { cls:=.type "list",data:=.seq its.toArray n } = { cls:=.type "list",data:=.seq (its.set j u).toArray n }:=by
 simp[Obj.mapSeq]
theorem Inv.lst {pins:List (Addr×Obj)}{σ:St}{H:Hp}{s:Shared}{p:Addr}{xs:List V}(I:Inv X pins σ H s)(h:H p=some (.lst xs)) :
  ∃(its:List Value)(n:Nat),Vals xs its/\s.heap.get? p=some { cls:=.type "list",data:=.seq its.toArray n }/\xs.length<=sizeLine:=by
 obtain⟨z,its,n,r,e⟩:=I.hok p _ h;exact⟨its,n,r,e,z⟩
theorem Inv.ah9 {pins:List (Addr×Obj)}{σ:St}{H:Hp}{s:Shared}{p:Addr}{xs ys:List V}{its its':List Value}{n n':Nat}{f:Obj->Obj}(I:Inv X pins σ H s)(h:H p=some (.lst xs))
  (ho:s.heap.get? p=some { cls:=.type "list",data:=.seq its.toArray n }) (hf:f { cls:=.type "list",data:=.seq its.toArray n } = { cls:=.type "list",data:=.seq its'.toArray n' }) (r:Vals ys its') (hz:ys.length<=sizeLine) (t:Nat) :
  Inv X pins σ (upd H p (.lst ys)) { s with heap:=s.heap.update p f,toks:=t }:=by
 have e:(s.heap.update p f).get? p=some { cls:=.type "list",data:=.seq its'.toArray n' }:=by
  rw[Heap.get?_update_self f ho (by rw[hf] <;> rfl),hf]
 refine I.write (x:=p) (e:=p) (by rw[h];trivial) (.inl rfl) (fun b u hb q=>(Heap.get?_update_other _ _ (Ne.symm hb)).trans q) ⟨_,e⟩ ?_;exact⟨hz,its',n',r,e⟩
inductive adj (o:V)(i:V)(v:V)(H:Hp)(Q:(Hp->Prop)):Prop
 |mk (p:_) (xs:_) (k:_) (j:_) (dE:o=.ref p) (dF:i=.int k) (eQ:H p=some (.lst xs)) (jv:ixN xs.length k=some j) (pE:Q (upd H p (.lst (xs.set j v)))):adj o i v H Q
noncomputable def akc :V->V->V->Hp->(Hp->Prop)->Prop:=fun o i v H Q=>adj o i v H Q
theorem set_list:ajV X akc:=by
 intro pins s σ H o i v ov iv u Q I ro ri rv h;obtain⟨p,xs,k,j,rfl,rfl,hp,hj,q⟩:=h;cases ro;obtain⟨t,rfl⟩:=ri;obtain⟨its,n,r,ho,hz⟩:=I.lst hp;obtain⟨h1,h2,h3,h4⟩:=Zy hj;have hl:=r.length;have hn:=Gs;have I':Inv X pins σ (upd H p (.lst (xs.set j v))) { s with heap:=s.heap.update p (Obj.mapSeq (·.setIfInBounds j u)) } :=
  I.ah9 hp ho (WU its n j u) (r.set rv j) (by rw[List.length_set];exact hz) s.toks
 by_cases h0:0<=k
 ·have hk:k.toNat=j:=by
   rw[seqIndex_of h0 h4]at h1;exact W' h1
  exact PySem.W.ki_setAt ho h0 (by omega) (by rw[size_toArray,<-hl];exact h4) (by rw[hk];exact⟨_,I',q⟩)
 ·have hk:(k+(its.toArray.size:Int)).toNat=j:=by
   rw[seqIndex_neg (by omega) h3]at h1;rw[size_toArray,<-hl];exact W' h1
  exact PySem.W.ki_setBack ho (by omega) (by rw[size_toArray,<-hl];exact h3) (by omega) (by rw[hk];exact⟨_,I',q⟩)
theorem Qr (lo hi:Option Int)(n:Nat):(sliceBounds lo hi none n).1=((HT.mN n 0 lo:Nat):Int)/\(sliceBounds lo hi none n).2.1=((HT.mN n n hi:Nat):Int)/\(sliceBounds lo hi none n).2.2=1:=by
 refine⟨?_,?_,rfl⟩
 ·cases lo with
  |none=>simp[sliceBounds,HT.mN]
  |some i =>
   simp only [sliceBounds,HT.mN,Option.getD_none,show(1:Int) > 0 by decide,if_true]
   by_cases h:i<0
   ·simp only [h,if_true] <;> omega
   ·simp only [h,if_false] <;> omega
 ·cases hi with
  |none=>simp[sliceBounds,HT.mN]
  |some i =>
   simp only [sliceBounds,HT.mN,Option.getD_none,show(1:Int) > 0 by decide,if_true]
   by_cases h:i<0
   ·simp only [h,if_true] <;> omega
   ·simp only [h,if_false] <;> omega
theorem N0 (its:List Value)(lo hi:Option Int):slicePick its.toArray lo hi none=((its.drop (HT.mN its.length 0 lo)).take (HT.mN its.length its.length hi-HT.mN its.length 0 lo)).toArray:=by
 obtain⟨h1,h2,h3⟩:=Qr lo hi its.toArray.size;unfold slicePick;rw[h1,h2,h3];simp only [sliceRange_one,pick_run,size_toArray] <;> rfl
inductive ahj (K:Frag)(x:V)(lo:Option Int)(hi:Option Int)(H:Hp)(Q:VK):Prop
 |mk (a:_) (xs:_) (dE:x=.ref a) (dF:aO K H a xs) (eQ:∀ p,H p=none->Q (.ref p) (upd H p (.lst (BG xs lo hi)))):ahj K x lo hi H Q
noncomputable def amC (K:Frag):V->Option Int->Option Int->Hp->VK->Prop:=fun x lo hi H Q=>ahj K x lo hi H Q
theorem kX:SlR X (amC X.K):=by
 intro pins s σ H x v vl vu lo hi sl Q I rx hs pl pu h;obtain⟨a,xs,rfl,hx,q⟩:=h;cases rx;obtain⟨its,r,ht,hz⟩:=I.list hx;have hlen:=r.length;refine⟨"list",_,slot_list_getitem.lookup,ht.isList.typeIs,?_⟩;refine wpAny_getItem_list_slice ht.isList hs pl pu .none (by simp) ?_ (by rw[size_toArray] <;> omega);rw[N0,<-hlen];refine⟨.ref s.heap.objs.size,_,I.laid (t':=s.toks) (o:=.lst (BG xs lo hi)) (fun b ob q=>L' _ q) (R' _) ?_,rfl,q _ (I.hok.fresh (R' _))⟩;exact⟨Nat.le_trans (Jr xs lo hi) hz,_,0,(r.drop (HT.mN xs.length 0 lo)).take (HT.mN xs.length xs.length hi-HT.mN xs.length 0 lo),Heap.get?_push_size _ rfl⟩
noncomputable def xN:V->Bool
 |.non=>true
 |.bl _=>true
 |.int _=>true
 |.str _=>true
 |_=>false
noncomputable def Zz:V->V->Bool
 |.non,.non=>true
 |.bl a,.bl b=>a==b
 |.bl a,.int b=>(if a then 1 else 0)==b
 |.int a,.bl b=>a==(if b then 1 else 0)
 |.int a,.int b=>a==b
 |.str a,.str b=>a==b
 |_,_=>false
theorem adk {A:Around}{s:Shared}{y x:V}{u v:Value}(ry:RelV y u)(rx:RelV x v)(fy:xN y=true)(fx:xN x=true):SeqAt.EqAt A s u v (Zz y x):=by
 cases y with
 |non =>
  cases ry;cases x with
  |non=>cases rx;exact SeqAt.EqAt.same _
  |bl b=>cases rx;exact SeqAt.EqAt.none_bool b
  |int b=>obtain⟨t,rfl⟩:=rx;exact SeqAt.EqAt.none_int b t
  |str b=>obtain⟨t,rfl⟩:=rx;exact SeqAt.EqAt.none_str b t
  |_=>exact V' (show false=true from fx) Z'
 |bl a =>
  cases ry;cases x with
  |non=>cases rx;exact SeqAt.EqAt.bool_none a
  |bl b=>cases rx;exact SeqAt.EqAt.bool_bool a b
  |int b=>obtain⟨t,rfl⟩:=rx;exact SeqAt.EqAt.bool_int a b t
  |str b=>obtain⟨t,rfl⟩:=rx;exact SeqAt.EqAt.bool_str a b t
  |_=>exact V' (show false=true from fx) Z'
 |int a =>
  obtain⟨t',rfl⟩:=ry;cases x with
  |non=>cases rx;exact SeqAt.EqAt.int_none a t'
  |bl b=>cases rx;exact SeqAt.EqAt.int_bool a t' b
  |int b=>obtain⟨t,rfl⟩:=rx;exact SeqAt.EqAt.int_int a t' b t
  |str b=>obtain⟨t,rfl⟩:=rx;exact SeqAt.EqAt.int_str a t' b t
  |_=>exact V' (show false=true from fx) Z'
 |str a =>
  obtain⟨t',rfl⟩:=ry;cases x with
  |non=>cases rx;exact SeqAt.EqAt.str_none a t'
  |bl b=>cases rx;exact SeqAt.EqAt.str_bool a t' b
  |int b=>obtain⟨t,rfl⟩:=rx;exact SeqAt.EqAt.str_int a t' b t
  |str b=>obtain⟨t,rfl⟩:=rx;exact SeqAt.EqAt.str_str a t' b t
  |_=>exact V' (show false=true from fx) Z'
 |_=>exact V' (show false=true from fy) Z'
noncomputable def WV (x:V)(u:Value):Bool:=match u with
 |.none=>Zz .non x
 |.bool b=>Zz (.bl b) x
 |.int i _=>Zz (.int i) x
 |.str z _=>Zz (.str z) x
 |_=>false
theorem adl {x y:V}{u:Value}(r:RelV y u)(f:xN y=true):WV x u=Zz y x:=by
 cases y with
 |non=>cases r;rfl
 |bl b=>cases r;rfl
 |int i=>obtain⟨t,rfl⟩:=r;rfl
 |str z=>obtain⟨t,rfl⟩:=r;rfl
 |_=>exact V' (show false=true from f) Z'
theorem DY {x:V}:∀{xs:List V} {us:List Value},Vals xs us->xs.all xN=true->us.any (WV x)=xs.any fun y=>Zz y x
 |_,_,.nil,_=>rfl
 |y::xs,u::us,.cons r t,f=>by
  rw[List.all_cons,Bool.and_eq_true]at f;rw[List.any_cons,List.any_cons,adl r f.1,DY t f.2]
theorem yh {A:Around}{s:Shared}{x:V}{v:Value}(rx:RelV x v)(fx:xN x=true):∀{xs:List V} {us:List Value},Vals xs us->xs.all xN=true->∀ u∈us,SeqAt.EqAt A s u v (WV x u)
 |_,_,.nil,_=>fun u hu=>by cases hu
 |y::xs,u::us,.cons r t,f=>fun u' hu=>by
  rw[List.all_cons,Bool.and_eq_true]at f;rcases List.mem_cons.mp hu with rfl|hu
  ·rw[adl r f.1];exact adk r rx f.1 fx
  ·exact yh rx fx t f.2 u' hu
noncomputable def inV (x:V)(xs:List V):Bool:=xs.any fun y=>Zz y x
inductive akd (K:Frag)(neg:Bool)(x:V)(y:V)(H:Hp)(Q:VK):Prop
 |mk (p:_) (xs:_) (dE:y=.ref p) (dF:(aO K H p xs\/ij K H p xs)) (eQ:xN x=true) (jv:xs.all xN=true) (pE:Q (.bl (if neg then !inV x xs else inV x xs)) H):akd K neg x y H Q
noncomputable def rIn (K:Frag)(neg:Bool):R2:=fun x y H Q=>akd K neg x y H Q
theorem c7:vE X (compareOp .In) (rIn X.K false):=by
 intro pins s σ H x y v u Q I rx ry h;obtain⟨p,xs,rfl,hq,fx,fs,q⟩:=h;cases ry;rcases hq with hq|hq
 ·obtain⟨its,r,pl,hz⟩:=I.list hq;refine SeqAt.in_listAt (WV x) pl.isList (fun w hw=>yh rx fx r fs w (by simpa using hw)) ⟨.bl _,H,I,rfl,?_⟩;rw[show its.toArray.any (WV x)=its.any (WV x) by simp,DY r fs];exact q
 ·obtain⟨its,r,pl,hz⟩:=I.tuple hq;refine SeqAt.in_tupleAt (WV x) pl (fun w hw=>yh rx fx r fs w (by simpa using hw)) ⟨.bl _,H,I,rfl,?_⟩;rw[show its.toArray.any (WV x)=its.any (WV x) by simp,DY r fs];exact q
theorem DZ:vE X (compareOp .NotIn) (rIn X.K true):=by
 intro pins s σ H x y v u Q I rx ry h;obtain⟨p,xs,rfl,hq,fx,fs,q⟩:=h;cases ry;rcases hq with hq|hq
 ·obtain⟨its,r,pl,hz⟩:=I.list hq;refine SeqAt.notIn_listAt (WV x) pl.isList (fun w hw=>yh rx fx r fs w (by simpa using hw)) ⟨.bl _,H,I,rfl,?_⟩;rw[show its.toArray.any (WV x)=its.any (WV x) by simp,DY r fs];exact q
 ·obtain⟨its,r,pl,hz⟩:=I.tuple hq;refine SeqAt.notIn_tupleAt (WV x) pl (fun w hw=>yh rx fx r fs w (by simpa using hw)) ⟨.bl _,H,I,rfl,?_⟩;rw[show its.toArray.any (WV x)=its.any (WV x) by simp,DY r fs];exact q
theorem D3:vE X (compareOp .NotIn) (fun x y H Q=>∃ i j,x=.str i/\y=.str j/\Q (.bl (!(!(Builtin.Str.occurrences j i 0 j.length 1).isEmpty))) H):=by
 intro pins s σ H x y v u Q I rx ry h;obtain⟨i,j,rfl,rfl,q⟩:=h;obtain⟨t,rfl⟩:=rx;obtain⟨t',rfl⟩:=ry;exact notIn_str ⟨.bl _,H,I,rfl,q⟩
theorem az:kU X (.builtin "len") (fun xs H Q=>∃ p ys,xs=[.ref p]/\(aO X.K H p ys\/ij X.K H p ys)/\Q (.int ys.length) H):=by
 intro pins s σ H xs us Q I r h;obtain⟨p,ys,rfl,hq,q⟩:=h;obtain⟨u,rfl,rx⟩:=vals1 r;cases rx;have hn:=Gs;rcases hq with hq|hq
 ·obtain⟨its,r',pl,hz⟩:=I.list hq;have hlen:=r'.length;exact Calls.call_len_list pl.isList (by simp only [size_toArray] <;> omega) ⟨.int ys.length,H,I.tok _,⟨s.toks+1,by rw[size_toArray,hlen]⟩,q⟩
 ·obtain⟨its,r',pl,hz⟩:=I.tuple hq;have hlen:=r'.length;exact len_tuple pl (by simp only [size_toArray] <;> omega) ⟨.int ys.length,H,I.tok _,⟨s.toks+1,by rw[size_toArray,hlen]⟩,q⟩
theorem aA:kU X (.builtin "len") (fun xs H Q=>∃ z,xs=[.str z]/\z.length<=sizeLine/\Q (.int z.length) H):=by
 intro pins s σ H xs us Q I r h;obtain⟨z,rfl,hz,q⟩:=h;obtain⟨u,rfl,t,rfl⟩:=vals1 r;have hn:=Gs;exact len_str (by omega) ⟨.int z.length,H,I.tok _,⟨_,rfl⟩,q⟩
theorem kU.or {f:Value}{r r':List V->Hp->VK->Prop}(h:kU X f r)(h':kU X f r'):kU X f (fun xs H Q=>r xs H Q\/r' xs H Q):=by
 intro pins s σ H xs us Q I rs q;rcases q with q|q
 ·exact h pins s σ H xs us Q I rs q
 ·exact h' pins s σ H xs us Q I rs q
theorem D5:kU X (.type "list") (fun xs H Q=>∃ p ys,xs=[.ref p]/\(aO X.K H p ys\/ij X.K H p ys)/\∀ l,H l=none->Q (.ref l) (upd H l (.lst ys))):=by
 intro pins s σ H xs us Q I r h;obtain⟨p,ys,rfl,hq,q⟩:=h;obtain⟨u,rfl,rx⟩:=vals1 r;cases rx;have fin:∀(its:List Value),Vals ys its->ys.length<=sizeLine->∀(h':Heap)(c':Nat),(∀ b o',s.heap.get? b=some o'->h'.get? b=some o') ->
   h'.get? s.heap.objs.size=some { cls:=.type "list",dict:=none,data:=.seq its.toArray c',slots:=#[] }->EP X pins σ Q (.ref s.heap.objs.size) { s with heap:=h' }:=fun its r' hz h' c' kp e =>
  ⟨.ref s.heap.objs.size,_,I.laid (t':=s.toks) kp (R' _) (show fA X.prog X.w _ h' _ (.lst ys) from⟨hz,its,c',r',e⟩),rfl,q _ (I.hok.fresh (R' _))⟩
 rcases hq with hq|hq
 ·obtain⟨its,r',pl,hz⟩:=I.list hq;have hlen:=r'.length;obtain⟨o,ho,hc,n,hd⟩:=pl.isList;exact call_list_seq p (.inl rfl) ho hc hd (fun h' c' kp e=>fin its r' hz h' c' kp e) (by simp only [size_toArray] <;> omega)
 ·obtain⟨its,r',pl,hz⟩:=I.tuple hq;have hlen:=r'.length;obtain⟨o,ho,hc,n,hd⟩:=pl;exact call_list_seq p (.inr rfl) ho hc hd (fun h' c' kp e=>fin its r' hz h' c' kp e) (by simp only [size_toArray] <;> omega)
noncomputable def tyV (K:Frag)(T:String)(x:V)(H:Hp):Prop:=match x with
 |.str _=>T = "str"
 |.int _=>T = "int"
 |.ref p=>(T = "list"/\∃ xs,aO K H p xs)\/(T = "tuple"/\∃ o,K.lookup p=some o/\o.cls=.type "tuple"/\o.dict=none) \/
   (T = "dict"/\((∃ kvs,H p=some (.dK kvs))\/∃ kvs,H p=some (.dT kvs)))\/(T = "set"/\∃ S n,H p=some (.set S n))
 |_=>False
theorem adm {pins:List (Addr×Obj)}{σ:St}{H:Hp}{s:Shared}{T:String}{x:V}{v:Value}(I:Inv X pins σ H s)(r:RelV x v)(ty:tyV X.K T x H) :
  s.TypeIs v T/\∀ a,v=.ref a->∃ ob,s.heap.get? a=some ob/\ob.dict=none:=by
 cases x with
 |str z =>
  obtain⟨t,rfl⟩:=r;cases (show T = "str" from ty);exact⟨typeIs_str s z t,fun _ e=>nomatch e⟩
 |int i =>
  obtain⟨t,rfl⟩:=r;cases (show T = "int" from ty);exact⟨typeIs_int s i t,fun _ e=>nomatch e⟩
 |ref p =>
  cases r;rcases ty with ⟨rfl,xs,hq⟩|⟨rfl,o,hk,hc,hd⟩|⟨rfl,hk⟩|⟨rfl,S,n,hk⟩
  ·obtain⟨its,_,pl,_⟩:=I.list hq;refine⟨pl.isList.typeIs,fun a e=>?_⟩;cases e;obtain⟨o,n,e,c,hd,_⟩:=pl;exact⟨o,e,hd⟩
  ·refine⟨⟨o,I.DQ p o hk,hc⟩,fun a e=>?_⟩;cases e;exact⟨o,I.DQ _ o hk,hd⟩
  ·have z:∃ o,s.heap.get? p=some o/\o.ExactDict:=by
    rcases hk with ⟨kvs,hk⟩|⟨kvs,hk⟩
    ·obtain⟨_,_,_,_,o,_,_,e,ex,_⟩:=I.hok p _ hk;exact⟨o,e,ex⟩
    ·obtain⟨_,_,_,_,o,_,_,e,ex,_⟩:=I.hok p _ hk;exact⟨o,e,ex⟩
   obtain⟨o,e,ex⟩:=z;refine⟨⟨o,e,ex.1⟩,fun a e2=>?_⟩;cases e2;exact⟨o,e,ex.2.1⟩
  ·obtain⟨o,_,_,_,e,ex,_⟩:=I.hok p _ hk;refine⟨⟨o,e,ex.1⟩,fun a e2=>?_⟩;cases e2;exact⟨o,e,ex.2.1⟩
 |_=>exact False.elim ty
noncomputable def amE (K:Frag)(T:String)(r:V->List V->Hp->VK->Prop)(to:TE):TE:=fun σ H Q=>to σ H fun x H1=>tyV K T x H1/\r x [] H1 Q
noncomputable def tBM (K:Frag)(T:String)(r:V->List V->Hp->VK->Prop)(to:TE)(t:TA):TE:=fun σ H Q=>to σ H fun x H1=>tyV K T x H1/\t σ H1 fun xs H2=>r x xs H2 Q
variable {o e:Expr} {es:List Expr} {to:TE} {t:TA} {name:Str} {apos cpos:Pos} {T id:String} {r:V->List V->Hp->VK->Prop}
theorem Qs (pa:PlainAttrs T)(slot:Slot T name id)(hty:typeOf (.builtin id)=pure (.type "method_descriptor"))(hm:MtR X id r)(ho:PE X o to)
  (hbase:attributeBase o name X.env (eval o X.env)=eval o X.env:=by rfl) (hline:(apos.endLine==cpos.line)=true:=by rfl):PE X (.Call (.Attribute o name apos) [] [] cpos) (amE X.K T r to):=by
 intro pins s σ H Q I h;refine wpAny_Call_method0_late hbase hline (cQ (ho pins s σ H _ I h) fun v s1 ⟨x,H1,I1,r1,ty,q1⟩=>?_);obtain⟨h1,h2⟩:=adm I1 r1 ty;exact⟨T,id,pa,slot,hty,h1,h2,Calls.callWith_builtin rfl (PySem.evalArgs_none (hm pins s1 σ H1 x [] v [] Q I1 r1 .nil q1))⟩
theorem eE (pa:PlainAttrs T)(slot:Slot T name id)(hty:typeOf (.builtin id)=pure (.type "method_descriptor"))(hm:MtR X id r)(ho:PE X o to)(ha:PA X (e::es) t)
  (hbase:attributeBase o name X.env (eval o X.env)=eval o X.env:=by rfl)
  (hfew:((backTo cpos (starEach (e::es) X.env)).all (fun x=>!x.1)&&(backToKw cpos (keywordEach [] X.env)).all (fun x=>x.1.isSome)
   && decide ((e::es).length+([]:List Keyword).length+(if([]:List Keyword).isEmpty then 0 else 1)<30))=true:=by rfl)
  (hline:(apos.endLine==cpos.line)=true:=by rfl) (hs:starEach (e::es) X.env=(false,eval e X.env)::starEach es X.env:=by rfl) (hplain:(backTo cpos (starEach es X.env)).any (·.1)=false:=by rfl) :
  PE X (.Call (.Attribute o name apos) (e::es) [] cpos) (tBM X.K T r to t):=by
 intro pins s σ H Q I h;refine wpAny_Call_method_late hbase hfew hline rfl (cQ (ho pins s σ H _ I h) fun v s1 ⟨x,H1,I1,r1,ty,q1⟩=>?_);obtain⟨h1,h2⟩:=adm I1 r1 ty;refine⟨T,id,pa,slot,hty,h1,h2,?_⟩;have hA:=ha cpos pins s1 σ H1 _ I1 q1;rw[hs]at hA ⊢;refine Calls.callWith_builtin (by show(false||(backTo cpos (starEach es X.env)).any (·.1))=false;rw[hplain] <;> rfl) (Calls.evalArgs_plain ?_);exact cQ hA fun us s2 ⟨vs,H2,I2,r2,q2⟩=>hm pins s2 σ H2 x vs v us Q I2 r1 r2 q2
end
end L2
namespace L2
open PySem PySem.Spec PyProof.Rows
noncomputable def MtM (X:Cx)(id:String)(r:V->List V->Hp->VK->Prop):Prop :=
 ∀(pins:List (Addr×Obj)) (s:Shared) (σ:St) (H:Hp) (x:V) (xs:List V) (v:Value) (us:List Value) (Q:VK),Inv X pins σ H s->RelV x v->Vals xs us->r x xs H Q ->
  wpAny (model X.prog X.w) X.A (call (.builtin id) (v::us)) (EP X pins σ Q) X.xe s
theorem Vals.one:∀{x:V} {us:List Value},Vals [x] us->∃ u,us=[u]/\RelV x u
 |_,_,.cons r .nil=>⟨_,rfl,r⟩
theorem Vals.two:∀{x y:V} {us:List Value},Vals [x,y] us->∃ u v,us=[u,v]/\RelV x u/\RelV y v
 |_,_,_,.cons r (.cons q .nil)=>⟨_,_,rfl,r,q⟩
theorem Vals.zero:∀{us:List Value},Vals [] us->us=[]
 |_,.nil=>rfl
theorem Vals.dropLast {xs:List V}{us:List Value}(h:Vals xs us):Vals xs.dropLast us.dropLast:=by
 induction h with
 |nil=>exact .nil
 |cons r t ih =>
  cases t with
  |nil=>exact .nil
  |cons q t'=>exact .cons r ih
theorem Vals.reverse {xs:List V}{us:List Value}(h:Vals xs us):Vals xs.reverse us.reverse:=by
 induction h with
 |nil=>exact .nil
 |cons r t ih=>rw[List.reverse_cons,List.reverse_cons];exact Vals.append ih (.cons r .nil)
theorem Vals.rep {xs:List V}{us:List Value}(h:Vals xs us):∀ k:Nat,Vals (List.replicate k xs).flatten (List.replicate k us).flatten
 |0=>.nil
 |k+1=>by
  rw[List.replicate_succ,List.replicate_succ,List.flatten_cons,List.flatten_cons];exact Vals.append h (Vals.rep h k)
theorem WW {α:Type}(l:List α):l.eraseIdx (l.length-1)=l.dropLast:=by
 induction l with
 |nil=>rfl
 |cons a r ih =>
  cases r with
  |nil=>rfl
  |cons b r =>
   have e:(a::b::r).length-1=((b::r).length-1)+1:=by
    have h1:(a::b::r).length=r.length+2:=rfl;have h2:(b::r).length=r.length+1:=rfl;omega
   rw[e,List.eraseIdx_cons_succ,ih]
   all_goals rfl
theorem foldl_rep (its:List Value):∀(k:Nat)(acc:List Value),
  List.foldl (fun x1 x2=>x1++x2) acc.toArray (List.replicate k its.toArray)=(acc++(List.replicate k its).flatten).toArray
 |0,acc=>by simp
 |k+1,acc=>by
  have e:acc.toArray++its.toArray=(acc++its).toArray:=by simp
  have e2:(acc++its)++(List.replicate k its).flatten=acc++(List.replicate (k+1) its).flatten:=by
   rw[List.replicate_succ,List.flatten_cons,List.append_assoc]
  rw[<-e2,<-foldl_rep its k (acc++its),<-e,List.replicate_succ,List.foldl_cons]
section
variable {X:Cx} {pins:List (Addr×Obj)} {σ:St} {H:Hp} {s:Shared} {l b:Addr} {xs ys zs:List V}
theorem Inv.adn {its its':List Value}{n:Nat}{f:Array Value->Array Value}{t':Nat}(I:Inv X pins σ H s)(hH:H l=some (.lst xs))
  (e:s.heap.get? l=some { cls:=.type "list",data:=.seq its.toArray n }) (hf:f its.toArray=its'.toArray) (hv:Vals ys its') (hz:ys.length<=sizeLine) :
  Inv X pins σ (upd H l (.lst ys)) { s with heap:=s.heap.update l (Obj.mapSeq f),toks:=t' }:=by
 have q:=PySem.IsL.update e f;rw[hf]at q;refine I.write (x:=l) (e:=l) (by rw[hH];exact trivial) (.inl rfl) (fun b' u hb hu=>(Heap.get?_update_other s.heap (Obj.mapSeq f) (Ne.symm hb)).trans hu) ⟨_,q⟩ ?_;exact⟨hz,its',_,hv,q⟩
theorem Inv.ake {its:List Value}{t':Nat}(I:Inv X pins σ H s)(hv:Vals ys its)(hz:ys.length<=sizeLine) :
  Inv X pins σ (upd H s.heap.objs.size (.lst ys)) { s with heap:=s.heap.push { cls:=.type "list",data:=.seq its.toArray },toks:=t' } :=
 I.laid (fun _ _ q=>L' _ q) (R' _) ⟨hz,its,0,hv,Heap.get?_push_size _ rfl⟩
theorem Inv.fresh (I:Inv X pins σ H s):H s.heap.objs.size=none:=I.hok.fresh (R' _)
theorem Inv.Qt (I:Inv X pins σ H s)(hH:H l=some (.lst xs)):xs.length<=sizeLine/\∃(its:List Value)(n:Nat),Vals xs its/\xs.length=its.length/\s.heap.get? l=some { cls:=.type "list",data:=.seq its.toArray n }:=by
 obtain⟨z,its,n,r,e⟩:=I.hok l _ hH;exact⟨z,its,n,r,r.length,e⟩
theorem KU {n:Nat}(h:n<=sizeLine):Builtin.List.listTooLong n=false:=by
 unfold Builtin.List.listTooLong;exact Y' (by omega)
end
section
variable {X:Cx}
inductive UX (x:V)(vs:List V)(H:Hp)(Q:VK):Prop
 |mk (l:_) (xs:_) (y:_) (dE:x=.ref l) (dF:vs=[y]) (eQ:H l=some (.lst xs)) (jv:xs.length<sizeLine) (pE:Q .non (upd H l (.lst (xs++[y])))):UX x vs H Q
noncomputable def afM :V->List V->Hp->VK->Prop:=fun x vs H Q=>UX x vs H Q
theorem a6:MtM X "list.append" afM:=by
 intro pins s σ H x vs v us Q I rx rv h;obtain⟨l,xs,y,rfl,rfl,hH,hz,q⟩:=h;cases rx;obtain⟨u,rfl,ru⟩:=rv.one;obtain⟨z,its,n,r,hl,e⟩:=I.Qt hH;refine call_meets F.slot_list_append ⟨_,e,rfl⟩ F.entry_list_append (F.args_list_append_2 _ _) (PySem.list_append l its.toArray n u (by rw[size_toArray];omega)) ⟨e,?_⟩;refine⟨.non,_,I.adn (its':=its++[u]) hH e (by simp) (r.append (.cons ru .nil)) ?_,rfl,q⟩;rw[T',length_singleton];omega
inductive ahk (x:V)(vs:List V)(H:Hp)(Q:VK):Prop
 |mk (l:_) (xs:_) (y:_) (dE:x=.ref l) (dF:vs=[]) (eQ:H l=some (.lst xs)) (jv:xs[xs.length-1]? = some y) (pE:Q y (upd H l (.lst xs.dropLast))):ahk x vs H Q
noncomputable def amF :V->List V->Hp->VK->Prop:=fun x vs H Q=>ahk x vs H Q
theorem ado:MtM X "list.pop" amF:=by
 intro pins s σ H x vs v us Q I rx rv h;obtain⟨l,xs,y,rfl,rfl,hH,hy,q⟩:=h;cases rx;have hus:=rv.zero;subst hus;obtain⟨z,its,n,r,hl,e⟩:=I.Qt hH;obtain⟨u,hu,ru⟩:=r.get hy;have hy':its.toArray[its.toArray.size-1]? = some u:=by
  show its.toArray[its.length-1]? = some u;rw[<-Array.getElem?_toList,<-hl];exact hu
 refine call_meets F.slot_list_pop ⟨_,e,rfl⟩ F.entry_list_pop (F.args_list_pop_1 _) (MeetsSeq.list_pop_last l its.toArray n u hy' (by rw[size_toArray];omega)) ⟨e,?_⟩;refine⟨y,_,I.adn (its':=its.dropLast) hH e ?_ r.dropLast ?_,ru,q⟩
 ·show its.toArray.eraseIdxIfInBounds (its.toArray.size-1)=its.dropLast.toArray;rw[size_toArray,List.eraseIdxIfInBounds_toArray,WW]
 ·rw[List.length_dropLast];omega
inductive Pf (x:V)(vs:List V)(H:Hp)(Q:VK):Prop
 |mk (l:_) (xs:_) (dE:x=.ref l) (dF:vs=[]) (eQ:H l=some (.lst xs)) (jv:Q .non (upd H l (.lst xs.reverse))):Pf x vs H Q
noncomputable def adp :V->List V->Hp->VK->Prop:=fun x vs H Q=>Pf x vs H Q
theorem WX:MtM X "list.reverse" adp:=by
 intro pins s σ H x vs v us Q I rx rv h;obtain⟨l,xs,rfl,rfl,hH,q⟩:=h;cases rx;have hus:=rv.zero;subst hus;obtain⟨z,its,n,r,hl,e⟩:=I.Qt hH;refine call_meets F.slot_list_reverse ⟨_,e,rfl⟩ F.entry_list_reverse (F.args_list_reverse_1 _) (AutoSeq1.list_reverse_list_0 l its.toArray n (by rw[size_toArray];omega)) ⟨e,?_⟩;refine⟨.non,_,I.adn (its':=its.reverse) hH e (by simp) r.reverse ?_,rfl,q⟩;rw[List.length_reverse];omega
inductive ZA (x:V)(vs:List V)(H:Hp)(Q:VK):Prop
 |mk (l:_) (xs:_) (dE:x=.ref l) (dF:vs=[]) (eQ:H l=some (.lst xs)) (jv:Q .non (upd H l (.lst []))):ZA x vs H Q
noncomputable def aia :V->List V->Hp->VK->Prop:=fun x vs H Q=>ZA x vs H Q
theorem adq:MtM X "list.clear" aia:=by
 intro pins s σ H x vs v us Q I rx rv h;obtain⟨l,xs,rfl,rfl,hH,q⟩:=h;cases rx;have hus:=rv.zero;subst hus;obtain⟨z,its,n,r,hl,e⟩:=I.Qt hH;refine call_meets F.slot_list_clear ⟨_,e,rfl⟩ F.entry_list_clear (F.args_list_clear_1 _) (AutoSeq1.list_clear_list_0 l its.toArray n (by rw[size_toArray];omega)) ⟨e,?_⟩;exact⟨.non,_,I.adn (its':=[]) (ys:=[]) hH e rfl .nil (Nat.zero_le _),rfl,q⟩
inductive ahl (x:V)(y:V)(H:Hp)(Q:VK):Prop
 |mk (l:_) (b:_) (xs:_) (zs:_) (dE:x=.ref l) (dF:y=.ref b) (eQ:H l=some (.lst xs)) (jv:H b=some (.lst zs)) (pE:xs.length+zs.length<=sizeLine) (Pa:∀ p,H p=none->Q (.ref p) (upd H p (.lst (xs++zs)))):ahl x y H Q
noncomputable def amG :R2:=fun x y H Q=>ahl x y H Q
theorem a9:vE X (binaryOp .Add) amG:=by
 intro pins s σ H x y v u Q I rx ry h;obtain⟨l,b,xs,zs,rfl,rfl,hH,hB,hz,q⟩:=h;cases rx;cases ry;obtain⟨z,its,n,r,hl,e⟩:=I.Qt hH;obtain⟨z2,its2,n2,r2,hl2,e2⟩:=I.Qt hB;refine PySem.P.add_list e e2 ?_ (by rw[size_toArray,size_toArray];omega);have ea:its.toArray++its2.toArray=(its++its2).toArray:=by simp
 rw[ea];exact⟨.ref _,_,I.ake (t':=s.toks) (r.append r2) (by rw[T'];omega),rfl,q _ I.fresh⟩
noncomputable def amH:R2:=fun x y H Q=>∃ l k xs,x=.ref l/\y=.int k/\H l=some (.lst xs)/\-(2 ^ 63)<=k/\k<2 ^ 63/\xs.length * k.toNat<=sizeLine /\
 ∀ p,H p=none->Q (.ref p) (upd H p (.lst (List.replicate k.toNat xs).flatten))
theorem len_rep {α:Type}(xs:List α)(k:Nat):(List.replicate k xs).flatten.length=k * xs.length:=by
 induction k with
 |zero=>simp
 |succ k ih=>rw[List.replicate_succ,List.flatten_cons,T',ih,Nat.succ_mul,Nat.add_comm]
theorem pF:vE X (binaryOp .Mult) amH:=by
 intro pins s σ H x y v u Q I rx ry h;obtain⟨l,k,xs,rfl,rfl,hH,h1,h2,hz,q⟩:=h;cases rx;obtain⟨t,rfl⟩:=ry;obtain⟨z,its,n,r,hl,e⟩:=I.Qt hH;have hlen:its.toArray.size * k.toNat<=sizeLine:=by rw[size_toArray,<-hl];exact hz
 have amI:¬ its.toArray.size * k.toNat > (2 ^ 63-1) / 8:=by
  have:(sizeLine:Nat)<=(2 ^ 63-1) / 8:=by decide
  omega
 have hfit:¬(!Builtin.List.listFitsIndex k)=true:=by
  rw[fitsIndex_both h1 h2];exact Z'
 have akf:¬ Builtin.List.listTooLong (its.toArray.size * k.toNat)=true:=by
  rw[KU hlen];exact Z'
 have hnew:List.foldl (fun x1 x2=>x1++x2) #[] (List.replicate (if its.toArray.isEmpty=true then 0 else k.toNat) its.toArray)=(List.replicate k.toNat its).flatten.toArray:=by
  have f0:∀ m:Nat,List.foldl (fun x1 x2=>x1++x2) #[] (List.replicate m its.toArray)=(List.replicate m its).flatten.toArray:=fun m=>by
   have:=foldl_rep its m [];rw[nil_append]at this;exact this
  rw[f0];cases its with
  |nil=>simp
  |cons a r'=>rw[if_neg (by simp)]
 refine wpAny_binaryOp_repeat_ref (T:="list") (U:="int") (by decide) ⟨_,e,rfl⟩ (fun s'=>typeIs_int s' k t) noFill_list_mul F.fills_int_mul F.slot_int_rmul repeat_list F.slot_int_index.lookup
  (call_meets F.slot_int_rmul (typeIs_int s k t) F.entry_int_rmul (F.args_int_rmul_2 _ _) (int___rmul___int_list k t l its.toArray n)
   ⟨e,rfl,⟨_,e,rfl⟩,call_meets F.slot_list_mul ⟨_,e,rfl⟩ F.entry_list_mul (F.args_list_mul_2 _ _) (AutoListH.list___mul___list_int_3 l its.toArray n k t hfit amI akf) ⟨e,?_⟩⟩)
 rw[hnew];exact⟨.ref _,_,I.ake (t':=s.toks) (r.rep k.toNat) (by rw[len_rep,Nat.mul_comm];exact hz),rfl,q _ I.fresh⟩
end
section
variable {prog:Program} {w:World} {A:Around} {E:Value->Shared->Prop} {s:Shared}
theorem aaq (its its2:List Value)(a c:Nat):its.toArray.extract 0 a++its2.toArray++its.toArray.extract c its.toArray.size=(its.take a++its2++its.drop c).toArray:=by
 apply Array.toList_inj.mp
 first
  |(simp;exact List.take_of_length_le (by simp))
  |simp[List.take_of_length_le]
  |simp
theorem WY {a c n:Nat}(hac:a<=c)(hc:c<=n):sliceBounds (some (a:Int)) (some (c:Int)) none n=((a:Int),(c:Int),1):=by
 simp only [sliceBounds,Option.getD_none];have h1:¬((a:Int)<0):=by omega
 have h2:¬((c:Int)<0):=by omega
 simp only [h1,h2,if_false,show(1:Int) > 0 by decide,if_true]
 congr 1
 ·omega
 ·congr 1;omega
set_option maxRecDepth 100000 in
theorem N1 {l b sl:Addr}{items new:Array Value}{n n2:Nat}{vl vu:Value}{a c:Nat}{Q:Unit->Shared->Prop}
  (e:s.heap.get? l=some { cls:=.type "list",data:=.seq items n }) (e2:s.heap.get? b=some { cls:=.type "list",data:=.seq new n2 }) (hne:l≠b)
  (hs:s.heap.IsSliceOf sl vl vu .none) (pl:IsPart vl (some (a:Int))) (pu:IsPart vu (some (c:Int))) (hac:a<=c) (hc:c<=items.size)
  (hsz:items.size+new.size<=sizeLine) (h:Q () { s with heap:=s.heap.update l (Obj.mapSeq fun xs=>xs.extract 0 a++new++xs.extract c xs.size) }) :
  wpAny (model prog w) A (setItem (.ref l) (.ref sl) (.ref b)) Q E s:=by
 have hl:s.heap.IsList l items:=PySem.IsL.isList e;have hb:s.heap.IsList b new:=PySem.IsL.isList e2;obtain⟨os,hos,hcs,hds⟩:=id hs;have hTs:s.TypeIs (.ref sl) "slice":=⟨os,hos,hcs⟩;have hstep:¬((rawPart none==rawInt 0)=true):=Z';have hsame:Builtin.List.listSameRef (.ref l) (.ref b)=false:=by
  unfold Builtin.List.listSameRef;exact beq_eq_false_iff_ne.mpr hne
 have amJ:(max (a:Int) (c:Int)).toNat=c:=by omega
 have hz':((fun xs:Array Value=>xs.extract 0 a++new++xs.extract c xs.size) items).size<=sizeLine+1:=by
  simp only [Array.size_append,Array.size_extract];omega
 unfold setItem
 try with_reducible refine wpAny_holding ?_
 first|refine A' (P' ?_)|skip
 refine A' (wpAny_sequenceKey hl.typeIs (by decide) ?_);refine A' (wpAny_callSpecial?_slot (name:=Str.ofString "__setitem__") hl.typeIs slot_list_setitem
  (wpAny_call_entry slot_list_setitem hl.typeIs entry_list_setitem ?_ (args_list_setitem _ _ _)))
 show wpAny _ _ (Builtin.List.listSubscript? (.ref sl) >>= _) _ _ s;refine A' ?_;unfold Builtin.List.listSubscript?;refine A' (wpAny_specialOf hTs slice_no_index ?_);simp only [Option.isNone_none,if_true];refine P' ?_;show wpAny _ _ (typeOf (.ref sl) >>= _) _ _ s;refine A' (wpAny_typeOf hTs ?_)
 first
  |rw[if_neg (by decide)]
  |refine PySem.W.KFB.if_not (by decide) ?_
 rw[listSliceParts_eq];refine A' (A' (wpAny_field hos hds (x:=.none) rfl (A' (wpAny_listPart .none ?_))));rw[if_neg hstep];refine A' (wpAny_field hos hds (x:=vl) rfl (A' (wpAny_listPart pl ?_)));refine A' (wpAny_field hos hds (x:=vu) rfl (A' (wpAny_listPart pu (P' ?_))))
 first
  |simp only [hsame,Bool.false_eq_true,if_false]
  |refine PySem.W.KFB.if_not hsame ?_
  |(dsimp only;rw[if_neg (by rw[hsame];exact Z')])
 refine A' (m:=Builtin.List.listAllItems (.ref b) "must assign iterable to extended slice") ?_;unfold Builtin.List.listAllItems;refine A' (wpAny_typeOf hb.typeIs ?_)
 first
  |refine PySem.W.KFB.if_so (by decide) ?_
  |rw[if_pos (by decide)]
  |simp only [beq_self_eq_true,Bool.true_or,if_true]
 unfold Builtin.List.listItems;refine A' (wpAny_seqItems e2 rfl (P' ?_));refine A' (A' (wpAny_seqItems e rfl (P' ?_)));refine A' (wpAny_of_eq ((sliceIndices_raw (some (a:Int)) (some (c:Int)) none items.size (by simp)).trans (congrArg (pure:Int×Int×Int->Sem (Int×Int×Int)) (WY hac hc))) ?_);show wpAny _ _ (if((1:Int)==1)=true then _ else _) _ _ s;rw[if_pos (by decide)];refine A' (wpAny_rule ?_)
 first
  |simp only [KU hsz,Bool.false_eq_true,if_false]
  |refine PySem.W.KFB.if_not (KU hsz) ?_
 first|refine A' (P' ?_)|skip
 show wpAny _ _ (updateSeq l (fun xs=>xs.extract 0 ((a:Int)).toNat++new++xs.extract (max (a:Int) (c:Int)).toNat xs.size) >>= _) _ _ s;rw[amJ,Int.toNat_natCast];refine A' (wpAny_updateSeq (hz:=Nat.le_trans (Nat.le_add_right _ _) hsz) (_hz':=hz') e rfl ?_);refine A' (wpAny_letGo ?_)
 first
  |exact A' (P' (P' ⟨.none,rfl,P' h⟩))
  |exact P' ⟨.none,rfl,P' h⟩
end
section
variable {X:Cx}
theorem aar {pins:List (Addr×Obj)}{s:Shared}{σ:St}{H:Hp}{l b sl:Addr}{xs ys:List V}{a c:Int}{vl vu:Value}{Q:Unit->Shared->Prop}(I:Inv X pins σ H s)
  (hH:H l=some (.lst xs)) (hB:H b=some (.lst ys)) (hne:l≠b) (hs:s.heap.IsSliceOf sl vl vu .none) (ra:RelV (.int a) vl) (rc:RelV (.int c) vu) (h0:0<=a) (hac:a<=c) (hc:c<=xs.length)
  (hz:xs.length+ys.length<=sizeLine) (h:∀ s',Inv X pins σ (upd H l (.lst (xs.take a.toNat++ys++xs.drop c.toNat))) s'->Q () s') :
  wpAny (model X.prog X.w) X.A (setItem (.ref l) (.ref sl) (.ref b)) Q X.xe s:=by
 obtain⟨ta,rfl⟩:=ra;obtain⟨tc,rfl⟩:=rc;obtain⟨z,its,n,r,hl,e⟩:=I.Qt hH;obtain⟨z2,its2,n2,r2,hl2,e2⟩:=I.Qt hB;obtain⟨a',rfl⟩:=Int.eq_ofNat_of_zero_le h0;obtain⟨c',rfl⟩:=Int.eq_ofNat_of_zero_le (Int.le_trans h0 hac);simp only [Int.toNat_natCast]at h;refine N1 (a:=a') (c:=c') e e2 hne hs (.int _ _) (.int _ _) (by omega) (by rw[size_toArray];omega) (by rw[size_toArray,size_toArray];omega) (h _ ?_);refine I.adn (its':=its.take a'++its2++its.drop c') (t':=s.toks) hH e ?_ (Vals.append (Vals.append (r.take _) r2) (r.drop _)) ?_
 ·exact aaq its its2 a' c'
 ·rw[T',T',length_take,length_drop];omega
end
end L2
namespace Att
open PySem PySem.W PySem.Calls PyProof.Rows
theorem JT {P:Params}{h:Heap}:∀(ns:List Int)(vs:List Value),WellAll P h vs (ns.map WData.int)->IntsAre vs ns:=by
 intro ns
 induction ns with
 |nil =>
  intro vs w;rw[List.map_nil]at w;cases w;exact .nil
 |cons n ns ih =>
  intro vs w;rw[map_cons]at w;cases w with
  |cons a b =>
   cases a;exact .cons _ _ (ih _ b)
theorem aas {l:OpenLaw}{n:Nat}(hn:l.most=some n){P:Params}{h:Heap}{args:List WData}{vals:List Value}
  (hpre:l.row.toRowW.claim.pre args=true) (hwl:WellAll P h vals args) :
  ∃ a vs ns,vals=[Value.ref a]/\args=[WData.list (ns.map WData.int)]/\h.get? a=some { cls:=.type "list",data:=.seq vs.toArray }/\IntsAre vs ns/\ns.length<=n:=by
 have hsh:WShape.hasAll [] args [.list .int]=true:=(pre_splitW hpre).1;have hc:l.pre.holds [] { args:=args } = true:=(pre_splitW hpre).2;obtain⟨d,r,rfl,h1,h2⟩:=hasAllW_cons hsh;obtain rfl:=hasAllW_nil h2;obtain⟨xs,rfl,h3⟩:=hasW_list h1;obtain⟨ns,rfl⟩:=items_int h3;have hlen:ns.length<=n:=by
  unfold OpenLaw.pre at hc;have h4:(WTm.not (.lt (.lit (.int (n:Int))) (.len (.arg 0)))).holds [] { args:=[.list (ns.map .int)] } = true:=by
   have h4:=(holds_andW hc).1;rw[hn]at h4;exact h4
  have h5:=condW_of h4 (w_not (w_lt w_lit (w_len_list (w_arg rfl))));rw[J']at h5;refine Nat.le_of_not_lt fun q=>?_;have q':(n:Int)<((ns.length:Nat):Int):=by omega
  first
   |(rw[N' q']at h5;exact V' h5 (by decide))
   |(simp at h5;omega)
 cases hwl with
 |cons w1 w2 =>
  cases w2;cases w1 with
  |list ho hall=>exact⟨_,_,ns,rfl,rfl,ho,JT ns _ hall,hlen⟩
theorem aat (l:OpenLaw)(args:List WData):l.row.toRowW.claim.post args (.bool true) args=true :=
 postW_of (r:=l.row.toRowW) (X:=(true==true))
  (show WShape.has [] (.bool true) .bool=true by first|rfl|decide|simp[WShape.has,WShape.arms,WShape.armsAll])
  (show(WTm.eq .res (.lit (.bool true))).value [] { args:=args,res:=some (.bool true),after:=args } = some (.bool (true==true)) from w_eq_bool (w_res rfl) w_lit) rfl
theorem UY {l:OpenLaw}{n:Nat}{q:Program}{loose:List Str}{XP:(Str->Option Value)->Heap->Prop}{YP:World->Heap->Prop}{d:DefRec}
  (hn:l.most=some n) (hdf:d.params.defaults=[])
  (call:∀(w:World)(s₀ s₁:Shared)(mg mb:Str->Option Value)(fa:Addr)(o:Obj)(pm cd doc:Value)(a:Addr)(vs:List Value)(ns:List Int),
   Ground q loose [] XP w s₀ mg mb s₁.heap->YP w s₁.heap ->
   s₁.heap.get? fa=some o->o.data=.func (docDef d.name d.params d.body d.scope pm cd doc)->s₁.heap.CodeRec cd d.name->mg d.name=some (.ref fa) ->
   s₁.heap.get? a=some { cls:=.type "list",data:=.seq vs.toArray }->IntsAre vs ns->ns.length<=n->s₁.gens = #[] ->
   codeAny (model l.prog w) callerA (.call (.ref fa) ⟨[.ref a],[]⟩) (fun r s'=>r=.ok (.ret (.bool true))/\OldK s₁.heap s'.heap/\s'.os=s₁.os/\AllBare s'.gens) s₁) :
  WalkO q loose XP YP l.row.toRowW d [] (fun f vs=>PySem.call f vs):=by
 intro w s₀ s₁ mg mb G Y fa o pm cd doc dV kV ho hd hcd hD hmg hg args vals as hpre hlay hrd hwl hlo;obtain rfl:dV=.none:=Dflts.none hD hdf;obtain rfl:kV=.none:=Dflts.noKw hD;obtain⟨a,vs,ns,rfl,rfl,hobj,hints,hlen⟩:=aas hn hpre hwl;refine enter_call (codeAny_mono (call w s₀ s₁ mg mb fa o pm cd doc a vs ns G Y ho (fd_plain hd) hcd hmg hobj hints hlen hg) fun r s' hq=>?_);obtain⟨rfl,h2,h3,h4⟩:=hq;exact⟨.inl ⟨.bool true,.bool true,[],rfl,fun _=>rfl,.bool true,aat l _,fun _=>⟨List.Pairwise.nil,fun _ hm=>(nomatch hm)⟩⟩,h2,h3,h4⟩
section
variable {prog:Program} {w:World} {A:Around} {E:Value->Shared->Prop} {s:Shared} {K:Frag}
end
end Att
namespace L2
open PySem PySem.Spec PyProof.Rows
theorem Pg:∀{vs:List Value} {ns:List Int},IntsAre vs ns->Vals (ns.map V.int) vs
 |_,_,.nil=>.nil
 |_,_,.cons n t h=>.cons ⟨t,rfl⟩ (Pg h)
noncomputable def Only (H:Hp):Prop:=∀ b,H b=none\/∃ o xs,H b=some (.Zo o (.lst xs))
theorem ads {P:Program}{w:World}{K:Frag}{mg mb:Str->Option Value}{CX:CXT}{k:Nat}{fa a:Addr}{fd:FuncData}{x:Str}{sp:Sp}{s₁:Shared}{vs:List Value}{ns:List Int}
  (KX:K.In s₁.heap) (hns:s₁.heap.Ns mainGlobals mg) (hb:s₁.heap.Ns builtinsNs mb) (hbb:∀ x:Str,x ≠ "__name__"->mb x=bootBuiltins x) (hlim:s₁.heap.NoLimit) (hg:s₁.gens = #[])
  (ha:s₁.heap.get? a=some { cls:=.type "list",data:=.seq vs.toArray }) (hi:IntsAre vs ns) (hl:ns.length<=sizeLine) (hr:mP k callerA)
  (F:∀ base:Heap,K.In base->base.Ns mainGlobals mg->br P w K mg base CX k fa fd [x] sp) (hbind:∀(s:Shared)(u:Value),BindsTo s fd ⟨[u],[]⟩ [(x,u)])
  (hsp:∀ H:Hp,Only H->aO K H a (ns.map V.int)->sp [.ref a] H (fun v _=>v=.bl true) fun _ _ _=>False)
  (hCX:∀ H e s',CX [] H s₁ (fun _ _ _=>False) e s'->False) :
  codeAny (model P w) callerA (.call (.ref fa) ⟨[.ref a],[]⟩) (fun r s'=>r=.ok (.ret (.bool true))/\OldK s₁.heap s'.heap/\s'.os=s₁.os/\AllBare s'.gens) s₁:=by
 have rv:=Pg hi;have lenV:=hi.length;have core:∀ H:Hp,Only H->aO K H a (ns.map V.int)->Bl P w H s₁.heap->(∀ b,H b≠none->b=a)->(H a≠none->K.lookup a=none) ->
   codeAny (model P w) callerA (.call (.ref fa) ⟨[.ref a],[]⟩) (fun r s'=>r=.ok (.ret (.bool true))/\OldK s₁.heap s'.heap/\s'.os=s₁.os/\AllBare s'.gens) s₁:=by
  intro H hO hS hok hA hK;have ZC:∀{b:Addr} {o:Obj},s₁.heap.get? b=some o->H b=none->(Qk s₁.heap H).get? b=some o:=fun e n=>acV e n;have noA:∀{b:Addr} {o:Obj} {es:Array DictEntry} {ep:Nat},s₁.heap.get? b=some o->o.data=.dict es ep->H b=none:=fun {b o es ep} e d=>by
   cases q:H b with
   |none=>rfl
   |some u =>
    have e':b=a:=hA b (by rw[q];simp);subst e';rw[ha]at e;cases e;have d':Data.seq vs.toArray _=Data.dict es ep:=d;cases d'
  have nsK:∀{b:Addr} {m:Str->Option Value},s₁.heap.Ns b m->(Qk s₁.heap H).Ns b m:=fun {b m} ⟨o,es,ep,e,d,r⟩=>⟨o,es,ep,ZC e (noA e d),d,r⟩;have hKb:K.In (Qk s₁.heap H):=fun b o e=>ZC (KX b o e) (by
   cases q:H b with
   |none=>rfl
   |some u =>
    have e':b=a:=hA b (by rw[q];simp);subst e';rw[hK (by rw[q];simp)]at e;cases e)
  have hM:Mod K mg (Qk s₁.heap H):=⟨hKb,nsK hns,⟨mb,nsK hb,hbb⟩,let ⟨mc,h1,h2⟩:=hlim;⟨mc,nsK h1,h2⟩⟩;have e0:WO P w K mg (Qk s₁.heap H) callerA [] s₁ H:=⟨rfl,hM,fun b o e=>afC e,Nat.le_of_eq (aah _ _),trivial,fun b hb=>V' (show b∈([]:List Addr) from hb) (by simp),hok,.of_eq hg⟩;refine codeAny_mono ((F _ hKb (nsK hns)).run callerA [] s₁ H ⟨[.ref a],[]⟩ [.ref a] [.ref a] _ _ hr e0 (hbind s₁ (.ref a)) (.cons rfl .nil) (hsp H hO hS)) fun r s' h=>?_;cases r with
  |error e=>exact(hCX H e s' h).elim
  |ok fl =>
   cases fl with
   |next=>exact False.elim h
   |brk=>exact False.elim h
   |cont=>exact False.elim h
   |ret u =>
    obtain⟨v,H',os,bare,un,hok',r',q⟩:=h;have q':v=.bl true:=q;subst q';obtain rfl:u=Value.bool true:=r';refine⟨rfl,OldK.of_keep fun b o e=>?_,os,bare⟩;cases q:H b with
    |none=>exact un.keep b o e q (by intro z;exact V' (show b∈([]:List Addr) from z) (by simp)) (by simp)
    |some u =>
     rcases hO b with z|⟨ob,xs,z⟩
     ·rw[q]at z;cases z
     ·have z2:=un.NZ b ob _ z;obtain⟨e1,_⟩:=hok b _ z;obtain⟨e2,_⟩:=hok' b _ z2;rw[e]at e1;cases e1;exact e2
 cases hk:K.lookup a with
 |some o =>
  have e:=KX a o hk;rw[ha]at e;cases e;refine core (fun _=>none) (fun _=>.inl rfl) (.inr ⟨_,vs.toArray,_,hk,rfl,rfl,rfl,by rw[size_toArray,lenV];exact hl,by simpa using rv⟩) (fun b u z=>by have z':(none:Option HO)=some u:=z;cases z') (fun b z=>V' rfl z) fun z=>V' rfl z
 |none =>
  refine core (fun b=>if b=a then some (.Zo { cls:=.type "list",data:=.seq vs.toArray } (.lst (ns.map V.int))) else none) (fun b=>?_) (.inl (.inr ⟨{ cls:=.type "list",data:=.seq vs.toArray },if_pos rfl⟩)) (fun b u z=>?_) (fun b z=>?_) fun _=>hk
  ·by_cases hb:b=a
   ·exact .inr ⟨_,_,if_pos hb⟩
   ·exact .inl (if_neg hb)
  ·by_cases hb:b=a
   ·have z':=(if_pos hb).symm.trans z;cases z';subst hb;exact⟨ha,by rw[J'];exact hl,vs,_,rv,ha⟩
   ·have z':=(if_neg hb).symm.trans z;cases z'
  ·by_cases hb:b=a
   ·exact hb
   ·exact V' (if_neg hb) z
end L2
namespace L2
open PySem PySem.Spec PyProof.Rows
theorem afN {l:OpenLaw}{n k:Nat}{q:Program}{loose:List Str}{XP:(Str->Option Value)->Heap->Prop}{YP:World->Heap->Prop}{d:DefRec}{K:Params->Frag}{CX:World->CXT}{sp:World->Sp}{x:Str}
  (hn:l.most=some n) (hn2:n<=sizeLine) (hdf:d.params.defaults=[]) (hr:mP k callerA)
  (hY:∀(w:World)(h:Heap),YP w h->(K w.params).In h)
  (F:∀(w:World)(mg:Str->Option Value)(fa:Addr)(h:Heap),(K w.params).In h->h.Ns mainGlobals mg->mg d.name=some (.ref fa) ->
   ∃ fd:FuncData,(∀(s:Shared)(u:Value),BindsTo s fd ⟨[u],[]⟩ [(x,u)]) /\
    ∀ base:Heap,(K w.params).In base->base.Ns mainGlobals mg->br l.prog w (K w.params) mg base (CX w) k fa fd [x] (sp w))
  (hsp:∀(w:World)(H:Hp)(a:Addr)(ns:List Int),ns.length<=n->Only H->aO (K w.params) H a (ns.map V.int)->sp w [.ref a] H (fun v _=>v=.bl true) fun _ _ _=>False)
  (hCX:∀(w:World)(H:Hp)(s:Shared)(e:Value)(s':Shared),CX w [] H s (fun _ _ _=>False) e s'->False) :
  WalkO q loose XP YP l.row.toRowW d [] (fun f vs=>PySem.call f vs):=by
 refine Att.UY hn hdf fun w s₀ s₁ mg mb fa o pm cd doc a vs ns G Y ho hd hcd hmg hobj hints hlen hg=>?_;have KX:=hY w _ Y;obtain⟨fd,hb,hF⟩:=F w mg fa _ KX G.T.g hmg;exact ads KX G.T.g G.T.b G.T.builtins G.T.nolimit hg hobj hints (Nat.le_trans hlen hn2) hr hF hb (fun H hO hS=>hsp w H a ns hlen hO hS) fun H e s'=>hCX w H s₁ e s'
end L2
namespace L2
open PySem PySem.Spec PyProof.Rows
noncomputable def inClass (s:Stmt)(j:Nat):Stmt:=match s with
 |.ClassDef _ _ _ body _ _ _ _ _ _ _=>body.getD j (.Pass ⟨0,0,0,0⟩)
 |_=>.Pass ⟨0,0,0,0⟩
noncomputable def aC (s:Stmt):Arguments:=match s with
 |.FunctionDef _ a _ _ _ _ _ _ _ _=>a
 |_=>{ posonlyargs:=[],args:=[],vararg:=none,kwonlyargs:=[],kw_defaults:=[],kwarg:=none,defaults:=[] }
noncomputable def ay (s:Stmt):List Stmt:=match s with
 |.FunctionDef _ _ b _ _ _ _ _ _ _=>b
 |_=>[]
noncomputable def ai (s:Stmt):Scope:=match s with
 |.FunctionDef _ _ _ _ _ _ sc _ _ _=>sc
 |_=>{ kind:=.function,names:=[],isGenerator:=false,isCoroutine:=false }
noncomputable abbrev fK:CXT:=fun _ _ _ _ _ _=>False
noncomputable abbrev E0:XK:=fun _ _ _=>False
theorem au {X:Cx}:Passes fK X E0:=fun _ _ _ _ _ _ _ h=>h.elim
structure gU (K:Frag)(x qual:Str)(st:Stmt)(f:Addr)(fd:FuncData):Prop where
 ex:∃(oc:Value)(od:Option Addr)(kV doc pm:Value)(an:Option Addr)(cdv ct:Value)(osl:Array (Option Value)),
  fd=fnOf x qual (aC st) (ay st) (ai st) .none kV doc pm an cdv ct/\K.lookup f=some ⟨oc,od,.func fd,osl⟩/\codeIn K cdv qual=true
 kp:keepIn K (.ref f)=true
section
variable {P:Program} {w:World} {K:Frag} {mg:Str->Option Value} {base:Heap}
theorem gU.ok {x qual:Str}{st:Stmt}{f:Addr}{fd:FuncData}{N ps:List Str}{k:Nat}{sp:Sp}(F:gU K x qual st f fd)(S:aF N ps (ai st))(len:∀ vs H Q E,sp vs H Q E->vs.length=ps.length)
  (hbody:∀(cdv:Value)(A:Around)(outer:List Env)(s:Shared)(H:Hp)(vs:List V)(Q:VK)(E:XK),mP k (A.deeper (envOfC qual (ai st) s.heap.objs.size f cdv))->sp vs H Q E ->
   ∃ t,WB (WR fK P w K mg base N qual (ai st) f cdv A outer s H E).nox (ay st) t/\t { nx:=fun _ H'=>Q .non H',rt:=Q } (start N vs) H):br P w K mg base fK (k+1) f fd ps sp:=by
 obtain⟨oc,od,kV,doc,pm,an,cdv,ct,osl,rfl,lk,hcd⟩:=F.ex;refine ahd lk hcd S len fun A outer s H vs Q E hr hsp=>?_;obtain⟨t,h,q⟩:=hbody cdv A outer s H vs Q E hr hsp;exact⟨t,h.nox,q⟩
theorem gU.binds {x qual:Str}{st:Stmt}{f:Addr}{fd:FuncData}{ps:List Str}(F:gU K x qual st f fd)
  (h:∀(kV doc pm:Value)(an:Option Addr)(cdv ct:Value)(us:List Value),us.length=ps.length->bindArgs (fnOf x qual (aC st) (ay st) (ai st) .none kV doc pm an cdv ct) ⟨us,[]⟩=pure (ps.zip us)):Binds K fd ps []:=by
 obtain⟨oc,od,kV,doc,pm,an,cdv,ct,osl,rfl,lk,hcd⟩:=F.ex;exact .all (h kV doc pm an cdv ct)
theorem aS {x qual:Str}{st:Stmt}{f:Addr}{oc:Value}{od an:Option Addr}{osl:Array (Option Value)}{kV doc pm cdv ct:Value}(l:K.lookup f=some ⟨oc,od,.func (fnOf x qual (aC st) (ay st) (ai st) .none kV doc pm an cdv ct),osl⟩)
  (c:codeIn K cdv qual=true) (k:keepIn K (.ref f)=true):gU K x qual st f (fnOf x qual (aC st) (ay st) (ai st) .none kV doc pm an cdv ct):=⟨⟨oc,od,kV,doc,pm,an,cdv,ct,osl,rfl,l,c⟩,k⟩
end
theorem yi {A:Around}{k:Nat}(hr:mP k A):A.units+1<cLine:=Nat.lt_of_le_of_lt (Nat.add_le_add_left (by decide:1<=64) _) hr.units
theorem aQ {n:Nat}(h:n<=1000):n<sizeLine:=Nat.lt_of_le_of_lt h (by decide)
section
variable {X:Cx}
theorem pv (i:Nat){x:Str}{pos:Pos}(hN:X.N[i]? = some x:=by rfl)(hv:Vis X.env.scope x:=by first|exact Or.inl rfl|exact Or.inr (Or.inl rfl)|exact Or.inr (Or.inr rfl))(hd:(x==("__debug__":Str))=false:=by decide)
  (hcd:(x==("__classdict__":Str))=false:=by decide):PE X (.Name x pos) (ajP i):=ahW hN hv hd hcd
end
theorem cv {A B:Prop}(h:B):if false=true then A else B:=by
 rw[if_neg Z'];exact h
theorem pG {A B:Prop}(h:A):if true=true then A else B:=by
 rw[if_pos rfl];exact h
theorem aZ {c A B:Prop}[Decidable c](h1:c->A)(h2:¬ c->B):if c then A else B:=by
 by_cases h:c
 ·rw[if_pos h];exact h1 h
 ·rw[if_neg h];exact h2 h
noncomputable def ao (H H':Hp):Prop:=∀ b o,H b=some o->H' b=some o
theorem ao.refl (H:Hp):ao H H:=fun _ _ h=>h
theorem ao.trans {H H1 H2:Hp}(a:ao H H1)(b:ao H1 H2):ao H H2:=fun c o h=>b c o (a c o h)
theorem ao.free {H H':Hp}(e:ao H H'){l:Addr}(h:H' l=Option.none):H l=Option.none:=by
 cases q:H l with
 |none=>rfl
 |some o =>
  rw[e l o q]at h;cases h
theorem ao.seq {K:Frag}{H H':Hp}{a:Addr}{xs:List V}(e:ao H H')(h:aO K H a xs):aO K H' a xs:=by
 rcases h with (h|⟨o,h⟩)|h
 ·exact .inl (.inl (e _ _ h))
 ·exact .inl (.inr ⟨o,e _ _ h⟩)
 ·exact .inr h
end L2
set_option maxHeartbeats 4000000
namespace L2
open PySem PySem.Spec PyProof.Rows
noncomputable def dh (env:Env):List (Str×NameKind)->List (Str×Addr)->List (Str×Addr)
 |[],acc=>acc
 |p::l,acc=>dh env l (if p.2 == .free then(p.1,(env.cells.lookup p.1).getD 0)::acc else acc)
theorem Qu {env:Env}{scope:Scope}(h:∀ p∈scope.names,p.2=.free->∃ c,env.cells.lookup p.1=some c):closureFor scope env=pure (dh env scope.names []):=by
 have go:∀(l:List (Str×NameKind)) (acc:List (Str×Addr)),(∀ p∈l,p.2=.free->∃ c,env.cells.lookup p.1=some c) ->
   (forIn l acc fun(p:Str×NameKind) cs=>if(p.2==NameKind.free)=true then(cellOf env p.1 >>= fun a=>pure (ForInStep.yield ((p.1,a)::cs))) else pure (ForInStep.yield cs))=(pure (dh env l acc):Sem (List (Str×Addr))):=by
  intro l
  induction l with
  |nil=>intro acc _;rfl
  |cons p l ih =>
   intro acc hl;rw[List.forIn_cons];have hr:=fun q hq=>hl q (mem_cons_of_mem _ hq)
   by_cases hk:p.2=.free
   ·obtain⟨c,hc⟩:=hl p mem_cons_self hk;have e1:(p.2==NameKind.free)=true:=by rw[hk];rfl
    rw[if_pos e1];have e2:cellOf env p.1=pure c:=by unfold cellOf;rw[hc]
    rw[e2,pure_bind,pure_bind];show forIn l ((p.1,c)::acc) _=_;rw[ih _ hr];show _=pure (dh env l (if p.2 == .free then(p.1,(env.cells.lookup p.1).getD 0)::acc else acc));rw[if_pos e1,hc];rfl
   ·have e1:¬(p.2==NameKind.free)=true:=by intro z;exact hk (by simpa using z)
    rw[if_neg e1,pure_bind];show forIn l acc _=_;rw[ih _ hr];show _=pure (dh env l (if p.2 == .free then(p.1,(env.cells.lookup p.1).getD 0)::acc else acc));rw[if_neg e1]
 have e:=go scope.names [] h;unfold closureFor;show(forIn scope.names ([]:List (Str×Addr)) _ >>= fun r=>pure r)=_;rw[bind_pure];exact e
theorem Gw {env:Env}{x:Str}:∀(l:List (Str×NameKind)) (acc:List (Str×Addr)) {c:Addr},(dh env l acc).lookup x=some c->acc.lookup x=some c\/((x,NameKind.free)∈l/\c=(env.cells.lookup x).getD 0)
 |[],acc,c,h=>.inl h
 |p::l,acc,c,h=>by
  rcases Gw l _ h with z|⟨z,e⟩
  ·by_cases hk:(p.2==NameKind.free)=true
   ·rw[if_pos hk,List.lookup_cons]at z
    by_cases hx:(x==p.1)=true
    ·rw[hx]at z;have e:x=p.1:=by simpa using hx
     have e2:p.2=.free:=by simpa using hk
     refine .inr ⟨?_,?_⟩
     ·rw[e,<-e2];exact mem_cons_self
     ·rw[e];exact(W' z).symm
    ·have hx':(x==p.1)=false:=by simpa using hx
     rw[hx']at z;exact .inl z
   ·rw[if_neg hk]at z;exact .inl z
  ·exact .inr ⟨mem_cons_of_mem _ z,e⟩
theorem yj {env:Env}{x:Str}:∀(l:List (Str×NameKind)) (acc:List (Str×Addr)),((acc.lookup x).isSome=true\/(x,NameKind.free)∈l)->((dh env l acc).lookup x).isSome=true
 |[],acc,h=>by
  rcases h with h|h
  ·exact h
  ·cases h
 |p::l,acc,h=>by
  refine yj l _ ?_;rcases h with h|h
  ·left
   by_cases hk:(p.2==NameKind.free)=true
   ·rw[if_pos hk,List.lookup_cons];cases (x==p.1) with
    |true=>rfl
    |false=>exact h
   ·rw[if_neg hk];exact h
  ·rcases List.mem_cons.mp h with e|h
   ·left
    have e1:p.1=x:=by rw[<-e]
    have e2:(p.2==NameKind.free)=true:=by rw[<-e];rfl
    rw[if_pos e2,List.lookup_cons,e1];simp
   ·exact .inr h
theorem gi {env:Env}{x:Str}{k:NameKind}:∀(l:List (Str×NameKind)),
  (l.map fun(n,k)=>if(k==NameKind.free&&env.scope.kind == .function&&env.kindOf n==some .cell) then(n,NameKind.cell) else(n,k)).lookup x=some k ->
   l.lookup x=some k\/(k=.cell/\l.lookup x=some .free)
 |[],h=>by cases h
 |(n,q)::l,h=>by
  rw[map_cons]at h;cases hx:(x==n) with
  |true =>
   rw[List.lookup_cons,hx]
   by_cases hc:(q==NameKind.free&&env.scope.kind == .function&&env.kindOf n==some .cell)=true
   ·simp only [hc,if_true,List.lookup_cons,hx]at h;have e:q=.free:=by
     have:=(Bool.and_eq_true_iff.mp (Bool.and_eq_true_iff.mp hc).1).1
     simpa using this
    right
    exact⟨(W' h).symm,by rw[e]⟩
   ·have hc':(q==NameKind.free&&env.scope.kind == .function&&env.kindOf n==some .cell)=false:=by simpa using hc
    simp only [hc',Bool.false_eq_true,if_false,List.lookup_cons,hx]at h;exact .inl h
  |false =>
   rw[List.lookup_cons,hx];refine gi (env:=env) l ?_
   by_cases hc:(q==NameKind.free&&env.scope.kind == .function&&env.kindOf n==some .cell)=true
   ·simp only [hc,if_true,List.lookup_cons,hx]at h;exact h
   ·have hc':(q==NameKind.free&&env.scope.kind == .function&&env.kindOf n==some .cell)=false:=by simpa using hc
    simp only [hc',Bool.false_eq_true,if_false,List.lookup_cons,hx]at h;exact h
structure Bk where
 C:Addr
 s₂:Shared
 asV:Hp
 fp:List Addr
 xe:Value->Shared->Prop
noncomputable def bg (X:Cx)(cn:List Str)(scope:Scope)(b:Bk):Cx where
 prog:=X.prog
 w:=X.w
 K:=X.K
 mg:=X.mg
 base:=X.base
 A:=X.A
 N:=cn++X.N
 s₀:=b.s₂
 H₀:=b.asV
 env:=compEnvC scope (dh X.env scope.names []) b.C X.env
 outer:=X.stack
 stack:=X.stack
 ex:=b.fp
 fn:=fun _=>false
 calm:=X.calm
 pn:=[]
 xe:=b.xe
noncomputable def adt (sc:Scope)(N:List Str)(scope:Scope):Bool :=
 (scope.kind == .function) &&
 (scope.names.all fun p=>(p.2 != .cell)&&((p.2 != .free)||(sc.names.lookup p.1==some .cell)||(sc.names.lookup p.1==some .free))&&((p.2 != .local)||(scope.names.lookup p.1==some .local))) &&
 (N.all fun x=>scope.names.lookup x != some .local)
structure bY (sc:Scope)(N:List Str)(scope:Scope):Prop where
 kind:scope.kind=.function
 Qv:∀ p∈scope.names,p.2≠.cell
 free:∀ p∈scope.names,p.2=.free->sc.names.lookup p.1=some .cell\/sc.names.lookup p.1=some .free
 loc:∀ p∈scope.names,p.2=.local->scope.names.lookup p.1=some .local
 apart:∀ x∈N,scope.names.lookup x≠some .local
theorem bY.of {sc:Scope}{N:List Str}{scope:Scope}(h:adt sc N scope=true):bY sc N scope:=by
 unfold adt at h;rw[Bool.and_eq_true,Bool.and_eq_true]at h;obtain⟨⟨h1,h2⟩,h3⟩:=h;rw[all_eq_true]at h2 h3;refine⟨by simpa using h1,fun p hp=>?_,fun p hp e=>?_,fun p hp e=>?_,fun x hx=>?_⟩
 ·have:=h2 p hp;rw[Bool.and_eq_true,Bool.and_eq_true]at this
  simpa using this.1.1
 ·have:=h2 p hp;rw[Bool.and_eq_true,Bool.and_eq_true]at this;have q:=this.1.2;rw[e]at q;rw[Bool.or_eq_true,Bool.or_eq_true]at q;rcases q with (q|q)|q
  ·exact V' q (by decide)
  ·exact .inl (by simpa using q)
  ·exact .inr (by simpa using q)
 ·have:=h2 p hp;rw[Bool.and_eq_true,Bool.and_eq_true]at this;have q:=this.2;rw[e]at q;rw[Bool.or_eq_true]at q;rcases q with q|q
  ·exact V' q (by decide)
  ·simpa using q
 ·have:=h3 x hx
  simpa using this
section
variable {X:Cx} {pins:List (Addr×Obj)} {σ:St} {H:Hp}
theorem kn {l:List (Str×NameKind)}{x:Str}{k:NameKind}(h:l.lookup x=some k):(x,k)∈l:=PySem.mem_of_lookup h
theorem Inv.block {s₂:Shared}{h₁:Heap}{tk:Nat}{cn:List Str}{scope:Scope}{fp:List Addr}{xe:Value->Shared->Prop}{C D:Addr}{m:Str->Option Value}
  (I:Inv X pins σ H s₂) (F:bY X.env.scope X.N scope) (hc:X.calm=true) (hf:∀ b∈fp,jZ X pins H b) (hfl:∀ b∈fp,b<s₂.heap.objs.size)
  (hC:s₂.heap.objs.size<=C) (hD:s₂.heap.objs.size<=D) (hDC:D≠C) (hn:h₁.Ns C m) (old:∀ b o,s₂.heap.get? b=some o->h₁.get? b=some o)
  (hacc:h₁.get? D=some { cls:=.type "list",data:=.seq ([]:List Value).toArray 0 }) :
  Inv (bg X cn scope ⟨C,s₂,H,fp,xe⟩) [] (List.replicate cn.length none++σ) (upd H D (.lst [])) { s₂ with heap:=h₁,toks:=tk }:=by
 have vF:∀ x,((bg X cn scope ⟨C,s₂,H,fp,xe⟩).env.kindOf x=some .cell\/(bg X cn scope ⟨C,s₂,H,fp,xe⟩).env.kindOf x=some .free)->(x,NameKind.free)∈scope.names:=by
  intro x hx;have hx':(relabel scope X.env).names.lookup x=some .cell\/(relabel scope X.env).names.lookup x=some .free:=hx;rcases hx' with z|z
  ·rcases gi scope.names z with z|⟨_,z⟩
   ·exact V' rfl (F.Qv _ (kn z))
   ·exact kn z
  ·rcases gi scope.names z with z|⟨e,_⟩
   ·exact kn z
   ·cases e
 have D6:∀ x,(x,NameKind.free)∈scope.names->X.env.kindOf x=some .cell\/X.env.kindOf x=some .free:=fun x hx=>F.free _ hx rfl;have gj:∀ x c,(dh X.env scope.names []).lookup x=some c->X.env.cells.lookup x=some c:=by
  intro x c e;rcases Gw _ _ e with z|⟨z,e2⟩
  ·cases z
  ·obtain⟨c',hc'⟩:=I.ok.has x (D6 x z);rw[hc']at e2 ⊢;rw[e2];rfl
 have amL:(bg X cn scope ⟨C,s₂,H,fp,xe⟩).fs=frs X.stack:=rfl;have aib:∀ b∈fp,b ∉ frs X.stack:=by
  intro b hb z;obtain⟨_,f1,f2,_⟩:=hf b hb;rcases List.mem_cons.mp (I.Ql b z) with e|e
  ·exact f1 e
  ·exact f2 e
 have WZ:∀ x c,X.env.cells.lookup x=some c->c<s₂.heap.objs.size:=by
  intro x c e;obtain⟨v,o,ho,_⟩:=I.cell x c e;exact S' ho
 have ok:(bg X cn scope ⟨C,s₂,H,fp,xe⟩).Ok:=by
  refine⟨I.ok.mod,?_,I.ok.glob,I.ok.blt,hC,fun x y c h1 h2=>I.ok.inj x y c (gj x c h1) (gj y c h2),fun x hx=>?_,fun x c z=>?_,fun _=>I.ok.hd hc,I.ok.frames,.inl rfl,fun b hb=>⟨?_,fun x c e=>?_⟩,
   fun b o e=>I.bs b o e,Nat.le_trans I.ok.WH I.sz,fun b o e hb=>?_,fun b hb=>?_,I.stack,I.Qm⟩
  ·show(relabel scope X.env).kind=.function;exact F.kind
  ·have:=yj (env:=X.env) (x:=x) scope.names [] (.inr (vF x hx));exact Option.isSome_iff_exists.mp this
  ·cases z
  ·exact Nat.ne_of_lt (Nat.lt_of_lt_of_le (hfl b hb) hC)
  ·exact(hf b hb).2.2.2.2.1 x c (gj x c e)
  ·have:X.base.objs.size<=X.s₀.heap.objs.size:=I.ok.WH;rcases (hf b hb).2.2.2.1 with z|z
   ·exact I.ok.UK b o e z
   ·exact V' (Nat.lt_of_lt_of_le (S' e) (Nat.le_trans I.ok.WH z)) (Nat.lt_irrefl _)
  ·exact aib b hb
 have hDn:H D=none:=I.hok.fresh hD;have aic:Bl X.prog X.w (upd H D (.lst [])) h₁:=I.hok.laid old hD ⟨Nat.zero_le _,[],0,.nil,hacc⟩;refine⟨ok,rfl,I.bare,Un.laid old hD hDn,⟨m,hn,fun i x v e1 e2 e3=>?_⟩,fun x c e=>?_,?_,fun x c e=>?_,fun p hp=>V' (show p∈([]:List (Addr×Obj)) from hp) (by simp),aic,?_⟩
 ·have hi:¬ i<cn.length:=by
   intro hi;rw[getElem?_append_left (by simpa using hi),List.getElem?_replicate]at e2;split at e2 <;> cases e2
  rw[getElem?_append_right (by simpa using hi),List.length_replicate]at e2;have e1':(cn++X.N)[i]? = some x:=e1;rw[getElem?_append_right (by omega)]at e1';obtain⟨m0,hm0,hl⟩:=I.loc;have hxN:x∈X.N:=X' e1';have hfr:(x,NameKind.free)∈scope.names:=by
   have e3':(relabel scope X.env).names.lookup x=some .local\/(relabel scope X.env).names.lookup x=some .cell\/(relabel scope X.env).names.lookup x=some .free:=e3;rcases e3' with z|z|z
   ·rcases gi scope.names z with z|⟨e,_⟩
    ·exact V' z (F.apart x hxN)
    ·cases e
   ·exact vF x (.inl z)
   ·exact vF x (.inr z)
  have hk:=D6 x hfr;have vis:Vis X.env.scope x:=by
   rcases hk with z|z
   ·exact .inr (.inl z)
   ·exact .inr (.inr z)
  obtain⟨u,r,lk⟩:=hl (i-cn.length) x v e1' e2 vis;refine⟨u,r,?_⟩;rcases lk with ⟨z,_⟩|⟨_,c,ec,z⟩
  ·rcases hk with q|q
   ·rw[z]at q;cases q
   ·rw[z]at q;cases q
  ·have hcl:(dh X.env scope.names []).lookup x=some c:=by
    obtain⟨c',e'⟩:=Option.isSome_iff_exists.mp (yj (env:=X.env) (x:=x) scope.names [] (.inr hfr));rw[e'];have:=gj x c' e';rw[ec]at this;exact this.symm
   refine .inr ⟨?_,c,hcl,?_⟩
   ·have e3':(relabel scope X.env).names.lookup x=some .local\/(relabel scope X.env).names.lookup x=some .cell\/(relabel scope X.env).names.lookup x=some .free:=e3;rcases e3' with y|y|y
    ·rcases gi scope.names y with y|⟨e,_⟩
     ·exact V' y (F.apart x hxN)
     ·cases e
    ·exact .inl y
    ·exact .inr y
   ·obtain⟨o,ho,hd⟩:=z;exact⟨o,old c o ho,hd⟩
 ·obtain⟨v,o,ho,hd⟩:=I.cell x c (gj x c e);exact⟨v,o,old c o ho,hd⟩
 ·show upd H D (.lst []) C=none;rw[ak (Ne.symm hDC)];exact I.hok.fresh hC
 ·rw[ak (Nat.ne_of_lt (Nat.lt_of_lt_of_le (WZ x c (gj x c e)) hD))];exact I.uJ x c (gj x c e)
 ·show(List.replicate cn.length none++σ).length=(cn++X.N).length;rw[T',List.length_replicate,T',I.len]
theorem Inv.Qw {s₂ s':Shared}{h':Heap}{cn:List Str}{scope:Scope}{fp:List Addr}{xe:Value->Shared->Prop}{C:Addr}{H':Hp}{σ':St}{pl:List (Addr×Obj)}
  (I:Inv X pins σ H s₂) (hf:∀ b∈fp,jZ X pins H b) (hC:s₂.heap.objs.size<=C) (J:Inv (bg X cn scope ⟨C,s₂,H,fp,xe⟩) pl σ' H' s') (sb:Heap.SameBut C s'.heap h') :
  Inv X pins σ H' { s' with heap:=h' }:=by
 have neC:∀ b o,s₂.heap.get? b=some o->b≠C:=fun b o e=>Nat.ne_of_lt (Nat.lt_of_lt_of_le (S' e) hC);have u:Un (frs X.stack) fp H H' s₂.heap s'.heap:=J.base;have un:Un (frs X.stack) fp H H' s₂.heap h' :=
  ⟨fun b o e n hb hx=>(sb.2 b (neC b o e)).trans (u.keep b o e n hb hx),
   fun b o e n hb hx=>by
   obtain⟨sl,q⟩:=u.slot b o e n hb hx;exact⟨sl,(sb.2 b (neC b o e)).trans q⟩,
   u.free,fun b o e hx=>by
   obtain⟨o',q⟩:=u.there b o e hx;exact⟨o',(sb.2 b (neC b o e)).trans q⟩,u.tups,u.NZ,u.Qj⟩
 have fC:H' C=none:=J.free;have hok:Bl X.prog X.w H' h':=fun b o e=>by
  refine(J.hok b o e).stay (fun c v hc q=>(sb.2 c ?_).trans q) (fun _ q=>q) fun _ _ q=>q;rintro rfl;rcases hc with z|z
  ·rw[<-z,fC]at e;cases e
  ·rw[fC]at z;cases z
 have os:s'.os=s₂.os:=J.os;refine I.call' (s':={ s' with heap:=h' }) os un hok J.bare fun b hb=>?_;obtain⟨_,f1,_,f3,f4,f5⟩:=hf b hb;exact⟨f3,f1,f4,f5⟩
end
end L2
namespace L2
open PySem PySem.Spec PyProof.Rows
theorem aau {prog:Program}{w:World}{A:Around}{R:Result->Shared->Prop}{s:Shared}{elt tg iter:Expr}{ifs:List Expr}{scope:Scope}{pos:Pos}{it acc:Value}{env:Env}(J:Nat->Shared->Prop)
  (turn:∀ n s,J n s->wpAny (model prog w) A (pyNext it) (fun r s₁=>(r=none/\R (.ok .next) s₁)\/∃ v,r=some v /\
   wpAny (model prog w) A (letOwnedTupleGo tg it v) (fun _ s₂=>wpAny (model prog w) A (assign tg env v) (fun _ s₃ =>
    wpAny (model prog w) A (forIn ifs true fun c r=>if r=true then do let ok <-isTrue c env (eval c env);pure (ForInStep.yield ok) else pure (ForInStep.yield r)) (fun ok s₄ =>
     if ok=true then wpAny (model prog w) A (eval elt env) (fun x s₅=>wpAny (model prog w) A (call (.builtin "list.append") [acc,x]) (fun _ s₆=>∃ m,m<n/\J m s₆) (notedBy (model prog w) A env fun e s'=>R (.error e) s') s₅)
      (notedBy (model prog w) A env fun e s'=>R (.error e) s') s₄
     else ∃ m,m<n/\J m s₄) (notedBy (model prog w) A env fun e s'=>R (.error e) s') s₃) (notedBy (model prog w) A env fun e s'=>R (.error e) s') s₂) (notedBy (model prog w) A env fun e s'=>R (.error e) s') s₁)
   (notedBy (model prog w) A env fun e s'=>R (.error e) s') s)
  (n:Nat) (h:J n s):codeAny (model prog w) A (.compLoop (.ListComp elt [⟨tg,iter,ifs,0⟩] scope pos) 0 it acc env) R s:=by
 refine codeAny_loop rfl J (fun n s hJ=>?_) n h;refine wpAny_noted (A:=A) (m:=compTurn (.ListComp elt [⟨tg,iter,ifs,0⟩] scope pos) 0 it acc env) (env:=env) ?_;rw[compTurn_list];refine A' (wpAny_standAt (A' (cQ (turn n s hJ) fun r s₁ h₁=>?_)));rcases h₁ with ⟨e,h₁⟩|⟨v,e,h₁⟩
 ·subst e;exact P' h₁
 ·subst e;refine A' (cQ h₁ fun _ s₂ h₂=>A' (cQ h₂ fun _ s₃ h₃=>A' (cQ h₃ fun ok s₄ h₄=>?_)));cases ok with
  |false=>exact P' ⟨rfl,h₄⟩
  |true=>exact A' (A' (cQ h₄ fun x s₅ h₅=>A' (cQ h₅ fun _ s₆ h₆=>P' (P' ⟨rfl,h₆⟩))))
noncomputable def PF (X:Cx)(ifs:List Expr)(t:TT):Prop :=
 ∀(pins:List (Addr×Obj)) (s:Shared) (σ:St) (H:Hp) (Q:Bool->Hp->Prop),Inv X pins σ H s->t σ H Q ->
  wpAny (model X.prog X.w) X.A (forIn ifs true fun c r=>if r=true then do let ok <-isTrue c X.env (eval c X.env);pure (ForInStep.yield ok) else pure (ForInStep.yield r)) (TP X pins σ Q) X.xe s
noncomputable def adu:TT:=fun _ H Q=>Q true H
theorem j0 {X:Cx}:PF X [] adu:=by
 intro pins s σ H Q I h;rw[List.forIn_nil];exact P' ⟨H,I,h⟩
theorem aid {X:Cx}{c:Expr}{t:TT}(hc:PT X c t):PF X [c] t:=by
 intro pins s σ H Q I h;rw[List.forIn_cons];refine A' ?_;rw[if_pos rfl];refine A' (cQ (hc pins s σ H Q I h) fun ok s1 q=>P' ?_);show wpAny _ _ (forIn [] ok _) _ _ _;rw[List.forIn_nil];exact P' q
noncomputable def KW (X:Cx)(C:Addr)(e:Value)(s':Shared):Prop :=
 ∃ m,s'.heap.Ns C m/\∀ h',Heap.SameBut C s'.heap h'->∀ cenv:Env,cenv.locals=C->wpAny (model X.prog X.w) X.A (passOn "comprehension.variables-let-go" e cenv:Sem Value) (fun _ _=>False) X.xe { s' with heap:=h' }
noncomputable def ik (X:Cx)(scope:Scope)(C:Addr):Value->Shared->Prop :=
 notedBy (model X.prog X.w) X.A (compEnvC scope (dh X.env scope.names []) C X.env) (KW X C)
noncomputable def adv (n:Nat)(wi:TI)(g:Bk->TG)(tc:Bk->TT)(te:Bk->TE):TE:=fun σ H Q=>wi σ H fun J H1=>∀(D:Addr)(b:Bk),H1 D=none->∃ W:Nat->Nat->List V->St->Hp->Prop,
 (∃ m,W 0 m [] (List.replicate n none++σ) (upd H1 D (.lst [])))/\∀ i m ys σ H,W i m ys σ H ->
  (J.stop i H/\Q (.ref D) H)\/(J.go i H/\∀ x H',J.WC i H x H'->g b x σ H' fun σ2 H2=>tc b σ2 H2 fun ok H3 =>
   if ok=true then te b σ2 H3 fun y H4=>H4 D=some (.lst ys)/\ys.length<sizeLine/\∃ m',m'<m/\W (i+1) m' (ys++[y]) σ2 (upd H4 D (.lst (ys++[y])))
   else ∃ m',m'<m/\W (i+1) m' ys σ2 H3)
section
variable {X:Cx} {tg iter elt:Expr} {ifs:List Expr} {scope:Scope} {pos:Pos} {cn:List Str} {wi:TI} {g:Bk->TG} {tc:Bk->TT} {te:Bk->TE} {TH:Bk->Prop}
theorem UZ {pins:List (Addr×Obj)}{σ:St}{H:Hp}{s₂:Shared}{it:Addr}{fp:List Addr}{tn:Nat->Heap->Prop}{J:It}{RR:Value->Addr->Result->Shared->Prop}{QQ:Addr->Hp->Prop}{EE:Value->Shared->Prop}
  (hcalm:X.calm=true) (F:bY X.env.scope X.N scope) (hg:∀ b,TH b->PG (bg X cn scope b) tg (g b)) (ht:∀ b,TH b->PF (bg X cn scope b) ifs (tc b)) (he:∀ b,TH b->PE (bg X cn scope b) elt (te b))
  (hTH:∀ C,s₂.heap.objs.size<=C->TH ⟨C,s₂,H,fp,ik X scope C⟩)
  (I:Inv X pins σ H s₂) (T:Turn X.prog X.w X.K tg J fp it tn) (st:tn 0 s₂.heap) (hf:∀ b∈fp,jZ X pins H b)
  (h:∀(D:Addr)(b:Bk),H D=none->∃ W:Nat->Nat->List V->St->Hp->Prop,(∃ m,W 0 m [] (List.replicate cn.length none++σ) (upd H D (.lst [])))/\∀ i m ys σ H,W i m ys σ H ->
   (J.stop i H/\QQ D H)\/(J.go i H/\∀ x H',J.WC i H x H'->g b x σ H' fun σ2 H2=>tc b σ2 H2 fun ok H3 =>
    if ok=true then te b σ2 H3 fun y H4=>H4 D=some (.lst ys)/\ys.length<sizeLine/\∃ m',m'<m/\W (i+1) m' (ys++[y]) σ2 (upd H4 D (.lst (ys++[y])))
    else ∃ m',m'<m/\W (i+1) m' ys σ2 H3))
  (hR:∀ C D σ' H' s',s₂.heap.objs.size<=C->Inv (bg X cn scope ⟨C,s₂,H,fp,ik X scope C⟩) [] σ' H' s'->QQ D H'->RR (.ref D) C (.ok .next) s')
  (hE:∀ C D e s',KW X C e s'->RR (.ref D) C (.error e) s') :
  wpAny (model X.prog X.w) X.A (newList []) (fun acc s₃=>wpAny (model X.prog X.w) X.A (newFunctionEnv scope X.env.globals (dh X.env scope.names []) [] X.env.qual none .none (some X.env)) (fun cenv s₄ =>
   codeAny (model X.prog X.w) X.A (.compStart (.ListComp elt [⟨tg,iter,ifs,0⟩] scope pos) 0 (.ref it) acc { cenv with scope:=relabel scope X.env }) (RR acc cenv.locals) s₄) EE s₃) EE s₂:=by
 refine wpAny_newObj_type (wpAny_newFunctionEnv F.Qv (by intro y hy;simp at hy) (fun h₁ hns₁ hsb₁=>?_) F.kind);dsimp only at hns₁ hsb₁ ⊢;generalize hH2:s₂.heap.push { cls:=.type "list",dict:=none,data:=.seq ([]:List Value).toArray } = H2 at hns₁ hsb₁ ⊢;have hC:H2.objs.size=s₂.heap.objs.size+1:=by rw[<-hH2,Heap.size_push]
 have hDC:s₂.heap.objs.size≠H2.objs.size:=by omega
 have hCle:s₂.heap.objs.size<=H2.objs.size:=by omega
 have hfl:∀ b∈fp,b<s₂.heap.objs.size:=fun b hb=>by
  obtain⟨o,e,_⟩:=T.obj 0 _ st b hb;exact S' e
 have aie:∀ b o,s₂.heap.get? b=some o->H2.get? b=some o:=fun b o e=>hH2 ▸ L' _ e;have old:∀ b o,s₂.heap.get? b=some o->h₁.get? b=some o:=fun b o e=>by
  have hb:=S' e;refine hsb₁.extBut b o (Nat.ne_of_lt (Nat.lt_of_lt_of_le hb hCle)) (L' _ (aie b o e))
 have hacc:h₁.get? s₂.heap.objs.size=some { cls:=.type "list",data:=.seq ([]:List Value).toArray 0 } :=
  hsb₁.extBut _ _ hDC (L' _ (hH2 ▸ Heap.get?_push_size _ rfl))
 have I0:=Inv.block (cn:=cn) (xe:=ik X scope H2.objs.size) (tk:=s₂.toks+([]:List (Str×Value)).length) I F hcalm hf hfl hCle (R' _) hDC hns₁ old hacc;have th:=hTH _ hCle;obtain⟨W,⟨m0,w0⟩,turn⟩:=h s₂.heap.objs.size ⟨H2.objs.size,s₂,H,fp,ik X scope H2.objs.size⟩ (I.hok.fresh (R' _));have fpx:∀{H':Hp},(∀ b∈fp,H' b=none)->∀ b∈fp,jZ (bg X cn scope ⟨H2.objs.size,s₂,H,fp,ik X scope H2.objs.size⟩) [] H' b:=fun {H'} hn b hb=>by
  refine⟨hn b hb,(I0.ok.exf b hb).1,I0.ok.UL b hb,.inl hb,(I0.ok.exf b hb).2,fun p hp=>V' (show p∈([]:List (Addr×Obj)) from hp) (by simp)⟩
 have U0:(bg X cn scope ⟨H2.objs.size,s₂,H,fp,ik X scope H2.objs.size⟩).calm=true:=hcalm;have loop:∀ s₃:Shared,s₃ = { s₂ with heap:=h₁,toks:=s₂.toks+([]:List (Str×Value)).length } ->
   codeAny (model X.prog X.w) X.A (.compLoop (.ListComp elt [⟨tg,iter,ifs,0⟩] scope pos) 0 (.ref it) (.ref s₂.heap.objs.size) (compEnvC scope (dh X.env scope.names []) H2.objs.size X.env))
    (RR (.ref s₂.heap.objs.size) H2.objs.size) s₃:=by
  rintro s₃ rfl;have toE:∀ e s',(bg X cn scope ⟨H2.objs.size,s₂,H,fp,ik X scope H2.objs.size⟩).xe e s' ->
    notedBy (model X.prog X.w) X.A (compEnvC scope (dh X.env scope.names []) H2.objs.size X.env) (fun e s'=>RR (.ref s₂.heap.objs.size) H2.objs.size (.error e) s') e s':=fun e s' z =>
   wpAny_mono (show notedBy (model X.prog X.w) X.A (compEnvC scope (dh X.env scope.names []) H2.objs.size X.env) (KW X H2.objs.size) e s' from z) (fun _ _ q=>hE _ _ _ _ q) fun _ _ q=>hE _ _ _ _ q
  refine aau (env:=compEnvC scope (dh X.env scope.names []) H2.objs.size X.env)
   (fun n s'=>∃ i ys σ' H',Inv (bg X cn scope ⟨H2.objs.size,s₂,H,fp,ik X scope H2.objs.size⟩) [] σ' H' s'/\tn i s'.heap/\(∀ b∈fp,H' b=none)/\W i n ys σ' H') ?_ m0
   ⟨0,[],_,_,I0,T.keep _ _ _ st fun b _ o e=>old b o e,fun b hb=>?_,w0⟩
  ·rintro n s' ⟨i,ys,σ',H',I',st',fr',w'⟩;rcases turn i n ys σ' H' w' with ⟨stop,qn⟩|⟨go,step⟩
   ·refine wpAny_mono (T.done (bg X cn scope ⟨H2.objs.size,s₂,H,fp,ik X scope H2.objs.size⟩) rfl rfl rfl U0 i [] s' σ' H' (fun _ _=>False) I' (fpx fr') st' stop) (fun r s4 ⟨hr,I4⟩=>?_) fun _ _ z=>z.elim;exact .inl ⟨hr,hR _ _ _ _ _ hCle I4 qn⟩
   ·refine wpAny_mono (T.item (bg X cn scope ⟨H2.objs.size,s₂,H,fp,ik X scope H2.objs.size⟩) rfl rfl rfl U0 i [] s' σ' H' (fun _ _=>False) I' (fpx fr') st' go) (fun r s4 ⟨u,hr,h4⟩=>?_) fun _ _ z=>z.elim;refine .inr ⟨u,hr,wpAny_mono h4 (fun _ s5 ⟨x,H5,I5,r5,y5,st5,fr5⟩=>?_) fun _ _ z=>z.elim⟩;have I5':=I5.pinned (fpx fr5) (T.obj _ _ st5);refine wpAny_mono (hg _ th _ s5 σ' H5 x u _ I5' r5 (step x H5 y5)) (fun _ s6 ⟨σ6,H6,I6,q6⟩=>?_) toE;refine wpAny_mono (ht _ th _ s6 σ6 H6 _ I6 q6) (fun ok s7 ⟨H7,I7,q7⟩=>?_) toE;have back:∀{σ8:St} {H8:Hp} {s8:Shared},Inv (bg X cn scope ⟨H2.objs.size,s₂,H,fp,ik X scope H2.objs.size⟩) ([]++Gq fp s5.heap) σ8 H8 s8->tn (i+1) s8.heap/\∀ b∈fp,H8 b=none:=fun {σ8 H8 s8} I8=>by
     refine⟨T.keep _ _ _ st5 fun b hb o e=>(I8.pin (b,o) (mem_append_right _ (mem_append_right _ (mU hb e)))).1,fun b hb=>?_⟩;obtain⟨o,e,d⟩:=T.obj _ _ st5 b hb;exact(I8.pin (b,o) (mem_append_right _ (mem_append_right _ (mU hb e)))).2.1
    cases ok with
    |false =>
     rw[if_neg Z']at q7 ⊢;obtain⟨m',hm,w7⟩:=q7;obtain⟨t8,f8⟩:=back I7;exact⟨m',hm,i+1,ys,σ6,H7,I7.qV,t8,f8,w7⟩
    |true =>
     rw[if_pos rfl]at q7 ⊢;refine wpAny_mono (he _ th _ s7 σ6 H7 _ I7 q7) (fun v s8 ⟨y,H8,I8,r8,hl,hz,m',hm,w8⟩=>?_) toE;refine wpAny_mono (a6 (X:=bg X cn scope ⟨H2.objs.size,s₂,H,fp,ik X scope H2.objs.size⟩) _ s8 σ6 H8 (.ref s₂.heap.objs.size) [y] (.ref s₂.heap.objs.size) [v] (fun _ H9=>W (i+1) m' (ys++[y]) σ6 H9) I8 rfl (.cons r8 .nil) ⟨_,ys,y,rfl,rfl,hl,hz,w8⟩)
      (fun _ s9 ⟨_,H9,I9,_,w9⟩=>?_) toE
     obtain⟨t9,f9⟩:=back I9;exact⟨m',hm,i+1,_,σ6,H9,I9.qV,t9,f9,w9⟩
  ·rw[ak (Nat.ne_of_lt (hfl b hb))];exact(hf b hb).1
 exact codeAny_compStart_list (loop _ rfl) (T.self _ 0 _ _ _ (T.keep _ _ _ st fun b _ o e=>old b o e) (loop _ rfl))
theorem adw (hcalm:X.calm=true)(F:bY X.env.scope X.N scope)(hi:PI X tg iter wi)(hg:∀ b,TH b->PG (bg X cn scope b) tg (g b))(ht:∀ b,TH b->PF (bg X cn scope b) ifs (tc b))
  (he:∀ b,TH b->PE (bg X cn scope b) elt (te b))
  (hTH:∀ pins σ H s₂ fp C,Inv X pins σ H s₂->(∀ b∈fp,jZ X pins H b)->s₂.heap.objs.size<=C->TH ⟨C,s₂,H,fp,ik X scope C⟩)
  (hs:∀ x,foldedSetIterable iter X.env x=pure x:=by intro _;rfl):PE X (.ListComp elt [⟨tg,iter,ifs,0⟩] scope pos) (adv cn.length wi g tc te):=by
 intro pins s σ H Q I h;rw[eval_ListComp];have hcl:closureFor scope X.env=pure (dh X.env scope.names []):=Qu fun p hp e=>I.ok.has p.1 (F.free p hp e);refine wpAny_comprehension_free (use:=none) rfl hs hcl F.kind F.loc (cQ (hi pins s σ H _ I h) fun xv s₁ h₁=>cQ h₁ fun itv s₂ h₂=>?_);obtain⟨it,fp,tn,J,H2,rfl,I2,T,st,f2,R⟩:=h₂;refine UZ (QQ:=fun D H'=>Q (.ref D) H') (RR:=fun acc C=>compPost (model X.prog X.w) X.A X.xe none (EP X pins σ Q) acc C) hcalm F hg ht he (fun C hC=>hTH pins σ H2 s₂ fp C I2 f2 hC) I2 T st f2 R ?_ ?_
 ·intro C D σ' H' s' hC I' q;obtain⟨m,hm,_⟩:=I'.loc;exact⟨m,hm,fun h' sb=>⟨.ref D,H',I2.Qw f2 hC I' sb,rfl,q⟩⟩
 ·intro C D e s' z;exact z
theorem kY (hcalm:X.calm=true)(F:bY X.env.scope X.N scope)(hi:PI X tg iter wi)(hg:∀ b,PG (bg X cn scope b) tg (g b))(ht:∀ b,PF (bg X cn scope b) ifs (tc b))(he:∀ b,PE (bg X cn scope b) elt (te b))
  (hs:∀ x,foldedSetIterable iter X.env x=pure x:=by intro _;rfl):PE X (.ListComp elt [⟨tg,iter,ifs,0⟩] scope pos) (adv cn.length wi g tc te) :=
 adw (TH:=fun _=>True) hcalm F hi (fun b _=>hg b) (fun b _=>ht b) (fun b _=>he b) (fun _ _ _ _ _ _ _ _ _=>trivial) hs
end
end L2
namespace L2
open PySem PySem.Spec PyProof.Rows
section
variable {X:Cx} {e:Expr} {es:List Expr} {te:TE} {pos:Pos}
theorem gM:kU X (.type "int") (fun xs H Q=>∃ z n,xs=[.str z]/\PySem.intText? z=some n/\z.length<=640/\Q (.int n) H):=by
 intro pins s σ H xs us Q I r h;obtain⟨z,n,rfl,hn,hl,q⟩:=h;obtain⟨u,rfl,t,rfl⟩:=r.one;exact PySem.W.KIN.call_text hn hl ⟨.int n,H,I.tok _,⟨_,rfl⟩,q⟩
noncomputable def amN:V->Option Int->Option Int->Hp->VK->Prop:=fun x lo hi H Q=>∃ z,x=.str z/\z.length<=sizeLine/\Q (.str (Txt.slice z lo hi)) H
theorem Ph {v:Value}{o:Option Int}(p:IsPart v o):∃ l:Option (Int×Tok),v=partValue l/\l.map (·.1)=o:=by
 cases p with
 |none=>exact⟨none,rfl,rfl⟩
 |int i t=>exact⟨some (i,t),rfl,rfl⟩
theorem qX:SlR X amN:=by
 intro pins s σ H x v vl vu lo hi sl Q I rx hs pl pu h;obtain⟨z,rfl,hz,q⟩:=h;obtain⟨t,rfl⟩:=rx;obtain⟨l,rfl,el⟩:=Ph pl;obtain⟨u,rfl,eu⟩:=Ph pu;subst el eu;refine⟨"str",_,F.slot_str_getitem.lookup,typeIs_str _ _ _,?_⟩;obtain⟨o,ho,hc,hd⟩:=hs;refine wpAny_getItem_str_slice (l:=l) (u:=u) (st:=none) ⟨o,ho,hc,hd⟩ rfl ?_;exact post_val_or_str ⟨Nat.le_trans (Txt.slice_le z _ _) hz,fun t' k=>⟨.str _,H,I.tok _,⟨t',rfl⟩,q⟩⟩
noncomputable def Its (z:Str):It:=⟨fun i _=>i<z.cps.size,fun i H x H'=>H'=H/\∃ c,z.cps[i]? = some c/\x=.str ⟨#[c]⟩,fun i _=>z.cps.size<=i⟩
noncomputable def amP (tl:TE):TI:=fun σ H R=>tl σ H fun x H1=>∃ z,x=.str z/\R (Its z) H1
theorem U1 {P:Program}{w:World}{K:Frag}{tg:Expr}{z:Str}{it:Addr}{T:String}{t:Tok}(hT:["enumerate","zip","dict_itemiterator","dict_reverseitemiterator","odict_iterator","itertools.zip_longest","itertools.pairwise"].contains T=false)
  (W:∀ A:Around,A.handled=none->Walks P w A it [it] [it] z.cps.size (SignAt z) (fun i h=>h.IsStrIter it T z t i)) 
  (S:∀(A:Around)(i:Nat)(s:Shared)(Q:Value->Shared->Prop)(E:Value->Shared->Prop),s.heap.IsStrIter it T z t i->Q (.ref it) s->wpAny (model P w) A (pyIter (.ref it)) Q E s) :
  Turn P w K tg (Its z) [it] it (fun i h=>h.IsStrIter it T z t i/\i<=z.cps.size) where
 mem:=by simp
 obj:=fun i h st b hb=>by
  have e:b=it:=by simpa using hb
  subst e;obtain⟨⟨o,e,c,d⟩,_⟩:=st;exact⟨o,e,fun v q=>by rw[d]at q;cases q⟩
 keep:=fun i h h' st k=>⟨by
  obtain⟨⟨o,e,c,d⟩,_⟩:=st;exact⟨o,k it (by simp) o e,c,d⟩,st.2⟩
 item:=by
  intro X hP hw hK hc i pins s σ H E I hf st hg;subst hP hw hK;obtain⟨f0,f1,f2,f3,f4,f5⟩:=hf it (by simp);have hgi:i<z.cps.size:=hg;refine(W X.A (I.ok.hd hc)).item i s _ _ hgi st.1 fun v h' tk hv st' kk=>?_;obtain⟨c,u,hc',rfl⟩:=hv;have I1:Inv X pins σ H { s with heap:=h',toks:=tk }:=I.turned (fun b o hb e=>kk b o (by simpa using hb) e) f0 f1 f3 f4 f5;obtain⟨o,e,cc,d⟩:=id st';exact⟨_,rfl,Zq (s:={ s with heap:=h',toks:=tk }) e cc d hT ⟨.str ⟨#[c]⟩,H,I1,⟨u,rfl⟩,⟨rfl,c,hc',rfl⟩,⟨st',hgi⟩,fun b hb=>(hf b hb).1⟩⟩
 done:=by
  intro X hP hw hK hc i pins s σ H E I hf st hg;subst hP hw hK;obtain⟨f0,f1,f2,f3,f4,f5⟩:=hf it (by simp);have hge:z.cps.size<=i:=hg;have e:i=z.cps.size:=Nat.le_antisymm st.2 hge;subst e;exact(W X.A (I.ok.hd hc)).done s _ _ st.1 fun h' tk kk=>⟨rfl,I.turned (fun b o hb e=>kk b o (by simpa using hb) e) f0 f1 f3 f4 f5⟩
 self:=fun A i s Q E st h=>S A i s Q E st.1 h
theorem aih {tg l:Expr}{tl:TE}(hl:PE X l tl):PI X tg l (amP tl):=by
 intro pins s σ H R I h;refine cQ (hl pins s σ H _ I h) fun v s1 ⟨x,H1,I1,r1,q1⟩=>?_;obtain⟨z,rfl,q⟩:=q1;obtain⟨t,rfl⟩:=r1;have fp:∀ b∈[s1.heap.objs.size],jZ X pins H1 b:=fun b hb=>by
  have e:b=s1.heap.objs.size:=by simpa using hb
  subst e;exact I1.KP (R' _) (I1.hok.fresh (R' _))
 cases ha:z.cps.all (· < 128)
 ·refine wpAny_pyIter_wide ha ?_;refine⟨s1.heap.objs.size,[s1.heap.objs.size],_,_,H1,rfl,I1.kept (t':=s1.toks) fun b o e=>L' _ e,U1 (T:="str_iterator") (t:=t) (by decide) (fun A hA=>Walks.strWide hA _ z t)
   (fun A i s Q E st hq=>wpAny_pyIter_striter_wide st hq),⟨⟨_,Heap.get?_push_size _ rfl,rfl,rfl⟩,Nat.zero_le _⟩,fp,q⟩
 ·refine wpAny_pyIter_ascii ha ?_;refine⟨s1.heap.objs.size,[s1.heap.objs.size],_,_,H1,rfl,I1.kept (t':=s1.toks) fun b o e=>L' _ e,U1 (T:="str_ascii_iterator") (t:=t) (by decide) (fun A hA=>Walks.strAscii hA _ z t)
   (fun A i s Q E st hq=>wpAny_pyIter_striter_ascii st hq),⟨⟨_,Heap.get?_push_size _ rfl,rfl,rfl⟩,Nat.zero_le _⟩,fp,q⟩
theorem any_range:∀ bs:List Bool,(List.range bs.length).any (fun i=>bs.getD i false)=bs.any id
 |[]=>rfl
 |b::bs=>by
  rw[length_cons,List.range_succ_eq_map,List.any_cons,List.any_map,List.any_cons];have:((fun i=>(b::bs).getD i false) ∘ Nat.succ)=fun i=>bs.getD i false:=by
   funext i
   rfl
  rw[this,any_range bs];rfl
theorem adx:kU X (.builtin "any") (fun xs H Q=>X.calm=true/\∃(a:Addr)(bs:List Bool),xs=[.ref a]/\aO X.K H a (bs.map V.bl)/\Q (.bl (bs.any id)) H):=by
 intro pins s σ H xs us Q I r h;obtain⟨hc,a,bs,rfl,hq,q⟩:=h;obtain⟨u,rfl,rfl⟩:=r.one;obtain⟨its,rv,p,hz⟩:=I.list hq;have hl:=rv.length;rw[J']at hl;have aii:∀(i:Nat)(v:Value),its.toArray[i]? = some v->v=Value.bool (bs.getD i false):=by
  intro i v hv;have hv':its[i]? = some v:=by simpa using hv
  have hi:i<its.length:=(C'.mp hv').1;have hb:i<bs.length:=by omega
  obtain⟨u,hu,ru⟩:=rv.get (i:=i) (x:=.bl (bs[i])) (by rw[getElem?_map,G' hb];rfl);rw[hv']at hu;cases hu;have:v=.bool bs[i]:=ru;rw[this,List.getD_eq_getElem?_getD,G' hb];rfl
 refine call_any_walk (wpAny_pyIter_list p.isList ?_);have ane:a≠s.heap.objs.size:=by
  obtain⟨o,ho,_⟩:=p.isList;exact Nat.ne_of_lt (S' ho)
 have hd:X.A.in1.handled=none:=I.ok.hd hc;refine⟨s.heap.objs.size,_,_,_,_,_,fun i=>bs.getD i false,rfl,Walks.list hd s.heap.objs.size a ane its.toArray,⟨⟨_,Heap.get?_push_size _ rfl,rfl,rfl⟩,p.isList.push _⟩,?_,?_⟩
 ·intro i v s' Q' E' hP hQ';rw[aii i v hP];exact wpAny_truthy_bool hQ'
 ·intro h' tk kk;have e:(List.range its.toArray.size).any (fun i=>bs.getD i false)=bs.any id:=by
   rw[size_toArray,<-hl];exact any_range bs
  rw[e];refine⟨.bl _,H,I.kept (t':=tk) fun b o e=>kk b o (fun z=>?_) (L' _ e),rfl,q⟩;have:b=s.heap.objs.size:=by simpa using z
  exact V' (S' e) (by rw[this];exact Nat.lt_irrefl _)
end
end L2
namespace L2
open PySem PySem.Spec PyProof.Rows PySem.SeqAt
inductive Deq (K:Frag)(H:Hp):Nat->V->V->Prop where
 |flat {n:Nat} {x:V} (f:xN x=true):Deq K H n x x
 |tup {n:Nat} {a b:Addr} {xs ys:List V} (ha:ij K H a xs) (hb:ij K H b ys) (hl:xs.length=ys.length) (h:∀(i:Nat) x y,xs[i]? = some x->ys[i]? = some y->Deq K H n x y):Deq K H (n+1) (.ref a) (.ref b)
 |lst {n:Nat} {a b:Addr} {xs ys:List V} (ha:aO K H a xs) (hb:aO K H b ys) (hl:xs.length=ys.length) (h:∀(i:Nat) x y,xs[i]? = some x->ys[i]? = some y->Deq K H n x y):Deq K H (n+1) (.ref a) (.ref b)
section
variable {X:Cx} {pins:List (Addr×Obj)} {σ:St} {H:Hp} {s:Shared}
theorem adz:∀{x:V},xN x=true->Zz x x=true:=by
 intro x f;cases x <;> first|(simp[Zz];done)|(cases f)
theorem yk (n:Nat):(List.range n).all (fun _=>true)=true:=by simp
theorem Deq.at {n:Nat}{x y:V}(d:Deq X.K H n x y)(I:Inv X pins σ H s):∀{A:Around} {u v:Value},A.units+n<cLine->RelV x u->RelV y v ->
  EqAt A s u v true/\(∀ a b,x=.ref a->y=.ref b->RcAt A s u v true/\RcNeAt A s u v false):=by
 induction d with
 | @flat n x f =>
  intro A u v hu ru rv;refine⟨?_,fun a b e _=>?_⟩
  ·have:=adk (A:=A) (s:=s) ru rv f f;rw[adz f]at this;exact this
  ·subst e;cases f
 | @tup n a b xs ys ha hb hl h ih =>
  intro A u v hu ru rv;cases ru;cases rv;obtain⟨its,r,p,_⟩:=I.tuple ha;obtain⟨its',r',p',_⟩:=I.tuple hb;have e1:=r.length;have e2:=r'.length;have he:∀ j (h1:j<its.toArray.size) (h2:j<its'.toArray.size),EqAt A.in1 s its.toArray[j] its'.toArray[j] true:=by
   intro j h1 h2;have h1':j<its.length:=by simpa using h1
   have h2':j<its'.length:=by simpa using h2
   have g1:xs[j]? = some xs[j]:=G' (by omega);have g2:ys[j]? = some ys[j]:=G' (by omega);obtain⟨u1,q1,k1⟩:=r.get g1;obtain⟨u2,q2,k2⟩:=r'.get g2;have z1:its.toArray[j]=u1:=by
    rw[G' h1']at q1
    simpa using q1
   have z2:its'.toArray[j]=u2:=by
    rw[G' h2']at q2
    simpa using q2
   rw[z1,z2];exact(ih j _ _ g1 g2 (by show A.units+1+n<cLine;omega) k1 k2).1
  have bt:((List.range (min its.toArray.size its'.toArray.size)).all (fun _=>true)&&its.toArray.size==its'.toArray.size)=true:=by
   rw[yk];simp;omega
  have rc:RcAt A s (.ref a) (.ref b) true:=by
   have:=RcAt.tuples (A:=A) (e:=fun _=>true) (show s.heap.IsTuple a its.toArray from p) (show s.heap.IsTuple b its'.toArray from p') (by omega) he;rw[bt]at this;exact this
  have rn:RcNeAt A s (.ref a) (.ref b) false:=by
   have:=RcNeAt.tuples (A:=A) (e:=fun _=>true) (show s.heap.IsTuple a its.toArray from p) (show s.heap.IsTuple b its'.toArray from p') (by omega) he;rw[bt]at this;exact this
  refine⟨?_,fun _ _ _ _=>⟨rc,rn⟩⟩
  by_cases e:a=b
  ·subst e;exact EqAt.same _
  ·exact EqAt.of_refs e rc
 | @lst n a b xs ys ha hb hl h ih =>
  intro A u v hu ru rv;cases ru;cases rv;obtain⟨its,r,p,_⟩:=I.list ha;obtain⟨its',r',p',_⟩:=I.list hb;have e1:=r.length;have e2:=r'.length;have he:∀ j (h1:j<its.toArray.size) (h2:j<its'.toArray.size),EqAt A.in1 s its.toArray[j] its'.toArray[j] true:=by
   intro j h1 h2;have h1':j<its.length:=by simpa using h1
   have h2':j<its'.length:=by simpa using h2
   have g1:xs[j]? = some xs[j]:=G' (by omega);have g2:ys[j]? = some ys[j]:=G' (by omega);obtain⟨u1,q1,k1⟩:=r.get g1;obtain⟨u2,q2,k2⟩:=r'.get g2;have z1:its.toArray[j]=u1:=by
    rw[G' h1']at q1
    simpa using q1
   have z2:its'.toArray[j]=u2:=by
    rw[G' h2']at q2
    simpa using q2
   rw[z1,z2];exact(ih j _ _ g1 g2 (by show A.units+1+n<cLine;omega) k1 k2).1
  have bt:(List.range its.toArray.size).all (fun _=>true)=true:=yk _;have rc:RcAt A s (.ref a) (.ref b) true:=by
   have:=RcAt.lists (A:=A) (e:=fun _=>true) p.isList p'.isList (by simp;omega) (by omega) he;rw[bt]at this;exact this
  have rn:RcNeAt A s (.ref a) (.ref b) false:=by
   have:=RcNeAt.lists (A:=A) (e:=fun _=>true) p.isList p'.isList (by simp;omega) (by omega) he;rw[bt]at this;exact this
  refine⟨?_,fun _ _ _ _=>⟨rc,rn⟩⟩
  by_cases e:a=b
  ·subst e;exact EqAt.same _
  ·exact EqAt.of_refs e rc
inductive ahm (K:Frag)(b:Bool)(x:V)(y:V)(H:Hp)(Q:VK):Prop
 |mk (a:_) (c:_) (dE:x=.ref a) (dF:y=.ref c) (eQ:Deq K H 60 x y/\Q (.bl b) H):ahm K b x y H Q
noncomputable def aki (K:Frag)(b:Bool):R2:=fun x y H Q=>ahm K b x y H Q
theorem bo (hu:X.A.units+64<cLine):vE X (compareOp .Eq) (aki X.K true):=by
 intro pins s σ H x y v u Q I r1 r2 h;obtain⟨a,c,rfl,rfl,d,q⟩:=h;exact(((d.at I (A:=X.A) (by omega) r1 r2).2 a c rfl rfl).1) X.prog X.w X.xe _ ⟨.bl true,H,I,rfl,q⟩
theorem pH (hu:X.A.units+64<cLine):vE X (compareOp .NotEq) (aki X.K false):=by
 intro pins s σ H x y v u Q I r1 r2 h;obtain⟨a,c,rfl,rfl,d,q⟩:=h;exact(((d.at I (A:=X.A) (by omega) r1 r2).2 a c rfl rfl).2) X.prog X.w X.xe _ ⟨.bl false,H,I,rfl,q⟩
theorem bT:kU X (.builtin "isinstance") (fun xs H Q=>∃ x T t b,xs=[x,.ty T]/\eG X.K H x t/\kitOne X.K t (.type T)=some b/\Q (.bl b) H):=by
 intro pins s σ H xs us Q I r h;obtain⟨x,T,t,b,rfl,ty,e,q⟩:=h;obtain⟨u,v,rfl,r1,r2⟩:=r.two;cases r2;exact aao I r1 ty e fun tk=>⟨.bl b,H,I.tok _,rfl,q⟩
noncomputable def Ite (K:Frag)(a:Addr):It :=
 ⟨fun i H=>∃ xs x,aO K H a xs/\xs[i]? = some x,fun i H x H'=>∃ y t,x=.ref t/\H t=none/\(∀ xs,aO K H a xs->xs[i]? = some y)/\H'=upd H t (.tup [.int i,y]),fun i H=>∃ xs,aO K H a xs/\xs.length<=i⟩
noncomputable def Itz (K:Frag)(a b:Addr):It :=
 ⟨fun i H=>∃ xs ys x y,aO K H a xs/\aO K H b ys/\xs[i]? = some x/\ys[i]? = some y,
  fun i H p H'=>∃ x y t,p=.ref t/\H t=none/\(∀ xs,aO K H a xs->xs[i]? = some x)/\(∀ ys,aO K H b ys->ys[i]? = some y)/\H'=upd H t (.tup [x,y]),
  fun i H=>∃ xs ys,aO K H a xs/\aO K H b ys/\min xs.length ys.length=i⟩
theorem cH {a:Addr}{K:Frag}{X:Cx}{pins:List (Addr×Obj)}{σ:St}{H:Hp}{s:Shared}{xs:List V}{b:Addr}{o:Obj}(I:Inv X pins σ H s)(hq:aO X.K H a xs)(e:s.heap.get? b=some o)(hc:o.cls≠.type "list"):a≠b:=by
 rintro rfl;obtain⟨its,_,p,_⟩:=I.list hq;obtain⟨o',e',c',_⟩:=p.isList;rw[e]at e';cases e';exact hc c'
theorem Inv.KY {tk:Nat}{h':Heap}{wr:List Addr}{T:Addr}{xs:List V}{vals:List Value}(I:Inv X pins σ H s)(hw:∀ b∈wr,jZ X pins H b)(hT:s.heap.objs.size<=T)(ht:h'.IsTuple T vals.toArray)(rv:Vals xs vals)(hz:xs.length<=sizeLine)
  (kk:∀ b o,b ∉ wr->s.heap.get? b=some o->h'.get? b=some o) (there:∀ b∈wr,∃ o,h'.get? b=some o):Inv X pins σ (upd H T (.tup xs)) { s with heap:=h',toks:=tk }:=by
 have hTn:H T=none:=I.hok.fresh hT;have nT:∀ b o,s.heap.get? b=some o->b≠T:=fun b o e=>Nat.ne_of_lt (Nat.lt_of_lt_of_le (S' e) hT);refine I.step (g':=s.gens) (d':=s.drawn) (ch:=wr) (fun b hb=>?_) (fun b o _ _ hc e _=>kk b o hc e) (fun b o _ _ hc e _=>⟨o.slots,kk b o hc e⟩) (fun b o _ e n=>by rw[ak (nT b o e)];exact n)
  (fun b o hc e=>⟨o,kk b o hc e⟩) (fun b ys e=>by rw[ak (ar e hTn)];exact e) (fun b o u e=>by rw[ak (ar e hTn)];exact e) (fun b ps e=>⟨#[],by rw[ak (ar e hTn),e];simp⟩) (fun m hm=>?_) (fun b u e=>?_) I.bare
 ·obtain⟨_,f1,_,f3,f4,f5⟩:=hw b hb;exact⟨f3,f1,f4,f5⟩
 ·obtain⟨o,es,ep,ho,r⟩:=hm;exact⟨o,es,ep,kk _ o (fun z=>(hw _ z).2.1 rfl) ho,r⟩
 ·by_cases hb:b=T
  ·subst hb;rw[af]at e;cases e;exact⟨hz,vals,rv,ht⟩
  ·rw[ak hb]at e;refine(I.hok b u e).stay (fun c v hc q=>kk c v (fun z=>?_) q) (fun c q=>by rw[ak (ar q hTn)];exact q) fun c ys q=>by rw[ak (ar q hTn)];exact q
   have hn:=(hw c z).1;rcases hc with hc|hc
   ·rw[hc,e]at hn;cases hn
   ·rw[hc]at hn;cases hn
theorem Inv.fh {tk:Nat}{h':Heap}{wr:List Addr}(I:Inv X pins σ H s)(hw:∀ b∈wr,jZ X pins H b)(kk:∀ b o,b ∉ wr->s.heap.get? b=some o->h'.get? b=some o):Inv X pins σ H { s with heap:=h',toks:=tk }:=by
 refine I.step (g':=s.gens) (d':=s.drawn) (ch:=wr) (fun b hb=>?_) (fun b o _ _ hc e _=>kk b o hc e) (fun b o _ _ hc e _=>⟨o.slots,kk b o hc e⟩) (fun b o _ e n=>n)
  (fun b o hc e=>⟨o,kk b o hc e⟩) (fun b ys e=>e) (fun b o u e=>e) (fun b ps e=>⟨#[],by rw[e];simp⟩) (fun m hm=>?_) (fun b u e=>?_) I.bare
 ·obtain⟨_,f1,_,f3,f4,f5⟩:=hw b hb;exact⟨f3,f1,f4,f5⟩
 ·obtain⟨o,es,ep,ho,r⟩:=hm;exact⟨o,es,ep,kk _ o (fun z=>(hw _ z).2.1 rfl) ho,r⟩
 ·refine(I.hok b u e).stay (fun c v hc q=>kk c v (fun z=>?_) q) (fun c q=>q) fun c ys q=>q;have hn:=(hw c z).1;rcases hc with hc|hc
  ·rw[hc,e]at hn;cases hn
  ·rw[hc]at hn;cases hn
end
end L2
namespace L2
open PySem PySem.Spec PyProof.Rows PySem.SeqAt
section
variable {X:Cx}
theorem aM {k:Nat}{A:Around}(hr:mP k A):A.units+64<cLine:=hr.units
theorem bC:bootBuiltins "len"=some (.builtin "len"):=by lk
theorem Qx:bootBuiltins "min"=some (.builtin "min"):=by lk
theorem Qy:bootBuiltins "max"=some (.builtin "max"):=by lk
theorem D8:bootBuiltins "enumerate"=some (.type "enumerate"):=by lk
theorem W0:bootBuiltins "zip"=some (.type "zip"):=by lk
theorem aV:bootBuiltins "isinstance"=some (.builtin "isinstance"):=by lk
theorem BH:bootBuiltins "int"=some (.type "int"):=by lk
theorem ZD:bootBuiltins "bool"=some (.type "bool"):=by lk
theorem Qz:bootBuiltins "str"=some (.type "str"):=by lk
theorem fB:bootBuiltins "list"=some (.type "list"):=by lk
theorem ym:bootBuiltins "tuple"=some (.type "tuple"):=by lk
theorem aij:bootBuiltins "any"=some (.builtin "any"):=by lk
theorem aik:bootBuiltins "abs"=some (.builtin "abs"):=by lk
theorem ail:bootBuiltins "all"=some (.builtin "all"):=by lk
theorem qu:bootBuiltins "dict"=some (.type "dict"):=by lk
end
end L2
namespace L2
open PySem PySem.Spec PyProof.Rows
end L2
namespace L2
open PySem
theorem ip {K:Frag}{H:Hp}{a l:Addr}{o:HO}{xs:List V}(h:aO K H a xs)(hn:H l=none):aO K (upd H l o) a xs:=by
 have ne:∀{u},H a=some u->a≠l:=fun e=>ar e hn;rcases h with (h|⟨u,h⟩)|h
 ·exact .inl (.inl (by rw[ak (ne h)];exact h))
 ·exact .inl (.inr ⟨u,by rw[ak (ne h)];exact h⟩)
 ·exact .inr h
theorem ao.upd {H:Hp}{l:Addr}{o:HO}(hn:H l=none):ao H (upd H l o):=fun b u e=>by
 rw[ak (ar e hn)];exact e
end L2
namespace L2
theorem aR {X:Cx}{b:List PySem.Stmt}{t:TS}{D:Ends}{σ:St}{H:Hp}(h:WB X b t)(q:t D σ H):∃ t,WB X b t/\t D σ H:=⟨t,h,q⟩
theorem dG (i j:Int):decide (V.int i=V.int j)=decide (i=j):=by
 by_cases h:i=j
 ·subst h;simp
 ·rw[Y' h];exact Y' fun e=>h (V.int.inj e)
end L2
namespace L2
open PySem
theorem ahn {X:Cx}:∀ cs:List (Str×Pos),PA X (cs.map fun c=>Expr.Constant (.str c.1) 0 c.2) (fun _ H Q=>Q (cs.map fun c=>V.str c.1) H)
 |[]=>ae
 |c::cs=>aa bG (ahn cs)
end L2
namespace L2
open PySem
theorem adA {X:Cx}{i:Nat}{x:Str}{pos pos' p:Pos}(cs:List (Str×Pos))(hN:X.N.Nodup)(hi:X.N[i]? = some x)(hx:Loc X.env.scope x)(hf:X.fn x=true\/X.env.scope.names.lookup x=some .local:=by first|exact .inl rfl|exact .inr rfl|assumption) :
  PS X (.Assign [.Name x pos'] (.List (cs.map fun c=>Expr.Constant (.str c.1) 0 c.2) p) pos) (acZ (aj8 (fun _ H Q=>Q (cs.map fun c=>V.str c.1) H)) (DT i)):=aH hN hi hx (bq (ahn cs)) rfl hf
end L2
namespace L2
open PySem PySem.Spec PyProof.Rows
section
variable {X:Cx} {tg:Expr}
theorem uK {pins:List (Addr×Obj)}{σ:St}{H:Hp}{s:Shared}{a:Addr}{xs:List V}{i:Nat}{y:V}(I:Inv X pins σ H s)(hq:aO X.K H a xs)(hy:xs[i]? = some y):∀ ys,aO X.K H a ys->ys[i]? = some y:=fun ys h=>by
 rw[I.UN h hq];exact hy
theorem aaw {P:Program}{w:World}{K:Frag}{es:List Expr}{k:Nat}{tp:Pos}(a e it:Addr)(hei:e≠it) :
  Turn P w K (.Tuple es k tp) (Ite K a) [e,it] e (fun i h=>(∃ old,IsEnum h e it i old)/\h.IsListIter it a i) where
 mem:=by simp
 obj:=fun i h st b hb=>by
  obtain⟨⟨old,he⟩,o,e2,c,d⟩:=st;rcases List.mem_cons.mp hb with rfl|hb
  ·exact⟨_,he,fun v z=>by
    have z':Data.fields _=Data.cell v:=z;cases z'⟩
  ·have:b=it:=by simpa using hb
   subst this;exact⟨o,e2,fun v z=>by rw[d]at z;cases z⟩
 keep:=fun i h h' st kp=>by
  obtain⟨⟨old,he⟩,hit⟩:=st;exact⟨⟨old,kp e (by simp) _ he⟩,hit.at fun o x=>kp it (by simp) o x⟩
 item:=by
  intro X hP hw hK hc i pins s σ H E I hf st hg;subst hP hw hK;obtain⟨xs,x,hq,hx⟩:=hg;obtain⟨its,rv,p,hz⟩:=I.list hq;obtain⟨u,hu,ru⟩:=rv.get hx;obtain⟨⟨old,he⟩,hit⟩:=st;have hle:a≠e:=cH (K:=X.K) I hq he (by intro z;injection z with z;exact V' z (by decide));have hli:a≠it:=by
   obtain⟨o,e2,c,_⟩:=hit;exact cH (K:=X.K) I hq e2 (by rw[c];intro z;injection z with z;exact V' z (by decide))
  have hiu:i<its.toArray.size:=by
   have:=(C'.mp hu).1
   simpa using this
  have W:=WalksT.enumerate (prog:=X.prog) (w:=X.w) (I.ok.hd hc) e it a hei hle hli its.toArray;refine W.item i s _ _ hiu ⟨⟨old,he⟩,hit,p.isList⟩ fun T vals h' tk hv hT ht mid kk=>?_;refine⟨_,rfl,?_⟩;obtain⟨t,x',hx',rfl⟩:=hv;have ex:x'=u:=by
   have:its[i]? = some x':=by simpa using hx'
   rw[hu]at this;exact(W' this).symm
  subst ex;have fw:∀ b∈[e,it],jZ X pins H b:=hf;have I1:Inv X pins σ (upd H T (.tup [.int i,x])) { s with heap:=h',toks:=tk }:=by
   refine I.KY (vals:=[.int i t,x']) fw hT (by simpa using ht) (.cons ⟨t,rfl⟩ (.cons ru .nil)) (by show 2<=sizeLine;decide) kk fun b hb=>?_;obtain⟨⟨xx,ho⟩,⟨o,e2,_⟩,_⟩:=mid;rcases List.mem_cons.mp hb with rfl|hb
   ·exact⟨_,ho⟩
   ·have:b=it:=by simpa using hb
    subst this;exact⟨o,e2⟩
  have hTn:H T=none:=I.hok.fresh hT;have neT:∀ b∈[e,it],b≠T:=fun b hb z=>by
   subst z;exact W.apart i b _ mid hb
  refine W.go es k tp i T _ _ _ mid fun h'' st'' aim=>?_;have hf2:∀ b∈[e,it],jZ X pins (upd H T (.tup [.int i,x])) b:=fun b hb=>by
   obtain⟨f0,fr⟩:=hf b hb;exact⟨by rw[ak (neT b hb)];exact f0,fr⟩
  refine⟨.ref T,upd H T (.tup [.int i,x]),I1.fh (tk:=tk) hf2 aim,rfl,⟨x,T,rfl,hTn,uK I hq hx,rfl⟩,⟨st''.1,st''.2.1⟩,fun b hb=>(hf2 b hb).1⟩
 done:=by
  intro X hP hw hK hc i pins s σ H E I hf st hg;subst hP hw hK;obtain⟨xs,hq,hx⟩:=hg;obtain⟨its,rv,p,hz⟩:=I.list hq;obtain⟨⟨old,he⟩,hit⟩:=st;have hl:=rv.length;refine wpAny_pyNext_enum_end (I.ok.hd hc) he hit p.isList (Array.getElem?_eq_none (by simp;omega)) fun h' hx'=>?_;exact⟨rfl,I.fh (tk:=s.toks) hf fun b o hb q=>hx' b o (fun z=>hb (by simp[z])) q⟩
 self:=fun _ _ _ _ _ st h=>by
  obtain⟨⟨old,he⟩,_⟩:=st;exact wpAny_pyIter_enum he h
theorem ain {l:Expr}{tl:TE}(hl:PE X l tl)(hs:starEach [l] X.env=[(false,eval l X.env)])(pos:Pos)(pins:List (Addr×Obj))(s:Shared)(σ:St)(H:Hp){Q:VK}(I:Inv X pins σ H s)(h:tl σ H Q) :
  wpAny (model X.prog X.w) X.A (spliced (backTo pos (starEach [l] X.env))) (fun us s1=>∃ v u H1,Inv X pins σ H1 s1/\us=[u]/\RelV v u/\Q v H1) X.xe s:=by
 have ha:PA X [l] (fun σ H Q=>tl σ H fun x H1=>Q [x] H1):=aa hl ae hs;have mono:wpAny (model X.prog X.w) X.A (spliced (backTo pos (starEach [l] X.env))) (AP X pins σ fun vs H1=>∃ v,vs=[v]/\Q v H1) X.xe s:=by
  have he:PE X l (fun σ' H' Q'=>σ'=σ/\H'=H/\∀ v H1,Q v H1->Q' v H1):=by
   intro pins s σ' H' Q' I' hw;obtain⟨rfl,rfl,hm⟩:=hw;exact cQ (hl pins s σ' H' Q I' h) fun u s1 ⟨v,H1,I1,r,q⟩=>⟨v,H1,I1,r,hm v H1 q⟩
  exact aa he ae hs pos pins s σ H _ I ⟨rfl,rfl,fun v H1 q=>⟨v,rfl,q⟩⟩
 refine cQ mono fun us s1 ⟨vs,H1,I1,r,v,e,q⟩=>?_;subst e;obtain⟨u,rfl,ru⟩:=r.one;exact⟨v,u,H1,I1,rfl,ru,q⟩
inductive adB (K:Frag)(R:(It->Hp->Prop))(x:V)(H1:Hp):Prop
 |mk (a:_) (dE:x=.ref a) (dF:(∃ xs,aO K H1 a xs)/\R (Ite K a) H1):adB K R x H1
noncomputable def akl (K:Frag)(tl:TE):TI:=fun σ H R=>tl σ H fun x H1=>adB K R x H1
theorem QA {l:Expr}{tl:TE}{p pos tp:Pos}{es:List Expr}{k:Nat}(hg:Gl X "enumerate")(hm:X.mg "enumerate"=none)(hl:PE X l tl)(hs:starEach [l] X.env=[(false,eval l X.env)]:=by rfl) :
  PI X (.Tuple es k tp) (.Call (.Name "enumerate" p) [l] [] pos) (akl X.K tl):=by
 intro pins s σ H R I h;refine Call_ (qU I hg hm D8 (PyProof.Rows.callWith_type1 (cQ (ain hl hs pos pins s σ H I h) fun us s1 ⟨v,u,H1,I1,e1,r1,q1⟩=>?_) (by rw[hs];rfl) (by rfl)))
 ·obtain⟨a,rfl,⟨xs,hq⟩,q⟩:=q1;subst e1;cases r1;obtain⟨its,rv,pl,hz⟩:=I1.list hq;refine call_enumerate_list pl.isList fun h' he hit hsz kk=>?_;have hee:s1.heap.objs.size+1≠s1.heap.objs.size:=Nat.succ_ne_self _;refine wpAny_pyIter_enum he ?_;refine⟨s1.heap.objs.size+1,[s1.heap.objs.size+1,s1.heap.objs.size],_,_,H1,rfl,I1.kept (t':=s1.toks) kk,aaw a _ _ hee,⟨⟨.none,he⟩,hit⟩,fun b hb=>?_,q⟩;have hb':s1.heap.objs.size<=b:=by
   rcases List.mem_cons.mp hb with rfl|hb
   ·exact Nat.le_succ _
   ·have:b=s1.heap.objs.size:=by simpa using hb
    rw[this];exact R' _
  exact I1.KP hb' (I1.hok.fresh hb')
end
end L2
namespace L2
open PySem PySem.Spec PyProof.Rows
structure t7 (z TI TO i1 i2:Addr):Prop where
 TIz:TI≠z
 TOz:TO≠z
 i1z:i1≠z
 i2z:i2≠z
 TITO:TI≠TO
 TIi1:TI≠i1
 TIi2:TI≠i2
 TOi1:TO≠i1
 TOi2:TO≠i2
 i12:i1≠i2
section
variable {X:Cx}
noncomputable def ZE (z TI TO i1 i2 a b:Addr)(i:Nat)(h:Heap):Prop:=IsZip h z TI TO .none/\IsPair h TI (.ref i1) (.ref i2)/\(∃ x y,IsPair h TO x y)/\h.IsListIter i1 a i/\h.IsListIter i2 b i
theorem Pj {pins:List (Addr×Obj)}{σ:St}{H:Hp}{s:Shared}{z TI TO i1 i2 a b:Addr}{i:Nat}{xs ys:List V}(I:Inv X pins σ H s)(O:t7 z TI TO i1 i2)(st:ZE z TI TO i1 i2 a b i s.heap)(ha:aO X.K H a xs)(hb:aO X.K H b ys) :
  ZipApart z TI TO i1 i2 a b:=by
 obtain⟨hz,hTI,⟨x,y,hTO⟩,⟨o1,e1,c1,_⟩,⟨o2,e2,c2,_⟩⟩:=st;have nz:∀{c:Addr} {zs:List V},aO X.K H c zs->c≠z:=fun h=>cH (K:=X.K) I h hz (by intro q;injection q with q;exact V' q (by decide));have nT:∀{c:Addr} {zs:List V},aO X.K H c zs->c≠TO:=fun h=>cH (K:=X.K) I h hTO (by intro q;injection q with q;exact V' q (by decide));have n1:∀{c:Addr} {zs:List V},aO X.K H c zs->c≠i1:=fun h=>cH (K:=X.K) I h e1 (by rw[c1];intro q;injection q with q;exact V' q (by decide));have n2:∀{c:Addr} {zs:List V},aO X.K H c zs->c≠i2:=fun h=>cH (K:=X.K) I h e2 (by rw[c2];intro q;injection q with q;exact V' q (by decide));exact⟨O.TIz,O.TOz,O.i1z,O.i2z,O.TITO,O.TIi1,O.TIi2,O.TOi1,O.TOi2,O.i12,nz ha,nT ha,n1 ha,n2 ha,nz hb,nT hb,n1 hb,n2 hb⟩
theorem adC {P:Program}{w:World}{K:Frag}{es:List Expr}{k:Nat}{tp:Pos}{z TI TO i1 i2:Addr}(a b:Addr)(O:t7 z TI TO i1 i2) :
  Turn P w K (.Tuple es k tp) (Itz K a b) [z,TI,TO,i1,i2] z (ZE z TI TO i1 i2 a b) where
 mem:=by simp
 obj:=fun i h st c hc=>by
  obtain⟨hz,hTI,⟨x,y,hTO⟩,⟨o1,e1,_,d1⟩,⟨o2,e2,_,d2⟩⟩:=st;have hc':c=z\/c=TI\/c=TO\/c=i1\/c=i2:=by simpa using hc
  rcases hc' with rfl|rfl|rfl|rfl|rfl
  ·exact⟨_,hz,fun v q=>by
    have q':Data.fields _=Data.cell v:=q;cases q'⟩
  ·exact⟨_,hTI,fun v q=>by
    have q':Data.seq _ _=Data.cell v:=q;cases q'⟩
  ·exact⟨_,hTO,fun v q=>by
    have q':Data.seq _ _=Data.cell v:=q;cases q'⟩
  ·exact⟨o1,e1,fun v q=>by rw[d1]at q;cases q⟩
  ·exact⟨o2,e2,fun v q=>by rw[d2]at q;cases q⟩
 keep:=fun i h h' st kp=>by
  obtain⟨hz,hTI,⟨x,y,hTO⟩,h1,h2⟩:=st;exact⟨kp z (by simp) _ hz,kp TI (by simp) _ hTI,⟨x,y,kp TO (by simp) _ hTO⟩,h1.at fun o q=>kp i1 (by simp) o q,h2.at fun o q=>kp i2 (by simp) o q⟩
 item:=by
  intro X hP hw hK hc i pins s σ H E I hf st hg;subst hP hw hK;obtain⟨xs,ys,x,y,hq,hq2,hx,hy⟩:=hg;have D:=Pj I O st hq hq2;obtain⟨its,rv,p,_⟩:=I.list hq;obtain⟨its2,WD,p2,_⟩:=I.list hq2;obtain⟨u,hu,ru⟩:=rv.get hx;obtain⟨u2,hu2,ru2⟩:=WD.get hy;have h1:i<its.length:=(C'.mp hu).1;have h2:i<its2.length:=(C'.mp hu2).1;have W:=WalksT.zip2 (prog:=X.prog) (w:=X.w) (I.ok.hd hc) z TI TO i1 i2 a b D its.toArray its2.toArray;obtain⟨hz,hTI,hTO,g1,g2⟩:=st;refine W.item i s _ _ (by simp;omega) ⟨hz,hTI,hTO,g1,g2,p.isList,p2.isList⟩ fun T vals h' tk hv hT ht mid kk=>?_;refine⟨_,rfl,?_⟩;obtain⟨x',y',hx',hy',rfl⟩:=hv;have ex:x'=u:=by
   have:its[i]? = some x':=by simpa using hx'
   rw[hu]at this;exact(W' this).symm
  have ey:y'=u2:=by
   have:its2[i]? = some y':=by simpa using hy'
   rw[hu2]at this;exact(W' this).symm
  subst ex ey;have sub:∀ c∈[z,TO,i1,i2],c∈[z,TI,TO,i1,i2]:=fun c hc=>by
   have:c=z\/c=TO\/c=i1\/c=i2:=by simpa using hc
   simp;rcases this with r|r|r|r <;> simp[r]
  have fw:∀ c∈[z,TO,i1,i2],jZ X pins H c:=fun c hc=>hf c (sub c hc);have I1:Inv X pins σ (upd H T (.tup [x,y])) { s with heap:=h',toks:=tk }:=by
   refine I.KY (vals:=[x',y']) fw hT (by simpa using ht) (.cons ru (.cons ru2 .nil)) (by show 2<=sizeLine;decide) kk fun c hc=>?_;obtain⟨m1,_,⟨_,_,m2⟩,⟨o1,m3,_⟩,⟨o2,m4,_⟩,_⟩:=mid;have:c=z\/c=TO\/c=i1\/c=i2:=by simpa using hc
   rcases this with rfl|rfl|rfl|rfl
   ·exact⟨_,m1⟩
   ·exact⟨_,m2⟩
   ·exact⟨_,m3⟩
   ·exact⟨_,m4⟩
  have hTn:H T=none:=I.hok.fresh hT;have neT:∀ c∈[z,TI,TO,i1,i2],c≠T:=fun c hc q=>by
   subst q;have:c=TI\/c∈[z,TO,i1,i2]:=by
    have:c=z\/c=TI\/c=TO\/c=i1\/c=i2:=by simpa using hc
    simp;rcases this with r|r|r|r|r <;> simp[r]
   rcases this with r|r
   ·subst r;exact V' (Nat.lt_of_lt_of_le (S' hTI) hT) (Nat.lt_irrefl _)
   ·exact W.apart i c _ mid r
  refine W.go es k tp i T _ _ _ mid fun h'' st'' aim=>?_;have hf2:∀ c∈[z,TI,TO,i1,i2],jZ X pins (upd H T (.tup [x,y])) c:=fun c hc=>by
   obtain⟨f0,fr⟩:=hf c hc;exact⟨by rw[ak (neT c hc)];exact f0,fr⟩
  obtain⟨s1,s2,s3,s4,s5,_⟩:=st'';refine⟨.ref T,upd H T (.tup [x,y]),I1.fh (tk:=tk) (fun c hc=>hf2 c (sub c hc)) aim,rfl,⟨x,y,T,rfl,hTn,uK I hq hx,uK I hq2 hy,rfl⟩,⟨s1,s2,s3,s4,s5⟩,fun c hc=>(hf2 c hc).1⟩
 done:=by
  intro X hP hw hK hc i pins s σ H E I hf st hg;subst hP hw hK;obtain⟨xs,ys,hq,hq2,hx⟩:=hg;have D:=Pj I O st hq hq2;obtain⟨its,rv,p,_⟩:=I.list hq;obtain⟨its2,WD,p2,_⟩:=I.list hq2;have W:=WalksT.zip2 (prog:=X.prog) (w:=X.w) (I.ok.hd hc) z TI TO i1 i2 a b D its.toArray its2.toArray;obtain⟨hz,hTI,hTO,g1,g2⟩:=st;have e:min its.toArray.size its2.toArray.size=i:=by
   rw[size_toArray,size_toArray,<-rv.length,<-WD.length];exact hx
  refine W.done s _ _ (by rw[e];exact⟨hz,hTI,hTO,g1,g2,p.isList,p2.isList⟩) fun h' tk kk=>?_;refine⟨rfl,I.fh (tk:=tk) (wr:=[z,TO,i1,i2]) (fun c hc=>hf c ?_) kk⟩;have:c=z\/c=TO\/c=i1\/c=i2:=by simpa using hc
  simp;rcases this with r|r|r|r <;> simp[r]
 self:=fun _ i s _ _ st h=>by
  obtain⟨hz,_⟩:=st;exact wpAny_pyIter_zip hz h
inductive aho (K:Frag)(R:(It->Hp->Prop))(x:V)(y:V)(H2:Hp):Prop
 |mk (a:_) (b:_) (dE:x=.ref a) (dF:y=.ref b) (eQ:(∃ xs,aO K H2 a xs)/\(∃ ys,aO K H2 b ys)/\R (Itz K a b) H2):aho K R x y H2
noncomputable def amR (K:Frag)(tl tm:TE):TI:=fun σ H R=>tl σ H fun x H1=>tm σ H1 fun y H2=>aho K R x y H2
theorem W2 {l m:Expr}{tl tm:TE}(hl:PE X l tl)(hm:PE X m tm)(hs:starEach [l,m] X.env=[(false,eval l X.env),(false,eval m X.env)])(hs2:starEach [m] X.env=[(false,eval m X.env)])(pos:Pos)(pins:List (Addr×Obj))(s:Shared)(σ:St)(H:Hp){Q:V->V->Hp->Prop}(I:Inv X pins σ H s)(h:tl σ H fun x H1=>tm σ H1 fun y H2=>Q x y H2) :
  wpAny (model X.prog X.w) X.A (spliced (backTo pos (starEach [l,m] X.env))) (fun us s1=>∃ x y u v H1,Inv X pins σ H1 s1/\us=[u,v]/\RelV x u/\RelV y v/\Q x y H1) X.xe s:=by
 have he:PE X l (fun σ' H' Q'=>σ'=σ/\H'=H/\∀ x H1,(tm σ H1 fun y H2=>Q x y H2)->Q' x H1):=by
  intro pins s σ' H' Q' I' hw;obtain⟨rfl,rfl,k⟩:=hw;exact cQ (hl pins s σ' H' _ I' h) fun u s1 ⟨v,H1,I1,r,q⟩=>⟨v,H1,I1,r,k v H1 q⟩
 have hf:PE X m (fun σ' H' Q'=>∃ x,σ'=σ/\(tm σ H' fun y H2=>Q x y H2)/\∀ y H2,Q x y H2->Q' y H2):=by
  intro pins s σ' H' Q' I' hw;obtain⟨x,rfl,hh,k⟩:=hw;exact cQ (hm pins s σ' H' _ I' hh) fun u s1 ⟨v,H1,I1,r,q⟩=>⟨v,H1,I1,r,k v H1 q⟩
 have main:=aa he (aa hf ae hs2) (by rw[hs,hs2]) pos pins s σ H (fun vs H2=>∃ x y,vs=[x,y]/\Q x y H2) I ⟨rfl,rfl,fun x H1 q=>⟨x,rfl,q,fun y H2 q2=>⟨x,y,rfl,q2⟩⟩⟩;refine cQ main fun us s1 ⟨vs,H1,I1,r,x,y,e,q⟩=>?_;subst e;obtain⟨u,v,rfl,r1,r2⟩:=r.two;exact⟨x,y,u,v,H1,I1,rfl,r1,r2,q⟩
theorem QB {l m:Expr}{tl tm:TE}{p pos tp:Pos}{es:List Expr}{k:Nat}(hg:Gl X "zip")(hz:X.mg "zip"=none)(hl:PE X l tl)(hm:PE X m tm)(hs:starEach [l,m] X.env=[(false,eval l X.env),(false,eval m X.env)]:=by rfl)(hs2:starEach [m] X.env=[(false,eval m X.env)]:=by rfl) :
  PI X (.Tuple es k tp) (.Call (.Name "zip" p) [l,m] [] pos) (amR X.K tl tm):=by
 intro pins s σ H R I h;refine Call_ (qU I hg hz W0 (PyProof.Rows.callWith_type1 (cQ (W2 hl hm hs hs2 pos pins s σ H I h) fun us s1 ⟨x,y,u,v,H1,I1,e1,r1,r2,q1⟩=>?_) (by rw[hs,hs2]) (by rw[hs2];rfl)));obtain⟨a,b,rfl,rfl,⟨xs,hq⟩,⟨ys,hq2⟩,q⟩:=q1;subst e1;cases r1;cases r2;obtain⟨its,rv,pl,_⟩:=I1.list hq;obtain⟨its2,WD,pl2,_⟩:=I1.list hq2;refine call_zip_2 pl.isList pl2.isList fun h' z1 z2 z3 z4 z5 hsz kk=>?_;refine wpAny_pyIter_zip z1 ?_;have O:t7 (s1.heap.objs.size+4) (s1.heap.objs.size+2) (s1.heap.objs.size+3) s1.heap.objs.size (s1.heap.objs.size+1):=by
  constructor <;> exact(by intro q;have q':(_:Nat)=_:=q;omega)
 refine⟨_,[s1.heap.objs.size+4,s1.heap.objs.size+2,s1.heap.objs.size+3,s1.heap.objs.size,s1.heap.objs.size+1],_,_,H1,rfl,I1.kept (t':=s1.toks) kk,adC a b O,⟨z1,z2,⟨_,_,z3⟩,z4,z5⟩,fun c hc=>?_,q⟩;have hc':s1.heap.objs.size<=c:=by
  have:c=s1.heap.objs.size+4\/c=s1.heap.objs.size+2\/c=s1.heap.objs.size+3\/c=s1.heap.objs.size\/c=s1.heap.objs.size+1:=by simpa using hc
  rcases this with r|r|r|r|r <;> (rw[r];first|exact Nat.le_add_right _ _|exact R' _)
 exact I1.KP hc' (I1.hok.fresh hc')
end
end L2
namespace L2
open PySem
noncomputable abbrev adD (J:It)(g:TG)(tc:TT)(te:TE)(D:Addr)(R:Hp->Prop)(σ:St)(H:Hp):Prop:=∃ W:Nat->Nat->List V->St->Hp->Prop,(∃ m,W 0 m [] σ H)/\∀ i m ys σ H,W i m ys σ H ->
  (J.stop i H/\R H)\/(J.go i H/\∀ x H',J.WC i H x H'->g x σ H' fun σ2 H2=>tc σ2 H2 fun ok H3 =>
   if ok=true then te σ2 H3 fun y H4=>H4 D=some (.lst ys)/\ys.length<sizeLine/\∃ m',m'<m/\W (i+1) m' (ys++[y]) σ2 (upd H4 D (.lst (ys++[y])))
   else ∃ m',m'<m/\W (i+1) m' ys σ2 H3)
noncomputable abbrev D9 (g:TG)(tc:TT)(te:TE)(D:Addr)(ys:List V)(x:V)(σ:St)(H:Hp)(N:List V->St->Hp->Prop):Prop :=
 g x σ H fun σ2 H2=>tc σ2 H2 fun ok H3=>if ok=true then te σ2 H3 fun y H4=>H4 D=some (.lst ys)/\ys.length<sizeLine/\N (ys++[y]) σ2 (upd H4 D (.lst (ys++[y]))) else N ys σ2 H3
theorem KZ {lo:Int}{n:Nat}{g:TG}{tc:TT}{te:TE}{D:Addr}{R:Hp->Prop}{σ:St}{H:Hp}(Pv:Nat->List V->St->Hp->Prop)(h0:Pv 0 [] σ H)
  (hs:∀ i ys σ H,i<n->Pv i ys σ H->∀ N:List V->St->Hp->Prop,(∀ ys σ H,Pv (i+1) ys σ H->N ys σ H)->D9 g tc te D ys (.int (lo+i)) σ H N) (hd:∀ ys σ H,Pv n ys σ H->R H):adD (Itr lo n) g tc te D R σ H:=by
 refine⟨fun i m ys σ H=>m=n-i/\i<=n/\Pv i ys σ H,⟨n,by simp,Nat.zero_le _,h0⟩,?_⟩;rintro i m ys σ H ⟨rfl,hi,p⟩
 by_cases hlt:i<n
 ·refine .inr ⟨hlt,fun x H' y=>?_⟩;obtain⟨e,y⟩:=y;subst e y;exact hs i ys σ _ hlt p (fun ys' σ' H'=>∃ m',m'<n-i/\m'=n-(i+1)/\i+1<=n/\Pv (i+1) ys' σ' H') fun ys' σ' H' q=>⟨n-(i+1),by omega,rfl,hlt,q⟩
 ·have e:i=n:=by omega
  subst e;exact .inl ⟨R' _,hd ys σ H p⟩
theorem eJ {K:Frag}{a:Addr}{xs:List V}{g:TG}{tc:TT}{te:TE}{D:Addr}{R:Hp->Prop}{σ:St}{H:Hp}(Pv:Nat->List V->St->Hp->Prop)(h0:Pv 0 [] σ H)(hl:∀ i ys σ H,Pv i ys σ H->aO K H a xs)
  (hs:∀ i ys x σ H,xs[i]? = some x->Pv i ys σ H->∀ N:List V->St->Hp->Prop,(∀ ys σ H,Pv (i+1) ys σ H->N ys σ H)->D9 g tc te D ys x σ H N) (hd:∀ ys σ H,Pv xs.length ys σ H->R H):adD (Itl K a) g tc te D R σ H:=by
 refine⟨fun i m ys σ H=>m=xs.length-i/\i<=xs.length/\Pv i ys σ H,⟨xs.length,by simp,Nat.zero_le _,h0⟩,?_⟩;rintro i m ys σ H ⟨rfl,hi,p⟩;have q:=hl i ys σ H p
 by_cases hlt:i<xs.length
 ·refine .inr ⟨⟨xs,xs[i],q,by simp[hlt]⟩,fun x H' y=>?_⟩;obtain⟨e,y⟩:=y;subst e;exact hs i ys x σ _ (y xs q) p (fun ys' σ' H'=>∃ m',m'<xs.length-i/\m'=xs.length-(i+1)/\i+1<=xs.length/\Pv (i+1) ys' σ' H') fun ys' σ' H' q=>⟨xs.length-(i+1),by omega,rfl,hlt,q⟩
 ·have e:i=xs.length:=by omega
  subst e;exact .inl ⟨⟨xs,q,R' _⟩,hd ys σ H p⟩
theorem adE {z:Str}{g:TG}{tc:TT}{te:TE}{D:Addr}{R:Hp->Prop}{σ:St}{H:Hp}(Pv:Nat->List V->St->Hp->Prop)(h0:Pv 0 [] σ H)
  (hs:∀ i ys c σ H,z.cps[i]? = some c->Pv i ys σ H->∀ N:List V->St->Hp->Prop,(∀ ys σ H,Pv (i+1) ys σ H->N ys σ H)->D9 g tc te D ys (.str ⟨#[c]⟩) σ H N) (hd:∀ ys σ H,Pv z.cps.size ys σ H->R H):adD (Its z) g tc te D R σ H:=by
 refine⟨fun i m ys σ H=>m=z.cps.size-i/\i<=z.cps.size/\Pv i ys σ H,⟨z.cps.size,by simp,Nat.zero_le _,h0⟩,?_⟩;rintro i m ys σ H ⟨rfl,hi,p⟩
 by_cases hlt:i<z.cps.size
 ·refine .inr ⟨hlt,fun x H' y=>?_⟩;obtain⟨e,c,hc,y⟩:=y;subst e y;exact hs i ys c σ _ hc p (fun ys' σ' H'=>∃ m',m'<z.cps.size-i/\m'=z.cps.size-(i+1)/\i+1<=z.cps.size/\Pv (i+1) ys' σ' H') fun ys' σ' H' q=>⟨z.cps.size-(i+1),by omega,rfl,hlt,q⟩
 ·have e:i=z.cps.size:=by omega
  subst e;exact .inl ⟨R' _,hd ys σ H p⟩
theorem K0 {K:Frag}{a:Addr}{xs:List V}{g:TG}{tb:TS}{D:Ends}{σ:St}{H:Hp}(Pv:Nat->St->Hp->Prop)(h0:Pv 0 σ H)(hl:∀ i σ H,Pv i σ H->aO K H a xs)
  (hs:∀ i x t σ H,xs[i]? = some x->Pv i σ H->H t=none->g (.ref t) σ (upd H t (.tup [.int i,x])) fun σ2 H2=>tb { D with nx:=Pv (i+1),ct:=Pv (i+1),bk:=D.nx } σ2 H2) (hd:∀ σ H,Pv xs.length σ H->D.nx σ H) :
  ∃ W:Nat->Nat->St->Hp->Prop,(∃ m,W 0 m σ H)/\∀ i m σ H,W i m σ H ->
   ((Ite K a).stop i H/\D.nx σ H)\/((Ite K a).go i H/\∃ N:St->Hp->Prop,(∀ σ' H',N σ' H'->∃ m',m'<m/\W (i+1) m' σ' H')/\∀ x H',(Ite K a).WC i H x H'->g x σ H' fun σ2 H2=>tb { D with nx:=N,ct:=N,bk:=D.nx } σ2 H2):=by
 refine⟨fun i m σ H=>m=xs.length-i/\i<=xs.length/\Pv i σ H,⟨xs.length,by simp,Nat.zero_le _,h0⟩,?_⟩;rintro i m σ H ⟨rfl,hi,p⟩;have q:=hl i σ H p
 by_cases hlt:i<xs.length
 ·refine .inr ⟨⟨xs,xs[i],q,by simp[hlt]⟩,Pv (i+1),fun σ' H' p'=>⟨xs.length-(i+1),by omega,rfl,hlt,p'⟩,fun x H' y=>?_⟩;obtain⟨y0,t,rfl,hn,hy,rfl⟩:=y;exact hs i y0 t σ H (hy xs q) p hn
 ·have e:i=xs.length:=by omega
  subst e;exact .inl ⟨⟨xs,q,R' _⟩,hd σ H p⟩
theorem Kv {K:Frag}{a b:Addr}{xs ys:List V}{g:TG}{tb:TS}{D:Ends}{σ:St}{H:Hp}(Pv:Nat->St->Hp->Prop)(he:xs.length=ys.length)(h0:Pv 0 σ H)(hl:∀ i σ H,Pv i σ H->aO K H a xs/\aO K H b ys)
  (hs:∀ i x y t σ H,xs[i]? = some x->ys[i]? = some y->Pv i σ H->H t=none->g (.ref t) σ (upd H t (.tup [x,y])) fun σ2 H2=>tb { D with nx:=Pv (i+1),ct:=Pv (i+1),bk:=D.nx } σ2 H2) (hd:∀ σ H,Pv xs.length σ H->D.nx σ H) :
  ∃ W:Nat->Nat->St->Hp->Prop,(∃ m,W 0 m σ H)/\∀ i m σ H,W i m σ H ->
   ((Itz K a b).stop i H/\D.nx σ H)\/((Itz K a b).go i H/\∃ N:St->Hp->Prop,(∀ σ' H',N σ' H'->∃ m',m'<m/\W (i+1) m' σ' H')/\∀ x H',(Itz K a b).WC i H x H'->g x σ H' fun σ2 H2=>tb { D with nx:=N,ct:=N,bk:=D.nx } σ2 H2):=by
 refine⟨fun i m σ H=>m=xs.length-i/\i<=xs.length/\Pv i σ H,⟨xs.length,by simp,Nat.zero_le _,h0⟩,?_⟩;rintro i m σ H ⟨rfl,hi,p⟩;obtain⟨q,q2⟩:=hl i σ H p
 by_cases hlt:i<xs.length
 ·have hlt2:i<ys.length:=by omega
  refine .inr ⟨⟨xs,ys,xs[i],ys[i],q,q2,by simp[hlt],by simp[hlt2]⟩,Pv (i+1),fun σ' H' p'=>⟨xs.length-(i+1),by omega,rfl,hlt,p'⟩,fun x H' y=>?_⟩;obtain⟨x0,y0,t,rfl,hn,hx,hy,rfl⟩:=y;exact hs i x0 y0 t σ H (hx xs q) (hy ys q2) p hn
 ·have e:i=xs.length:=by omega
  subst e;exact .inl ⟨⟨xs,ys,q,q2,by omega⟩,hd σ H p⟩
end L2
namespace L2
open PySem
theorem fi {j:Nat}{te:TE}{D:Addr}{ys:List V}{x:V}{σ:St}{H:Hp}{N:List V->St->Hp->Prop}
  (h:te (σ.set j (some x)) H fun y H4=>H4 D=some (.lst ys)/\ys.length<sizeLine/\N (ys++[y]) (σ.set j (some x)) (upd H4 D (.lst (ys++[y])))):D9 (DT j) adu te D ys x σ H N:=by
 unfold D9 DT adu;exact(if_pos (rfl:true=true)).mpr h
end L2
namespace L2
open PySem PySem.Spec PyProof.Rows
open Sem (wp)
noncomputable abbrev BI (h:Heap)(z TI TO:Addr)(f0 f1:Value):Prop :=
 h.get? z=some { cls:=.type "zip",dict:=none,data:=.fields #[f0,f1,.bool false,.ref TI,.ref TO],slots:=#[] }
noncomputable def Loose (f0 f1:Value):Prop:=(f0=.none\/∃ a:Nat,f0=rawInt (a:Int))/\∃ b,f1=.bool b
section
variable {prog:Program} {w:World} {A:Around} {E:Value->Shared->Prop} {s:Shared}
theorem aax {a:Addr}{Q:Option Obj->Shared->Prop}(h:∀ o,Q o s):wpAny (model prog w) A (loadIfAlive a) Q E s:=fun _ _ _=>h _
theorem U3 {z TI TO:Addr}{f0 f1:Value}{Q:Bool->Shared->Prop}(hz:BI s.heap z TI TO f0 f1)(hf:Loose f0 f1)
  (hQ:∀(r:Bool)(h':Heap)(g1:Value),BI h' z TI TO f0 g1->Loose f0 g1->Heap.SameBut z s.heap h'->Q r { s with heap:=h' }) :
  wpAny (model prog w) A (Builtin.SmallTypes.ownedTupleIsFree (.ref z)) Q E s:=by
 unfold Builtin.SmallTypes.ownedTupleIsFree;refine A' (wpAny_field hz rfl (x:=f0) rfl ?_);obtain⟨hf0,b,rfl⟩:=hf;rcases hf0 with rfl|⟨a,rfl⟩
 ·exact P' (hQ true s.heap _ hz ⟨.inl rfl,b,rfl⟩ ⟨rfl,fun _ _=>rfl⟩)
 ·show wpAny _ _ (loadIfAlive ((a:Int).toNat) >>= _) _ _ _;refine A' (aax fun o=>?_);cases o with
  |none =>
   simp only [Option.isNone_none,if_true];exact P' (hQ true s.heap _ hz ⟨.inr ⟨a,rfl⟩,b,rfl⟩ ⟨rfl,fun _ _=>rfl⟩)
  |some o =>
   simp only [Option.isNone_some,Bool.false_eq_true,if_false];refine A' (wpAny_field hz rfl (x:=.bool b) rfl ?_);cases b with
   |true =>
    exact P' (hQ false s.heap _ hz ⟨.inr ⟨a,rfl⟩,true,rfl⟩ ⟨rfl,fun _ _=>rfl⟩)
   |false =>
    show wpAny _ _ (setField (.ref z) 1 (.bool true) >>= _) _ _ _;refine A' (wpAny_setField_rec hz (by simp) fun h₁ hz₁ hs₁=>?_);exact P' (hQ false h₁ _ hz₁ ⟨.inr ⟨a,rfl⟩,true,rfl⟩ hs₁)
theorem aay {z TI TO i1 i2 l1 l2:Addr}{k1 k2:Nat}{xs ys:Array Value}{x y a b f0 f1:Value}{Q:Value->Shared->Prop}(D:ZipApart z TI TO i1 i2 l1 l2)
  (hz:BI s.heap z TI TO f0 f1) (hf:Loose f0 f1) (hTI:IsPair s.heap TI (.ref i1) (.ref i2)) (hTO:IsPair s.heap TO a b)
  (h1:s.heap.IsListIter i1 l1 k1) (h2:s.heap.IsListIter i2 l2 k2) (hl1:s.heap.IsList l1 xs) (hl2:s.heap.IsList l2 ys) (hx:xs[k1]? = some x) (hy:ys[k2]? = some y)
  (hQ:∀ h',(∃ g0 g1,BI h' z TI TO g0 g1/\Loose g0 g1)->(∃ a b,IsPair h' TO a b)->h'.IsListIter i1 l1 (k1+1)->h'.IsListIter i2 l2 (k2+1)->IsPair h' s.heap.objs.size x y->h'.objs.size=s.heap.objs.size+1 ->
   (∀ c o,c≠z->c≠TO->c≠i1->c≠i2->s.heap.get? c=some o->h'.get? c=some o)->Q (.ref s.heap.objs.size) { s with heap:=h' }) :
  wpAny (model prog w) A (Builtin.«zip.__next__» ⟨[.ref z],[]⟩) (fun fin s'=>∃ v,fin=.done (.ret v)/\Q v s') E s:=by
 show wpAny _ _ (field (.ref z) 2 >>= _) _ _ _;refine A' (wpAny_field hz rfl (x:=.bool false) rfl ?_);show wpAny _ _ (field (.ref z) 3 >>= _) _ _ _;refine A' (wpAny_field hz rfl (x:=.ref TI) rfl ?_);refine A' (wpAny_seqItems hTI rfl ?_);show wpAny _ _ (Builtin.SmallTypes.ownedTupleIsFree (.ref z) >>= _) _ _ _;refine A' (U3 hz hf fun r h₀ g1 aju hl₀ hs₀=>?_);cases r with
 |true =>
  simp only [if_true];refine A' (wpAny_rule ?_);refine A' (wpAny_field aju rfl (x:=.ref TO) rfl ?_);refine A' (wpAny_setField_rec aju (by simp) fun h₁ hz₁ adF=>?_)
  replace hz₁:BI h₁ z TI TO .ellipsis g1:=hz₁
  have hs₁:Heap.SameBut z s.heap h₁:=⟨adF.1.trans hs₀.1,fun c hc=>(adF.2 c hc).trans (hs₀.2 c hc)⟩;refine A' ?_;simp only [List.zipIdx_cons,List.zipIdx_nil,List.forIn_cons,List.forIn_nil];refine A' (A' (wpAny_onRaise ?_));show wpAny _ _ (Builtin.SmallTypes.nextOf (.ref i1) >>= _) _ _ _;refine A' (wpAny_nextOf_list_item (h1.extBut hs₁.extBut D.i1z) (hl1.extBut hs₁.extBut D.l1z) hx fun h₂ h1₂ hs₂=>P' ?_);have hTO₂:IsPair h₂ TO a b:=hs₂.extBut _ _ D.TOi1 (hs₁.extBut _ _ D.TOz hTO);refine A' (wpAny_seqItems hTO₂ rfl ?_);refine A' (wpAny_updateSeq_pair hTO₂ fun h₃ hTO₃ hs₃=>?_)
  replace hTO₃:IsPair h₃ TO x b:=hTO₃
  refine A' (wpAny_letGo (P' ?_));refine A' (A' (wpAny_onRaise ?_));show wpAny _ _ (Builtin.SmallTypes.nextOf (.ref i2) >>= _) _ _ _;refine A' (wpAny_nextOf_list_item (((h2.extBut hs₁.extBut D.i2z).extBut hs₂.extBut D.i12.symm).extBut hs₃.extBut D.TOi2.symm)
   (((hl2.extBut hs₁.extBut D.l2z).extBut hs₂.extBut D.l2i1).extBut hs₃.extBut D.l2TO) hy fun h₄ h2₄ hs₄=>P' ?_)
  have hTO₄:IsPair h₄ TO x b:=hs₄.extBut _ _ D.TOi2 hTO₃;refine A' (wpAny_seqItems hTO₄ rfl ?_);refine A' (wpAny_updateSeq_pair hTO₄ fun h₅ hTO₅ hs₅=>?_)
  replace hTO₅:IsPair h₅ TO x y:=hTO₅
  refine A' (wpAny_letGo (P' (P' ?_)));refine A' (wpAny_seqItems hTO₅ rfl ?_);refine A' (wpAny_newTuple ?_);have hsz:h₅.objs.size=s.heap.objs.size:=by rw[hs₅.1,hs₄.1,hs₃.1,hs₂.1,hs₁.1]
  have hz₅:BI h₅ z TI TO .ellipsis g1:=hs₅.extBut _ _ D.TOz.symm (hs₄.extBut _ _ D.i2z.symm (hs₃.extBut _ _ D.TOz.symm (hs₂.extBut _ _ D.i1z.symm hz₁)));have hk₅:∀ c o,c≠z->c≠TO->c≠i1->c≠i2->s.heap.get? c=some o->h₅.get? c=some o:=fun c o c1 c2 c3 c4 e =>
   hs₅.extBut _ _ c2 (hs₄.extBut _ _ c4 (hs₃.extBut _ _ c2 (hs₂.extBut _ _ c3 (hs₁.extBut _ _ c1 e))))
  have h1₅:h₅.IsListIter i1 l1 (k1+1):=((h1₂.extBut hs₃.extBut D.TOi1.symm).extBut hs₄.extBut D.i12).extBut hs₅.extBut D.TOi1.symm;have h2₅:h₅.IsListIter i2 l2 (k2+1):=h2₄.extBut hs₅.extBut D.TOi2.symm;have hzlt:z<h₅.objs.size:=S' hz₅;show wpAny _ _ (Builtin.SmallTypes.ownedTupleHandOut (.ref z) (.ref h₅.objs.size) >>= _) _ _ _;refine A' ?_;unfold Builtin.SmallTypes.ownedTupleHandOut;have hz₆:BI (h₅.push { cls:=.type "tuple",data:=.seq #[x,y] }) z TI TO .ellipsis g1:=L' _ hz₅;refine A' (wpAny_setField_rec hz₆ (by simp) fun h₇ hz₇ hs₇=>?_)
  replace hz₇:BI h₇ z TI TO (rawInt h₅.objs.size) g1:=hz₇
  refine wpAny_setField_rec hz₇ (by simp) fun h₈ hz₈ hs₈=>?_
  replace hz₈:BI h₈ z TI TO (rawInt h₅.objs.size) (.bool false):=hz₈
  have up:∀ c o,c≠z->h₅.get? c=some o->h₈.get? c=some o:=fun c o c1 e=>hs₈.extBut _ _ c1 (hs₇.extBut _ _ c1 (L' _ e));have hT₈:IsPair h₈ h₅.objs.size x y:=hs₈.extBut _ _ (Nat.ne_of_gt hzlt) (hs₇.extBut _ _ (Nat.ne_of_gt hzlt) (Heap.get?_push_size _ rfl));have hz8:h₈.objs.size=h₅.objs.size+1:=by rw[hs₈.1,hs₇.1,Heap.size_push]
  have hloose:∃ g0 g1,BI h₈ z TI TO g0 g1/\Loose g0 g1:=⟨_,_,hz₈,.inr ⟨_,rfl⟩,_,rfl⟩;rw[hsz]at hT₈ hz8;refine P' ⟨_,rfl,?_⟩;show Q (.ref h₅.objs.size) _;rw[hsz];exact hQ h₈ hloose ⟨_,_,up _ _ D.TOz hTO₅⟩ (h1₅.at fun o e=>up _ o D.i1z e) (h2₅.at fun o e=>up _ o D.i2z e) hT₈ hz8 fun c o c1 c2 c3 c4 e=>up c o c1 (hk₅ c o c1 c2 c3 c4 e)
 |false =>
  simp only [Bool.false_eq_true,if_false];have hs₁:=hs₀;refine A' ?_;rw[<-Array.forIn_toList];simp only [List.forIn_cons,List.forIn_nil];refine A' (A' (wpAny_holding ?_));show wpAny _ _ (Builtin.SmallTypes.nextOf (.ref i1) >>= _) _ _ _;refine A' (wpAny_nextOf_list_item (h1.extBut hs₁.extBut D.i1z) (hl1.extBut hs₁.extBut D.l1z) hx fun h₂ h1₂ hs₂=>P' (P' ?_));refine A' (A' (wpAny_holding ?_));show wpAny _ _ (Builtin.SmallTypes.nextOf (.ref i2) >>= _) _ _ _;refine A' (wpAny_nextOf_list_item ((h2.extBut hs₁.extBut D.i2z).extBut hs₂.extBut D.i12.symm)
   ((hl2.extBut hs₁.extBut D.l2z).extBut hs₂.extBut D.l2i1) hy fun h₄ h2₄ hs₄=>P' (P' (P' ?_)))
  have hsz:h₄.objs.size=s.heap.objs.size:=by rw[hs₄.1,hs₂.1,hs₁.1]
  refine A' (wpAny_newTuple (hsz:=by show 2<=sizeLine;decide) ?_);have up:∀ c o,c≠z->c≠i1->c≠i2->s.heap.get? c=some o->(h₄.push { cls:=.type "tuple",data:=.seq #[x,y] }).get? c=some o:=fun c o c1 c3 c4 e =>
   L' _ (hs₄.extBut _ _ c4 (hs₂.extBut _ _ c3 (hs₁.extBut _ _ c1 e)))
  have hz₄:BI (h₄.push { cls:=.type "tuple",data:=.seq #[x,y] }) z TI TO f0 g1:=L' _ (hs₄.extBut _ _ D.i2z.symm (hs₂.extBut _ _ D.i1z.symm aju));have hT₈:IsPair (h₄.push { cls:=.type "tuple",data:=.seq #[x,y] }) h₄.objs.size x y:=Heap.get?_push_size _ rfl;have hz8:(h₄.push { cls:=.type "tuple",data:=.seq #[x,y] }).objs.size=h₄.objs.size+1:=Heap.size_push ..;refine P' ⟨_,rfl,?_⟩;show Q (.ref h₄.objs.size) { s with heap:=h₄.push { cls:=.type "tuple",data:=.seq #[x,y] } };rw[hsz]at hT₈ hz8 ⊢;exact hQ _ ⟨_,_,hz₄,hl₀⟩ ⟨a,b,up _ _ D.TOz D.TOi1 D.TOi2 hTO⟩ ((h1₂.extBut hs₄.extBut D.i12).at fun o e=>L' _ e) (h2₄.at fun o e=>L' _ e) hT₈ hz8 fun c o c1 _ c3 c4 e=>up c o c1 c3 c4 e
theorem adG {z TI TO i1 i2 l1 l2:Addr}{k1:Nat}{xs:Array Value}{a b f0 f1:Value}{Q:Fin->Shared->Prop}(hh:A.handled=none)(D:ZipApart z TI TO i1 i2 l1 l2)
  (hz:BI s.heap z TI TO f0 f1) (hf:Loose f0 f1) (hTI:IsPair s.heap TI (.ref i1) (.ref i2)) (hTO:IsPair s.heap TO a b)
  (h1:s.heap.IsListIter i1 l1 k1) (hl1:s.heap.IsList l1 xs) (hend:xs[k1]? = none)
  (hE:∀ h' e,(∀ c o,c≠z->c≠TO->c≠i1->c≠i2->s.heap.get? c=some o->h'.get? c=some o)->(∃ o,h'.get? e=some o/\o.cls=.type "StopIteration")->E (.ref e) { s with heap:=h' }) :
  wpAny (model prog w) A (Builtin.«zip.__next__» ⟨[.ref z],[]⟩) Q E s:=by
 show wpAny _ _ (field (.ref z) 2 >>= _) _ _ _;refine A' (wpAny_field hz rfl (x:=.bool false) rfl ?_);show wpAny _ _ (field (.ref z) 3 >>= _) _ _ _;refine A' (wpAny_field hz rfl (x:=.ref TI) rfl ?_);refine A' (wpAny_seqItems hTI rfl ?_);show wpAny _ _ (Builtin.SmallTypes.ownedTupleIsFree (.ref z) >>= _) _ _ _;refine A' (U3 hz hf fun r h₀ g1 aju hl₀ hs₀=>?_);cases r with
 |true =>
  simp only [if_true];refine A' (wpAny_rule ?_);refine A' (wpAny_field aju rfl (x:=.ref TO) rfl ?_);refine A' (wpAny_setField_rec aju (by simp) fun h₁ hz₁ adF=>?_)
  replace hz₁:BI h₁ z TI TO .ellipsis g1:=hz₁
  have hs₁:Heap.SameBut z s.heap h₁:=⟨adF.1.trans hs₀.1,fun c hc=>(adF.2 c hc).trans (hs₀.2 c hc)⟩;refine A' ?_;simp only [List.zipIdx_cons,List.zipIdx_nil,List.forIn_cons,List.forIn_nil];refine A' (A' (wpAny_onRaise ?_));show wpAny _ _ (Builtin.SmallTypes.nextOf (.ref i1) >>= _) _ _ _;refine A' (wpAny_nextOf_list_end hh (h1.extBut hs₁.extBut D.i1z) (hl1.extBut hs₁.extBut D.l1z) hend fun h₂ e hs₂ he=>?_);obtain⟨oe,hoe,hce⟩:=he;have hz₂:BI h₂ z TI TO .ellipsis g1:=hs₂ _ _ D.i1z.symm hz₁;have hez:e≠z:=fun x=>by subst x;rw[hz₂]at hoe;cases hoe;simp at hce
  refine wpAny_setField_rec hz₂ (by simp) fun h₃ _ hs₃=>hE h₃ e (fun c o c1 _ c3 _ x=>hs₃.extBut _ _ c1 (hs₂ _ _ c3 (hs₁.extBut _ _ c1 x))) ⟨oe,hs₃.extBut _ _ hez hoe,hce⟩
 |false =>
  simp only [Bool.false_eq_true,if_false];refine A' ?_;rw[<-Array.forIn_toList];simp only [List.forIn_cons,List.forIn_nil];refine A' (A' (wpAny_holding ?_));show wpAny _ _ (Builtin.SmallTypes.nextOf (.ref i1) >>= _) _ _ _;exact A' (wpAny_nextOf_list_end hh (h1.extBut hs₀.extBut D.i1z) (hl1.extBut hs₀.extBut D.l1z) hend fun h₂ e hs₂ he=>hE h₂ e (fun c o c1 _ c3 _ x=>hs₂ _ _ c3 (hs₀.extBut _ _ c1 x)) he)
noncomputable def adH (z TI TO i1 i2 a b:Addr)(i:Nat)(h:Heap):Prop:=(∃ f0 f1,BI h z TI TO f0 f1/\Loose f0 f1)/\IsPair h TI (.ref i1) (.ref i2)/\(∃ x y,IsPair h TO x y)/\h.IsListIter i1 a i/\h.IsListIter i2 b i
theorem afP {e z TI TO i1 i2 l1 l2:Addr}{i:Nat}{xs ys:Array Value}{x y old:Value}{Q:Option Value->Shared->Prop}(D:ZipApart z TI TO i1 i2 l1 l2)(hne:∀ c∈[z,TI,TO,i1,i2],e≠c)
  (he:IsEnum s.heap e z i old) (hst:adH z TI TO i1 i2 l1 l2 i s.heap) (hl1:s.heap.IsList l1 xs) (hl2:s.heap.IsList l2 ys) (hx:xs[i]? = some x) (hy:ys[i]? = some y)
  (hQ:∀ h' tk,IsEnumOut h' e z ((i:Int)+1) (.ref s.heap.objs.size) (s.heap.objs.size+1)->adH z TI TO i1 i2 l1 l2 (i+1) h'->IsPair h' s.heap.objs.size x y ->
   h'.get? (s.heap.objs.size+1)=some { cls:=.type "tuple",data:=.seq #[.int i tk,.ref s.heap.objs.size] } ->
   (∀ c o,c ∉ [e,z,TO,i1,i2]->s.heap.get? c=some o->h'.get? c=some o)->Q (some (.ref (s.heap.objs.size+1))) { s with heap:=h',toks:=tk+1 }) :
  wpAny (model prog w) A (pyNext (.ref e)) Q E s:=by
 have hT:s.TypeIs (.ref e) "enumerate":=⟨_,he,rfl⟩;unfold pyNext;refine A' (wpAny_attempt (wpAny_callSpecial?_slot (name:=Str.ofString "__next__") hT slot_enumerate_next
  (wpAny_call_entry slot_enumerate_next hT PySem.F.entry_enumerate_next ?_ (PySem.F.args_enumerate_next_1 _))))
 obtain⟨hp,g,d,tk,os⟩:=s;obtain⟨⟨f0,f1,hz,hlo⟩,hTI,⟨ta,tb,hTO⟩,g1,g2⟩:=hst;have ne:=fun c hc=>(hne c hc);have ez:e≠z:=hne z (by simp);have eTI:e≠TI:=hne TI (by simp);have eTO:e≠TO:=hne TO (by simp);have ei1:e≠i1:=hne i1 (by simp);have ei2:e≠i2:=hne i2 (by simp);show wpAny _ _ (field (.ref e) 2 >>= _) _ _ _;refine A' (wpAny_field he rfl (x:=.ref z) rfl ?_);refine A' ?_;have hTz:Shared.TypeIs ⟨hp,g,d,tk,os⟩ (.ref z) "zip":=⟨_,hz,rfl⟩;unfold Builtin.SmallTypes.nextOf;refine A' (wpAny_callSpecial?_slot (name:=Str.ofString "__next__") hTz slot_zip_next
  (wpAny_call_entry slot_zip_next hTz entry_zip_next (aay D hz hlo hTI hTO g1 g2 hl1 hl2 hx hy fun h₁ q1 q2 q3 q4 q5 q6 q7=>P' ?_) (PySem.F.args_zip_next_1 _)))
 replace q5:IsPair h₁ hp.objs.size x y:=q5
 replace q6:h₁.objs.size=hp.objs.size+1:=q6
 replace q7:∀ c o,c≠z->c≠TO->c≠i1->c≠i2->hp.get? c=some o->h₁.get? c=some o:=q7
 have he₁:IsEnum h₁ e z i old:=q7 e _ ez eTO ei1 ei2 he;have st₁:adH z TI TO i1 i2 l1 l2 (i+1) h₁:=⟨q1,q7 TI _ D.TIz D.TITO D.TIi1 D.TIi2 hTI,q2,q3,q4⟩;show wpAny _ _ (field (.ref e) 3 >>= _) _ _ ⟨h₁,g,d,tk,os⟩;refine A' (wpAny_field he₁ rfl (x:=rawInt i) rfl ?_);show wpAny _ _ (field (.ref e) 4 >>= _) _ _ ⟨h₁,g,d,tk,os⟩;refine A' (wpAny_field he₁ rfl (x:=.none) rfl ?_);show wpAny _ _ (mkInt i >>= _) _ _ ⟨h₁,g,d,tk,os⟩;refine A' (wpAny_mkInt ?_);show wpAny _ _ (setField (.ref e) 3 (rawInt ((i:Int)+1)) >>= _) _ _ ⟨h₁,g,d,tk+1,os⟩;refine A' (wpAny_setField_rec he₁ (by simp) fun h₂ he₂ hs₂=>?_)
 replace hs₂:Heap.SameBut e h₁ h₂:=hs₂
 replace he₂:IsEnum h₂ e z ((i:Int)+1) old:=he₂
 show wpAny _ _ (setField (.ref e) 4 .none >>= _) _ _ ⟨h₂,g,d,tk+1,os⟩;refine A' (wpAny_setField_rec he₂ (by simp) fun h₃ he₃ hs₃=>?_)
 replace hs₃:Heap.SameBut e h₂ h₃:=hs₃
 replace he₃:IsEnum h₃ e z ((i:Int)+1) old:=he₃
 show wpAny _ _ (newTuple [.int i tk,.ref hp.objs.size] >>= _) _ _ ⟨h₃,g,d,tk+1,os⟩;refine A' (wpAny_newTuple ?_);have he₄:IsEnum (h₃.push { cls:=.type "tuple",data:=.seq #[.int i tk,.ref hp.objs.size] }) e z ((i:Int)+1) old:=L' _ he₃;have hsz:h₃.objs.size=hp.objs.size+1:=by rw[hs₃.1,hs₂.1,q6]
 have hel:e<hp.objs.size:=S' he;have ht₄:(h₃.push { cls:=.type "tuple",data:=.seq #[.int i tk,.ref hp.objs.size] }).get? (hp.objs.size+1)=some { cls:=.type "tuple",data:=.seq #[.int i tk,.ref hp.objs.size] }:=by rw[<-hsz];exact Heap.get?_push_size _ rfl
 have aoz:∀ c o,c≠e->h₁.get? c=some o->(h₃.push { cls:=.type "tuple",data:=.seq #[.int i tk,.ref hp.objs.size] }).get? c=some o:=fun c o hc q =>
  L' _ (hs₃.extBut c o hc (hs₂.extBut c o hc q))
 generalize h₃.push { cls:=.type "tuple",data:=.seq #[.int i tk,.ref hp.objs.size] } = h₄ at he₄ ht₄ aoz;show wpAny _ _ (Builtin.SmallTypes.ownedTupleIsFree (.ref e) >>= _) _ _ ⟨h₄,g,d,tk+1,os⟩;rw[hsz];refine A' ?_;unfold Builtin.SmallTypes.ownedTupleIsFree;refine A' (wpAny_field he₄ rfl (x:=.none) rfl (P' ?_));simp only [if_true];refine A' (wpAny_rule ?_);refine A' (wpAny_field he₄ rfl (x:=old) rfl ?_);refine A' (wpAny_setField_rec he₄ (by simp) fun h₅ he₅ hs₅=>?_)
 replace hs₅:Heap.SameBut e h₄ h₅:=hs₅
 replace he₅:IsEnum h₅ e z ((i:Int)+1) (.ref hp.objs.size):=he₅
 show wpAny _ _ (Builtin.SmallTypes.ownedTupleHandOut (.ref e) (.ref (hp.objs.size+1)) >>= _) _ _ ⟨h₅,g,d,tk+1,os⟩;refine A' ?_;unfold Builtin.SmallTypes.ownedTupleHandOut;refine A' (wpAny_setField_rec he₅ (by simp) fun h₆ he₆ hs₆=>?_)
 replace hs₆:Heap.SameBut e h₅ h₆:=hs₆
 replace he₆:IsEnumOut h₆ e z ((i:Int)+1) (.ref hp.objs.size) (hp.objs.size+1):=he₆
 refine wpAny_setField_rec he₆ (by simp) fun h₇ he₇ hs₇=>?_
 replace hs₇:Heap.SameBut e h₆ h₇:=hs₇
 replace he₇:IsEnumOut h₇ e z ((i:Int)+1) (.ref hp.objs.size) (hp.objs.size+1):=he₇
 have up:∀ c o,c≠e->h₁.get? c=some o->h₇.get? c=some o:=fun c o hc q=>hs₇.extBut c o hc (hs₆.extBut c o hc (hs₅.extBut c o hc (aoz c o hc q)));have nT:(hp.objs.size:Nat)≠e:=Nat.ne_of_gt hel;have nT1:(hp.objs.size+1:Nat)≠e:=Nat.ne_of_gt (Nat.lt_succ_of_lt hel);refine A' (wpAny_letGo (P' ⟨_,rfl,P' (hQ h₇ tk he₇ ?_ (up _ _ nT q5) ?_ ?_)⟩))
 ·obtain⟨⟨u0,u1,u2,u3⟩,u4,⟨u5,u6,u7⟩,u8,u9⟩:=st₁;exact⟨⟨u0,u1,up _ _ ez.symm u2,u3⟩,up _ _ eTI.symm u4,⟨u5,u6,up _ _ eTO.symm u7⟩,u8.at fun o q=>up _ o ei1.symm q,u9.at fun o q=>up _ o ei2.symm q⟩
 ·exact hs₇.extBut _ _ nT1 (hs₆.extBut _ _ nT1 (hs₅.extBut _ _ nT1 ht₄))
 ·intro c o hc q;have hc':c≠e/\c≠z/\c≠TO/\c≠i1/\c≠i2:=by simpa using hc
  exact up c o hc'.1 (q7 c o hc'.2.1 hc'.2.2.1 hc'.2.2.2.1 hc'.2.2.2.2 q)
theorem aip {e z TI TO i1 i2 l1 l2:Addr}{i:Nat}{xs:Array Value}{old:Value}{Q:Option Value->Shared->Prop}(hh:A.handled=none)(D:ZipApart z TI TO i1 i2 l1 l2)
  (he:IsEnum s.heap e z i old) (hst:adH z TI TO i1 i2 l1 l2 i s.heap) (hl1:s.heap.IsList l1 xs) (hx:xs[i]? = none)
  (hQ:∀ h',(∀ c o,c ∉ [e,z,TO,i1,i2]->s.heap.get? c=some o->h'.get? c=some o)->Q none { s with heap:=h' }):wpAny (model prog w) A (pyNext (.ref e)) Q E s:=by
 have hT:s.TypeIs (.ref e) "enumerate":=⟨_,he,rfl⟩;obtain⟨⟨f0,f1,hz,hlo⟩,hTI,⟨ta,tb,hTO⟩,g1,g2⟩:=hst;unfold pyNext;refine A' (wpAny_attempt (wpAny_callSpecial?_slot (name:=Str.ofString "__next__") hT slot_enumerate_next
  (wpAny_call_entry slot_enumerate_next hT PySem.F.entry_enumerate_next ?_ (PySem.F.args_enumerate_next_1 _))))
 show wpAny _ _ (field (.ref e) 2 >>= _) _ _ _;refine A' (wpAny_field he rfl (x:=.ref z) rfl ?_);refine A' ?_;have hTz:s.TypeIs (.ref z) "zip":=⟨_,hz,rfl⟩;unfold Builtin.SmallTypes.nextOf;refine A' (wpAny_callSpecial?_slot (name:=Str.ofString "__next__") hTz slot_zip_next
  (wpAny_call_entry slot_zip_next hTz entry_zip_next (adG hh D hz hlo hTI hTO g1 hl1 hx fun h' x hk hx'=>?_) (PySem.F.args_zip_next_1 _)))
 obtain⟨o,ho,hc⟩:=hx';refine A' (wpAny_isInstance (T:="StopIteration") (b:=true) ⟨o,ho,hc⟩ isSubtype_stop ?_);refine P' (hQ _ fun c o hc q=>?_);have hc':c≠e/\c≠z/\c≠TO/\c≠i1/\c≠i2:=by simpa using hc
 exact hk c o hc'.2.1 hc'.2.2.1 hc'.2.2.2.1 hc'.2.2.2.2 q
theorem yn (z TI TO:Addr) :
  Meets (Builtin.«enumerate.__new__» ⟨[.type "enumerate",.ref z],[]⟩) (fun _ R s=>IsZip s.heap z TI TO .none /\
   R (.ok (.ret (.ref s.heap.objs.size)))
    { s with heap:=s.heap.push { cls:=.type "enumerate",data:=.fields #[.none,.bool false,.ref z,rawInt 0,.none,.none] } }) :=
 .of_wp fun prog w A R s h=>by
  obtain⟨hp,g,d,tk,os⟩:=s;obtain⟨hl,h⟩:=h;have hsub:=sub_enumerate;have hL:IsZip (Shared.heap ⟨hp,g,d,tk,os⟩) z TI TO .none:=hl
  wp_walk using wpAny_loadPart' hl
  refine wpAny_stack_any fun st=>P' ?_;split
  ·rename_i c _ _ _ _ _
   cases (c==Value.type "enumerate")
   ·wp_walk using wpAny_loadPart' hl,wpAny_pyIter_zip hL
    exact⟨_,rfl,h⟩
   ·wp_walk using wpAny_loadPart' hl,wpAny_pyIter_zip hL
    exact⟨_,rfl,h⟩
  ·wp_walk using wpAny_loadPart' hl,wpAny_pyIter_zip hL
   exact⟨_,rfl,h⟩
theorem BJ {z TI TO:Addr}{Q:Value->Shared->Prop}(hz:IsZip s.heap z TI TO .none)
  (h:∀ h',IsEnum h' s.heap.objs.size z 0 .none->(∀ b o,s.heap.get? b=some o->h'.get? b=some o)->Q (.ref s.heap.objs.size) { s with heap:=h' }) :
  wpAny (model prog w) A (call (.type "enumerate") [.ref z]) Q E s:=by
 refine callType_new PySem.F.called_enumerate (by decide) (PySem.F.typeCall_enumerate_1 _) (PySem.F.newCall_enumerate_1 _) (fun obj=>PySem.F.args_object_init_2 obj _) PySem.F.entry_enumerate_new
  (yn z TI TO) ⟨hz,?_⟩
 show _/\_;have he:IsEnum (s.heap.push { cls:=.type "enumerate",data:=.fields #[.none,.bool false,.ref z,rawInt 0,.none,.none] }) s.heap.objs.size z 0 .none:=Heap.get?_push_size _ rfl;exact⟨⟨_,he,rfl⟩,h _ he fun b o x=>L' _ x⟩
end
end L2
namespace L2
open PySem PySem.Spec PyProof.Rows
section
variable {X:Cx} {pins:List (Addr×Obj)} {σ:St} {H:Hp} {s:Shared}
theorem Inv.afQ {tk:Nat}{h':Heap}{wr:List Addr}{T U:Addr}{xs ys:List V}{vals vals2:List Value}(I:Inv X pins σ H s)(hw:∀ b∈wr,jZ X pins H b)(hT:s.heap.objs.size<=T)(hU:s.heap.objs.size<=U)(hTU:T≠U)
  (ht:h'.IsTuple T vals.toArray) (rv:Vals xs vals) (hz:xs.length<=sizeLine) (hu:h'.IsTuple U vals2.toArray) (WD:Vals ys vals2) (hz2:ys.length<=sizeLine)
  (kk:∀ b o,b ∉ wr->s.heap.get? b=some o->h'.get? b=some o) (there:∀ b∈wr,∃ o,h'.get? b=some o):Inv X pins σ (upd (upd H T (.tup xs)) U (.tup ys)) { s with heap:=h',toks:=tk }:=by
 have hTn:H T=none:=I.hok.fresh hT;have hUn:H U=none:=I.hok.fresh hU;have nT:∀ b o,s.heap.get? b=some o->b≠T:=fun b o e=>Nat.ne_of_lt (Nat.lt_of_lt_of_le (S' e) hT);have nU:∀ b o,s.heap.get? b=some o->b≠U:=fun b o e=>Nat.ne_of_lt (Nat.lt_of_lt_of_le (S' e) hU);have up:∀{b:Addr} {o:HO},H b=some o->upd (upd H T (.tup xs)) U (.tup ys) b=some o:=fun e=>by
  rw[ak (ar e hUn),ak (ar e hTn)];exact e
 refine I.step (g':=s.gens) (d':=s.drawn) (ch:=wr) (fun b hb=>?_) (fun b o _ _ hc e _=>kk b o hc e) (fun b o _ _ hc e _=>⟨o.slots,kk b o hc e⟩) (fun b o _ e n=>by rw[ak (nU b o e),ak (nT b o e)];exact n)
  (fun b o hc e=>⟨o,kk b o hc e⟩) (fun b ys e=>up e) (fun b o u e=>up e) (fun b ps e=>⟨#[],by rw[up e];simp⟩) (fun m hm=>?_) (fun b u e=>?_) I.bare
 ·obtain⟨_,f1,_,f3,f4,f5⟩:=hw b hb;exact⟨f3,f1,f4,f5⟩
 ·obtain⟨o,es,ep,ho,r⟩:=hm;exact⟨o,es,ep,kk _ o (fun z=>(hw _ z).2.1 rfl) ho,r⟩
 ·by_cases hb:b=U
  ·subst hb;rw[af]at e;cases e;exact⟨hz2,vals2,WD,hu⟩
  ·rw[ak hb]at e
   by_cases hb2:b=T
   ·subst hb2;rw[af]at e;cases e;exact⟨hz,vals,rv,ht⟩
   ·rw[ak hb2]at e;refine(I.hok b u e).stay (fun c v hc q=>kk c v (fun z=>?_) q) (fun c q=>up q) fun c ys q=>up q;have hn:=(hw c z).1;rcases hc with hc|hc
    ·rw[hc,e]at hn;cases hn
    ·rw[hc]at hn;cases hn
noncomputable def aaz (K:Frag)(a b:Addr):It :=
 ⟨fun i H=>∃ xs ys x y,aO K H a xs/\aO K H b ys/\xs[i]? = some x/\ys[i]? = some y,
  fun i H p H'=>∃ x y t0 t1,p=.ref t1/\H t0=none/\H t1=none/\t0≠t1/\(∀ xs,aO K H a xs->xs[i]? = some x)/\(∀ ys,aO K H b ys->ys[i]? = some y)/\H'=upd (upd H t0 (.tup [x,y])) t1 (.tup [.int i,.ref t0]),
  fun i H=>∃ xs ys,aO K H a xs/\aO K H b ys/\xs.length<=i⟩
theorem afR {P:Program}{w:World}{K:Frag}{es:List Expr}{k:Nat}{tp:Pos}{e z TI TO i1 i2:Addr}(a b:Addr)(O:t7 z TI TO i1 i2)(hne:∀ c∈[z,TI,TO,i1,i2],e≠c) :
  Turn P w K (.Tuple es k tp) (aaz K a b) [e,z,TI,TO,i1,i2] e (fun i h=>(∃ old,IsEnum h e z i old)/\adH z TI TO i1 i2 a b i h) where
 mem:=by simp
 obj:=fun i h st c hc=>by
  obtain⟨⟨old,he⟩,⟨f0,f1,hz,_⟩,hTI,⟨x,y,hTO⟩,⟨o1,e1,_,d1⟩,⟨o2,e2,_,d2⟩⟩:=st;have hc':c=e\/c=z\/c=TI\/c=TO\/c=i1\/c=i2:=by simpa using hc
  rcases hc' with rfl|rfl|rfl|rfl|rfl|rfl
  ·exact⟨_,he,fun v q=>by
    have q':Data.fields _=Data.cell v:=q;cases q'⟩
  ·exact⟨_,hz,fun v q=>by
    have q':Data.fields _=Data.cell v:=q;cases q'⟩
  ·exact⟨_,hTI,fun v q=>by
    have q':Data.seq _ _=Data.cell v:=q;cases q'⟩
  ·exact⟨_,hTO,fun v q=>by
    have q':Data.seq _ _=Data.cell v:=q;cases q'⟩
  ·exact⟨o1,e1,fun v q=>by rw[d1]at q;cases q⟩
  ·exact⟨o2,e2,fun v q=>by rw[d2]at q;cases q⟩
 keep:=fun i h h' st kp=>by
  obtain⟨⟨old,he⟩,⟨f0,f1,hz,hl⟩,hTI,⟨x,y,hTO⟩,h1,h2⟩:=st;exact⟨⟨old,kp e (by simp) _ he⟩,⟨f0,f1,kp z (by simp) _ hz,hl⟩,kp TI (by simp) _ hTI,⟨x,y,kp TO (by simp) _ hTO⟩,h1.at fun o q=>kp i1 (by simp) o q,h2.at fun o q=>kp i2 (by simp) o q⟩
 item:=by
  intro X hP hw hK hc i pins s σ H E I hf st hg;subst hP hw hK;obtain⟨xs,ys,x,y,hq,hq2,hx,hy⟩:=hg;obtain⟨⟨old,he⟩,stz⟩:=st;have D:ZipApart z TI TO i1 i2 a b:=by
   obtain⟨⟨f0,f1,hz,_⟩,hTI,⟨x,y,hTO⟩,⟨o1,e1,c1,_⟩,⟨o2,e2,c2,_⟩⟩:=stz;have nz:∀{c:Addr} {zs:List V},aO X.K H c zs->c≠z:=fun h=>cH (K:=X.K) I h hz (by intro q;injection q with q;exact V' q (by decide));have nT:∀{c:Addr} {zs:List V},aO X.K H c zs->c≠TO:=fun h=>cH (K:=X.K) I h hTO (by intro q;injection q with q;exact V' q (by decide));have n1:∀{c:Addr} {zs:List V},aO X.K H c zs->c≠i1:=fun h=>cH (K:=X.K) I h e1 (by rw[c1];intro q;injection q with q;exact V' q (by decide));have n2:∀{c:Addr} {zs:List V},aO X.K H c zs->c≠i2:=fun h=>cH (K:=X.K) I h e2 (by rw[c2];intro q;injection q with q;exact V' q (by decide));exact⟨O.TIz,O.TOz,O.i1z,O.i2z,O.TITO,O.TIi1,O.TIi2,O.TOi1,O.TOi2,O.i12,nz hq,nT hq,n1 hq,n2 hq,nz hq2,nT hq2,n1 hq2,n2 hq2⟩
  obtain⟨its,rv,p,_⟩:=I.list hq;obtain⟨its2,WD,p2,_⟩:=I.list hq2;obtain⟨u,hu,ru⟩:=rv.get hx;obtain⟨u2,hu2,ru2⟩:=WD.get hy;refine afP D hne he stz p.isList p2.isList (x:=u) (y:=u2) (by simpa using hu) (by simpa using hu2) fun h' tk q1 q2 q3 q4 kk=>?_;refine⟨_,rfl,?_⟩;have sub:∀ c∈[e,z,TO,i1,i2],c∈[e,z,TI,TO,i1,i2]:=fun c hc=>by
   have:c=e\/c=z\/c=TO\/c=i1\/c=i2:=by simpa using hc
   simp;rcases this with r|r|r|r|r <;> simp[r]
  have fw:∀ c∈[e,z,TO,i1,i2],jZ X pins H c:=fun c hc=>hf c (sub c hc);have I1:Inv X pins σ (upd (upd H s.heap.objs.size (.tup [x,y])) (s.heap.objs.size+1) (.tup [.int i,.ref s.heap.objs.size])) { s with heap:=h',toks:=tk+1 }:=by
   refine I.afQ (vals:=[u,u2]) (vals2:=[.int i tk,.ref s.heap.objs.size]) fw (R' _) (Nat.le_succ _) (Nat.ne_of_lt (Nat.lt_succ_self _)) ⟨_,q3,rfl,_,rfl⟩ (.cons ru (.cons ru2 .nil)) (by show 2<=sizeLine;decide)
    ⟨_,q4,rfl,_,rfl⟩ (.cons ⟨tk,rfl⟩ (.cons rfl .nil)) (by show 2<=sizeLine;decide) kk fun c hc=>?_
   obtain⟨⟨f0,f1,m1,_⟩,_,⟨_,_,m2⟩,⟨o1,m3,_⟩,⟨o2,m4,_⟩⟩:=q2;have:c=e\/c=z\/c=TO\/c=i1\/c=i2:=by simpa using hc
   rcases this with rfl|rfl|rfl|rfl|rfl
   ·exact⟨_,q1⟩
   ·exact⟨_,m1⟩
   ·exact⟨_,m2⟩
   ·exact⟨_,m3⟩
   ·exact⟨_,m4⟩
  have hT0:H s.heap.objs.size=none:=I.hok.fresh (R' _);have hT1:H (s.heap.objs.size+1)=none:=I.hok.fresh (Nat.le_succ _);have lt:∀ c∈[e,z,TI,TO,i1,i2],c<s.heap.objs.size:=fun c hc=>by
   obtain⟨⟨f0,f1,m1,_⟩,m5,⟨_,_,m2⟩,⟨o1,m3,_⟩,⟨o2,m4,_⟩⟩:=stz;have hc':c=e\/c=z\/c=TI\/c=TO\/c=i1\/c=i2:=by simpa using hc
   rcases hc' with rfl|rfl|rfl|rfl|rfl|rfl
   ·exact S' he
   ·exact S' m1
   ·exact S' m5
   ·exact S' m2
   ·exact S' m3
   ·exact S' m4
  refine wpAny_letOwnedTupleGo_enum q1 fun h'' amT hs''=>?_;have hf2:∀ c∈[e,z,TI,TO,i1,i2],jZ X pins (upd (upd H s.heap.objs.size (.tup [x,y])) (s.heap.objs.size+1) (.tup [.int i,.ref s.heap.objs.size])) c:=fun c hc=>by
   obtain⟨f0,fr⟩:=hf c hc;have l:=lt c hc;exact⟨by rw[ak (Nat.ne_of_lt (Nat.lt_succ_of_lt l)),ak (Nat.ne_of_lt l)];exact f0,fr⟩
  have kk2:∀ c o,c ∉ [e]->h'.get? c=some o->h''.get? c=some o:=fun c o hc q=>hs''.extBut c o (fun r=>hc (by simp[r])) q;have up:∀{c:Addr} {o:Obj},c∈[z,TI,TO,i1,i2]->h'.get? c=some o->h''.get? c=some o:=fun hc q=>hs''.extBut _ _ (hne _ hc).symm q;have fe:∀ c∈[e],jZ X pins (upd (upd H s.heap.objs.size (.tup [x,y])) (s.heap.objs.size+1) (.tup [.int i,.ref s.heap.objs.size])) c:=fun c hc=>by
   have:c=e:=by simpa using hc
   exact hf2 c (by simp[this])
  refine⟨.ref (s.heap.objs.size+1),_,I1.fh (tk:=tk+1) (wr:=[e]) fe kk2,rfl,⟨x,y,s.heap.objs.size,s.heap.objs.size+1,rfl,hT0,hT1,Nat.ne_of_lt (Nat.lt_succ_self _),uK I hq hx,uK I hq2 hy,rfl⟩,?_,fun c hc=>(hf2 c hc).1⟩;obtain⟨⟨f0,f1,m1,m1'⟩,m5,⟨_,_,m2⟩,m3,m4⟩:=q2;exact⟨⟨_,by simpa using amT⟩,⟨f0,f1,up (by simp) m1,m1'⟩,up (by simp) m5,⟨_,_,up (by simp) m2⟩,m3.at fun o q=>up (by simp) q,m4.at fun o q=>up (by simp) q⟩
 done:=by
  intro X hP hw hK hc i pins s σ H E I hf st hg;subst hP hw hK;obtain⟨xs,ys,hq,hq2,hx⟩:=hg;obtain⟨⟨old,he⟩,stz⟩:=st;have D:ZipApart z TI TO i1 i2 a b:=by
   obtain⟨⟨f0,f1,hz,_⟩,hTI,⟨x,y,hTO⟩,⟨o1,e1,c1,_⟩,⟨o2,e2,c2,_⟩⟩:=stz;have nz:∀{c:Addr} {zs:List V},aO X.K H c zs->c≠z:=fun h=>cH (K:=X.K) I h hz (by intro q;injection q with q;exact V' q (by decide));have nT:∀{c:Addr} {zs:List V},aO X.K H c zs->c≠TO:=fun h=>cH (K:=X.K) I h hTO (by intro q;injection q with q;exact V' q (by decide));have n1:∀{c:Addr} {zs:List V},aO X.K H c zs->c≠i1:=fun h=>cH (K:=X.K) I h e1 (by rw[c1];intro q;injection q with q;exact V' q (by decide));have n2:∀{c:Addr} {zs:List V},aO X.K H c zs->c≠i2:=fun h=>cH (K:=X.K) I h e2 (by rw[c2];intro q;injection q with q;exact V' q (by decide));exact⟨O.TIz,O.TOz,O.i1z,O.i2z,O.TITO,O.TIi1,O.TIi2,O.TOi1,O.TOi2,O.i12,nz hq,nT hq,n1 hq,n2 hq,nz hq2,nT hq2,n1 hq2,n2 hq2⟩
  obtain⟨its,rv,p,_⟩:=I.list hq;have hl:=rv.length;refine aip (I.ok.hd hc) D he stz p.isList (Array.getElem?_eq_none (by simp;omega)) fun h' kk=>?_;refine⟨rfl,I.fh (tk:=s.toks) (wr:=[e,z,TO,i1,i2]) (fun c hc=>hf c ?_) kk⟩;have:c=e\/c=z\/c=TO\/c=i1\/c=i2:=by simpa using hc
  simp;rcases this with r|r|r|r|r <;> simp[r]
 self:=fun _ _ _ _ _ st h=>by
  obtain⟨⟨old,he⟩,_⟩:=st;exact wpAny_pyIter_enum he h
inductive ako (K:Frag)(R:(It->Hp->Prop))(x:V)(y:V)(H2:Hp):Prop
 |mk (a:_) (b:_) (dE:x=.ref a) (dF:y=.ref b) (eQ:(∃ xs,aO K H2 a xs)/\(∃ ys,aO K H2 b ys)/\R (aaz K a b) H2):ako K R x y H2
noncomputable def iEz (K:Frag)(tl tm:TE):TI:=fun σ H R=>tl σ H fun x H1=>tm σ H1 fun y H2=>ako K R x y H2
theorem afS {l m:Expr}{tl tm:TE}{p pos:Pos}(hg:Gl X "zip")(hz:X.mg "zip"=none)(hl:PE X l tl)(hm:PE X m tm)(hs:starEach [l,m] X.env=[(false,eval l X.env),(false,eval m X.env)])(hs2:starEach [m] X.env=[(false,eval m X.env)])
  {R:V->V->Hp->Prop} (I:Inv X pins σ H s) (h:tl σ H fun x H1=>tm σ H1 fun y H2=>R x y H2) (hR:∀ x y H1,R x y H1->∃ a b,x=.ref a/\y=.ref b/\(∃ xs,aO X.K H1 a xs)/\∃ ys,aO X.K H1 b ys) :
  wpAny (model X.prog X.w) X.A (eval (.Call (.Name "zip" p) [l,m] [] pos) X.env) (fun v s1=>∃ a b z TI TO i1 i2 H1,R (.ref a) (.ref b) H1/\v=.ref z/\Inv X pins σ H1 s1/\t7 z TI TO i1 i2/\IsZip s1.heap z TI TO .none/\ZE z TI TO i1 i2 a b 0 s1.heap/\∀ c∈[z,TI,TO,i1,i2],jZ X pins H1 c) X.xe s:=by
 refine Call_ (qU I hg hz W0 (PyProof.Rows.callWith_type1 (cQ (W2 hl hm hs hs2 pos pins s σ H I h) fun us s1 ⟨x,y,u,v,H1,I1,e1,r1,r2,q1⟩=>?_) (by rw[hs,hs2]) (by rw[hs2];rfl)));obtain⟨a,b,rfl,rfl,⟨xs,hq⟩,⟨ys,hq2⟩⟩:=hR _ _ _ q1;subst e1;cases r1;cases r2;obtain⟨its,rv,pl,_⟩:=I1.list hq;obtain⟨its2,WD,pl2,_⟩:=I1.list hq2;refine call_zip_2 pl.isList pl2.isList fun h' z1 z2 z3 z4 z5 hsz kk=>?_;have O:t7 (s1.heap.objs.size+4) (s1.heap.objs.size+2) (s1.heap.objs.size+3) s1.heap.objs.size (s1.heap.objs.size+1):=by
  constructor <;> exact(by intro q;have q':(_:Nat)=_:=q;omega)
 refine⟨a,b,_,_,_,_,_,H1,q1,rfl,I1.kept (t':=s1.toks) kk,O,z1,⟨z1,z2,⟨_,_,z3⟩,z4,z5⟩,fun c hc=>?_⟩;have hc':s1.heap.objs.size<=c:=by
  have:c=s1.heap.objs.size+4\/c=s1.heap.objs.size+2\/c=s1.heap.objs.size+3\/c=s1.heap.objs.size\/c=s1.heap.objs.size+1:=by simpa using hc
  rcases this with r|r|r|r|r <;> (rw[r];first|exact Nat.le_add_right _ _|exact R' _)
 exact I1.KP hc' (I1.hok.fresh hc')
theorem akp {l m:Expr}{tl tm:TE}{p p2 pos pos2 tp:Pos}{es:List Expr}{k:Nat}(hg:Gl X "zip")(hz:X.mg "zip"=none)(hg2:Gl X "enumerate")(hm2:X.mg "enumerate"=none)(hl:PE X l tl)(hm:PE X m tm)
  (hs:starEach [l,m] X.env=[(false,eval l X.env),(false,eval m X.env)]:=by rfl) (hs2:starEach [m] X.env=[(false,eval m X.env)]:=by rfl)
  (hs3:starEach [Expr.Call (.Name "zip" p) [l,m] [] pos] X.env=[(false,eval (.Call (.Name "zip" p) [l,m] [] pos) X.env)]:=by rfl) :
  PI X (.Tuple es k tp) (.Call (.Name "enumerate" p2) [.Call (.Name "zip" p) [l,m] [] pos] [] pos2) (iEz X.K tl tm):=by
 intro pins s σ H R I h;have hev:wpAny (model X.prog X.w) X.A (spliced (backTo pos2 (starEach [Expr.Call (.Name "zip" p) [l,m] [] pos] X.env))) (fun us s1=>∃ a b z TI TO i1 i2 H1,R (aaz X.K a b) H1/\us=[.ref z]/\Inv X pins σ H1 s1/\t7 z TI TO i1 i2/\IsZip s1.heap z TI TO .none/\ZE z TI TO i1 i2 a b 0 s1.heap/\∀ c∈[z,TI,TO,i1,i2],jZ X pins H1 c) X.xe s:=by
  rw[hs3];refine Calls.spliced_cons (cQ (afS hg hz hl hm hs hs2 I h fun x y H1 ⟨a,b,e1,e2,q1,q2,_⟩=>⟨a,b,e1,e2,q1,q2⟩) fun v s1 ⟨a,b,z,TI,TO,i1,i2,H1,q,e,I1,O,g1,g2,g3⟩=>Calls.spliced_nil ?_);obtain⟨a',b',e1,e2,_,_,q⟩:=q;cases e1;cases e2;exact⟨a,b,z,TI,TO,i1,i2,H1,q,by rw[e],I1,O,g1,g2,g3⟩
 refine Call_ (qU I hg2 hm2 D8 (PyProof.Rows.callWith_type1 (cQ hev fun us s1 ⟨a,b,z,TI,TO,i1,i2,H1,q,e,I1,O,g1,g2,g3⟩=>?_) (by rw[hs3];rfl) (by rfl)));subst e;refine BJ g1 fun h' he kk=>?_;refine wpAny_pyIter_enum he ?_;obtain⟨y1,y2,⟨y3,y4,y5⟩,y6,y7⟩:=g2;have hne:∀ c∈[z,TI,TO,i1,i2],s1.heap.objs.size≠c:=fun c hc=>by
  have hc':c=z\/c=TI\/c=TO\/c=i1\/c=i2:=by simpa using hc
  rcases hc' with rfl|rfl|rfl|rfl|rfl
  ·exact Nat.ne_of_gt (S' y1)
  ·exact Nat.ne_of_gt (S' y2)
  ·exact Nat.ne_of_gt (S' y5)
  ·obtain⟨_,y,_⟩:=y6;exact Nat.ne_of_gt (S' y)
  ·obtain⟨_,y,_⟩:=y7;exact Nat.ne_of_gt (S' y)
 refine⟨s1.heap.objs.size,[s1.heap.objs.size,z,TI,TO,i1,i2],_,_,H1,rfl,I1.kept (t':=s1.toks) kk,afR a b O hne,⟨⟨.none,he⟩,⟨.none,.bool false,kk _ _ y1,.inl rfl,false,rfl⟩,kk _ _ y2,⟨y3,y4,kk _ _ y5⟩,y6.at fun o q=>kk _ _ q,y7.at fun o q=>kk _ _ q⟩,fun c hc=>?_,q⟩;rcases List.mem_cons.mp hc with rfl|hc
 ·exact I1.KP (R' _) (I1.hok.fresh (R' _))
 ·exact g3 c hc
end
theorem aiq {K:Frag}{a b:Addr}{xs ys:List V}{g:TG}{tb:TS}{D:Ends}{σ:St}{H:Hp}(Pv:Nat->St->Hp->Prop)(he:xs.length=ys.length)(h0:Pv 0 σ H)(hl:∀ i σ H,Pv i σ H->aO K H a xs/\aO K H b ys)
  (hs:∀ i x y t u σ H,xs[i]? = some x->ys[i]? = some y->Pv i σ H->H t=none->H u=none->t≠u->g (.ref u) σ (upd (upd H t (.tup [x,y])) u (.tup [.int i,.ref t])) fun σ2 H2=>tb { D with nx:=Pv (i+1),ct:=Pv (i+1),bk:=D.nx } σ2 H2) (hd:∀ σ H,Pv xs.length σ H->D.nx σ H) :
  ∃ W:Nat->Nat->St->Hp->Prop,(∃ m,W 0 m σ H)/\∀ i m σ H,W i m σ H ->
   ((aaz K a b).stop i H/\D.nx σ H)\/((aaz K a b).go i H/\∃ N:St->Hp->Prop,(∀ σ' H',N σ' H'->∃ m',m'<m/\W (i+1) m' σ' H')/\∀ x H',(aaz K a b).WC i H x H'->g x σ H' fun σ2 H2=>tb { D with nx:=N,ct:=N,bk:=D.nx } σ2 H2):=by
 refine⟨fun i m σ H=>m=xs.length-i/\i<=xs.length/\Pv i σ H,⟨xs.length,by simp,Nat.zero_le _,h0⟩,?_⟩;rintro i m σ H ⟨rfl,hi,p⟩;obtain⟨q,q2⟩:=hl i σ H p
 by_cases hlt:i<xs.length
 ·have hlt2:i<ys.length:=by omega
  refine .inr ⟨⟨xs,ys,xs[i],ys[i],q,q2,by simp[hlt],by simp[hlt2]⟩,Pv (i+1),fun σ' H' p'=>⟨xs.length-(i+1),by omega,rfl,hlt,p'⟩,fun x H' y=>?_⟩;obtain⟨x0,y0,t,u,rfl,hn,hn2,tu,hx,hy,rfl⟩:=y;exact hs i x0 y0 t u σ H (hx xs q) (hy ys q2) p hn hn2 tu
 ·have e:i=xs.length:=by omega
  subst e;exact .inl ⟨⟨xs,ys,q,q2,R' _⟩,hd σ H p⟩
end L2
namespace L2
open PySem PySem.Spec PyProof.Rows
structure QC (K:Frag)(x qual:Str)(st:Stmt)(f:Addr)(fd:FuncData)(dV:Value):Prop where
 ex:∃(oc:Value)(od:Option Addr)(kV doc pm:Value)(an:Option Addr)(cdv ct:Value)(osl:Array (Option Value)),
  fd=fnOf x qual (aC st) (ay st) (ai st) dV kV doc pm an cdv ct/\K.lookup f=some ⟨oc,od,.func fd,osl⟩/\codeIn K cdv qual=true
 kp:keepIn K (.ref f)=true
section
variable {P:Program} {w:World} {K:Frag} {mg:Str->Option Value} {base:Heap}
theorem QC.ok {x qual:Str}{st:Stmt}{f:Addr}{fd:FuncData}{dV:Value}{N ps:List Str}{k:Nat}{sp:Sp}(F:QC K x qual st f fd dV)(S:aF N ps (ai st))(len:∀ vs H Q E,sp vs H Q E->vs.length=ps.length)
  (hbody:∀(cdv:Value)(A:Around)(outer:List Env)(s:Shared)(H:Hp)(vs:List V)(Q:VK)(E:XK),mP k (A.deeper (envOfC qual (ai st) s.heap.objs.size f cdv))->sp vs H Q E ->
   ∃ t,WB (WR fK P w K mg base N qual (ai st) f cdv A outer s H E).nox (ay st) t/\t { nx:=fun _ H'=>Q .non H',rt:=Q } (start N vs) H):br P w K mg base fK (k+1) f fd ps sp:=by
 obtain⟨oc,od,kV,doc,pm,an,cdv,ct,osl,rfl,lk,hcd⟩:=F.ex;refine ahd lk hcd S len fun A outer s H vs Q E hr hsp=>?_;obtain⟨t,h,q⟩:=hbody cdv A outer s H vs Q E hr hsp;exact⟨t,h.nox,q⟩
theorem QC.binds {x qual:Str}{st:Stmt}{f:Addr}{fd:FuncData}{T:Addr}{o:Obj}{items:Array Value}{n:Nat}{ps:List Str}{ds:List Value}(F:QC K x qual st f fd (.ref T))(lk:K.lookup T=some o)(hs:o.data=.seq items n)
  (h:∀(kV doc pm:Value)(an:Option Addr)(cdv ct:Value)(us:List Value),(us++ds).length=ps.length->∃ k,bindArgs (fnOf x qual (aC st) (ay st) (ai st) (.ref T) kV doc pm an cdv ct) ⟨us,[]⟩=seqItems? (.ref T) >>= k/\k (some items)=pure (ps.zip (us++ds))):Binds K fd ps ds:=by
 obtain⟨oc,od,kV,doc,pm,an,cdv,ct,osl,rfl,lkf,hcd⟩:=F.ex;intro s us KI hl;obtain⟨k,h1,h2⟩:=h kV doc pm an cdv ct us hl;exact BindsTo.of_defaults rfl (KI _ _ lk) hs h1 h2
theorem Kw {x qual:Str}{st:Stmt}{f:Addr}{oc:Value}{od an:Option Addr}{osl:Array (Option Value)}{dV kV doc pm cdv ct:Value}(l:K.lookup f=some ⟨oc,od,.func (fnOf x qual (aC st) (ay st) (ai st) dV kV doc pm an cdv ct),osl⟩)
  (c:codeIn K cdv qual=true) (k:keepIn K (.ref f)=true):QC K x qual st f (fnOf x qual (aC st) (ay st) (ai st) dV kV doc pm an cdv ct) dV:=⟨⟨oc,od,kV,doc,pm,an,cdv,ct,osl,rfl,l,c⟩,k⟩
end
inductive W3 (w:World):List DictEntry->List (Str×V)->Prop
 |nil:W3 w [] []
 |cons {x:Str} {t:Tok} {u:Value} {v:V} {es:List DictEntry} {kvs:List (Str×V)}:RelV v u->W3 w es kvs->W3 w (⟨PyData.keyHash w.params x,.str x t,u⟩::es) ((x,v)::kvs)
structure KD (K:Frag)(w:World)(a:Addr)(kvs:List (Str×V)):Prop where
 sys:(a==sysModules)=false
 ok:∃ es n,K.lookup a=some ⟨.type "dict",none,.dict es n,#[]⟩/\W3 w es.toList kvs/\(kvs.map (·.1)).Nodup
theorem W3.vs (P:Program){w:World}:∀{es:List DictEntry} {kvs:List (Str×V)},W3 w es kvs->∃ vs:List (Key×Value),Pairs (bX P w) es vs/\vs.map (·.1)=kvs.map (fun p=>(Sum.inr p.1:Key)) /\
  (∀ e∈es,∃ k,(bX P w).is k e.key=true/\e.hash=(bX P w).hash k)/\∀ x,uI (kvs.lookup x) (valueAt vs (Sum.inr x))
 |_,_,.nil=>⟨[],.nil,rfl,fun e h=>by simp at h,fun x=>True.intro⟩
 |_,_,.cons (x:=x) (t:=t) (u:=u) (v:=v) r q=>by
  obtain⟨vs,h1,h2,h3,h4⟩:=W3.vs P q;refine⟨(Sum.inr x,u)::vs,.cons (ki P w x t) rfl h1,by rw[map_cons,map_cons,h2],fun e he=>?_,fun y=>?_⟩
  ·rcases List.mem_cons.mp he with rfl|he
   ·exact⟨Sum.inr x,ki P w x t,rfl⟩
   ·exact h3 e he
  ·by_cases hy:y=x
   ·subst hy;unfold valueAt;simp only [List.lookup_cons,List.find?_cons];simp;exact r
   ·unfold valueAt;have h5:=h4 y;unfold valueAt at h5;have e1:(y==x)=false:=by simpa using hy
    have e2:decide ((Sum.inr x:Key)=Sum.inr y)=false:=Y' fun e=>hy (Sum.inr.inj e).symm;simp only [List.lookup_cons,e1,List.find?_cons,e2];exact h5
theorem Gx:∀{l:List Str},l.Nodup->(l.map (fun p=>(Sum.inr p:Key))).Nodup
 |[],_=>.nil
 |x::l,h=>by
  rw[map_cons,List.nodup_cons];obtain⟨h1,h2⟩:=List.nodup_cons.mp h;refine⟨fun z=>?_,Gx h2⟩;obtain⟨y,hy,e⟩:=mem_map.mp z;cases e;exact h1 hy
theorem KD.dict (P:Program){K:Frag}{w:World}{a:Addr}{kvs:List (Str×V)}{h:Heap}(d:KD K w a kvs)(hi:K.In h):∃ vs,h.DictOf (bX P w) a vs/\∀ x,uI (kvs.lookup x) (valueAt vs (Sum.inr x)):=by
 obtain⟨es,n,lk,ok,nd⟩:=d.ok;obtain⟨vs,h1,h2,h3,h4⟩:=ok.vs P;refine⟨vs,⟨_,es,n,hi _ _ lk,⟨rfl,rfl,rfl⟩,rfl,fun e he=>h3 e (by simpa using he),h1,?_⟩,h4⟩;rw[h2];have:=Gx nd;rw[List.map_map]at this;exact this
theorem uI.afT {o:Option V}{u:Option Value}(r:uI o u):o.isSome=u.isSome:=by
 cases o <;> cases u <;> first|rfl|exact False.elim r
theorem uI.akq {o:Option V}{u:Option Value}{d:V}{d':Value}(r:uI o u)(rd:RelV d d'):RelV (o.getD d) (u.getD d'):=by
 cases o with
 |none=>cases u with
  |none=>exact rd
  |some _=>exact False.elim r
 |some v=>cases u with
  |none=>exact False.elim r
  |some _=>exact r
section
variable {X:Cx}
theorem adI:vE X (compareOp .In) (fun x y H Q=>∃ a z kvs,x=.str z/\y=.ref a/\KD X.K X.w a kvs/\Q (.bl (kvs.lookup z).isSome) H):=by
 intro pins s σ H x y v u Q I rx ry h;obtain⟨a,z,kvs,rfl,rfl,d,q⟩:=h;obtain⟨t,rfl⟩:=rx;cases ry;obtain⟨vs,dd,rel⟩:=d.dict X.prog I.DQ;refine wpAny_in_of (knd:=bX X.prog X.w) (k:=Sum.inr z) (ki _ _ z t) d.sys dd.mapOf ?_;rw[<-(rel z).afT];exact⟨.bl _,H,I.tok _,rfl,q⟩
theorem ahp:IxR X (fun x y H Q=>∃ a z kvs r,x=.ref a/\y=.str z/\KD X.K X.w a kvs/\kvs.lookup z=some r/\Q r H):=by
 intro value slice pins s σ H x y v u Q I rx ry h hs;obtain⟨a,z,kvs,r,rfl,rfl,d,l,q⟩:=h;cases rx;obtain⟨t,rfl⟩:=ry;obtain⟨vs,dd,rel⟩:=d.dict X.prog I.DQ;have hr:=rel z;rw[l]at hr;cases hv:valueAt vs (Sum.inr z) with
 |none=>rw[hv]at hr;exact False.elim hr
 |some rv =>
  rw[hv]at hr;exact subscriptTail_builtinR (x:=rv) dd.typeIs PySem.F.slot_dict_getitem.lookup
   (wpAny_getItem_of (knd:=bX X.prog X.w) (k:=Sum.inr z) (ki _ _ z t) dd.mapOf hv ⟨rfl,⟨r,H,I.tok _,hr,q⟩⟩) hs
noncomputable def air (K:Frag)(w:World)(td ty tx:TE):TE:=fun σ H Q=>td σ H fun x H1=>∃ a kvs,x=.ref a/\KD K w a kvs/\ty σ H1 fun y H2=>tx σ H2 fun z H3=>∃ k,y=.str k/\Q ((kvs.lookup k).getD z) H3
theorem adJ {o e f:Expr}{apos cpos:Pos}{td ty tx:TE}(ho:PE X o td)(he:PE X e ty)(hf:PE X f tx)
  (base:attributeBase o "get" X.env (eval o X.env)=eval o X.env:=by rfl)
  (few:((backTo cpos (starEach [e,f] X.env)).all (fun x=>!x.1)&&(backToKw cpos (keywordEach [] X.env)).all (fun x=>x.1.isSome)
   && decide (([e,f]:List Expr).length+([]:List Keyword).length+(if([]:List Keyword).isEmpty then 0 else 1)<30))=true:=by rfl)
  (line:(apos.endLine==cpos.line)=true:=by rfl) (trees:backTo cpos (starEach [e,f] X.env)=[(false,eval e X.env),(false,eval f X.env)]:=by rfl) :
  PE X (.Call (.Attribute o "get" apos) [e,f] [] cpos) (air X.K X.w td ty tx):=by
 intro pins s σ H Q I h;refine wpAny_Call_method base few line PySem.F.plainAttrs_dict slot_dict_get PySem.F.type_dict_get (cQ (ho pins s σ H _ I h) fun u s1 ⟨x,H1,I1,rx,a,kvs,ex,d,q1⟩=>?_);subst ex;obtain rfl:u=Value.ref a:=rx;obtain⟨vs,dd,rel⟩:=d.dict X.prog I1.DQ;refine⟨dd.typeIs,fun b q=>?_,?_⟩
 ·cases q;obtain⟨ob,_,_,h1,h2,_⟩:=dd;exact⟨ob,h1,h2.2.1⟩
 rw[trees];refine Calls.callWith_builtin rfl (Calls.evalArgs_plain (Calls.spliced_cons (cQ (he pins s1 σ H1 _ I1 q1) fun iv s2 ⟨y,H2,I2,ry,q2⟩ =>
  Calls.spliced_cons (cQ (hf pins s2 σ H2 _ I2 q2) fun fv s3 ⟨z,H3,I3,rz,k,ek,q3⟩=>Calls.spliced_nil ?_))))
 subst ek;obtain⟨t,rfl⟩:=ry;obtain⟨vs3,dd3,amU⟩:=d.dict X.prog I3.DQ;exact call_meetsIn slot_dict_get dd3.typeIs PySem.F.entry_dict_get (PySem.F.args_dict_get_3 _ _ _) (meets_dict_get_default (bX X.prog X.w) a (ki _ _ k t) d.sys fv) ⟨_,dd3.mapOf,_,H3,I3.tok _,(amU k).akq rz,q3⟩
end
end L2
namespace L2
open PySem PySem.Spec PyProof.Rows
noncomputable def akr (t:TE):TE:=fun σ H Q=>∃ R:V->Hp->Prop,t σ H R/\∀ v H',R v H'->Q v H'
noncomputable def aks (t:TT):TT:=fun σ H Q=>∃ R:Bool->Hp->Prop,t σ H R/\∀ v H',R v H'->Q v H'
noncomputable def akt (t:TS):TS:=fun D σ H=>∃ R:St->Hp->Prop,t { D with nx:=R } σ H/\∀ σ' H',R σ' H'->D.nx σ' H'
section
variable {X:Cx}
theorem dJ {e:Expr}{t:TE}(h:PE X e t):PE X e (akr t):=by
 intro pins s σ H Q I ⟨R,hR,hQ⟩;exact cQ (h pins s σ H R I hR) fun u s1 ⟨v,H1,I1,r,q⟩=>⟨v,H1,I1,r,hQ v H1 q⟩
theorem bF {e:Expr}{t:TT}(h:PT X e t):PT X e (aks t):=by
 intro pins s σ H Q I ⟨R,hR,hQ⟩;exact cQ (h pins s σ H R I hR) fun u s1 ⟨H1,I1,q⟩=>⟨H1,I1,hQ u H1 q⟩
theorem jx {st:Stmt}{t:TS}(h:PS X st t):PS X st (akt t):=by
 intro pins s σ H D I ⟨R,hR,hQ⟩;refine cQ (h pins s σ H _ I hR) fun f s1 q=>?_;cases f with
 |next=>exact let ⟨σ',H',I',q'⟩:=q;⟨σ',H',I',hQ _ _ q'⟩
 |brk=>exact q
 |cont=>exact q
 |ret u=>exact q
end
theorem K1 {t:TE}{σ:St}{H:Hp}{Q:VK}(v:V)(h:t σ H fun x H1=>x=v/\H1=H)(q:Q v H):∃ R:V->Hp->Prop,t σ H R/\∀ v H',R v H'->Q v H':=⟨_,h,by rintro _ _ ⟨rfl,rfl⟩;exact q⟩
theorem iF {t:TT}{σ:St}{H:Hp}{Q:Bool->Hp->Prop}(b:Bool)(h:t σ H fun x H1=>x=b/\H1=H)(q:Q b H):∃ R:Bool->Hp->Prop,t σ H R/\∀ v H',R v H'->Q v H':=⟨_,h,by rintro _ _ ⟨rfl,rfl⟩;exact q⟩
theorem adK {t:TS}{σ:St}{H:Hp}{D:Ends}(σ':St)(H':Hp)(h:t { D with nx:=fun σ1 H1=>σ1=σ'/\H1=H' } σ H)(q:D.nx σ' H'):∃ R:St->Hp->Prop,t { D with nx:=R } σ H/\∀ σ' H',R σ' H'->D.nx σ' H' :=
 ⟨_,h,by rintro _ _ ⟨rfl,rfl⟩;exact q⟩
theorem qv {x v:V}{H:Hp}(e:x=v):x=v/\H=H:=⟨e,rfl⟩
theorem cF {x v:Bool}{H:Hp}(e:x=v):x=v/\H=H:=⟨e,rfl⟩
end L2
namespace L2
open PySem PySem.Spec PyProof.Rows
noncomputable abbrev Cx.names (X:Cx)(N:List Str):Cx:={ X with N:=N }
section
variable {X:Cx} {pins:List (Addr×Obj)} {σ:St} {H:Hp} {s:Shared}
theorem Cx.Ok.names {N:List Str}(o:X.Ok):(X.names N).Ok:=⟨o.mod,o.kind,o.glob,o.blt,o.above,o.inj,o.has,o.cab,o.hd,o.frames,o.stk,o.exf,o.bs,o.WH,o.UK,o.UL,o.DS,o.frf⟩
theorem Cx.Ok.QD {N:List Str}(o:(X.names N).Ok):X.Ok:=⟨o.mod,o.kind,o.glob,o.blt,o.above,o.inj,o.has,o.cab,o.hd,o.frames,o.stk,o.exf,o.bs,o.WH,o.UK,o.UL,o.DS,o.frf⟩
theorem Inv.names {N:List Str}(I:Inv X pins σ H s)(hl:N.length=X.N.length)(h:∀(j:Nat) x v,N[j]? = some x->σ[j]? = some (some v)->X.N[j]? = some x):Inv (X.names N) pins σ H s:=by
 obtain⟨m,hm,hq⟩:=I.loc;exact⟨I.ok.names,I.os,I.bare,I.base,⟨m,hm,fun i x v e1 e2 e3=>hq i x v (h i x v e1 e2) e2 e3⟩,I.cell,I.free,I.uJ,I.pin,I.hok,by rw[I.len];exact hl.symm⟩
theorem Inv.QD {N:List Str}(I:Inv (X.names N) pins σ H s)(hl:N.length=X.N.length)(h:∀(j:Nat) x v,X.N[j]? = some x->σ[j]? = some (some v)->N[j]? = some x):Inv X pins σ H s:=by
 obtain⟨m,hm,hq⟩:=I.loc;exact⟨I.ok.QD,I.os,I.bare,I.base,⟨m,hm,fun i x v e1 e2 e3=>hq i x v (h i x v e1 e2) e2 e3⟩,I.cell,I.free,I.uJ,I.pin,I.hok,by rw[I.len];exact hl⟩
end
end L2
namespace L2
open PySem PySem.Spec PyProof.Rows
section
variable {X:Cx} {tg iter elt:Expr} {ifs:List Expr} {scope:Scope} {pos:Pos} {cn:List Str} {wi:TI} {g:Bk->TG} {tc:Bk->TT} {te:Bk->TE}
theorem vG {i:Nat}{x:Str}{pos' spos:Pos}(hN:X.N.Nodup)(hix:X.N[i]? = some x)(hx:X.env.scope.names.lookup x=some .local)(hcalm:X.calm=true)(F:bY X.env.scope X.N scope)(hi:PI X tg iter wi)
  (hg:∀ b,PG (bg X cn scope b) tg (g b)) (ht:∀ b,PF (bg X cn scope b) ifs (tc b)) (he:∀ b,PE (bg X cn scope b) elt (te b))
  (hsw:swapsWith (.ListComp elt [⟨tg,iter,ifs,0⟩] scope pos) (some (.Name x pos')) spos.line X.env=pure true:=by rfl)
  (hs:∀ x,foldedSetIterable iter X.env x=pure x:=by intro _;rfl):PS X (.Assign [.Name x pos'] (.ListComp elt [⟨tg,iter,ifs,0⟩] scope pos) spos) (acZ (adv cn.length wi g tc te) (DT i)):=by
 intro pins s σ H D I h;rw[exec_Assign_Name_used _ _ _ _ hsw];refine A' (wpAny_standAt (A' ?_));rw[arm_evalThenUse_ListComp];refine A' ?_;have hcl:closureFor scope X.env=pure (dh X.env scope.names []):=Qu fun p hp e=>I.ok.has p.1 (F.free p hp e);refine wpAny_comprehension_free (use:=some (assign (.Name x pos') X.env)) rfl hs hcl F.kind F.loc (cQ (hi pins s σ H _ I h) fun xv s₁ h₁=>cQ h₁ fun itv s₂ h₂=>?_);obtain⟨it,fp,tn,J,H2,rfl,I2,T,st,f2,R⟩:=h₂;refine UZ (TH:=fun _=>True) (QQ:=fun D' H'=>D.nx (σ.set i (some (.ref D'))) H') (RR:=fun acc C=>compPost (model X.prog X.w) X.A X.xe (some (assign (.Name x pos') X.env)) _ acc C) hcalm F (fun b _=>hg b) (fun b _=>ht b) (fun b _=>he b) (fun _ _=>trivial) I2 T st f2 R ?_ ?_
 ·intro C D' σ' H' s' hC I' q;obtain⟨m,hm,_⟩:=I'.loc;have hCn:H' C=none:=I'.free;have fC:jZ X pins H' C:=I2.KP hC hCn;have I3:Inv X pins σ H' s':=I2.Qw f2 hC I' ⟨rfl,fun _ _=>rfl⟩;show wpAny (model X.prog X.w) X.A (assign (.Name x pos') X.env (.ref D')) _ X.xe s';refine wpAny_assign_Name (Gp I3 hN hix (.inl hx) (v:=.ref D') rfl (fun s'' I4 ⟨a,sa,ha⟩=>?_) (.inr hx));have hne:C≠a:=by
   rcases ha with e|e
   ·rw[e];exact fC.2.1
   ·exact fun z=>fC.2.2.2.2.1 _ _ e z.symm
  obtain⟨o,es,ep,ho,r⟩:=hm;refine⟨m,⟨o,es,ep,(sa.2 C hne).trans ho,r⟩,fun h' sb=>?_⟩;refine P' (P' ⟨_,H',?_,q⟩);exact I4.fh (tk:=s''.toks) (wr:=[C]) (fun b hb=>by
   have:b=C:=by simpa using hb
   rw[this];exact fC) fun b o hb e=>(sb.2 b (fun z=>hb (by simp[z]))).trans e
 ·intro C D' e s' z;exact z
end
theorem afU {X:Cx}{st:Stmt}{t:TS}(k:Nat)(N:List Str)(h:PS (X.names N) st t)(hN:N=X.N.set k "":=by rfl):PS X st (fun D σ H=>σ[k]? = some none/\t { nx:=fun σ' H'=>σ'[k]? = some none/\D.nx σ' H',rt:=fun _ _=>False } σ H):=by
 intro pins s σ H D I ⟨hk,hw⟩;have hl:N.length=X.N.length:=by rw[hN,List.length_set]
 have a1:∀(σ:St),σ[k]? = some none->∀(j:Nat)(x:Str)(v:V),σ[j]? = some (some v)->N[j]? = X.N[j]?:=fun σ hk j x v e2=>by
  have hj:k≠j:=fun z=>by rw[<-z,hk]at e2;cases e2
  rw[hN,List.getElem?_set_ne hj]
 refine cQ (h pins s σ H _ (I.names hl fun j x v e1 e2=>by rw[<-a1 σ hk j x v e2];exact e1) hw) fun f s1 q=>?_;cases f with
 |next =>
  obtain⟨σ',H',I',hk',q'⟩:=q;exact⟨σ',H',I'.QD hl fun j x v e1 e2=>by rw[a1 σ' hk' j x v e2];exact e1,q'⟩
 |brk=>exact(let ⟨_,_,_,z⟩:=q;z.elim)
 |cont=>exact(let ⟨_,_,_,z⟩:=q;z.elim)
 |ret u=>exact(let ⟨_,_,_,_,_,z⟩:=q;z.elim)
end L2
namespace L2
open PySem PySem.Spec PyProof.Rows PySem.SeqAt
section
variable {X:Cx}
inductive ahq (K:Frag)(neg:Bool)(x:V)(y:V)(H:Hp)(Q:VK):Prop
 |mk (a:_) (c:_) (xs:_) (dE:x=.ref a) (dF:y=.ref c) (eQ:aO K H a xs) (jv:aO K H c []) (pE:Q (.bl (if neg then !xs.isEmpty else xs.isEmpty)) H):ahq K neg x y H Q
noncomputable def aku (K:Frag)(neg:Bool):R2:=fun x y H Q=>ahq K neg x y H Q
theorem adL {pins:List (Addr×Obj)}{σ:St}{H:Hp}{s:Shared}{a c:Addr}{xs:List V}(hu:X.A.units+64<cLine)(I:Inv X pins σ H s)(ha:aO X.K H a xs)(hc:aO X.K H c []):RcAt X.A s (.ref a) (.ref c) xs.isEmpty/\RcNeAt X.A s (.ref a) (.ref c) (!xs.isEmpty):=by
 obtain⟨its,r,p,_⟩:=I.list ha;obtain⟨its',r',p',_⟩:=I.list hc;have e1:=r.length;have e2:=r'.length;simp at e2;cases xs with
 |nil =>
  simp at e1;have z1:its=[]:=by simpa using e1.symm
  have z2:its'=[]:=by simpa using e2.symm
  subst z1 z2;constructor
  ·have:=RcAt.lists (A:=X.A) (e:=fun _=>true) p.isList p'.isList rfl (by omega) (fun j h1 _=>V' h1 (by simp))
   simpa using this
  ·have:=RcNeAt.lists (A:=X.A) (e:=fun _=>true) p.isList p'.isList rfl (by omega) (fun j h1 _=>V' h1 (by simp))
   simpa using this
 |cons x t =>
  have hne:(its.toArray.size != its'.toArray.size)=true:=by
   simp at e1;have z2:its'=[]:=by simpa using e2.symm
   subst z2;have:its.length≠0:=by omega
   simpa using this
  exact⟨RcAt.lists_lengths p.isList p'.isList hne (by omega),RcNeAt.lists_lengths p.isList p'.isList hne (by omega)⟩
theorem Gy (hu:X.A.units+64<cLine):vE X (compareOp .Eq) (aku X.K false):=by
 intro pins s σ H x y v u Q I r1 r2 h;obtain⟨a,c,xs,rfl,rfl,ha,hc,q⟩:=h;cases r1;cases r2;exact(adL hu I ha hc).1 X.prog X.w X.xe _ ⟨.bl _,H,I,rfl,q⟩
theorem ais (hu:X.A.units+64<cLine):vE X (compareOp .NotEq) (aku X.K true):=by
 intro pins s σ H x y v u Q I r1 r2 h;obtain⟨a,c,xs,rfl,rfl,ha,hc,q⟩:=h;cases r1;cases r2;exact(adL hu I ha hc).2 X.prog X.w X.xe _ ⟨.bl _,H,I,rfl,q⟩
end
end L2
namespace L2
open PySem PySem.Spec PyProof.Rows
end L2
namespace L2
open PySem PySem.Spec PyProof.Rows
noncomputable abbrev XSt:=St->Value->Hp->Prop
section
variable {X:Cx} {pins:List (Addr×Obj)} {σ:St} {H H':Hp} {s s':Shared}
end
section
variable {P:Program} {w:World} {K:Frag} {mg:Str->Option Value} {base:Heap}
end
section
variable {X:Cx} {W:Value->Shared->Prop} {XS:XSt} {k:Nat} {f C:Addr} {fd:FuncData} {ps:List Str} {sp:Sp} {DR:List V} {ds:List Value} {x m:Str} {p pos apos:Pos} {e o:Expr} {es:List Expr} {ta:TE} {t:TA}
end
section
variable {X:Cx} {pins acW:List (Addr×Obj)} {σ:St} {H H':Hp} {s:Shared}
end
end L2
namespace L2
open PySem PySem.Spec PyProof.Rows
section
variable {prog:Program} {w:World} {A:Around} {E:Value->Shared->Prop} {h:Heap} {g:Array GenState} {d:Drawn} {t:Nat} {os:OsState} {a:Addr} {o:Obj} {vs:Array Value} {K:Frag}
 {nm q:Str} {C N:Addr} {bs bm:List Value} {hdct:Bool} {sn:List Str} {sub:List Value} {ab:Bool} {col:Option Bool} {dd:Option Addr} {k0 k1 k2 k3 k5:Option Value} {newId:String}
end
section
variable {X:Cx}
end
end L2
namespace L2
open PySem PySem.Spec PyProof.Rows
section
variable {P:Program} {w:World} {K:Frag} {mg:Str->Option Value} {base:Heap}
end
section
variable {X:Cx} {tg iter elt:Expr} {ifs:List Expr} {scope:Scope} {pos:Pos} {cn:List Str} {wi:TI} {g:Bk->TG} {tc:Bk->TT} {te:Bk->TE} {TH:Bk->Prop}
end
end L2
namespace L2
open PySem PySem.Spec PyProof.Rows
noncomputable def ait (to:TE)(tl th:St->Hp->(Option Int->Hp->Prop)->Prop):TG:=fun v σ H Q=>to σ H fun x H1=>tl σ H1 fun l H2=>th σ H2 fun u H3 =>
 ∃(p b:Addr)(xs ys:List V)(a c:Int),x=.ref p/\v=.ref b/\l=some a/\u=some c/\H3 p=some (.lst xs)/\H3 b=some (.lst ys)/\p≠b/\0<=a/\a<=c/\c<=xs.length/\xs.length+ys.length<=sizeLine/\Q σ (upd H3 p (.lst (xs.take a.toNat++ys++xs.drop c.toNat)))
theorem U5 {X:Cx}{o:Expr}{lo hi:Option Expr}{p2 pos:Pos}{to:TE}{tl th:St->Hp->(Option Int->Hp->Prop)->Prop}(ho:PE X o to)(hl:PO X lo tl)(hu:PO X hi th)
  (ha:∀ v,assign (.Subscript o (.Slice lo hi none p2) pos) X.env v=(do
   let ov <-holding [v] (eval o X.env)
   let iv <-holding [v,ov] (eval (.Slice lo hi none p2) X.env)
   standAt pos
   holding [v,ov,iv] (setItem ov iv v)
   release [iv,v,ov] []):=by intro _;rfl):PG X (.Subscript o (.Slice lo hi none p2) pos) (ait to tl th):=by
 intro pins s σ H v u Q I r h;rw[ha];refine A' (wpAny_holding (cQ (ho pins s σ H _ I h) fun ov s1 ⟨x,H1,I1,r1,q1⟩=>?_));refine A' (wpAny_holding ?_);refine wpAny_Slice (cQ (hl pins s1 σ H1 _ I1 q1) fun vl s2 ⟨l,H2,I2,pl,q2⟩=>cQ (hu pins s2 σ H2 _ I2 q2) fun vu s3 ⟨uu,H3,I3,pu,q3⟩=>?_);rw[evalPart_none];refine P' ?_;have I4:Inv X pins σ H3 { s3 with heap:=s3.heap.push { cls:=.type "slice",data:=.fields #[vl,vu,.none] } }:=I3.kept (t':=s3.toks) fun b ob q=>L' _ q;obtain⟨p,b,xs,ys,a,c,rfl,rfl,rfl,rfl,hp,hb,hne,h0,hac,hc,hz,q4⟩:=q3;cases r1;cases r;refine A' (wpAny_standAt (A' (wpAny_holding ?_)));refine aar I4 hp hb hne (Heap.IsSliceOf.new ..) (by cases pl;exact⟨_,rfl⟩) (by cases pu;exact⟨_,rfl⟩) h0 hac hc hz fun s5 I5=>?_;exact wpAny_release ⟨σ,_,I5,q4⟩
end L2
namespace L2
open PySem PySem.Spec PyProof.Rows
section
variable {X:Cx}
theorem all_range:∀ bs:List Bool,(List.range bs.length).all (fun i=>bs.getD i false)=bs.all id
 |[]=>rfl
 |b::bs=>by
  rw[length_cons,List.range_succ_eq_map,List.all_cons,List.all_map,List.all_cons];have:((fun i=>(b::bs).getD i false) ∘ Nat.succ)=fun i=>bs.getD i false:=by
   funext i
   rfl
  rw[this,all_range bs];rfl
theorem adM:kU X (.builtin "all") (fun xs H Q=>X.calm=true/\∃(a:Addr)(bs:List Bool),xs=[.ref a]/\aO X.K H a (bs.map V.bl)/\Q (.bl (bs.all id)) H):=by
 intro pins s σ H xs us Q I r h;obtain⟨hc,a,bs,rfl,hq,q⟩:=h;obtain⟨u,rfl,rfl⟩:=r.one;obtain⟨its,rv,p,hz⟩:=I.list hq;have hl:=rv.length;rw[J']at hl;have aii:∀(i:Nat)(v:Value),its.toArray[i]? = some v->v=Value.bool (bs.getD i false):=by
  intro i v hv;have hv':its[i]? = some v:=by simpa using hv
  have hi:i<its.length:=(C'.mp hv').1;have hb:i<bs.length:=by omega
  obtain⟨u,hu,ru⟩:=rv.get (i:=i) (x:=.bl (bs[i])) (by rw[getElem?_map,G' hb];rfl);rw[hv']at hu;cases hu;have:v=.bool bs[i]:=ru;rw[this,List.getD_eq_getElem?_getD,G' hb];rfl
 refine call_all_walk (wpAny_pyIter_list p.isList ?_);have ane:a≠s.heap.objs.size:=by
  obtain⟨o,ho,_⟩:=p.isList;exact Nat.ne_of_lt (S' ho)
 have hd:X.A.in1.handled=none:=I.ok.hd hc;refine⟨s.heap.objs.size,_,_,_,_,_,fun i=>bs.getD i false,rfl,Walks.list hd s.heap.objs.size a ane its.toArray,⟨⟨_,Heap.get?_push_size _ rfl,rfl,rfl⟩,p.isList.push _⟩,?_,?_⟩
 ·intro i v s' Q' E' hP hQ';rw[aii i v hP];exact wpAny_truthy_bool hQ'
 ·intro h' tk kk;have e:(List.range its.toArray.size).all (fun i=>bs.getD i false)=bs.all id:=by
   rw[size_toArray,<-hl];exact all_range bs
  rw[e];refine⟨.bl _,H,I.kept (t':=tk) fun b o e=>kk b o (fun z=>?_) (L' _ e),rfl,q⟩;have:b=s.heap.objs.size:=by simpa using z
  exact V' (S' e) (by rw[this];exact Nat.lt_irrefl _)
noncomputable def Itd (lo:Int)(n:Nat):It:={ go:=fun i _=>i<n,WC:=fun i H x H'=>H'=H/\x=V.int (lo-(i:Int)),stop:=fun i _=>n<=i }
theorem aaA {P:Program}{w:World}{K:Frag}{tg:Expr}(it:Addr)(lo:Int)(n:Nat):Turn P w K tg (Itd lo n) [it] it (fun i h=>IsRangeIter h it (lo+(i:Nat) * (-1)) ((n:Int)-(i:Nat)) (-1)) where
 mem:=by simp
 obj:=fun i h st b hb=>by
  have e:b=it:=by simpa using hb
  subst e;exact⟨_,st,fun v z=>by
   have z':Data.fields _=Data.cell v:=z;cases z'⟩
 keep:=fun i h h' st k=>k it (by simp) _ st
 item:=by
  intro X hP hw hK hc i pins s σ H E I hf st hg;subst hP hw hK;obtain⟨f0,f1,f2,f3,f4,f5⟩:=hf it (by simp);have W:=Walks.range (prog:=X.prog) (w:=X.w) (I.ok.hd hc) it lo (-1) n;refine W.item i s _ _ hg st fun v h' tk hv st' kk=>?_;obtain⟨t,rfl⟩:=hv;have I1:Inv X pins σ H { s with heap:=h',toks:=tk }:=I.turned (fun b o hb e=>kk b o (by simpa using hb) e) f0 f1 f3 f4 f5;refine⟨_,rfl,Zq (s:={ s with heap:=h',toks:=tk }) (n:="range_iterator") st' rfl rfl (by decide) ⟨.int (lo-i),H,I1,⟨t,?_⟩,⟨rfl,rfl⟩,st',fun b hb=>(hf b hb).1⟩⟩;have:lo+(i:Int) * (-1)=lo-i:=by omega
  rw[this]
 done:=by
  intro X hP hw hK hc i pins s σ H E I hf st hg;subst hP hw hK;obtain⟨f0,f1,f2,f3,f4,f5⟩:=hf it (by simp);exact wpAny_pyNext_range_end (I.ok.hd hc) st (by have:n<=i:=hg;omega) fun h' eb=>⟨rfl,I.turned (t':=s.toks) (fun b o hb e=>eb b o hb e) f0 f1 f3 f4 f5⟩
 self:=fun _ _ _ _ _ st h=>wpAny_pyIter_rangeiter st h
theorem rangeSize_down (a b:Int):Builtin.Range.rangeSize a b (-1)=if b<a then a-b else 0:=by
 unfold Builtin.Range.rangeSize;rw[if_neg (by decide)]
 by_cases h:a > b
 ·rw[if_pos h,if_pos h];show(a-b-1) / 1+1=a-b;omega
 ·rw[if_neg h,if_neg h]
theorem small_down {a b:Int}(h1:-(2 ^ 62)<=a)(h2:a<2 ^ 62)(h3:-(2 ^ 62)<=b)(h4:b<2 ^ 62):Builtin.Range.small a b (-1)=true:=by
 unfold Builtin.Range.small;rw[rangeSize_down];have f:∀ x:Int,-(2 ^ 63)<=x->x<2 ^ 63->Builtin.Range.rangeFitsLong x=true:=fun x p q=>by
  unfold Builtin.Range.rangeFitsLong;simp;omega
 rw[f a (by omega) (by omega),f b (by omega) (by omega),f (-1) (by omega) (by omega),f _ (by split <;> omega) (by split <;> omega),if_neg (show ¬((-1:Int) > 0) by decide),f (b+(-1+1)) (by omega) (by omega)];simp
theorem afW {tg:Expr}{pins:List (Addr×Obj)}{σ:St}{H:Hp}{s:Shared}{R:It->Hp->Prop}{E:Value->Shared->Prop}{lo hi:Int}{t u v:Tok}{tk:Nat}(I:Inv X pins σ H s)(h1:-(2 ^ 62)<=lo)(h2:lo<2 ^ 62)(h3:-(2 ^ 62)<=hi)(h4:hi<2 ^ 62)
  (q:R (Itd lo (lo-hi).toNat) H):wpAny (model X.prog X.w) X.A (pyIter (.ref s.heap.objs.size)) (PIE X pins σ tg R) E { s with heap:=s.heap.push { cls:=.type "range",data:=.fields #[.int lo t,.int hi u,.int (-1) v] },toks:=tk }:=by
 refine wpAny_pyIter_range (IsRange.new ..) (small_down h1 h2 h3 h4) ?_;have I1:Inv X pins σ H { s with heap:=s.heap.push { cls:=.type "range",data:=.fields #[.int lo t,.int hi u,.int (-1) v] },toks:=tk }:=I.kept fun b o e=>L' _ e;refine⟨(s.heap.push { cls:=.type "range",data:=.fields #[.int lo t,.int hi u,.int (-1) v] }).objs.size,[(s.heap.push { cls:=.type "range",data:=.fields #[.int lo t,.int hi u,.int (-1) v] }).objs.size],_,_,H,rfl,
  I1.kept (t':=tk) fun b o e=>L' _ e,aaA _ lo (lo-hi).toNat,?_,fun b hb=>?_,q⟩
 ·have e1:lo+((0:Nat):Int) * (-1)=lo:=by simp
  have e2:(((lo-hi).toNat:Nat):Int)-((0:Nat):Int)=Builtin.Range.rangeSize lo hi (-1):=by rw[rangeSize_down];split <;> omega
  show IsRangeIter _ _ (lo+((0:Nat):Int) * (-1)) ((((lo-hi).toNat:Nat):Int)-((0:Nat):Int)) (-1);rw[e1,e2];exact Heap.get?_push_size _ rfl
 ·have e:b=(s.heap.push { cls:=.type "range",data:=.fields #[.int lo t,.int hi u,.int (-1) v] }).objs.size:=by simpa using hb
  subst e;exact I1.KP (R' _) (I1.hok.fresh (R' _))
noncomputable def akw (ta:TA):TI:=fun σ H R=>ta σ H fun vs H1=>∃ i j:Int,vs=[.int i,.int j,.int (-1)]/\(-(2 ^ 62)<=i/\i<2 ^ 62/\-(2 ^ 62)<=j/\j<2 ^ 62)/\R (Itd i (i-j).toNat) H1
theorem aaB {tg:Expr}{a b c:Expr}{ta:TA}{p pos:Pos}(hg:Gl X "range")(hm:X.mg "range"=none)(ha:PA X [a,b,c] ta)(hs:starEach [a,b,c] X.env=[(false,eval a X.env),(false,eval b X.env),(false,eval c X.env)]:=by rfl)(hs2:starEach [b,c] X.env=[(false,eval b X.env),(false,eval c X.env)]:=by rfl) :
  PI X tg (.Call (.Name "range" p) [a,b,c] [] pos) (akw ta):=by
 intro pins s σ H R I h;refine Call_ (qU I hg hm boot_range (PyProof.Rows.callWith_type1 (cQ (ha pos pins s σ H _ I h) fun us s1 ⟨vs,H1,I1,r1,q1⟩=>?_) (by rw[hs,hs2]) (by rw[hs2];rfl)));obtain⟨i,j,e,⟨q1,q2,q3,q4⟩,q⟩:=q1;subst e;cases r1 with
 |cons r rr =>
  cases rr with
  |cons r' rr =>
   cases rr with
   |cons r'' rr =>
    cases rr;obtain⟨t,rfl⟩:=r;obtain⟨t',rfl⟩:=r';obtain⟨t'',rfl⟩:=r'';exact call_range_3 (by decide) (afW I1 q1 q2 q3 q4 q) (.inl rfl)
theorem adN {lo:Int}{n:Nat}{g:TG}{tb:TS}{D:Ends}{σ:St}{H:Hp}(Pv:Nat->St->Hp->Prop)(h0:Pv 0 σ H)
  (hs:∀ i σ H,i<n->Pv i σ H->g (.int (lo-i)) σ H fun σ2 H2=>tb { D with nx:=Pv (i+1),ct:=Pv (i+1),bk:=D.nx } σ2 H2) (hd:∀ σ H,Pv n σ H->D.nx σ H) :
  ∃ W:Nat->Nat->St->Hp->Prop,(∃ m,W 0 m σ H)/\∀ i m σ H,W i m σ H ->
   ((Itd lo n).stop i H/\D.nx σ H)\/((Itd lo n).go i H/\∃ N:St->Hp->Prop,(∀ σ' H',N σ' H'->∃ m',m'<m/\W (i+1) m' σ' H')/\∀ x H',(Itd lo n).WC i H x H'->g x σ H' fun σ2 H2=>tb { D with nx:=N,ct:=N,bk:=D.nx } σ2 H2):=by
 refine⟨fun i m σ H=>m=n-i/\i<=n/\Pv i σ H,⟨n,by simp,Nat.zero_le _,h0⟩,?_⟩;rintro i m σ H ⟨rfl,hi,p⟩
 by_cases hlt:i<n
 ·refine .inr ⟨hlt,Pv (i+1),fun σ' H' p'=>⟨n-(i+1),by omega,rfl,hlt,p'⟩,fun x H' y=>?_⟩;obtain⟨e,y⟩:=y;subst e y;exact hs i σ _ hlt p
 ·have e:i=n:=by omega
  subst e;exact .inl ⟨R' _,hd _ _ p⟩
noncomputable def afX:TE:=fun _ _ _=>False
theorem adO {e:Expr}:PE X e afX:=fun _ _ _ _ _ _ h=>h.elim
end
end L2
namespace L2
open PySem PySem.Spec PyProof.Rows
section
variable {κ:Type} [DecidableEq κ]
noncomputable def ua (kvs:List (κ×V))(k:κ):Option V:=(kvs.find? fun kv=>decide (kv.1=k)).map (·.2)
noncomputable def putK (kvs:List (κ×V))(k:κ)(v:V):List (κ×V) :=
 if(kvs.any fun kv=>decide (kv.1=k))=true then kvs.map (fun kv=>if kv.1=k then(kv.1,v) else kv) else kvs++[(k,v)]
theorem Ea {p:κ×V}{r:List (κ×V)}{k:κ}(e:p.1=k):ua (p::r) k=some p.2:=by simp[ua,List.find?_cons,e]
theorem Eb {p:κ×V}{r:List (κ×V)}{k:κ}(e:¬ p.1=k):ua (p::r) k=ua r k:=by simp[ua,List.find?_cons,e]
theorem K2 (k:κ):∀ kvs:List (κ×V),(kvs.any fun kv=>decide (kv.1=k))=(ua kvs k).isSome
 |[]=>rfl
 |p::r=>by
  rw[List.any_cons]
  by_cases e:p.1=k
  ·simp only [Ea e,N' e,Bool.true_or,Option.isSome_some]
  ·rw[Eb e,Y' e,Bool.false_or];exact K2 k r
theorem Js (kvs:List (κ×V))(k:κ)(v:V):(putK kvs k v).length<=kvs.length+1:=by
 unfold putK;split
 ·rw[J'];omega
 ·rw[T',length_cons,List.length_nil];omega
theorem K3 {kvs:List (κ×V)}{k:κ}(v:V)(h:ua kvs k=none):putK kvs k v=kvs++[(k,v)]:=by
 unfold putK;rw[K2,h];exact if_neg (by decide)
theorem KV.val {kvs:List (κ×V)}{vs:List (κ×Value)}(r:KV kvs vs)(k:κ):uI (ua kvs k) (valueAt vs k):=by
 unfold KV at r
 induction r with
 |nil=>exact True.intro
 | @cons p q ps qs h t ih =>
  obtain⟨h1,h2⟩:=h
  by_cases e:p.1=k
  ·have e':q.1=k:=h1.symm.trans e;have b:valueAt (q::qs) k=some q.2:=by simp[valueAt,List.find?_cons,e']
   rw[Ea e,b];exact h2
  ·have e':¬ q.1=k:=fun z=>e (h1.trans z);have b:valueAt (q::qs) k=valueAt qs k:=by simp[valueAt,List.find?_cons,e']
   rw[Eb e,b];exact ih
theorem KV.any {kvs:List (κ×V)}{vs:List (κ×Value)}(r:KV kvs vs)(k:κ):(kvs.any fun kv=>decide (kv.1=k))=vs.any fun kv=>decide (kv.1=k):=by
 unfold KV at r
 induction r with
 |nil=>rfl
 |cons h t ih=>rw[List.any_cons,List.any_cons,ih,h.1]
theorem KV.repl {kvs:List (κ×V)}{vs:List (κ×Value)}(r:KV kvs vs)(k:κ){y:V}{u:Value}(ry:RelV y u) :
  KV (kvs.map fun kv=>if kv.1=k then(kv.1,y) else kv) (vs.map fun kv=>if kv.1=k then(kv.1,u) else kv):=by
 unfold KV at r ⊢
 induction r with
 |nil=>exact .nil
 | @cons p q ps qs h t ih =>
  rw[map_cons,map_cons];refine .cons ?_ ih;obtain⟨h1,h2⟩:=h
  by_cases e:p.1=k
  ·rw[if_pos e,if_pos (h1.symm.trans e)];exact⟨h1,ry⟩
  ·rw[if_neg e,if_neg (fun z=>e (h1.trans z))];exact⟨h1,h2⟩
theorem KV.put {kvs:List (κ×V)}{vs:List (κ×Value)}(r:KV kvs vs)(k:κ){y:V}{u:Value}(ry:RelV y u):KV (putK kvs k y) (stored vs k u):=by
 unfold putK stored;rw[r.any k]
 by_cases e:(vs.any fun kv=>decide (kv.1=k))=true
 ·rw[if_pos e,if_pos e];exact r.repl k ry
 ·rw[if_neg e,if_neg e];exact Paired.snoc r ⟨rfl,ry⟩
theorem KV.keys {kvs:List (κ×V)}{vs:List (κ×Value)}(r:KV kvs vs):kvs.map (·.1)=vs.map (·.1):=by
 unfold KV at r
 induction r with
 |nil=>rfl
 |cons h t ih=>rw[map_cons,map_cons,ih,h.1]
theorem KV.length {kvs:List (κ×V)}{vs:List (κ×Value)}(r:KV kvs vs):kvs.length=vs.length:=Paired.length r
end
theorem ZF {P:Program}{w:World}{k:Key}{u:Value}(r:RelV (kV k) u):(bX P w).is k u=true:=by
 cases k with
 |inl i=>obtain⟨t,e⟩:=(show ∃ t,u=Value.int i t from r);subst e;exact UJ P w i t
 |inr x=>obtain⟨t,e⟩:=(show ∃ t,u=Value.str x t from r);subst e;exact ki P w x t
theorem Pk {P:Program}{w:World}:∀{ks:List Key} {us:List Value},Vals (ks.map kV) us->ItemsAre (bX P w) ks us
 |[],_,r=>by rw[List.map_nil]at r;cases r;exact .nil
 |k::ks,_,r=>by
  rw[map_cons]at r;cases r with
  |cons h t=>exact .cons (ZF h) (Pk t)
noncomputable abbrev KT (H:Hp):List (List Key×V)->List (List Key×Addr×Value)->Prop:=Paired fun p q=>p.1=q.1/\H q.2.1=some (.tup (p.1.map kV))/\RelV p.2 q.2.2
theorem KT.val {H:Hp}{kvs:List (List Key×V)}{xs:List (List Key×Addr×Value)}(r:KT H kvs xs)(k:List Key):uI (ua kvs k) ((atKey xs k).map (·.2)):=by
 induction r with
 |nil=>exact True.intro
 | @cons p q ps qs h t ih =>
  obtain⟨h1,_,h2⟩:=h
  by_cases e:p.1=k
  ·have e':q.1=k:=h1.symm.trans e;have b:atKey (q::qs) k=some q.2:=by simp[atKey,List.find?_cons,e']
   rw[Ea e,b];exact h2
  ·have e':¬ q.1=k:=fun z=>e (h1.trans z);have b:atKey (q::qs) k=atKey qs k:=by simp[atKey,List.find?_cons,e']
   rw[Eb e,b];exact ih
section
variable {P:Program} {w:World} {H:Hp} {h:Heap} {a:Addr}
theorem ahr {u:HO}(ok:Bl P w H h)(e:Rd H a u):fA P w H h a u:=e.ok ok
theorem ZG {kvs:List (Key×V)}(ok:Bl P w H h)(e:Rd H a (.dK kvs)):kvs.length<=sizeLine/\(a==sysModules)=false/\∃ vs,KV kvs vs/\h.DictOf (bX P w) a vs :=
 show fA P w H h a (.dK kvs) from ahr ok e
theorem akx {kvs:List (Key×V)}(ok:Bl P w H h)(e:H a=some (.dK kvs)):kvs.length<=sizeLine/\(a==sysModules)=false/\∃ vs,KV kvs vs/\h.DictOf (bX P w) a vs:=ZG ok (.inl e)
theorem adP {ks:List Key}(ok:Bl P w H h)(e:H a=some (.tup (ks.map kV))):(tupleKind (bX P w)).is h ks a:=by
 obtain⟨_,its,r,o,h1,h2,n,h3⟩:=(show fA P w H h a (.tup (ks.map kV)) from ok a _ e);exact⟨o,its.toArray,n,h1,h2,h3,by simpa using Pk r⟩
theorem ahs {kvs:List (List Key×V)}(ok:Bl P w H h)(e:Rd H a (.dT kvs)):kvs.length<=sizeLine/\(a==sysModules)=false /\
  ∃ xs,KT H kvs xs/\h.DictOfH (tupleKind (bX P w)) a xs:=by
 obtain⟨z,y,xs,r,o,es,ep,h1,h2,h3,h4,h5⟩:=(show fA P w H h a (.dT kvs) from ahr ok e);refine⟨z,y,xs,r,o,es,ep,h1,h2,h3,h4,fun x hx=>?_,h5⟩;have all:∀{l:List (List Key×V)} {m:List (List Key×Addr×Value)},KT H l m->∀ x∈m,(tupleKind (bX P w)).is h x.1 x.2.1:=by
  intro l m q
  induction q with
  |nil=>intro x hx;exact nomatch hx
  | @cons p q ps qs hq t ih =>
   intro x hx;rcases List.mem_cons.mp hx with e|hx
   ·subst e;exact adP ok (by rw[<-hq.1];exact hq.2.1)
   ·exact ih x hx
 exact all r x hx
end
noncomputable def Gz (H:Hp)(a:Addr)(y:V)(r:Option V):Prop :=
 (∃ kvs k,Rd H a (.dK kvs)/\y=kV k/\r=ua kvs k)\/∃ kvs k b,Rd H a (.dT kvs)/\y=.ref b/\H b=some (.tup (k.map kV))/\r=ua kvs k
theorem Gz.k {H:Hp}{a:Addr}{kvs:List (Key×V)}{k:Key}(e:H a=some (.dK kvs)):Gz H a (kV k) (ua kvs k):=.inl ⟨kvs,k,.inl e,rfl,rfl⟩
section
variable {X:Cx} {pins:List (Addr×Obj)} {σ:St} {H:Hp} {s:Shared} {a:Addr} {y v:V} {u r:Value} {o:Option V} {A:Around} {E:Value->Shared->Prop}
theorem Inv.big (I:Inv X pins σ H s):sysModules<s.heap.objs.size:=by
 have h:mainGlobals<s.heap.objs.size:=(I.mod.glob.keeps I.bk).lt;exact Nat.lt_trans (by decide) h
theorem aaC {Q:Value->Shared->Prop}(hu:A.units+1<cLine)(I:Inv X pins σ H s)(g:Gz H a y (some v))(ry:RelV y u)(h:∀ w' s',Inv X pins σ H s'->RelV v w'->Q w' s') :
  wpAny (model X.prog X.w) A (getItem (.ref a) u) Q E s:=by
 rcases g with ⟨kvs,k,e,ey,l⟩|⟨kvs,k,b,e,ey,eb,l⟩
 ·subst ey;obtain⟨z,hd,vs,rel,dd⟩:=ZG I.hok e;obtain⟨w',hw,rw'⟩:=uI.some_of (v:=v) (o:=valueAt vs k) (by rw[l];exact rel.val k);exact wpAny_getItem_of (ZF ry) dd.mapOf hw (h w' _ (I.tok _) rw')
 ·subst ey;cases (show u=Value.ref b from ry);obtain⟨z,hd,xs,rel,dd⟩:=ahs I.hok e;obtain⟨w',hw,rw'⟩:=uI.some_of (v:=v) (o:=(atKey xs k).map (·.2)) (by rw[l];exact rel.val k);obtain⟨p,hp,hp2⟩:=Option.map_eq_some_iff.mp hw;refine wpAny_getItem_heap (tupleKind_room_in1 hu) (adP I.hok eb) dd hp ?_;rw[hp2];exact h w' _ (I.tok _) rw'
theorem afY {h':Heap}{t':Nat}{ob:HO}(I:Inv X pins σ H s)(mu:Mut (H a))(hs:Heap.SameBut a s.heap h')(he:∃ q,h'.get? a=some q)(new:fA X.prog X.w (upd H a ob) h' a ob) :
  Inv X pins σ (upd H a ob) { s with heap:=h',toks:=t' } :=
 I.write (x:=a) (e:=a) mu (.inl rfl) (fun b q hb z=>(hs.2 b hb).trans z) he new
theorem adQ {P:Program}{w:World}{H':Hp}{h':Heap}{kvs:List (Key×V)}{vs:List (Key×Value)}(z:kvs.length<=sizeLine)(hd:(a==sysModules)=false)(rel:KV kvs vs)(dd:h'.DictOf (bX P w) a vs) :
  fA P w H' h' a (.dK kvs):=⟨z,hd,vs,rel,dd⟩
end
section
variable {X:Cx} {pins:List (Addr×Obj)} {σ:St} {H:Hp} {s:Shared} {a:Addr} {kvs:List (Key×V)} {k:Key} {u:Value} {A:Around} {E:Value->Shared->Prop}
end
noncomputable def aky (i:Expr):Prop:=∀ ov iv,subscripted i false ov iv=operate [ov,iv] (getItem ov iv)
theorem afZ {prog:Program}{w:World}{A:Around}{E:Value->Shared->Prop}{s:Shared}{env:Env}{value slice:Expr}{pos:Pos}{T id:String}{Q:Value->Shared->Prop}
  (hl:typeLookup (.type T) "__getitem__"=pure (some (.builtin id))) (hs:aky slice)
  (h:wpAny (model prog w) A (eval value env) (fun o s₁=>wpAny (model prog w) A (eval slice env) (fun i s₂=>s₂.TypeIs o T/\wpAny (model prog w) A (getItem o i) Q E s₂) E s₁) E s) :
  wpAny (model prog w) A (eval (.Subscript value slice pos) env) Q E s:=by
 refine Subscript_ (wpAny_mono h (fun o s₁ h₁=>wpAny_mono h₁ (fun i s₂ h₂=>?_) fun _ _ x=>x) fun _ _ x=>x);obtain⟨hT,h₂⟩:=h₂;unfold subscriptTail;refine A' ?_;rw[getitemInPython_of_ne hT.not_modules];refine A' (wpAny_specialOf hT hl ?_);have fin:wpAny (model prog w) A (subscripted slice false o i) (fun r s₃=>wpAny (model prog w) A (letTemporaryGo value o r >>= fun _=>pure r) Q E s₃) E s₂:=by
  rw[hs o i];exact wpAny_operating (wpAny_mono h₂ (fun r s₃ h₃=>A' (wpAny_letTemporaryGo (P' h₃))) fun _ _ x=>x)
 first
  |exact P' (A' fin)
  |exact A' (P' (A' fin))
  |exact A' fin
theorem U6 {X:Cx}{pins:List (Addr×Obj)}{σ:St}{H:Hp}{s:Shared}{a:Addr}{y:V}{o:Option V}(I:Inv X pins σ H s)(g:Gz H a y o):s.TypeIs (.ref a) "dict":=by
 rcases g with ⟨kvs,k,e,_,_⟩|⟨kvs,k,b,e,_,_,_⟩
 ·obtain⟨_,_,vs,_,dd⟩:=ZG I.hok e;exact dd.typeIs
 ·obtain⟨_,_,xs,_,dd⟩:=ahs I.hok e;exact dd.typeIs
noncomputable def akz (td ty:TE):TE:=fun σ H Q=>td σ H fun x H1=>ty σ H1 fun y H2=>∃ a v,x=.ref a/\Gz H2 a y (some v)/\Q v H2
section
variable {X:Cx} {o i e value:Expr} {pos pos' tpos:Pos} {td ty tv:TE}
theorem kZ (hu:X.A.units+1<cLine)(ho:PE X o td)(hi:PE X i ty)(hs:aky i):PE X (.Subscript o i pos) (akz td ty):=by
 intro pins s σ H Q I h;refine afZ PySem.F.slot_dict_getitem.lookup hs (cQ (ho pins s σ H _ I h) fun u s1 ⟨x,H1,I1,rx,q1⟩=>cQ (hi pins s1 σ H1 _ I1 q1) fun iv s2 ⟨y,H2,I2,ry,a,v,ex,g,q2⟩=>?_);subst ex;obtain rfl:u=Value.ref a:=rx;exact⟨U6 I2 g,aaC hu I2 g ry fun w' s3 I3 rw'=>⟨v,H2,I3,rw',q2⟩⟩
end
section
variable {X:Cx} {pos:Pos}
end
noncomputable def iJ (kvs more:List (Key×V)):List (Key×V):=more.foldl (fun acc kv=>putK acc kv.1 kv.2) kvs
theorem KV.merge:∀{more:List (Key×V)} {rs:List (Key×Value)} {kvs:List (Key×V)} {vs:List (Key×Value)},KV more rs->KV kvs vs->KV (iJ kvs more) (merged vs rs):=by
 intro more rs kvs vs r;unfold KV at r
 induction r generalizing kvs vs with
 |nil=>intro q;exact q
 | @cons p q ps qs h t ih =>
  intro r0;have e:KV (putK kvs p.1 p.2) (stored vs q.1 q.2):=by
   have:=r0.put p.1 h.2;rw[<-h.1];exact this
  exact ih e
theorem Bm:∀(more kvs:List (Key×V)),(iJ kvs more).length<=kvs.length+more.length
 |[],kvs=>by show kvs.length<=kvs.length+0;omega
 |p::r,kvs=>by
  have h1:=Bm r (putK kvs p.1 p.2);have h2:=Js kvs p.1 p.2;show(iJ (putK kvs p.1 p.2) r).length<=_;rw[length_cons];omega
section
variable {X:Cx} {pins:List (Addr×Obj)} {σ:St} {H:Hp} {s:Shared} {a:Addr} {y d:V} {u r:Value} {o:Option V} {A:Around} {E:Value->Shared->Prop}
end
section
variable {X:Cx} {o e f:Expr} {apos cpos:Pos} {td ty tx:TE}
end
section
variable {X:Cx} {pins:List (Addr×Obj)} {σ:St} {H:Hp} {s:Shared} {a:Addr} {kvs:List (Key×V)} {A:Around} {E:Value->Shared->Prop}
end
section
variable {X:Cx} {pins:List (Addr×Obj)} {σ:St} {H:Hp} {s:Shared} {a:Addr} {y:V} {u:Value} {A:Around} {E:Value->Shared->Prop}
end
end L2
namespace L2
open PySem PySem.Spec PyProof.Rows
section
variable {X:Cx}
end
section
variable {κ:Type} [DecidableEq κ]
theorem ZH {kvs:List (κ×V)}{k:κ}{v:V}(h:ua kvs k=some v):k∈kvs.map (·.1):=by
 have q:(kvs.any fun kv=>decide (kv.1=k))=true:=by
  rw[K2,h]
  all_goals rfl
 obtain⟨p,hp,e⟩:=any_eq_true.mp q;exact mem_map.mpr ⟨p,hp,K' e⟩
end
end L2
namespace L2
open PySem PySem.Spec PyProof.Rows
theorem akA {P:Program}{w:World}{k:Key}{u:Value}(h:(bX P w).is k u=true):RelV (kV k) u:=by
 rcases dP (show KN k u=true from h) with ⟨i,t,rfl,rfl⟩|⟨x,t,rfl,rfl⟩
 ·exact⟨t,rfl⟩
 ·exact⟨t,rfl⟩
theorem aht:∀{xs:List V} {us:List Value},xs.length=us.length->(∀(i:Nat)(x:V)(u:Value),xs[i]? = some x->us[i]? = some u->RelV x u)->Vals xs us
 |[],[],_,_=>.nil
 |x::xs,u::us,hl,h=>.cons (h 0 x u rfl rfl) (aht (by simpa using hl) fun i y v e1 e2=>h (i+1) y v (by simpa using e1) (by simpa using e2))
 |[],_::_,hl,_=>by simp at hl
 |_::_,[],hl,_=>by simp at hl
section
variable {X:Cx}
theorem vH:kU X (.type "list") (fun xs H Q=>X.calm=true/\∃ p kvs,xs=[.ref p]/\Rd H p (.dK kvs)/\∀ l,H l=none->Q (.ref l) (upd H l (.lst (kvs.map fun kv=>kV kv.1)))):=by
 intro pins s σ H xs us Q I r h;obtain⟨hc,p,kvs,rfl,hp,q⟩:=h;obtain⟨u,rfl,rx⟩:=vals1 r;cases rx;obtain⟨z,hd,vs,rel,dd⟩:=ZG I.hok hp;obtain⟨ep,da⟩:=dd.dictAt;have hl:=rel.length;refine PySem.W.kdl_call (PySem.W.kdl_dict (knd:=bX X.prog X.w) (kvs:=vs) (ep:=ep) hd) (I.ok.hd hc) da (by omega) fun h' tk acc' c' kp e it=>?_;refine⟨.ref s.heap.objs.size,_,I.laid (t':=tk) kp (R' _) (show fA X.prog X.w _ h' _ (.lst (kvs.map fun kv=>kV kv.1)) from⟨by rw[J'];exact z,acc'.toList,c',?_,by rw[Array.toArray_toList];exact e⟩),rfl,q _ (I.hok.fresh (R' _))⟩;have hk:=rel.keys;have h1:acc'.toList.length=vs.length:=by rw[Array.length_toList];exact it.1
 refine aht (by rw[J',h1,hl]) fun i x u e1 e2=>?_;obtain⟨k,y,e3,e4⟩:=it.2 i u (by rw[<-Array.getElem?_toList];exact e2);have e5:(kvs.map (·.1))[i]? = some k:=by rw[hk,getElem?_map,e3];rfl
 have e6:(kvs.map fun kv=>kV kv.1)[i]? = some (kV k):=by
  rw[getElem?_map]at e5 ⊢;cases e7:kvs[i]? with
  |none=>rw[e7]at e5;cases e5
  |some w=>rw[e7]at e5;cases e5;rfl
 rw[e6]at e1;cases e1;exact akA e4
end
section
variable {P:Program} {w:World} {K:Frag} {mg:Str->Option Value} {base:Heap}
end
end L2
namespace L2
open PySem PySem.Spec PyProof.Rows
theorem QE:typeLookup (.type "list") "keys"=pure none:=by rw[typeLookup_type,builtinLookup_eq_fast];kernel_rfl
theorem Jt:entryFor table "dict.update.loop" = some Builtin.«dict.update.loop»:=entryFor_of_tree (by kernel_rfl)
theorem sH:plainId "dict.update.loop" = true:=by lk
theorem aiu {α:Type}{xs:List α}{i:Nat}{y:α}(h:xs[i]? = some y):xs.drop i=y::xs.drop (i+1):=by
 obtain⟨h1,h2⟩:=C'.mp h;rw[List.drop_eq_getElem_cons h1,h2]
theorem N2 {K:Type}[DecidableEq K](kvs:List (K×Value))(k:K)(v:Value):(stored kvs k v).length<=kvs.length+1:=by
 unfold stored;split
 ·simp
 ·simp
section
variable {prog:Program} {w:World} {A:Around} {E:Value->Shared->Prop} {s:Shared}
theorem aiv {a:Addr}{o:Obj}{xs:Array Value}{k:Nat}{Q:Option Value->Shared->Prop}(hx:s.heap.get? a=some o)(hc:o.cls=.type "list")(hdat:o.data=.seq xs k)(hd:o.dict=none)(hA:A.handled=none)
  (h:∀ h' tk,(∀ b ob,s.heap.get? b=some ob->h'.get? b=some ob)->Q none { s with heap:=h',toks:=tk }):wpAny (model prog w) A (getAttr? (.ref a) "keys") Q E s:=by
 obtain⟨oc,od,dt,sl⟩:=o;simp only at hc hdat hd;subst hc hdat hd;obtain⟨hp,g,d,tk,os⟩:=s;have hT:∀ tk',(⟨hp,g,d,tk',os⟩:Shared).TypeIs (.ref a) "list":=fun _=>⟨_,hx,rfl⟩;have f1:=sub_AttributeError;have f3:=F.slot_list_getattribute.lookup;have f4:=F.slot_list_getattribute.bind (.ref a);have f5:=am_list_getattr_none;unfold getAttr? getAttrBy? getAttrBy
 repeat (any_goals (first|assumption|exact hT _|((with_reducible show wpAny _ _ (call (Value.builtin "list.__getattribute__") _ _) _ _ _);refine call_meets F.slot_list_getattribute (hT _) am_entry_list_getattribute (F.args_list_getattribute_2 _ _) (meets_getattribute_miss_list a xs k sl "keys" _ QE (by lk) (by size_fits)) ⟨hx,hA,fun h' tk' e hx'=>?_⟩)|wp_step))
 obtain⟨t',u',he⟩:=hx'.there;show wpAny _ _ (getattributeRaised _ _ _ _ _ _ _) _ _ _;unfold getattributeRaised
 repeat (any_goals (first|assumption|wp_step))
 exact h _ _ hx'.keeps
theorem akB {K:Type}[DecidableEq K]{knd:KeyKind prog w K}{I d:Addr}{fp wr:List Addr}{n:Nat}{P:Nat->Value->Prop}{St:Nat->Heap->Prop}(W:Walks prog w A.in1 I fp wr n P St)(hdf:d ∉ fp)(hn:n<=1000)(h0:Heap)(ps:List (K×Value))(hl:ps.length=n){R:Result->Shared->Prop}
  (hP:∀ i v,i<n->P i v->∃ p o k key u m,ps[i]? = some (k,u)/\v=.ref p/\h0.get? p=some o/\o.cls=.type "tuple"/\o.data=.seq #[key,u] m/\knd.is k key=true/\p≠d/\p ∉ wr) :
  ∀(j i:Nat)(s:Shared)(kvs:List (K×Value)),n-i=j->i<=n->St i s.heap->s.heap.DictOf knd d kvs->kvs.length<=i->(∀ b o,b≠d->b ∉ wr->h0.get? b=some o->s.heap.get? b=some o) ->
  (∀ h' tk,h'.DictOf knd d ((ps.drop i).foldl (fun acc q=>stored acc q.1 q.2) kvs)->(∀ b o,b≠d->b ∉ wr->h0.get? b=some o->h'.get? b=some o)->R (.ok (.ret .none)) { s with heap:=h',toks:=tk }) ->
  codeAny (model prog w) A (.builtin "dict.update.loop" ⟨[.ref d,.ref I,rawInt i,.none],[]⟩) R s:=by
 have hdw:d ∉ wr:=fun h=>hdf (W.sub _ h);intro j
 induction j with
 |zero =>
  intro i s kvs hk hi hst hD hlen hkp hR;have hin:i=n:=by omega
  subst hin;refine codeAny_builtin Jt ?_;rw[Around.under_plainId sH _];show wpAny _ A.in1 (pyNext (.ref I) >>= _) _ _ s;refine A' (W.done s _ _ hst fun h' tk hm=>?_);show wpAny _ _ (Builtin.Dict.addKeywords d [] >>= _) _ _ _;refine A' (P' (P' ?_));refine hR h' tk ?_ fun b o hb hb' e=>hm b o hb' (hkp b o hb hb' e);rw[List.drop_eq_nil_of_le (by omega)];obtain⟨o,es,ep,e,r⟩:=hD;exact⟨o,es,ep,hm d o hdw e,r⟩
 |succ j ih =>
  intro i s kvs hk hi hst hD hlen hkp hR;have hlt:i<n:=by omega
  refine codeAny_builtin Jt ?_;rw[Around.under_plainId sH _];show wpAny _ A.in1 (pyNext (.ref I) >>= _) _ _ s;refine A' (W.item i s _ _ hlt hst fun v h' tk hPv hst' hm=>?_);obtain⟨p,o,k,key,u,m,hps,rfl,hp,hc,hdt,hkey,hpd,hpw⟩:=hP i v hlt hPv;have hp':h'.get? p=some o:=hm p o hpw (hkp p o hpd hpw hp);have hD':h'.DictOf knd d kvs:=by
   obtain⟨o,es,ep,e,r⟩:=hD;exact⟨o,es,ep,hm d o hdw e,r⟩
  refine A' (wpAny_holding (A' (wpAny_tryCatch ?_)));unfold Builtin.Dict.pairItems;refine A' (wpAny_typeOf (T:="tuple") ⟨o,hp',hc⟩ ?_);rw[if_pos (by decide)];refine A' (wpAny_seqItems hp' hdt ?_);refine P' ?_;show wpAny _ _ (holding [key,u] (dictSet d key u)) _ _ _;refine wpAny_holding (wpAny_dictSet_pairs (knd:=knd) hkey hD' (fun h'' hd'' hs''=>?_) (by rw[sizeLine_eq];omega));refine P' ⟨plainId_quiet sH _,?_⟩;have akC:St (i+1) h'':=W.frame _ _ _ hst' fun b hb o e=>(hs''.2 b fun z=>hdf (z ▸ hb)).trans e;refine ih (i+1) { s with heap:=h'',toks:=tk+1 } (stored kvs k u) (by omega) hlt akC hd'' (by have:=N2 kvs k u;omega) (fun b o hb hb' e=>(hs''.2 b hb).trans (hm b o hb' (hkp b o hb hb' e))) fun h3 tk3 U8 hk3=>?_;refine hR h3 tk3 ?_ hk3;rw[aiu hps];exact U8
end
section
variable {X:Cx}
theorem gk:kU X (.type "dict") (fun xs H Q=>X.calm=true/\∃(p:Addr)(ys:List V)(kvs:List (Key×V)),xs=[.ref p]/\aO X.K H p ys/\Paired (fun y kv=>∃ q,y=.ref q/\H q=some (.tup [kV kv.1,kv.2])) ys kvs/\kvs.length<=900/\∀ l,H l=none->Q (.ref l) (upd H l (.dK (iJ [] kvs)))):=by
 intro pins s σ H xs us Q I r h;obtain⟨hcalm,p,ys,kvs,rfl,hp,hy,hz,q⟩:=h;obtain⟨u,rfl,rx⟩:=vals1 r;cases rx;obtain⟨its,ri,⟨ol,nl,hol,hcl,hdl,hdat⟩,hsz⟩:=I.list hp;have apO:=hy.length;have apP:=ri.length;have build:∀{ys:List V} {kvs:List (Key×V)} {its:List Value},Paired (fun y kv=>∃ q,y=.ref q/\H q=some (.tup [kV kv.1,kv.2])) ys kvs->Vals ys its->∃ ps:List (Key×Value),KV kvs ps/\ps.length=its.length /\
   ∀(i:Nat) v,its[i]? = some v->∃ p o k key u m,ps[i]? = some (k,u)/\v=.ref p/\s.heap.get? p=some o/\o.cls=.type "tuple"/\o.data=.seq #[key,u] m/\(bX X.prog X.w).is k key=true:=by
  intro ys kvs its h1
  induction h1 generalizing its with
  |nil =>
   intro h2;cases h2;exact⟨[],.nil,rfl,fun i v e=>by simp at e⟩
  | @cons y kv ys kvs r _ ih =>
   intro h2;cases h2 with
   | @cons _ u _ us ry rt =>
    obtain⟨q,rfl,hq⟩:=r;obtain rfl:u=Value.ref q:=ry;obtain⟨tv,rv,⟨o,ho,hc,m,hd⟩,_⟩:=I.tuple (ij.of hq);obtain⟨k1,hk1⟩:∃ a b,tv=[a,b]:=by
     have:=rv.length
     match tv,this with
     |[a,b],_=>exact⟨a,b,rfl⟩
    obtain⟨u1,rfl⟩:=hk1;cases rv with
    |cons r1 WD =>
     cases WD with
     |cons r2 _ =>
      obtain⟨ps,h3,h4,h5⟩:=ih rt;refine⟨(kv.1,u1)::ps,.cons ⟨rfl,r2⟩ h3,by simp[h4],fun i v e=>?_⟩
      match i,e with
      |0,e =>
       simp at e;subst e;exact⟨q,o,kv.1,k1,u1,m,rfl,rfl,ho,hc,hd,ZF r1⟩
      |i+1,e =>
       simp at e;obtain⟨p,o,k,key,u,m,z1,z2⟩:=h5 i v e;exact⟨p,o,k,key,u,m,by simpa using z1,z2⟩
 obtain⟨ps,rel,lps,hps⟩:=build hy ri;refine callType_codes (Q₁:=fun obj s₁=>obj=.ref s.heap.objs.size/\s₁ = { s with heap:=s.heap.push { cls:=.type "dict",data:=.dict #[] } }) PySem.F.kt_called_dict (PySem.F.kt_typeCall_dict_1 _) PySem.F.entry_dict_init (kt_code_dict_new _ ⟨rfl,rfl⟩) ?_;rintro obj s₁ ⟨rfl,rfl⟩;have hnew:(s.heap.push { cls:=.type "dict",data:=.dict #[] }).DictOf (bX X.prog X.w) s.heap.objs.size []:=Heap.DictOf.new s.heap;have up:∀ b o,s.heap.get? b=some o->(s.heap.push { cls:=.type "dict",data:=.dict #[] }).get? b=some o:=fun b o e=>L' _ e;refine⟨hnew.typeIs,PySem.F.args_dict_init_2 _ _,?_⟩;unfold Builtin.«dict.__init__»;refine A' ?_;unfold Builtin.Dict.selfAndRest;refine A' (wpAny_notOrdered_dict hnew.typeIs ?_);show wpAny _ _ (pure (s.heap.objs.size,[Value.ref p])) _ _ _;refine P' ?_;show wpAny _ _ (Builtin.Dict.updateFrom "dict.__init__" s.heap.objs.size (.ref p) [] .none) _ _ _;unfold Builtin.Dict.updateFrom;refine A' (wpAny_typeOf (T:="list") ⟨ol,up _ _ hol,hcl⟩ ?_);rw[if_pos (by decide)];have hA:X.A.handled=none:=I.ok.hd hcalm;refine A' (aiv (up _ _ hol) hcl hdat hdl hA fun h1 tk1 kp1=>?_);rw[if_pos (show(none:Option Value).isNone=true from rfl)];refine A' (wpAny_rule ?_);have up1:∀ b o,s.heap.get? b=some o->h1.get? b=some o:=fun b o e=>kp1 b o (up b o e);have il:h1.IsList p its.toArray:=⟨ol,up1 _ _ hol,hcl,nl,hdat⟩;refine A' (wpAny_pyIter_list il ?_);have hsz1:s.heap.objs.size<h1.objs.size:=S' (kp1 _ _ (Heap.get?_push_size _ rfl));have hpI:p≠h1.objs.size:=Nat.ne_of_lt (S' (up1 _ _ hol));have hD1:h1.DictOf (bX X.prog X.w) s.heap.objs.size []:=by
  obtain⟨o,es,ep,e,r⟩:=hnew;exact⟨o,es,ep,kp1 _ _ e,r⟩
 have lt0:∀{b o},s.heap.get? b=some o->b<s.heap.objs.size:=fun e=>S' e;refine P' ⟨plainId_quiet sH _,?_⟩;have W:Walks X.prog X.w X.A.in1.in1 h1.objs.size [h1.objs.size,p] [h1.objs.size] its.toArray.size (fun i v=>its.toArray[i]? = some v) (fun i h=>h.IsListIter h1.objs.size p i/\h.IsList p its.toArray):=Walks.list (show X.A.in1.in1.handled=none from hA) h1.objs.size p hpI its.toArray;have hn:its.toArray.size<=1000:=by rw[size_toArray];omega
 refine akB (knd:=bX X.prog X.w) W (d:=s.heap.objs.size) ?_ hn s.heap ps (by rw[size_toArray];exact lps) ?_ _ 0 _ [] rfl (Nat.zero_le _) ⟨⟨_,Heap.get?_push_size _ rfl,rfl,rfl⟩,?_⟩ ?_ (Nat.zero_le _) ?_ ?_
 ·intro z;rcases List.mem_cons.mp z with z|z
  ·exact V' z (Nat.ne_of_lt hsz1)
  ·exact V' (mem_singleton.mp z) (Nat.ne_of_gt (lt0 hol))
 ·intro i v hi e;obtain⟨p',o,k,key,u,m,z1,z2,z3,z4,z5,z6⟩:=hps i v (by simpa using e);exact⟨p',o,k,key,u,m,z1,z2,z3,z4,z5,z6,Nat.ne_of_lt (lt0 z3),fun z=>V' (mem_singleton.mp z) (Nat.ne_of_lt (Nat.lt_trans (lt0 z3) hsz1))⟩
 ·exact il.push _
 ·obtain⟨o,es,ep,e,r⟩:=hD1;exact⟨o,es,ep,L' _ e,r⟩
 ·exact fun b o hb hb' e=>L' _ (up1 b o e)
 ·intro h' tk hd' hk';refine⟨rfl,.ref s.heap.objs.size,_,I.laid (a:=s.heap.objs.size) (o:=.dK (iJ [] kvs)) (t':=tk) (fun b o e=>?_) (R' _) (adQ ?_ (beq_eq_false_iff_ne.mpr (Ne.symm (Nat.ne_of_lt I.big))) (rel.merge .nil) hd'),rfl,q _ (I.hok.fresh (R' _))⟩
  ·exact hk' b o (Nat.ne_of_lt (lt0 e)) (fun z=>V' (mem_singleton.mp z) (Nat.ne_of_lt (Nat.lt_trans (lt0 e) hsz1))) e
  ·have h1:=Bm kvs [];rw[List.length_nil]at h1;rw[sizeLine_eq];omega
end
end L2
namespace L2
open PySem PySem.Spec PyProof.Rows
section
variable {prog:Program} {w:World} {A:Around} {E:Value->Shared->Prop} {s:Shared}
theorem af0 {it l:Addr}{i:Nat}{items:Array Value}{R:Value->Shared->Prop}{E:Value->Shared->Prop}(hh:A.handled=none)(hne:l≠it)(st:s.heap.IsTupleIter it l i/\s.heap.IsTuple l items)
  (some_:∀ x,items[i]? = some x->∀ h',(h'.IsTupleIter it l (i+1)/\h'.IsTuple l items)->Heap.SameBut it s.heap h'->R x { s with heap:=h' })
  (none_:items[i]? = none->∀ h' e,Heap.ExtBut it s.heap h'->(∃ o,h'.get? e=some o/\o.cls=.type "StopIteration")->E (.ref e) { s with heap:=h' }) :
  wpAny (model prog w) A (Builtin.«tuple_iterator.__next__» ⟨[.ref it],[]⟩) (fun fin s'=>∃ v,fin=.done (.ret v)/\R v s') E s:=by
 have ti:=st.1;obtain⟨⟨o,ho,hc,hd⟩,tl⟩:=st;obtain⟨ol,hol,hcl,nl,hdl⟩:=id tl;show wpAny _ _ (field (.ref it) 0 >>= _) _ _ s;refine A' (wpAny_field ho hd (x:=.ref l) rfl ?_);show wpAny _ _ (ite _ _ _) _ _ s;rw[if_neg (by exact Z')];show wpAny _ _ (field (.ref it) 1 >>= _) _ _ s;refine A' (wpAny_field ho hd (x:=.int i 0) rfl (A' (wpAny_seqItems hol hdl ?_)));rw[Int.toNat_natCast];cases hx:items[i]? with
 |some x =>
  simp only [hx];refine A' (wpAny_setField ho hd (by simp) (P' ⟨x,rfl,some_ x hx _ ⟨⟨_,Heap.get?_update_self _ ho (Obj.isFreed_of_fields (Obj.data_mapFields hd _)),(Obj.cls_mapFields ..).trans hc,?_⟩,tl.extBut (Heap.SameBut.update ..).extBut hne⟩ (Heap.SameBut.update ..)⟩));rw[Obj.data_mapFields hd];simp[rawInt]
 |none =>
  simp only [hx];refine A' (wpAny_rule (A' (wpAny_setField ho hd (by simp) ?_)));refine A' (m:=newExc (.type "StopIteration") []) ?_;unfold newExc newTuple;refine A' (wpAny_newObj_type ?_ (by size_fits));refine A' (m:=firstArgMember _ _) (wpAny_of_eq (a:=Value.none) (by rfl) (wpAny_newObj_type ?_ (by size_fits)));unfold raiseNew;refine A' (wpAny_handled ?_);rw[hh];refine A' (P' (wpAny_throw ?_));exact none_ hx _ _ (((Heap.SameBut.update ..).extBut.push _).push _) ⟨_,Heap.get?_push_size _ rfl,rfl⟩
theorem ZI {it l:Addr}{i:Nat}{items:Array Value}{R:Value->Shared->Prop}{E:Value->Shared->Prop}(hh:A.handled=none)(hne:l≠it)(st:s.heap.IsTupleIter it l i/\s.heap.IsTuple l items)
  (some_:∀ x,items[i]? = some x->∀ h',(h'.IsTupleIter it l (i+1)/\h'.IsTuple l items)->Heap.SameBut it s.heap h'->R x { s with heap:=h' })
  (none_:items[i]? = none->∀ h' e,Heap.ExtBut it s.heap h'->(∃ o,h'.get? e=some o/\o.cls=.type "StopIteration")->E (.ref e) { s with heap:=h' }) :
  wpAny (model prog w) A (Builtin.SmallTypes.nextOf (.ref it)) R E s:=by
 unfold Builtin.SmallTypes.nextOf;refine A' (wpAny_callSpecial?_slot (name:=Str.ofString "__next__") st.1.typeIs F.slot_tuple_iterator_next (wpAny_call_entry F.slot_tuple_iterator_next st.1.typeIs F.entry_tuple_iterator_next ?_ (F.args_tuple_iterator_next_1 _)));exact af0 (A:=A.in1) hh hne st (fun x hx h' a b=>P' (some_ x hx h' a b)) none_
theorem AY (hh:A.handled=none)(it l:Addr)(hne:l≠it)(items:Array Value) :
  Draws prog w A it [it,l] items.size (fun i v=>items[i]? = some v) (fun i h=>h.IsTupleIter it l i/\h.IsTuple l items) where
 live:=fun _ _ st=>let ⟨o,ho,_⟩:=st.1;⟨o,ho⟩
 frame:=fun _ _ _ st hk=>⟨st.1.at fun o e=>hk it (by simp) o e,st.2.at fun o e=>hk l (by simp) o e⟩
 item:=fun i s Q E hi st hQ=>ZI hh hne st (fun x hx h' a b=>hQ x h' s.toks hx a b) fun e=>by rw[Array.getElem?_eq_getElem hi]at e;cases e
 done:=fun s Q E st hE=>ZI hh hne st (fun x hx=>by rw[Array.getElem?_eq_none (R' _)]at hx;cases hx) fun _=>hE
structure Zap (z TI TO i1 i2:Addr)(f1 f2:List Addr):Prop where
 zt:TI≠z/\TO≠z/\TI≠TO
 m1:i1∈f1
 m2:i2∈f2
 o1:∀ c∈f1,c≠z/\c≠TI/\c≠TO/\c≠i2
 o2:∀ c∈f2,c≠z/\c≠TI/\c≠TO/\c≠i1
variable {z TI TO i1 i2:Addr} {f1 f2:List Addr} {n1 n2:Nat} {P1 P2:Nat->Value->Prop} {S1 S2:Nat->Heap->Prop} {i j:Nat} {a b:Value}
theorem af1 {R:Value->Shared->Prop}(Z:Zap z TI TO i1 i2 f1 f2)(D1:Draws prog w A i1 f1 n1 P1 S1)(D2:Draws prog w A i2 f2 n2 P2 S2)
  (hz:IsZip s.heap z TI TO .none) (hTI:IsPair s.heap TI (.ref i1) (.ref i2)) (hTO:IsPair s.heap TO a b) (h1:S1 i s.heap) (h2:S2 j s.heap) (l1:i<=n1) (l2:j<=n2)
  (both:i<n1->j<n2->∀ x y h' tk T,P1 i x->P2 j y->s.heap.objs.size<=T->IsZip h' z TI TO (rawInt T)->IsPair h' TO x y->S1 (i+1) h'->S2 (j+1) h'->IsPair h' T x y ->
   (∀ c o,c ∉ [z,TO,i1,i2]->s.heap.get? c=some o->h'.get? c=some o)->R (.ref T) { s with heap:=h',toks:=tk })
  (stop:i=n1\/j=n2->∀ h' tk e,(∀ c o,c ∉ [z,TO,i1,i2]->s.heap.get? c=some o->h'.get? c=some o)->(∃ o,h'.get? e=some o/\o.cls=.type "StopIteration")->E (.ref e) { s with heap:=h',toks:=tk }) :
  wpAny (model prog w) A (Builtin.«zip.__next__» ⟨[.ref z],[]⟩) (fun fin s'=>∃ v,fin=.done (.ret v)/\R v s') E s:=by
 obtain⟨tz,oz,tt⟩:=Z.zt;have a1:=Z.o1 i1 Z.m1;have a2:=Z.o2 i2 Z.m2;show wpAny _ _ (field (.ref z) 2 >>= _) _ _ _;refine A' (wpAny_field hz rfl (x:=.bool false) rfl ?_);refine A' (m:=field (.ref z) 3) (wpAny_field hz rfl (x:=.ref TI) rfl (A' (wpAny_seqItems hTI rfl ?_)));refine A' (m:=Builtin.SmallTypes.ownedTupleIsFree (.ref z)) ?_;unfold Builtin.SmallTypes.ownedTupleIsFree;refine A' (wpAny_field hz rfl (x:=.none) rfl (P' ?_));simp only [if_true];refine A' (wpAny_rule (A' (wpAny_field hz rfl (x:=.ref TO) rfl (A' (wpAny_setField_rec hz (by simp) fun g1 z1 b1=>?_)))))
 replace z1:IsZip g1 z TI TO .ellipsis:=z1
 have s1:S1 i g1:=D1.frame _ _ _ h1 fun c hc o e=>b1.extBut _ _ (Z.o1 c hc).1 e;have s2:S2 j g1:=D2.frame _ _ _ h2 fun c hc o e=>b1.extBut _ _ (Z.o2 c hc).1 e;have o1:IsPair g1 TO a b:=b1.extBut _ _ oz hTO;refine A' ?_;simp only [List.zipIdx_cons,List.zipIdx_nil,List.forIn_cons,List.forIn_nil];refine A' (A' (wpAny_onRaise ?_));refine A' (m:=Builtin.SmallTypes.nextOf (.ref i1)) ?_
 by_cases e1:i<n1
 ·refine D1.item i _ _ _ e1 s1 fun x g2 t2 px s1' b2=>P' ?_;have z2:IsZip g2 z TI TO .ellipsis:=b2.extBut _ _ (Ne.symm a1.1) z1;have o2:IsPair g2 TO a b:=b2.extBut _ _ (Ne.symm a1.2.2.1) o1;have s2':S2 j g2:=D2.frame _ _ _ s2 fun c hc o e=>b2.extBut _ _ (Z.o2 c hc).2.2.2 e;refine A' (wpAny_seqItems o2 rfl (A' (wpAny_updateSeq_pair o2 fun g3 o3 b3=>A' (wpAny_letGo (P' ?_)))))
  replace o3:IsPair g3 TO x b:=o3
  have z3:IsZip g3 z TI TO .ellipsis:=b3.extBut _ _ (Ne.symm oz) z2;have s13:S1 (i+1) g3:=D1.frame _ _ _ s1' fun c hc o e=>b3.extBut _ _ (Z.o1 c hc).2.2.1 e;have s23:S2 j g3:=D2.frame _ _ _ s2' fun c hc o e=>b3.extBut _ _ (Z.o2 c hc).2.2.1 e;refine A' (A' (wpAny_onRaise ?_));refine A' (m:=Builtin.SmallTypes.nextOf (.ref i2)) ?_
  by_cases e2:j<n2
  ·refine D2.item j _ _ _ e2 s23 fun y g4 t4 py s24 b4=>P' ?_;have z4:IsZip g4 z TI TO .ellipsis:=b4.extBut _ _ (Ne.symm a2.1) z3;have o4:IsPair g4 TO x b:=b4.extBut _ _ (Ne.symm a2.2.2.1) o3;have s14:S1 (i+1) g4:=D1.frame _ _ _ s13 fun c hc o e=>b4.extBut _ _ (Z.o1 c hc).2.2.2 e;refine A' (wpAny_seqItems o4 rfl (A' (wpAny_updateSeq_pair o4 fun g5 o5 b5=>A' (wpAny_letGo (P' (P' ?_))))))
   replace o5:IsPair g5 TO x y:=o5
   have z5:IsZip g5 z TI TO .ellipsis:=b5.extBut _ _ (Ne.symm oz) z4;have s15:S1 (i+1) g5:=D1.frame _ _ _ s14 fun c hc o e=>b5.extBut _ _ (Z.o1 c hc).2.2.1 e;have s25:S2 (j+1) g5:=D2.frame _ _ _ s24 fun c hc o e=>b5.extBut _ _ (Z.o2 c hc).2.2.1 e;have sz:g5.objs.size=s.heap.objs.size:=by rw[b5.1,b4.1,b3.1,b2.1,b1.1]
   refine A' (wpAny_seqItems o5 rfl (A' (wpAny_newTuple ?_)));refine A' (m:=Builtin.SmallTypes.ownedTupleHandOut (.ref z) (.ref g5.objs.size)) ?_;unfold Builtin.SmallTypes.ownedTupleHandOut;have z6:IsZip (g5.push { cls:=.type "tuple",data:=.seq #[x,y] }) z TI TO .ellipsis:=L' _ z5;refine A' (wpAny_setField_rec z6 (by simp) fun g7 z7 b7=>?_)
   replace z7:IsZip g7 z TI TO (rawInt g5.objs.size):=z7
   refine wpAny_setField_rec z7 (by simp) fun g8 z8 b8=>P' ⟨_,rfl,?_⟩;have up:∀ c o,c≠z->g5.get? c=some o->g8.get? c=some o:=fun c o hc e=>b8.extBut _ _ hc (b7.extBut _ _ hc (L' _ e));refine both e1 e2 x y g8 _ g5.objs.size px py (by rw[sz];exact R' _) z8 (up _ _ oz o5) (D1.frame _ _ _ s15 fun c hc o e=>up _ _ (Z.o1 c hc).1 e) (D2.frame _ _ _ s25 fun c hc o e=>up _ _ (Z.o2 c hc).1 e)
    (b8.extBut _ _ (Nat.ne_of_gt (S' z5)) (b7.extBut _ _ (Nat.ne_of_gt (S' z5)) (Heap.get?_push_size _ rfl))) fun c o hc e=>?_
   simp only [List.mem_cons,List.not_mem_nil,or_false,not_or]at hc;obtain⟨c1,c2,c3,c4⟩:=hc;exact up _ _ c1 (b5.extBut _ _ c2 (b4.extBut _ _ c4 (b3.extBut _ _ c2 (b2.extBut _ _ c3 (b1.extBut _ _ c1 e)))))
  ·have ej:j=n2:=by omega
   refine D2.done _ _ _ (ej ▸ s23) fun g4 e b4 he=>?_;obtain⟨oe,hoe,hce⟩:=he;have z4:IsZip g4 z TI TO .ellipsis:=b4 _ _ (Ne.symm a2.1) z3;have hez:e≠z:=fun q=>by subst q;rw[z4]at hoe;cases hoe;simp at hce
   refine wpAny_setField_rec z4 (by simp) fun g5 _ b5=>stop (.inr ej) g5 _ e (fun c o hc q=>?_) ⟨oe,b5.extBut _ _ hez hoe,hce⟩;simp only [List.mem_cons,List.not_mem_nil,or_false,not_or]at hc;obtain⟨c1,c2,c3,c4⟩:=hc;exact b5.extBut _ _ c1 (b4 _ _ c4 (b3.extBut _ _ c2 (b2.extBut _ _ c3 (b1.extBut _ _ c1 q))))
 ·have ei:i=n1:=by omega
  refine D1.done _ _ _ (ei ▸ s1) fun g2 e b2 he=>?_;obtain⟨oe,hoe,hce⟩:=he;have z2:IsZip g2 z TI TO .ellipsis:=b2 _ _ (Ne.symm a1.1) z1;have hez:e≠z:=fun q=>by subst q;rw[z2]at hoe;cases hoe;simp at hce
  refine wpAny_setField_rec z2 (by simp) fun g3 _ b3=>stop (.inl ei) g3 _ e (fun c o hc q=>?_) ⟨oe,b3.extBut _ _ hez hoe,hce⟩;simp only [List.mem_cons,List.not_mem_nil,or_false,not_or]at hc;obtain⟨c1,c2,c3,c4⟩:=hc;exact b3.extBut _ _ c1 (b2 _ _ c3 (b1.extBut _ _ c1 q))
theorem ZJ {R:Option Value->Shared->Prop}(Z:Zap z TI TO i1 i2 f1 f2)(D1:Draws prog w A.in1 i1 f1 n1 P1 S1)(D2:Draws prog w A.in1 i2 f2 n2 P2 S2)
  (hz:IsZip s.heap z TI TO .none) (hTI:IsPair s.heap TI (.ref i1) (.ref i2)) (hTO:IsPair s.heap TO a b) (h1:S1 i s.heap) (h2:S2 j s.heap) (l1:i<=n1) (l2:j<=n2)
  (both:i<n1->j<n2->∀ x y h' tk T,P1 i x->P2 j y->s.heap.objs.size<=T->IsZip h' z TI TO (rawInt T)->IsPair h' TO x y->S1 (i+1) h'->S2 (j+1) h'->IsPair h' T x y ->
   (∀ c o,c ∉ [z,TO,i1,i2]->s.heap.get? c=some o->h'.get? c=some o)->R (some (.ref T)) { s with heap:=h',toks:=tk })
  (stop:i=n1\/j=n2->∀ h' tk,(∀ c o,c ∉ [z,TO,i1,i2]->s.heap.get? c=some o->h'.get? c=some o)->R none { s with heap:=h',toks:=tk }) :
  wpAny (model prog w) A (pyNext (.ref z)) R E s:=by
 have hT:s.TypeIs (.ref z) "zip":=⟨_,hz,rfl⟩;unfold pyNext;refine A' (wpAny_attempt (wpAny_callSpecial?_slot (name:=Str.ofString "__next__") hT F.slot_zip_next (wpAny_call_entry F.slot_zip_next hT F.entry_zip_next ?_ (F.args_zip_next_1 _))));refine af1 Z D1 D2 hz hTI hTO h1 h2 l1 l2 (fun e1 e2 x y h' tk T px py hT z' o' s1 s2 p k=>P' (both e1 e2 x y h' tk T px py hT z' o' s1 s2 p k)) fun e h' tk ex k ⟨o,ho,hc⟩=>?_;exact A' (wpAny_isInstance (T:="StopIteration") (b:=true) ⟨o,ho,hc⟩ isSubtype_stop (P' (stop e h' tk k)))
noncomputable def QF (n:Nat)(l1 l2:Addr)(h h':Heap):Prop:=IsZip h' (n+4) (n+2) (n+3) .none/\IsPair h' (n+2) (.ref n) (.ref (n+1))/\IsPair h' (n+3) .none .none/\h'.IsTupleIter n l1 0/\h'.IsTupleIter (n+1) l2 0/\∀ c o,h.get? c=some o->h'.get? c=some o
theorem W4 (h:Heap)(l1 l2:Addr):∀ g1 g2 g3 g4 g5:Heap,g1=h.push { cls:=.type "tuple_iterator",data:=.fields #[.ref l1,.int 0 0] }->g2=g1.push { cls:=.type "tuple_iterator",data:=.fields #[.ref l2,.int 0 0] } ->
  g3=g2.push { cls:=.type "tuple",data:=.seq #[.ref h.objs.size,.ref g1.objs.size] }->g4=g3.push { cls:=.type "tuple",data:=.seq #[.none,.none] } ->
  g5=g4.push { cls:=.type "zip",data:=.fields #[.none,.bool false,.bool false,.ref g2.objs.size,.ref g3.objs.size] }->g4.objs.size=h.objs.size+4/\QF h.objs.size l1 l2 h g5:=by
 rintro g1 g2 g3 g4 g5 e1 e2 e3 e4 e5;have n1:g1.objs.size=h.objs.size+1:=by rw[e1,Heap.size_push]
 have n2:g2.objs.size=h.objs.size+2:=by rw[e2,Heap.size_push,n1]
 have n3:g3.objs.size=h.objs.size+3:=by rw[e3,Heap.size_push,n2]
 have n4:g4.objs.size=h.objs.size+4:=by rw[e4,Heap.size_push,n3]
 have k1:∀ c o,h.get? c=some o->g1.get? c=some o:=fun c o q=>by rw[e1];exact L' _ q
 have k2:∀ c o,g1.get? c=some o->g2.get? c=some o:=fun c o q=>by rw[e2];exact L' _ q
 have k3:∀ c o,g2.get? c=some o->g3.get? c=some o:=fun c o q=>by rw[e3];exact L' _ q
 have k4:∀ c o,g3.get? c=some o->g4.get? c=some o:=fun c o q=>by rw[e4];exact L' _ q
 have k5:∀ c o,g4.get? c=some o->g5.get? c=some o:=fun c o q=>by rw[e5];exact L' _ q
 have a1:g1.get? h.objs.size=some { cls:=.type "tuple_iterator",data:=.fields #[.ref l1,.int 0 0] }:=by rw[e1];exact Heap.get?_push_size _ rfl
 have a2:g2.get? (h.objs.size+1)=some { cls:=.type "tuple_iterator",data:=.fields #[.ref l2,.int 0 0] }:=by rw[e2,<-n1];exact Heap.get?_push_size _ rfl
 have a3:g3.get? (h.objs.size+2)=some { cls:=.type "tuple",data:=.seq #[.ref h.objs.size,.ref (h.objs.size+1)] }:=by rw[e3,<-n1,<-n2];exact Heap.get?_push_size _ rfl
 have a4:g4.get? (h.objs.size+3)=some { cls:=.type "tuple",data:=.seq #[.none,.none] }:=by rw[e4,<-n3];exact Heap.get?_push_size _ rfl
 have a5:g5.get? (h.objs.size+4)=some { cls:=.type "zip",data:=.fields #[.none,.bool false,.bool false,.ref (h.objs.size+2),.ref (h.objs.size+3)] }:=by rw[e5,<-n2,<-n3,<-n4];exact Heap.get?_push_size _ rfl
 exact⟨n4,a5,k5 _ _ (k4 _ _ a3),k5 _ _ a4,⟨_,k5 _ _ (k4 _ _ (k3 _ _ (k2 _ _ a1))),rfl,rfl⟩,⟨_,k5 _ _ (k4 _ _ (k3 _ _ a2)),rfl,rfl⟩,fun c o q=>k5 _ _ (k4 _ _ (k3 _ _ (k2 _ _ (k1 _ _ q))))⟩
theorem aiw (l1 l2:Addr)(xs ys:Array Value):Meets (Builtin.«zip.__new__» ⟨[.type "zip",.ref l1,.ref l2],[]⟩)
  (fun _ R s=>s.heap.IsTuple l1 xs/\s.heap.IsTuple l2 ys/\∀ h',QF s.heap.objs.size l1 l2 s.heap h'->R (.ok (.ret (.ref (s.heap.objs.size+4)))) { s with heap:=h' }) :=
 .of_wp fun prog w A R s q=>by
  obtain⟨hp,g,d,tk,os⟩:=s;obtain⟨t1,t2,q⟩:=q;have hsub:=sub_zip;have w1:Heap.IsTuple (Shared.heap ⟨hp,g,d,tk,os⟩) l1 xs:=t1;have w2:Heap.IsTuple (Shared.heap ⟨hp.push { cls:=.type "tuple_iterator",data:=.fields #[.ref l1,.int 0 0] },g,d,tk,os⟩) l2 ys:=Heap.IsTuple.push t2 _
  wp_walk using wpAny_pyIter_tuple w1,wpAny_pyIter_tuple w2
  refine⟨_,rfl,?_⟩;obtain⟨e,m⟩:=W4 hp l1 l2 _ _ _ _ _ rfl rfl rfl rfl rfl;have q':=q _ m;rw[show(Shared.heap ⟨hp,g,d,tk,os⟩).objs.size+4=_ from e.symm]at q';exact q'
theorem af2 {l1 l2:Addr}{xs ys:Array Value}{Q:Value->Shared->Prop}(t1:s.heap.IsTuple l1 xs)(t2:s.heap.IsTuple l2 ys)
  (q:∀ h',QF s.heap.objs.size l1 l2 s.heap h'->Q (.ref (s.heap.objs.size+4)) { s with heap:=h' }):wpAny (model prog w) A (call (.type "zip") [.ref l1,.ref l2]) Q E s:=by
 refine callType_new F.called_zip (by decide) (F.typeCall_zip_2 _ _) (F.newCall_zip_2 _ _) (fun obj=>F.args_object_init_3 obj _ _) F.entry_zip_new (aiw l1 l2 xs ys) ⟨t1,t2,fun h' m=>?_⟩;exact⟨⟨_,m.1,rfl⟩,q h' m⟩
end
noncomputable def adR (a b:Addr):It :=
 ⟨fun i H=>∃ xs ys x y,H a=some (.tup xs)/\H b=some (.tup ys)/\xs[i]? = some x/\ys[i]? = some y,
  fun i H p H'=>∃ x y t,p=.ref t/\H t=none/\(∀ xs,H a=some (.tup xs)->xs[i]? = some x)/\(∀ ys,H b=some (.tup ys)->ys[i]? = some y)/\H'=upd H t (.tup [x,y]),
  fun i H=>∃ xs ys,H a=some (.tup xs)/\H b=some (.tup ys)/\min xs.length ys.length=i⟩
section
variable {X:Cx}
theorem U9 {H:Hp}{a:Addr}{xs:List V}{i:Nat}{y:V}(hq:H a=some (.tup xs))(hy:xs[i]? = some y):∀ ys,H a=some (.tup ys)->ys[i]? = some y:=fun ys h=>by
 rw[hq]at h;cases h;exact hy
noncomputable def aix (z TI TO i1 i2 a b:Addr)(i:Nat)(h:Heap):Prop:=IsZip h z TI TO .none/\IsPair h TI (.ref i1) (.ref i2)/\(∃ x y,IsPair h TO x y)/\h.IsTupleIter i1 a i/\h.IsTupleIter i2 b i
theorem K4 {pins:List (Addr×Obj)}{H:Hp}{z TI TO i1 i2 a b:Addr}{xs ys:List V}(O:t7 z TI TO i1 i2)(hf:∀ c∈[z,TI,TO,i1,i2],jZ X pins H c)(ha:H a=some (.tup xs))(hb:H b=some (.tup ys)) :
  Zap z TI TO i1 i2 [i1,a] [i2,b]/\a≠i1/\b≠i2:=by
 have n:∀{c:Addr} {zs:List V},H c=some (.tup zs)->∀ d∈[z,TI,TO,i1,i2],c≠d:=fun h d hd q=>by
  rw[q,(hf d hd).1]at h;cases h
 refine⟨⟨⟨O.TIz,O.TOz,O.TITO⟩,by simp,by simp,fun c hc=>?_,fun c hc=>?_⟩,n ha _ (by simp),n hb _ (by simp)⟩
 ·rcases List.mem_cons.mp hc with rfl|hc
  ·exact⟨O.i1z,Ne.symm O.TIi1,Ne.symm O.TOi1,O.i12⟩
  ·rw[mem_singleton.mp hc];exact⟨n ha _ (by simp),n ha _ (by simp),n ha _ (by simp),n ha _ (by simp)⟩
 ·rcases List.mem_cons.mp hc with rfl|hc
  ·exact⟨O.i2z,Ne.symm O.TIi2,Ne.symm O.TOi2,Ne.symm O.i12⟩
  ·rw[mem_singleton.mp hc];exact⟨n hb _ (by simp),n hb _ (by simp),n hb _ (by simp),n hb _ (by simp)⟩
theorem aaD {P:Program}{w:World}{K:Frag}{es:List Expr}{k:Nat}{tp:Pos}{z TI TO i1 i2:Addr}(a b:Addr)(O:t7 z TI TO i1 i2) :
  Turn P w K (.Tuple es k tp) (adR a b) [z,TI,TO,i1,i2] z (aix z TI TO i1 i2 a b) where
 mem:=by simp
 obj:=fun i h st c hc=>by
  obtain⟨hz,hTI,⟨x,y,hTO⟩,⟨o1,e1,_,d1⟩,⟨o2,e2,_,d2⟩⟩:=st;have hc':c=z\/c=TI\/c=TO\/c=i1\/c=i2:=by simpa using hc
  rcases hc' with rfl|rfl|rfl|rfl|rfl
  ·exact⟨_,hz,fun v q=>by
    have q':Data.fields _=Data.cell v:=q;cases q'⟩
  ·exact⟨_,hTI,fun v q=>by
    have q':Data.seq _ _=Data.cell v:=q;cases q'⟩
  ·exact⟨_,hTO,fun v q=>by
    have q':Data.seq _ _=Data.cell v:=q;cases q'⟩
  ·exact⟨o1,e1,fun v q=>by rw[d1]at q;cases q⟩
  ·exact⟨o2,e2,fun v q=>by rw[d2]at q;cases q⟩
 keep:=fun i h h' st kp=>by
  obtain⟨hz,hTI,⟨x,y,hTO⟩,h1,h2⟩:=st;exact⟨kp z (by simp) _ hz,kp TI (by simp) _ hTI,⟨x,y,kp TO (by simp) _ hTO⟩,h1.at fun o q=>kp i1 (by simp) o q,h2.at fun o q=>kp i2 (by simp) o q⟩
 item:=by
  intro X hP hw hK hc i pins s σ H E I hf st hg;subst hP hw hK;obtain⟨xs,ys,x,y,hq,hq2,hx,hy⟩:=hg;obtain⟨Z,ne1,ne2⟩:=K4 O hf hq hq2;obtain⟨its,rv,p,_⟩:=I.tuple (ij.of hq);obtain⟨its2,WD,p2,_⟩:=I.tuple (ij.of hq2);obtain⟨u,hu,ru⟩:=rv.get hx;obtain⟨u2,hu2,ru2⟩:=WD.get hy;have h1:i<its.toArray.size:=by rw[size_toArray];exact(C'.mp hu).1
  have h2:i<its2.toArray.size:=by rw[size_toArray];exact(C'.mp hu2).1
  obtain⟨hz,hTI,⟨a0,b0,hTO⟩,g1,g2⟩:=st;refine ZJ Z (AY (A:=X.A.in1) (I.ok.hd hc) i1 a ne1 its.toArray) (AY (A:=X.A.in1) (I.ok.hd hc) i2 b ne2 its2.toArray) hz hTI hTO ⟨g1,p⟩ ⟨g2,p2⟩ (Nat.le_of_lt h1) (Nat.le_of_lt h2) ?_ ?_
  ·intro _ _ x' y' h' tk T px py hT zz oo s1 s2 pr kk;refine⟨_,rfl,?_⟩;have ex:x'=u:=by
    have:its[i]? = some x':=by simpa using px
    rw[hu]at this;exact(W' this).symm
   have ey:y'=u2:=by
    have:its2[i]? = some y':=by simpa using py
    rw[hu2]at this;exact(W' this).symm
   subst ex ey;have sub:∀ c∈[z,TO,i1,i2],c∈[z,TI,TO,i1,i2]:=fun c hc=>by
    have:c=z\/c=TO\/c=i1\/c=i2:=by simpa using hc
    simp;rcases this with r|r|r|r <;> simp[r]
   have lt:∀ c∈[z,TI,TO,i1,i2],c<s.heap.objs.size:=fun c hc=>by
    have:c=z\/c=TI\/c=TO\/c=i1\/c=i2:=by simpa using hc
    rcases this with rfl|rfl|rfl|rfl|rfl
    ·exact S' hz
    ·exact S' hTI
    ·exact S' hTO
    ·obtain⟨_,e,_⟩:=g1;exact S' e
    ·obtain⟨_,e,_⟩:=g2;exact S' e
   have neT:∀ c∈[z,TI,TO,i1,i2],c≠T:=fun c hc q=>by
    have:=lt c hc;rw[q]at this;exact V' (Nat.lt_of_lt_of_le this hT) (Nat.lt_irrefl _)
   have I1:Inv X pins σ (upd H T (.tup [x,y])) { s with heap:=h',toks:=tk }:=by
    refine I.KY (vals:=[x',y']) (fun c hc=>hf c (sub c hc)) hT ⟨_,pr,rfl,0,rfl⟩ (.cons ru (.cons ru2 .nil)) (by show 2<=sizeLine;decide) kk fun c hc=>?_;have:c=z\/c=TO\/c=i1\/c=i2:=by simpa using hc
    rcases this with rfl|rfl|rfl|rfl
    ·exact⟨_,zz⟩
    ·exact⟨_,oo⟩
    ·obtain⟨o,e,_⟩:=s1.1;exact⟨o,e⟩
    ·obtain⟨o,e,_⟩:=s2.1;exact⟨o,e⟩
   have hTn:H T=none:=I.hok.fresh hT;have hf2:∀ c∈[z,TI,TO,i1,i2],jZ X pins (upd H T (.tup [x,y])) c:=fun c hc=>by
    obtain⟨f0,fr⟩:=hf c hc;exact⟨by rw[ak (neT c hc)];exact f0,fr⟩
   refine wpAny_letOwnedTupleGo_zip zz fun h'' zz' sb=>?_;have amY:IsPair h' TI (.ref i1) (.ref i2):=kk _ _ (by simp;exact⟨O.TIz,O.TITO,O.TIi1,O.TIi2⟩) hTI;refine⟨.ref T,upd H T (.tup [x,y]),I1.fh (tk:=tk) (wr:=[z]) (fun c hc=>hf2 c (by rw[mem_singleton.mp hc];simp)) (fun c o hc e=>sb.extBut _ _ (fun q=>hc (by rw[q];simp)) e),rfl,⟨x,y,T,rfl,hTn,U9 hq hx,U9 hq2 hy,rfl⟩,?_,fun c hc=>(hf2 c hc).1⟩;exact⟨zz',sb.extBut _ _ O.TIz amY,⟨_,_,sb.extBut _ _ O.TOz oo⟩,s1.1.extBut sb.extBut O.i1z,s2.1.extBut sb.extBut O.i2z⟩
  ·intro e
   exfalso
   rcases e with e|e <;> omega
 done:=by
  intro X hP hw hK hc i pins s σ H E I hf st hg;subst hP hw hK;obtain⟨xs,ys,hq,hq2,hx⟩:=hg;obtain⟨Z,ne1,ne2⟩:=K4 O hf hq hq2;obtain⟨its,rv,p,_⟩:=I.tuple (ij.of hq);obtain⟨its2,WD,p2,_⟩:=I.tuple (ij.of hq2);obtain⟨hz,hTI,⟨a0,b0,hTO⟩,g1,g2⟩:=st;have e1:its.toArray.size=xs.length:=by rw[size_toArray,rv.length]
  have e2:its2.toArray.size=ys.length:=by rw[size_toArray,WD.length]
  refine ZJ Z (AY (A:=X.A.in1) (I.ok.hd hc) i1 a ne1 its.toArray) (AY (A:=X.A.in1) (I.ok.hd hc) i2 b ne2 its2.toArray) hz hTI hTO ⟨g1,p⟩ ⟨g2,p2⟩ (by omega) (by omega) ?_ ?_
  ·intro l1 l2
   exfalso
   omega
  ·intro _ h' tk kk;refine⟨rfl,I.fh (tk:=tk) (wr:=[z,TO,i1,i2]) (fun c hc=>hf c ?_) kk⟩;have:c=z\/c=TO\/c=i1\/c=i2:=by simpa using hc
   simp;rcases this with r|r|r|r <;> simp[r]
 self:=fun _ i s _ _ st h=>by
  obtain⟨hz,_⟩:=st;exact wpAny_pyIter_zip hz h
inductive adS (R:(It->Hp->Prop))(x:V)(y:V)(H2:Hp):Prop
 |mk (a:_) (b:_) (xs:_) (ys:_) (dE:x=.ref a) (dF:y=.ref b) (eQ:H2 a=some (.tup xs)) (jv:H2 b=some (.tup ys)) (pE:R (adR a b) H2):adS R x y H2
noncomputable def akE (tl tm:TE):TI:=fun σ H R=>tl σ H fun x H1=>tm σ H1 fun y H2=>adS R x y H2
theorem af3 {l m:Expr}{tl tm:TE}{p pos tp:Pos}{es:List Expr}{k:Nat}(hg:Gl X "zip")(hz:X.mg "zip"=none)(hl:PE X l tl)(hm:PE X m tm)(hs:starEach [l,m] X.env=[(false,eval l X.env),(false,eval m X.env)]:=by rfl)(hs2:starEach [m] X.env=[(false,eval m X.env)]:=by rfl) :
  PI X (.Tuple es k tp) (.Call (.Name "zip" p) [l,m] [] pos) (akE tl tm):=by
 intro pins s σ H R I h;refine Call_ (qU I hg hz W0 (PyProof.Rows.callWith_type1 (cQ (W2 hl hm hs hs2 pos pins s σ H I h) fun us s1 ⟨x,y,u,v,H1,I1,e1,r1,r2,q1⟩=>?_) (by rw[hs,hs2]) (by rw[hs2];rfl)));obtain⟨a,b,xs,ys,rfl,rfl,hq,hq2,q⟩:=q1;subst e1;cases r1;cases r2;obtain⟨its,rv,pl,_⟩:=I1.tuple (ij.of hq);obtain⟨its2,WD,pl2,_⟩:=I1.tuple (ij.of hq2);refine af2 pl pl2 fun h' ⟨z1,z2,z3,z4,z5,kk⟩=>?_;refine wpAny_pyIter_zip z1 ?_;have O:t7 (s1.heap.objs.size+4) (s1.heap.objs.size+2) (s1.heap.objs.size+3) s1.heap.objs.size (s1.heap.objs.size+1):=by
  constructor <;> exact(by intro q;have q':(_:Nat)=_:=q;omega)
 refine⟨_,[s1.heap.objs.size+4,s1.heap.objs.size+2,s1.heap.objs.size+3,s1.heap.objs.size,s1.heap.objs.size+1],_,_,H1,rfl,I1.kept (t':=s1.toks) kk,aaD a b O,⟨z1,z2,⟨_,_,z3⟩,z4,z5⟩,fun c hc=>?_,q⟩;have hc':s1.heap.objs.size<=c:=by
  have:c=s1.heap.objs.size+4\/c=s1.heap.objs.size+2\/c=s1.heap.objs.size+3\/c=s1.heap.objs.size\/c=s1.heap.objs.size+1:=by simpa using hc
  rcases this with r|r|r|r|r <;> (rw[r];first|exact Nat.le_add_right _ _|exact R' _)
 exact I1.KP hc' (I1.hok.fresh hc')
end
theorem adT {a b:Addr}{xs ys:List V}{g:TG}{tb:TS}{D:Ends}{σ:St}{H:Hp}(Pv:Nat->St->Hp->Prop)(he:xs.length=ys.length)(h0:Pv 0 σ H)(hl:∀ i σ H,Pv i σ H->H a=some (.tup xs)/\H b=some (.tup ys))
  (hs:∀ i x y t σ H,xs[i]? = some x->ys[i]? = some y->Pv i σ H->H t=none->g (.ref t) σ (upd H t (.tup [x,y])) fun σ2 H2=>tb { D with nx:=Pv (i+1),ct:=Pv (i+1),bk:=D.nx } σ2 H2) (hd:∀ σ H,Pv xs.length σ H->D.nx σ H) :
  ∃ W:Nat->Nat->St->Hp->Prop,(∃ m,W 0 m σ H)/\∀ i m σ H,W i m σ H ->
   ((adR a b).stop i H/\D.nx σ H)\/((adR a b).go i H/\∃ N:St->Hp->Prop,(∀ σ' H',N σ' H'->∃ m',m'<m/\W (i+1) m' σ' H')/\∀ x H',(adR a b).WC i H x H'->g x σ H' fun σ2 H2=>tb { D with nx:=N,ct:=N,bk:=D.nx } σ2 H2):=by
 refine⟨fun i m σ H=>m=xs.length-i/\i<=xs.length/\Pv i σ H,⟨xs.length,by simp,Nat.zero_le _,h0⟩,?_⟩;rintro i m σ H ⟨rfl,hi,p⟩;obtain⟨q,q2⟩:=hl i σ H p
 by_cases hlt:i<xs.length
 ·have hlt2:i<ys.length:=by omega
  refine .inr ⟨⟨xs,ys,xs[i],ys[i],q,q2,by simp[hlt],by simp[hlt2]⟩,Pv (i+1),fun σ' H' p'=>⟨xs.length-(i+1),by omega,rfl,hlt,p'⟩,fun x H' y=>?_⟩;obtain⟨x0,y0,t,rfl,hn,hx,hy,rfl⟩:=y;exact hs i x0 y0 t σ H (hx xs q) (hy ys q2) p hn
 ·have e:i=xs.length:=by omega
  subst e;exact .inl ⟨⟨xs,ys,q,q2,by omega⟩,hd σ H p⟩
end L2
namespace L2
open PySem PySem.Spec PyProof.Rows
section
variable {X:Cx} {pins:List (Addr×Obj)} {σ:St} {H:Hp}
theorem Inv.aiy {s₂:Shared}{h₁:Heap}{tk:Nat}{cn:List Str}{scope:Scope}{fp:List Addr}{xe:Value->Shared->Prop}{C D:Addr}{m:Str->Option Value}
  (I:Inv X pins σ H s₂) (F:bY X.env.scope X.N scope) (hc:X.calm=true) (hf:∀ b∈fp,jZ X pins H b) (hfl:∀ b∈fp,b<s₂.heap.objs.size)
  (hC:s₂.heap.objs.size<=C) (hD:s₂.heap.objs.size<=D) (hDC:D≠C) (hn:h₁.Ns C m) (old:∀ b o,s₂.heap.get? b=some o->h₁.get? b=some o)
  (hacc:fA X.prog X.w (upd H D (.dK [])) h₁ D (.dK [])) :
  Inv (bg X cn scope ⟨C,s₂,H,fp,xe⟩) [] (List.replicate cn.length none++σ) (upd H D (.dK [])) { s₂ with heap:=h₁,toks:=tk }:=by
 have vF:∀ x,((bg X cn scope ⟨C,s₂,H,fp,xe⟩).env.kindOf x=some .cell\/(bg X cn scope ⟨C,s₂,H,fp,xe⟩).env.kindOf x=some .free)->(x,NameKind.free)∈scope.names:=by
  intro x hx;have hx':(relabel scope X.env).names.lookup x=some .cell\/(relabel scope X.env).names.lookup x=some .free:=hx;rcases hx' with z|z
  ·rcases gi scope.names z with z|⟨_,z⟩
   ·exact V' rfl (F.Qv _ (kn z))
   ·exact kn z
  ·rcases gi scope.names z with z|⟨e,_⟩
   ·exact kn z
   ·cases e
 have D6:∀ x,(x,NameKind.free)∈scope.names->X.env.kindOf x=some .cell\/X.env.kindOf x=some .free:=fun x hx=>F.free _ hx rfl;have gj:∀ x c,(dh X.env scope.names []).lookup x=some c->X.env.cells.lookup x=some c:=by
  intro x c e;rcases Gw _ _ e with z|⟨z,e2⟩
  ·cases z
  ·obtain⟨c',hc'⟩:=I.ok.has x (D6 x z);rw[hc']at e2 ⊢;rw[e2];rfl
 have amL:(bg X cn scope ⟨C,s₂,H,fp,xe⟩).fs=frs X.stack:=rfl;have aib:∀ b∈fp,b ∉ frs X.stack:=by
  intro b hb z;obtain⟨_,f1,f2,_⟩:=hf b hb;rcases List.mem_cons.mp (I.Ql b z) with e|e
  ·exact f1 e
  ·exact f2 e
 have WZ:∀ x c,X.env.cells.lookup x=some c->c<s₂.heap.objs.size:=by
  intro x c e;obtain⟨v,o,ho,_⟩:=I.cell x c e;exact S' ho
 have ok:(bg X cn scope ⟨C,s₂,H,fp,xe⟩).Ok:=by
  refine⟨I.ok.mod,?_,I.ok.glob,I.ok.blt,hC,fun x y c h1 h2=>I.ok.inj x y c (gj x c h1) (gj y c h2),fun x hx=>?_,fun x c z=>?_,fun _=>I.ok.hd hc,I.ok.frames,.inl rfl,fun b hb=>⟨?_,fun x c e=>?_⟩,
   fun b o e=>I.bs b o e,Nat.le_trans I.ok.WH I.sz,fun b o e hb=>?_,fun b hb=>?_,I.stack,I.Qm⟩
  ·show(relabel scope X.env).kind=.function;exact F.kind
  ·have:=yj (env:=X.env) (x:=x) scope.names [] (.inr (vF x hx));exact Option.isSome_iff_exists.mp this
  ·cases z
  ·exact Nat.ne_of_lt (Nat.lt_of_lt_of_le (hfl b hb) hC)
  ·exact(hf b hb).2.2.2.2.1 x c (gj x c e)
  ·have:X.base.objs.size<=X.s₀.heap.objs.size:=I.ok.WH;rcases (hf b hb).2.2.2.1 with z|z
   ·exact I.ok.UK b o e z
   ·exact V' (Nat.lt_of_lt_of_le (S' e) (Nat.le_trans I.ok.WH z)) (Nat.lt_irrefl _)
  ·exact aib b hb
 have hDn:H D=none:=I.hok.fresh hD;have aic:Bl X.prog X.w (upd H D (.dK [])) h₁:=I.hok.laid old hD hacc;refine⟨ok,rfl,I.bare,Un.laid old hD hDn,⟨m,hn,fun i x v e1 e2 e3=>?_⟩,fun x c e=>?_,?_,fun x c e=>?_,fun p hp=>V' (show p∈([]:List (Addr×Obj)) from hp) (by simp),aic,?_⟩
 ·have hi:¬ i<cn.length:=by
   intro hi;rw[getElem?_append_left (by simpa using hi),List.getElem?_replicate]at e2;split at e2 <;> cases e2
  rw[getElem?_append_right (by simpa using hi),List.length_replicate]at e2;have e1':(cn++X.N)[i]? = some x:=e1;rw[getElem?_append_right (by omega)]at e1';obtain⟨m0,hm0,hl⟩:=I.loc;have hxN:x∈X.N:=X' e1';have hfr:(x,NameKind.free)∈scope.names:=by
   have e3':(relabel scope X.env).names.lookup x=some .local\/(relabel scope X.env).names.lookup x=some .cell\/(relabel scope X.env).names.lookup x=some .free:=e3;rcases e3' with z|z|z
   ·rcases gi scope.names z with z|⟨e,_⟩
    ·exact V' z (F.apart x hxN)
    ·cases e
   ·exact vF x (.inl z)
   ·exact vF x (.inr z)
  have hk:=D6 x hfr;have vis:Vis X.env.scope x:=by
   rcases hk with z|z
   ·exact .inr (.inl z)
   ·exact .inr (.inr z)
  obtain⟨u,r,lk⟩:=hl (i-cn.length) x v e1' e2 vis;refine⟨u,r,?_⟩;rcases lk with ⟨z,_⟩|⟨_,c,ec,z⟩
  ·rcases hk with q|q
   ·rw[z]at q;cases q
   ·rw[z]at q;cases q
  ·have hcl:(dh X.env scope.names []).lookup x=some c:=by
    obtain⟨c',e'⟩:=Option.isSome_iff_exists.mp (yj (env:=X.env) (x:=x) scope.names [] (.inr hfr));rw[e'];have:=gj x c' e';rw[ec]at this;exact this.symm
   refine .inr ⟨?_,c,hcl,?_⟩
   ·have e3':(relabel scope X.env).names.lookup x=some .local\/(relabel scope X.env).names.lookup x=some .cell\/(relabel scope X.env).names.lookup x=some .free:=e3;rcases e3' with y|y|y
    ·rcases gi scope.names y with y|⟨e,_⟩
     ·exact V' y (F.apart x hxN)
     ·cases e
    ·exact .inl y
    ·exact .inr y
   ·obtain⟨o,ho,hd⟩:=z;exact⟨o,old c o ho,hd⟩
 ·obtain⟨v,o,ho,hd⟩:=I.cell x c (gj x c e);exact⟨v,o,old c o ho,hd⟩
 ·show upd H D (.dK []) C=none;rw[ak (Ne.symm hDC)];exact I.hok.fresh hC
 ·rw[ak (Nat.ne_of_lt (Nat.lt_of_lt_of_le (WZ x c (gj x c e)) hD))];exact I.uJ x c (gj x c e)
 ·show(List.replicate cn.length none++σ).length=(cn++X.N).length;rw[T',List.length_replicate,T',I.len]
end
theorem W5 {prog:Program}{w:World}{A:Around}{R:Result->Shared->Prop}{s:Shared}{kx vx tg iter:Expr}{ifs:List Expr}{scope:Scope}{pos:Pos}{it:Value}{D:Addr}{env:Env}(J:Nat->Shared->Prop)
  (turn:∀ n s,J n s->wpAny (model prog w) A (pyNext it) (fun r s₁=>(r=none/\R (.ok .next) s₁)\/∃ v,r=some v /\
   wpAny (model prog w) A (letOwnedTupleGo tg it v) (fun _ s₂=>wpAny (model prog w) A (assign tg env v) (fun _ s₃ =>
    wpAny (model prog w) A (forIn ifs true fun c r=>if r=true then do let ok <-isTrue c env (eval c env);pure (ForInStep.yield ok) else pure (ForInStep.yield r)) (fun ok s₄ =>
     if ok=true then wpAny (model prog w) A (eval kx env) (fun kv s₅=>wpAny (model prog w) A (eval vx env) (fun vv s₆=>wpAny (model prog w) A (dictSet D kv vv) (fun _ s₇=>∃ m,m<n/\J m s₇) (notedBy (model prog w) A env fun e s'=>R (.error e) s') s₆)
      (notedBy (model prog w) A env fun e s'=>R (.error e) s') s₅) (notedBy (model prog w) A env fun e s'=>R (.error e) s') s₄
     else ∃ m,m<n/\J m s₄) (notedBy (model prog w) A env fun e s'=>R (.error e) s') s₃) (notedBy (model prog w) A env fun e s'=>R (.error e) s') s₂) (notedBy (model prog w) A env fun e s'=>R (.error e) s') s₁)
   (notedBy (model prog w) A env fun e s'=>R (.error e) s') s)
  (n:Nat) (h:J n s):codeAny (model prog w) A (.compLoop (.DictComp kx vx [⟨tg,iter,ifs,0⟩] scope pos) 0 it (.ref D) env) R s:=by
 refine codeAny_loop rfl J (fun n s hJ=>?_) n h;refine wpAny_noted (A:=A) (m:=compTurn (.DictComp kx vx [⟨tg,iter,ifs,0⟩] scope pos) 0 it (.ref D) env) (env:=env) ?_;rw[compTurn_dict];refine A' (wpAny_standAt (A' (cQ (turn n s hJ) fun r s₁ h₁=>?_)));rcases h₁ with ⟨e,h₁⟩|⟨v,e,h₁⟩
 ·subst e;exact P' h₁
 ·subst e;refine A' (cQ h₁ fun _ s₂ h₂=>A' (cQ h₂ fun _ s₃ h₃=>A' (cQ h₃ fun ok s₄ h₄=>?_)));cases ok with
  |false=>exact P' ⟨rfl,h₄⟩
  |true=>exact A' (A' (cQ h₄ fun kv s₅ h₅=>A' (wpAny_holding (cQ h₅ fun vv s₆ h₆=>A' (wpAny_standAt (wpAny_holding (cQ h₆ fun _ s₇ h₇=>P' ⟨rfl,h₇⟩)))))))
noncomputable def aiz (n:Nat)(wi:TI)(g:Bk->TG)(tc:Bk->TT)(tk tv:Bk->TE):TE:=fun σ H Q=>wi σ H fun J H1=>∀(D:Addr)(b:Bk),H1 D=none->∃ W:Nat->Nat->St->Hp->Prop,
 (∃ m,W 0 m (List.replicate n none++σ) (upd H1 D (.dK [])))/\∀ i m σ H,W i m σ H ->
  (J.stop i H/\Q (.ref D) H)\/(J.go i H/\∀ x H',J.WC i H x H'->g b x σ H' fun σ2 H2=>tc b σ2 H2 fun ok H3 =>
   if ok=true then tk b σ2 H3 fun y H4=>tv b σ2 H4 fun z H5=>∃(kvs:List (Key×V)) (k:Key),y=kV k/\H5 D=some (.dK kvs)/\kvs.length<sizeLine/\∃ m',m'<m/\W (i+1) m' σ2 (upd H5 D (.dK (putK kvs k z)))
   else ∃ m',m'<m/\W (i+1) m' σ2 H3)
section
variable {X:Cx} {tg iter kx vx:Expr} {ifs:List Expr} {scope:Scope} {pos:Pos} {cn:List Str} {wi:TI} {g:Bk->TG} {tc:Bk->TT} {tk tv:Bk->TE} {TH:Bk->Prop}
theorem aaE {pins:List (Addr×Obj)}{σ:St}{H:Hp}{s₂:Shared}{it:Addr}{fp:List Addr}{tn:Nat->Heap->Prop}{J:It}{RR:Value->Addr->Result->Shared->Prop}{QQ:Addr->Hp->Prop}{EE:Value->Shared->Prop}
  (hcalm:X.calm=true) (F:bY X.env.scope X.N scope) (hg:∀ b,TH b->PG (bg X cn scope b) tg (g b)) (ht:∀ b,TH b->PF (bg X cn scope b) ifs (tc b)) (hk:∀ b,TH b->PE (bg X cn scope b) kx (tk b)) (hv:∀ b,TH b->PE (bg X cn scope b) vx (tv b))
  (hTH:∀ C,s₂.heap.objs.size<=C->TH ⟨C,s₂,H,fp,ik X scope C⟩)
  (I:Inv X pins σ H s₂) (T:Turn X.prog X.w X.K tg J fp it tn) (st:tn 0 s₂.heap) (hf:∀ b∈fp,jZ X pins H b)
  (h:∀(D:Addr)(b:Bk),H D=none->∃ W:Nat->Nat->St->Hp->Prop,(∃ m,W 0 m (List.replicate cn.length none++σ) (upd H D (.dK [])))/\∀ i m σ H,W i m σ H ->
   (J.stop i H/\QQ D H)\/(J.go i H/\∀ x H',J.WC i H x H'->g b x σ H' fun σ2 H2=>tc b σ2 H2 fun ok H3 =>
    if ok=true then tk b σ2 H3 fun y H4=>tv b σ2 H4 fun z H5=>∃(kvs:List (Key×V)) (k:Key),y=kV k/\H5 D=some (.dK kvs)/\kvs.length<sizeLine/\∃ m',m'<m/\W (i+1) m' σ2 (upd H5 D (.dK (putK kvs k z)))
    else ∃ m',m'<m/\W (i+1) m' σ2 H3))
  (hR:∀ C D σ' H' s',s₂.heap.objs.size<=C->Inv (bg X cn scope ⟨C,s₂,H,fp,ik X scope C⟩) [] σ' H' s'->QQ D H'->RR (.ref D) C (.ok .next) s')
  (hE:∀ C D e s',KW X C e s'->RR (.ref D) C (.error e) s') :
  wpAny (model X.prog X.w) X.A newDict (fun acc s₃=>wpAny (model X.prog X.w) X.A (newFunctionEnv scope X.env.globals (dh X.env scope.names []) [] X.env.qual none .none (some X.env)) (fun cenv s₄ =>
   codeAny (model X.prog X.w) X.A (.compStart (.DictComp kx vx [⟨tg,iter,ifs,0⟩] scope pos) 0 (.ref it) acc { cenv with scope:=relabel scope X.env }) (RR acc cenv.locals) s₄) EE s₃) EE s₂:=by
 refine wpAny_newObj_type (wpAny_newFunctionEnv F.Qv (by intro y hy;simp at hy) (fun h₁ hns₁ hsb₁=>?_) F.kind);dsimp only at hns₁ hsb₁ ⊢;have hnew:(s₂.heap.push { cls:=.type "dict",dict:=none,data:=.dict #[] }).DictOf (bX X.prog X.w) s₂.heap.objs.size []:=Heap.DictOf.new s₂.heap;generalize hH2:s₂.heap.push { cls:=.type "dict",dict:=none,data:=.dict #[] } = H2 at hns₁ hsb₁ hnew ⊢;have hC:H2.objs.size=s₂.heap.objs.size+1:=by rw[<-hH2,Heap.size_push]
 have hDC:s₂.heap.objs.size≠H2.objs.size:=by omega
 have hCle:s₂.heap.objs.size<=H2.objs.size:=by omega
 have hfl:∀ b∈fp,b<s₂.heap.objs.size:=fun b hb=>by
  obtain⟨o,e,_⟩:=T.obj 0 _ st b hb;exact S' e
 have aie:∀ b o,s₂.heap.get? b=some o->H2.get? b=some o:=fun b o e=>hH2 ▸ L' _ e;have old:∀ b o,s₂.heap.get? b=some o->h₁.get? b=some o:=fun b o e=>by
  have hb:=S' e;refine hsb₁.extBut b o (Nat.ne_of_lt (Nat.lt_of_lt_of_le hb hCle)) (L' _ (aie b o e))
 have hacc:fA X.prog X.w (upd H s₂.heap.objs.size (.dK [])) h₁ s₂.heap.objs.size (.dK []) :=
  ⟨Nat.zero_le _,beq_eq_false_iff_ne.mpr (Ne.symm (Nat.ne_of_lt I.big)),[],.nil,(hnew).at fun o e=>hsb₁.extBut _ _ hDC (L' _ e)⟩
 have I0:=Inv.aiy (cn:=cn) (xe:=ik X scope H2.objs.size) (tk:=s₂.toks+([]:List (Str×Value)).length) I F hcalm hf hfl hCle (R' _) hDC hns₁ old hacc;have th:=hTH _ hCle;obtain⟨W,⟨m0,w0⟩,turn⟩:=h s₂.heap.objs.size ⟨H2.objs.size,s₂,H,fp,ik X scope H2.objs.size⟩ (I.hok.fresh (R' _));have fpx:∀{H':Hp},(∀ b∈fp,H' b=none)->∀ b∈fp,jZ (bg X cn scope ⟨H2.objs.size,s₂,H,fp,ik X scope H2.objs.size⟩) [] H' b:=fun {H'} hn b hb=>by
  refine⟨hn b hb,(I0.ok.exf b hb).1,I0.ok.UL b hb,.inl hb,(I0.ok.exf b hb).2,fun p hp=>V' (show p∈([]:List (Addr×Obj)) from hp) (by simp)⟩
 have U0:(bg X cn scope ⟨H2.objs.size,s₂,H,fp,ik X scope H2.objs.size⟩).calm=true:=hcalm;have loop:∀ s₃:Shared,s₃ = { s₂ with heap:=h₁,toks:=s₂.toks+([]:List (Str×Value)).length } ->
   codeAny (model X.prog X.w) X.A (.compLoop (.DictComp kx vx [⟨tg,iter,ifs,0⟩] scope pos) 0 (.ref it) (.ref s₂.heap.objs.size) (compEnvC scope (dh X.env scope.names []) H2.objs.size X.env))
    (RR (.ref s₂.heap.objs.size) H2.objs.size) s₃:=by
  rintro s₃ rfl;have toE:∀ e s',(bg X cn scope ⟨H2.objs.size,s₂,H,fp,ik X scope H2.objs.size⟩).xe e s' ->
    notedBy (model X.prog X.w) X.A (compEnvC scope (dh X.env scope.names []) H2.objs.size X.env) (fun e s'=>RR (.ref s₂.heap.objs.size) H2.objs.size (.error e) s') e s':=fun e s' z =>
   wpAny_mono (show notedBy (model X.prog X.w) X.A (compEnvC scope (dh X.env scope.names []) H2.objs.size X.env) (KW X H2.objs.size) e s' from z) (fun _ _ q=>hE _ _ _ _ q) fun _ _ q=>hE _ _ _ _ q
  refine W5 (env:=compEnvC scope (dh X.env scope.names []) H2.objs.size X.env)
   (fun n s'=>∃ i σ' H',Inv (bg X cn scope ⟨H2.objs.size,s₂,H,fp,ik X scope H2.objs.size⟩) [] σ' H' s'/\tn i s'.heap/\(∀ b∈fp,H' b=none)/\W i n σ' H') ?_ m0
   ⟨0,_,_,I0,T.keep _ _ _ st fun b _ o e=>old b o e,fun b hb=>?_,w0⟩
  ·rintro n s' ⟨i,σ',H',I',st',fr',w'⟩;rcases turn i n σ' H' w' with ⟨stop,qn⟩|⟨go,step⟩
   ·refine wpAny_mono (T.done (bg X cn scope ⟨H2.objs.size,s₂,H,fp,ik X scope H2.objs.size⟩) rfl rfl rfl U0 i [] s' σ' H' (fun _ _=>False) I' (fpx fr') st' stop) (fun r s4 ⟨hr,I4⟩=>?_) fun _ _ z=>z.elim;exact .inl ⟨hr,hR _ _ _ _ _ hCle I4 qn⟩
   ·refine wpAny_mono (T.item (bg X cn scope ⟨H2.objs.size,s₂,H,fp,ik X scope H2.objs.size⟩) rfl rfl rfl U0 i [] s' σ' H' (fun _ _=>False) I' (fpx fr') st' go) (fun r s4 ⟨u,hr,h4⟩=>?_) fun _ _ z=>z.elim;refine .inr ⟨u,hr,wpAny_mono h4 (fun _ s5 ⟨x,H5,I5,r5,y5,st5,fr5⟩=>?_) fun _ _ z=>z.elim⟩;have I5':=I5.pinned (fpx fr5) (T.obj _ _ st5);refine wpAny_mono (hg _ th _ s5 σ' H5 x u _ I5' r5 (step x H5 y5)) (fun _ s6 ⟨σ6,H6,I6,q6⟩=>?_) toE;refine wpAny_mono (ht _ th _ s6 σ6 H6 _ I6 q6) (fun ok s7 ⟨H7,I7,q7⟩=>?_) toE;have back:∀{σ8:St} {H8:Hp} {s8:Shared},Inv (bg X cn scope ⟨H2.objs.size,s₂,H,fp,ik X scope H2.objs.size⟩) ([]++Gq fp s5.heap) σ8 H8 s8->tn (i+1) s8.heap/\∀ b∈fp,H8 b=none:=fun {σ8 H8 s8} I8=>by
     refine⟨T.keep _ _ _ st5 fun b hb o e=>(I8.pin (b,o) (mem_append_right _ (mem_append_right _ (mU hb e)))).1,fun b hb=>?_⟩;obtain⟨o,e,d⟩:=T.obj _ _ st5 b hb;exact(I8.pin (b,o) (mem_append_right _ (mem_append_right _ (mU hb e)))).2.1
    cases ok with
    |false =>
     rw[if_neg Z']at q7 ⊢;obtain⟨m',hm,w7⟩:=q7;obtain⟨t8,f8⟩:=back I7;exact⟨m',hm,i+1,σ6,H7,I7.qV,t8,f8,w7⟩
    |true =>
     rw[if_pos rfl]at q7 ⊢;refine wpAny_mono (hk _ th _ s7 σ6 H7 _ I7 q7) (fun ku s8 ⟨y,H8,I8,r8,q8⟩=>?_) toE;refine wpAny_mono (hv _ th _ s8 σ6 H8 _ I8 q8) (fun vu s9 ⟨z,H9,I9,r9,kvs,k,ey,hl,hz,m',hm,w9⟩=>?_) toE;subst ey;obtain⟨zz,hd,vs,rel,dd⟩:=akx I9.hok hl;have hzl:vs.length<=sizeLine:=by rw[<-rel.length];exact zz
     have hpl:(putK kvs k z).length<=sizeLine:=by have:=Js kvs k z;omega
     refine wpAny_dictSet_pairs (hsz:=hzl) (ZF r8) dd fun h' dd' hs=>?_;have hex:∃ q,h'.get? s₂.heap.objs.size=some q:=let ⟨q,_,_,hq,_⟩:=dd';⟨q,hq⟩;have I10:=afY (t':=s9.toks+1) I9 (by rw[hl];exact True.intro) hs hex (adQ hpl hd (rel.put k r9) dd');obtain⟨t9,f9⟩:=back I10;exact⟨m',hm,i+1,σ6,_,I10.qV,t9,f9,w9⟩
  ·rw[ak (Nat.ne_of_lt (hfl b hb))];exact(hf b hb).1
 exact codeAny_compStart_dict (loop _ rfl) (T.self _ 0 _ _ _ (T.keep _ _ _ st fun b _ o e=>old b o e) (loop _ rfl))
theorem Va {i:Nat}{x:Str}{pos' spos:Pos}(hN:X.N.Nodup)(hix:X.N[i]? = some x)(hx:X.env.scope.names.lookup x=some .local)(hcalm:X.calm=true)(F:bY X.env.scope X.N scope)(hi:PI X tg iter wi)
  (hg:∀ b,PG (bg X cn scope b) tg (g b)) (ht:∀ b,PF (bg X cn scope b) ifs (tc b)) (hk:∀ b,PE (bg X cn scope b) kx (tk b)) (hv:∀ b,PE (bg X cn scope b) vx (tv b))
  (hsw:swapsWith (.DictComp kx vx [⟨tg,iter,ifs,0⟩] scope pos) (some (.Name x pos')) spos.line X.env=pure true:=by rfl)
  (hs:∀ x,foldedSetIterable iter X.env x=pure x:=by intro _;rfl):PS X (.Assign [.Name x pos'] (.DictComp kx vx [⟨tg,iter,ifs,0⟩] scope pos) spos) (acZ (aiz cn.length wi g tc tk tv) (DT i)):=by
 intro pins s σ H D I h;rw[exec_Assign_Name_used _ _ _ _ hsw];refine A' (wpAny_standAt (A' ?_));rw[arm_evalThenUse_DictComp];refine A' ?_;have hcl:closureFor scope X.env=pure (dh X.env scope.names []):=Qu fun p hp e=>I.ok.has p.1 (F.free p hp e);refine wpAny_comprehension_free (use:=some (assign (.Name x pos') X.env)) rfl hs hcl F.kind F.loc (cQ (hi pins s σ H _ I h) fun xv s₁ h₁=>cQ h₁ fun itv s₂ h₂=>?_);obtain⟨it,fp,tn,J,H2,rfl,I2,T,st,f2,R⟩:=h₂;refine aaE (TH:=fun _=>True) (QQ:=fun D' H'=>D.nx (σ.set i (some (.ref D'))) H') (RR:=fun acc C=>compPost (model X.prog X.w) X.A X.xe (some (assign (.Name x pos') X.env)) _ acc C) hcalm F (fun b _=>hg b) (fun b _=>ht b) (fun b _=>hk b) (fun b _=>hv b) (fun _ _=>trivial) I2 T st f2 R ?_ ?_
 ·intro C D' σ' H' s' hC I' q;obtain⟨m,hm,_⟩:=I'.loc;have hCn:H' C=none:=I'.free;have fC:jZ X pins H' C:=I2.KP hC hCn;have I3:Inv X pins σ H' s':=I2.Qw f2 hC I' ⟨rfl,fun _ _=>rfl⟩;show wpAny (model X.prog X.w) X.A (assign (.Name x pos') X.env (.ref D')) _ X.xe s';refine wpAny_assign_Name (Gp I3 hN hix (.inl hx) (v:=.ref D') rfl (fun s'' I4 ⟨a,sa,ha⟩=>?_) (.inr hx));have hne:C≠a:=by
   rcases ha with e|e
   ·rw[e];exact fC.2.1
   ·exact fun z=>fC.2.2.2.2.1 _ _ e z.symm
  obtain⟨o,es,ep,ho,r⟩:=hm;refine⟨m,⟨o,es,ep,(sa.2 C hne).trans ho,r⟩,fun h' sb=>?_⟩;refine P' (P' ⟨_,H',?_,q⟩);exact I4.fh (tk:=s''.toks) (wr:=[C]) (fun b hb=>by
   have:b=C:=by simpa using hb
   rw[this];exact fC) fun b o hb e=>(sb.2 b (fun z=>hb (by simp[z]))).trans e
 ·intro C D' e s' z;exact z
end
noncomputable abbrev aiA (J:It)(g:TG)(tc:TT)(tk tv:TE)(D:Addr)(R:Hp->Prop)(σ:St)(H:Hp):Prop:=∃ W:Nat->Nat->St->Hp->Prop,(∃ m,W 0 m σ H)/\∀ i m σ H,W i m σ H ->
  (J.stop i H/\R H)\/(J.go i H/\∀ x H',J.WC i H x H'->g x σ H' fun σ2 H2=>tc σ2 H2 fun ok H3 =>
   if ok=true then tk σ2 H3 fun y H4=>tv σ2 H4 fun z H5=>∃(kvs:List (Key×V)) (k:Key),y=kV k/\H5 D=some (.dK kvs)/\kvs.length<sizeLine/\∃ m',m'<m/\W (i+1) m' σ2 (upd H5 D (.dK (putK kvs k z)))
   else ∃ m',m'<m/\W (i+1) m' σ2 H3)
noncomputable abbrev W6 (g:TG)(tc:TT)(tk tv:TE)(D:Addr)(x:V)(σ:St)(H:Hp)(N:St->Hp->Prop):Prop:=g x σ H fun σ2 H2=>tc σ2 H2 fun ok H3 =>
 if ok=true then tk σ2 H3 fun y H4=>tv σ2 H4 fun z H5=>∃(kvs:List (Key×V)) (k:Key),y=kV k/\H5 D=some (.dK kvs)/\kvs.length<sizeLine/\N σ2 (upd H5 D (.dK (putK kvs k z))) else N σ2 H3
theorem Vb {j:Nat}{tk tv:TE}{D:Addr}{x:V}{σ:St}{H:Hp}{N:St->Hp->Prop}
  (h:tk (σ.set j (some x)) H fun y H4=>tv (σ.set j (some x)) H4 fun z H5=>∃(kvs:List (Key×V)) (k:Key),y=kV k/\H5 D=some (.dK kvs)/\kvs.length<sizeLine/\N (σ.set j (some x)) (upd H5 D (.dK (putK kvs k z)))):W6 (DT j) adu tk tv D x σ H N:=by
 unfold W6 DT adu;exact(if_pos (rfl:true=true)).mpr h
theorem W7 {K:Frag}{a:Addr}{xs:List V}{g:TG}{tc:TT}{tk tv:TE}{D:Addr}{R:Hp->Prop}{σ:St}{H:Hp}(Pv:Nat->St->Hp->Prop)(h0:Pv 0 σ H)(hl:∀ i σ H,Pv i σ H->aO K H a xs)
  (hs:∀ i x σ H,xs[i]? = some x->Pv i σ H->∀ N:St->Hp->Prop,(∀ σ H,Pv (i+1) σ H->N σ H)->W6 g tc tk tv D x σ H N) (hd:∀ σ H,Pv xs.length σ H->R H):aiA (Itl K a) g tc tk tv D R σ H:=by
 refine⟨fun i m σ H=>m=xs.length-i/\i<=xs.length/\Pv i σ H,⟨xs.length,by simp,Nat.zero_le _,h0⟩,?_⟩;rintro i m σ H ⟨rfl,hi,p⟩;have q:=hl i σ H p
 by_cases hlt:i<xs.length
 ·refine .inr ⟨⟨xs,xs[i],q,by simp[hlt]⟩,fun x H' y=>?_⟩;obtain⟨e,y⟩:=y;subst e;have z:=hs i x σ _ (y xs q) p (fun σ' H'=>∃ m',m'<xs.length-i/\m'=xs.length-(i+1)/\i+1<=xs.length/\Pv (i+1) σ' H') fun σ' H' q=>⟨xs.length-(i+1),by omega,rfl,hlt,q⟩;exact z
 ·have e:i=xs.length:=by omega
  subst e;exact .inl ⟨⟨xs,q,R' _⟩,hd σ H p⟩
section
variable {X:Cx}
end
section
variable {prog:Program} {w:World} {A:Around} {R:Result->Shared->Prop} {I:Addr} {fp wr:List Addr} {n:Nat} {P:Nat->Value->Prop} {St:Nat->Heap->Prop}
end
section
variable {X:Cx}
end
end L2
set_option maxHeartbeats 1000000
namespace QG
open PySem L2
inductive Kd where
 |G|D|R|s|d|r|dot|three|two
 deriving DecidableEq
noncomputable def Kd.str:Kd->Str
 |.G=>"G" | .D=>"D" | .R=>"R" | .s=>"s" | .d=>"d" | .r=>"r" | .dot=>"." | .three=>"3" | .two=>"2"
noncomputable def Kd.cp:Kd->Nat
 |.G=>71|.D=>68|.R=>82|.s=>115|.d=>100|.r=>114|.dot=>46|.three=>51|.two=>50
noncomputable def Kd.great:Kd->Bool
 |.G=>true|.D=>true|.R=>true|_=>false
noncomputable def Kd.small:Kd->Bool
 |.s=>true|.d=>true|.r=>true|_=>false
noncomputable def Kd.parting:Kd->Bool
 |.dot=>true|.three=>true|.two=>true|_=>false
noncomputable def Kd.meas:Kd->Bool
 |.three=>true|.two=>true|_=>false
noncomputable def Kd.fk:Kd->Bool
 |.G=>true|.D=>true|.s=>true|.d=>true|_=>false
noncomputable def sI:Option Kd->Str
 |some k=>k.str
 |none=>""
noncomputable abbrev Sg:=Kd×Int
noncomputable def inS (x y:Str):Bool:=!(Builtin.Str.occurrences y x 0 y.length 1).isEmpty
theorem akF (k:Kd):k.str=⟨#[k.cp]⟩:=by cases k <;> decide +kernel
theorem str_inj {a b:Kd}:a.str=b.str ↔ a=b:=by
 constructor
 ·revert a b
  have:∀ a b:Kd,a.str=b.str->a=b:=by
   intro a b;cases a <;> cases b <;> first|(intro _;rfl)|(intro h;exact V' h (by lk))
  exact fun {a b}=>this a b
 ·exact fun h=>by rw[h]
theorem Vc {a b:Option Kd}:sI a=sI b ↔ a=b:=by
 constructor
 ·have:∀ a b:Option Kd,sI a=sI b->a=b:=by
   intro a b;cases a with
   |none=>cases b with
    |none=>intro _;rfl
    |some b=>cases b <;> (intro h;exact V' h (by lk))
   |some a=>cases b with
    |none=>cases a <;> (intro h;exact V' h (by lk))
    |some b=>intro h;exact congrArg some (str_inj.mp h)
  exact fun h=>this a b h
 ·exact fun h=>by rw[h]
theorem af5 (a b:Str):decide (V.str a=V.str b)=decide (a=b):=by
 by_cases h:a=b
 ·rw[h];simp
 ·rw[Y' h];exact Y' fun e=>h (V.str.inj e)
theorem aaF (a b:Kd):decide (V.str a.str=V.str b.str)=decide (a=b):=by
 rw[af5];exact decide_eq_decide.mpr str_inj
theorem akG (a b:Option Kd):decide (V.str (sI a)=V.str (sI b))=decide (a=b):=by
 rw[af5];exact decide_eq_decide.mpr Vc
theorem o_G (o:Option Kd):decide (V.str (sI o)=V.str "G")=decide (o=some .G):=akG o (some .G)
theorem k_G (k:Kd):decide (V.str k.str=V.str "G")=decide (k=.G):=aaF k .G
theorem k_D (k:Kd):decide (V.str k.str=V.str "D")=decide (k=.D):=aaF k .D
theorem o_s (o:Option Kd):decide (V.str (sI o)=V.str "s")=decide (o=some .s):=akG o (some .s)
theorem k_s (k:Kd):decide (V.str k.str=V.str "s")=decide (k=.s):=aaF k .s
theorem akH (k:Kd):decide (V.str k.str=V.str ".")=decide (k=.dot):=aaF k .dot
theorem QH (k:Kd):decide (V.str k.str=V.str "3")=decide (k=.three):=aaF k .three
theorem adU (k:Kd):decide (V.str k.str=V.str "2")=decide (k=.two):=aaF k .two
noncomputable def W8 (H:Hp)(v:V)(s:Sg):Prop:=∃ p,v=.ref p/\H p=some (.tup [.str s.1.str,.int s.2])
theorem W8.same {H H':Hp}{v:V}{s:Sg}(e:ao H H')(h:W8 H v s):W8 H' v s:=by
 obtain⟨p,rfl,q⟩:=h;exact⟨p,rfl,e _ _ q⟩
noncomputable abbrev iq (H:Hp):List V->List Sg->Prop:=Paired (W8 H)
theorem iq.same {H H':Hp}(e:ao H H'):∀{xs:List V} {ss:List Sg},iq H xs ss->iq H' xs ss
 |_,_,.nil=>.nil
 |_,_,.cons a b=>.cons (a.same e) (iq.same e b)
theorem j3 {α β:Type}{F:α->β->Prop}:∀{xs:List α} {ys:List β} {i:Nat} {x:α},Paired F xs ys->xs[i]? = some x->∃ y,ys[i]? = some y/\F x y
 |_,_,_,_,.nil,e=>by simp at e
 |_,_,0,_,.cons r _,e=>by simp at e;subst e;exact⟨_,rfl,r⟩
 |_,_,i+1,x,.cons _ t,e=>by
  obtain⟨u,h1,h2⟩:=j3 (i:=i) (x:=x) t (by simpa using e);exact⟨u,by simpa using h1,h2⟩
theorem xO {α β:Type}{F:α->β->Prop}:∀{xs:List α} {ys:List β} {i:Nat} {y:β},Paired F xs ys->ys[i]? = some y->∃ x,xs[i]? = some x/\F x y
 |_,_,_,_,.nil,e=>by simp at e
 |_,_,0,_,.cons r _,e=>by simp at e;subst e;exact⟨_,rfl,r⟩
 |_,_,i+1,x,.cons _ t,e=>by
  obtain⟨u,h1,h2⟩:=xO (i:=i) t (by simpa using e);exact⟨u,by simpa using h1,h2⟩
theorem bh {α β:Type}{F:α->β->Prop}{xs:List α}{ys:List β}(h:Paired F xs ys):xs.length=ys.length:=Paired.length h
theorem fL {α β:Type}{F:α->β->Prop}:∀{xs:List α} {ys:List β} {x:α} {y:β},Paired F xs ys->F x y->Paired F (xs++[x]) (ys++[y])
 |_,_,_,_,.nil,h=>.cons h .nil
 |_,_,_,_,.cons a b,h=>.cons a (fL b h)
theorem BK {α β:Type}{F:α->β->Prop}:∀{xs:List α} {ys:List β} {xs':List α} {ys':List β},Paired F xs ys->Paired F xs' ys'->Paired F (xs++xs') (ys++ys')
 |_,_,_,_,.nil,h=>h
 |_,_,_,_,.cons a b,h=>.cons a (BK b h)
theorem K5 {α β:Type}{F:α->β->Prop}:∀{xs:List α} {ys:List β} (n:Nat),Paired F xs ys->Paired F (xs.drop n) (ys.drop n)
 |_,_,0,h=>h
 |_,_,n+1,.nil=>.nil
 |_,_,n+1,.cons a b=>K5 n b
theorem Ju {α β:Type}{F:α->β->Prop}:∀{xs:List α} {ys:List β} (n:Nat),Paired F xs ys->Paired F (xs.take n) (ys.take n)
 |_,_,0,h=>.nil
 |_,_,n+1,.nil=>.nil
 |_,_,n+1,.cons a b=>.cons a (Ju n b)
theorem aY {α β:Type}{F G:α->β->Prop}(h:∀ x y,F x y->G x y):∀{xs:List α} {ys:List β},Paired F xs ys->Paired G xs ys
 |_,_,.nil=>.nil
 |_,_,.cons a b=>.cons (h _ _ a) (aY h b)
theorem cD {H0 H:Hp}{l:Addr}{o:HO}(s:ao H0 H)(hl:H0 l=none):ao H0 (upd H l o):=fun b u e=>by
 rw[ak (ar e hl)];exact s b u e
theorem Pl {H:Hp}{D:Addr}{o:HO}{zs:List V}{v:V}{s:Sg}(hD:H D=some (.lst zs))(h:W8 H v s):W8 (upd H D o) v s:=by
 obtain⟨p,e,q⟩:=h;exact⟨p,e,by rw[ak (mQ q hD (by intro z;cases z))];exact q⟩
theorem K6 {H:Hp}{D:Addr}{o:HO}{zs:List V}{xs:List V}{ss:List Sg}(hD:H D=some (.lst zs))(h:iq H xs ss):iq (upd H D o) xs ss:=aY (fun _ _ q=>Pl hD q) h
theorem yo {ms:List Int}{i:Nat}{x:V}(h:(ms.map V.int)[i]? = some x):∃ z,ms[i]? = some z/\x=V.int z:=by
 rw[getElem?_map]at h;cases e:ms[i]? with
 |none=>rw[e]at h;cases h
 |some z=>rw[e]at h;exact⟨z,rfl,(W' h).symm⟩
section
variable {K:Frag} {H:Hp} {p:Addr} {Q:VK}
theorem ix0 {a b:V}(h:H p=some (.tup [a,b]))(q:Q a H):UT K (.ref p) (.int 0) H Q\/UU K (.ref p) (.int 0) H Q\/UW (.ref p) (.int 0) H Q:=.inr (.inl ⟨p,_,0,a,rfl,rfl,ij.of h,rfl,q⟩)
theorem ix1 {a b:V}(h:H p=some (.tup [a,b]))(q:Q b H):UT K (.ref p) (.int 1) H Q\/UU K (.ref p) (.int 1) H Q\/UW (.ref p) (.int 1) H Q:=.inr (.inl ⟨p,_,1,b,rfl,rfl,ij.of h,rfl,q⟩)
theorem QI {xs:List V}{i:Int}{n:Nat}{v:V}(h:aO K H p xs)(hn:i=n)(e:xs[n]? = some v)(q:Q v H):UT K (.ref p) (.int i) H Q\/UU K (.ref p) (.int i) H Q\/UW (.ref p) (.int i) H Q:=.inl ⟨p,xs,i,v,rfl,rfl,h,by rw[hn];exact DX e,q⟩
theorem N3 {xs:List V}{ss:List Sg}{i:Int}{n:Nat}{s:Sg}(h:aO K H p xs)(g:iq H xs ss)(hn:i=n)(e:ss[n]? = some s)(q:∀ b,H b=some (.tup [.str s.1.str,.int s.2])->Q (.ref b) H) :
  UT K (.ref p) (.int i) H Q\/UU K (.ref p) (.int i) H Q\/UW (.ref p) (.int i) H Q:=by
 obtain⟨x,hx,b,rfl,hb⟩:=xO g e;exact QI h hn hx (q b hb)
theorem adV {ns:List Int}{i:Int}{n:Nat}{z:Int}(h:aO K H p (ns.map V.int))(hn:i=n)(e:ns[n]? = some z)(q:Q (.int z) H):UT K (.ref p) (.int i) H Q\/UU K (.ref p) (.int i) H Q\/UW (.ref p) (.int i) H Q :=
 QI h hn (by rw[getElem?_map,e];rfl) q
end
noncomputable def nm (m:Int):Kd->Int
 |.three=>3
 |.two=>2
 |_=>m
noncomputable def Ms (m:Int):Prop:=m=3\/m=2
theorem Ms.nm {m:Int}(h:Ms m)(k:Kd):Ms (nm m k):=by
 cases k <;> first|exact h|exact .inl rfl|exact .inr rfl
noncomputable def ir (m:Int):List Kd->List Int
 |[]=>[]
 |k::t=>nm m k::ir (nm m k) t
theorem GA (m:Int)(ks:List Kd):(ir m ks).length=ks.length:=by
 induction ks generalizing m with
 |nil=>rfl
 |cons k t ih=>simp[ir,ih]
noncomputable def pw:Kd->Int->Int
 |.G,m=>if m=2 then 2 else 3
 |.R,m=>if m=2 then 2 else 3
 |.D,_=>2
 |.s,_=>1
 |.d,_=>1
 |.r,_=>1
 |_,_=>0
noncomputable def bw (m:Int)(k:Kd)(n:Option Kd):Int:=if m=2/\k=.G/\n=some .dot then 3 else pw k m
noncomputable def gK (m:Int):List Kd->List Int
 |[]=>[]
 |k::t=>bw (nm m k) k t.head? :: gK (nm m k) t
noncomputable def BL:List Kd->List Int->List Int
 |k::t,m::ms=>bw m k t.head? :: BL t ms
 |_,_=>[]
theorem Vd (m:Int)(ks:List Kd):BL ks (ir m ks)=gK m ks:=by
 induction ks generalizing m with
 |nil=>rfl
 |cons k t ih=>simp[ir,BL,gK,ih]
theorem uL (m:Int)(ks:List Kd):(gK m ks).length=ks.length:=by
 induction ks generalizing m with
 |nil=>rfl
 |cons k t ih=>simp[gK,ih]
noncomputable def inR (m:Int)(k:Kd):Bool:=decide (m≠2)&&k.small
noncomputable def jJ (m:Int):List Kd->List Bool
 |[]=>[]
 |k::t=>inR (nm m k) k::jJ (nm m k) t
theorem qY (m:Int)(ks:List Kd):(jJ m ks).length=ks.length:=by
 induction ks generalizing m with
 |nil=>rfl
 |cons k t ih=>simp[jJ,ih]
noncomputable def Ve:List Kd->List Int->List Bool
 |k::t,m::ms=>inR m k::Ve t ms
 |_,_=>[]
theorem W9 (m:Int)(ks:List Kd):Ve ks (ir m ks)=jJ m ks:=by
 induction ks generalizing m with
 |nil=>rfl
 |cons k t ih=>simp[ir,Ve,jJ,ih]
noncomputable def eF (at' first:Nat):List Bool->List (Nat×Nat)
 |[]=>if first<at' then [(first,at')] else []
 |true::t=>eF (at'+1) first t
 |false::t=>(if first<at' then [(first,at')] else [])++eF (at'+1) (at'+1) t
noncomputable def xP (m:Int)(ks:List Kd):List (Nat×Nat):=eF 0 0 (jJ m ks)
noncomputable def QJ (ks:List Kd)(i:Int):Option Kd:=if 0<=i then ks[i.toNat]? else none
theorem sJ (ks:List Kd)(n:Nat):QJ ks (n:Int)=ks[n]?:=by
 unfold QJ;rw[if_pos (by omega)];rfl
noncomputable def ub:Option Kd->Bool
 |some k=>k.great
 |none=>false
noncomputable def jK (ks:List Kd)(f:List Int)(a:Nat):Bool:=decide (QJ ks ((a:Int)-1)=some .G)&&decide (f.getD (a-1) 0=3)
noncomputable def gm (ks:List Kd)(z:Nat):Bool:=decide (ks[z]? = some .G) && !ub ks[z+1]?
noncomputable def vI (ks:List Kd)(f:List Int)(a z:Nat):Bool×List Int:=if jK ks f a then(true,f.set (a-1) 2) else if gm ks z then(true,f.set z 2) else(false,f)
noncomputable def vJ (ks:List Kd)(f:List Int)(a z:Nat):Bool×List Int:=if ub ks[z]? && decide (ks[z-1]? = some .s) then(true,f.set (z-1) 2) else if jK ks f a&&gm ks z then(true,(f.set (a-1) 2).set z 2) else(false,f)
noncomputable def settle (ks:List Kd)(f:List Int)(a z:Nat):Bool×List Int:=if(z-a) % 3=1 then vI ks f a z else if(z-a) % 3=2 then vJ ks f a z else(true,f)
theorem BM (ks:List Kd)(f:List Int)(a z:Nat):(settle ks f a z).2.length=f.length:=by
 unfold settle vI vJ
 repeat' split
 all_goals simp
noncomputable abbrev RdS:=List Int×List (Nat×Nat)
noncomputable def pI (ks:List Kd)(c:RdS)(p:Nat×Nat):RdS:=((settle ks c.1 p.1 p.2).2,if(settle ks c.1 p.1 p.2).1 then c.2 else c.2++[p])
noncomputable def jt (m:Int)(ks:List Kd):RdS:=(xP m ks).foldl (pI ks) (gK m ks,[])
theorem adW (ks:List Kd)(rs:List (Nat×Nat))(c:RdS):(rs.foldl (pI ks) c).1.length=c.1.length:=by
 induction rs generalizing c with
 |nil=>rfl
 |cons p t ih=>rw[List.foldl_cons,ih];exact BM ..
theorem qI (m:Int)(ks:List Kd):(jt m ks).1.length=ks.length:=by
 unfold jt;rw[adW,uL]
theorem K7:∀(bs:List Bool)(at' first:Nat),first<=at'->∀ p∈eF at' first bs,first<=p.1/\p.1<p.2/\p.2<=at'+bs.length
 |[],at',first,h,p,hp=>by
  unfold eF at hp;split at hp
  ·have:p=(first,at'):=by simpa using hp
   subst this;exact⟨R' _,by assumption,by simp⟩
  ·cases hp
 |true::t,at',first,h,p,hp=>by
  have:=K7 t (at'+1) first (by omega) p hp
  simp only [length_cons];omega
 |false::t,at',first,h,p,hp=>by
  unfold eF at hp;simp only [length_cons];rcases mem_append.mp hp with hp|hp
  ·split at hp
   ·have:p=(first,at'):=by simpa using hp
    subst this;exact⟨R' _,by assumption,by simp⟩
   ·cases hp
  ·have:=K7 t (at'+1) (at'+1) (R' _) p hp;omega
theorem adX (m:Int)(ks:List Kd):∀ p∈xP m ks,p.1<p.2/\p.2<=ks.length:=by
 intro p hp;have:=K7 (jJ m ks) 0 0 (R' _) p hp;rw[qY]at this;omega
theorem oJ:∀(bs:List Bool)(at' first:Nat),(eF at' first bs).length<=bs.length+1
 |[],at',first=>by unfold eF;split <;> simp
 |true::t,at',first=>by
  unfold eF;have:=oJ t (at'+1) first
  simp only [length_cons];omega
 |false::t,at',first=>by
  unfold eF;have:=oJ t (at'+1) (at'+1);simp only [length_cons,T'];split <;> simp <;> omega
noncomputable def aaG (H:Hp)(v:V)(q:Nat×Nat):Prop:=∃ p,v=.ref p/\H p=some (.tup [.int (q.1:Int),.int (q.2:Int)])
noncomputable abbrev Xa (H:Hp):List V->List (Nat×Nat)->Prop:=Paired (aaG H)
theorem aaG.same {H H':Hp}{v:V}{q:Nat×Nat}(e:ao H H')(h:aaG H v q):aaG H' v q:=by
 obtain⟨p,rfl,z⟩:=h;exact⟨p,rfl,e _ _ z⟩
theorem sL {H H':Hp}(e:ao H H'){xs:List V}{qs:List (Nat×Nat)}(h:Xa H xs qs):Xa H' xs qs:=aY (fun _ _ z=>z.same e) h
theorem Vf {H:Hp}{D:Addr}{o:HO}{zs:List V}{v:V}{q:Nat×Nat}(hD:H D=some (.lst zs))(h:aaG H v q):aaG (upd H D o) v q:=by
 obtain⟨p,e,z⟩:=h;exact⟨p,e,by rw[ak (mQ z hD (by intro z;cases z))];exact z⟩
theorem qZ {H:Hp}{D:Addr}{o:HO}{zs:List V}{xs:List V}{qs:List (Nat×Nat)}(hD:H D=some (.lst zs))(h:Xa H xs qs):Xa (upd H D o) xs qs:=aY (fun _ _ q=>Vf hD q) h
theorem Ec {H:Hp}{a:Addr}{o:HO}(h:H a=some o):upd H a o=H:=by
 funext b
 unfold upd;split
 ·rename_i e;rw[e,h]
 ·rfl
theorem GB {ks:List Kd}{f:List Int}{a:Nat}(h:jK ks f a=true):1<=a/\a-1<ks.length:=by
 unfold jK at h;have h1:=K' (Bool.and_eq_true_iff.mp h).1;unfold QJ at h1;split at h1
 ·have:=(C'.mp h1).1;omega
 ·cases h1
theorem BN {ks:List Kd}{z:Nat}(h:gm ks z=true):z<ks.length:=by
 unfold gm at h;have h1:=K' (Bool.and_eq_true_iff.mp h).1;exact(C'.mp h1).1
theorem sM {n:Nat}{i:Int}{j:Nat}(e:i=j)(h:j<n):ixN n i=some j:=by
 unfold ixN;subst e;rw[if_pos (by omega),if_pos (by omega)];rfl
theorem i8 {α:Type}{l:List α}{i:Nat}{x:α}(h:l[i]? = some x):l.drop i=x::l.drop (i+1):=by
 obtain⟨hi,e⟩:=C'.mp h;rw[List.drop_eq_getElem_cons hi,e]
theorem yp {α β:Type}{l:List α}{f:α->β}{i:Nat}{x:α}(h:l[i]? = some x):(l.map f)[i]? = some (f x):=by rw[getElem?_map,h];rfl
noncomputable abbrev bE (ss:List Sg):List Kd:=ss.map Prod.fst
theorem oB {fs:List Int}{j:Nat}{v:Int}:(fs.map V.int).set j (V.int v)=(fs.set j v).map V.int:=by rw[List.map_set]
theorem big {n:Nat}(h:n<=1000):n<=sizeLine:=Nat.le_of_lt (aQ h)
theorem head_drop {α:Type}(l:List α)(i:Nat):(l.drop i).head? = l[i]?:=by
 rw[List.head?_drop]
noncomputable def j4 (m:Int):List Kd->List Bool
 |[]=>[]
 |k::t=>decide (nm m k=3)::j4 (nm m k) t
theorem Xb (m:Int)(ks:List Kd):(j4 m ks).length=ks.length:=by
 induction ks generalizing m with
 |nil=>rfl
 |cons k t ih=>simp[j4,ih]
noncomputable def lead:List Bool->Nat
 |true::t=>lead t+1
 |_=>0
theorem ZK:∀ bs:List Bool,lead bs<=bs.length
 |[]=>R' _
 |true::t=>by simp only [lead,length_cons];have:=ZK t;omega
 |false::t=>Nat.zero_le _
theorem K8:∀(bs:List Bool)(at' first:Nat),first<at'+lead bs\/lead bs=0->first<=at'->eF at' first bs=(if first<at'+lead bs then [(first,at'+lead bs)] else [])++eF (at'+lead bs) (at'+lead bs) (bs.drop (lead bs))
 |[],at',first,_,h=>by
  show(if first<at' then [(first,at')] else [])=(if first<at' then [(first,at')] else [])++eF at' at' [];rw[show eF at' at' []=[] by unfold eF;rw[if_neg (Nat.lt_irrefl _)],append_nil]
 |true::t,at',first,h0,h=>by
  have ih:=K8 t (at'+1) first (.inl (by omega)) (by omega)
  have e:at'+1+lead t=at'+(lead t+1):=by omega
  rw[e]at ih;simp only [eF,lead,List.drop_succ_cons];exact ih
 |false::t,at',first,_,h=>by
  show(if first<at' then [(first,at')] else [])++eF (at'+1) (at'+1) t=(if first<at' then [(first,at')] else [])++((if at'<at' then [(at',at')] else [])++eF (at'+1) (at'+1) t);rw[if_neg (Nat.lt_irrefl at'),nil_append]
theorem ZL {m:Int}(h:Ms m):∀(ks:List Kd)(i:Nat)(k:Kd),ks[i]? = some k->∃ b,(j4 m ks)[i]? = some b/\(jJ m ks)[i]? = some (k.small&&b)
 |[],i,k,e=>by simp at e
 |c::t,0,k,e=>by
  have:c=k:=by simpa using e
  subst this;refine⟨decide (nm m c=3),rfl,?_⟩;simp only [jJ,List.getElem?_cons_zero,inR];have hm:=h.nm c;rcases hm with e|e <;> rw[e] <;> cases c <;> rfl
 |c::t,i+1,k,e=>by
  obtain⟨b,h1,h2⟩:=ZL (h.nm c) t i k (by simpa using e);exact⟨b,by simpa [j4] using h1,by simpa [jJ] using h2⟩
theorem ZM:∀(bs:List Bool)(j:Nat),j<=lead bs->(j<lead bs ↔ bs[j]? = some true)
 |[],j,h=>by simp[lead]
 |true::t,0,h=>by simp[lead]
 |true::t,j+1,h=>by
  have:=ZM t j (by simp only [lead]at h;omega);simp only [lead,List.getElem?_cons_succ];rw[<-this];omega
 |false::t,j,h=>by
  have:j=0:=by simp only [lead]at h;omega
  subst this;simp[lead]
theorem aiB {m:Int}{ks:List Kd}{low j:Nat}:((jJ m ks).drop low)[j]? = (jJ m ks)[low+j]?:=by rw[getElem?_drop]
theorem ZN (xs:List V)(n:Nat):BG xs none (some (n:Int))=xs.take n:=by
 unfold BG;have e:HT.mN xs.length xs.length (some (n:Int))=min n xs.length:=HT.Zv xs.length xs.length n;rw[HT.KR,e,Nat.sub_zero,List.drop_zero];rcases Nat.le_total n xs.length with h|h
 ·rw[Nat.min_eq_left h]
 ·rw[Nat.min_eq_right h,take_length,List.take_of_length_le h]
theorem Ed (xs:List V)(n:Nat)(h:n<=xs.length):BG xs (some (n:Int)) none=xs.drop n:=by
 unfold BG;have e:HT.mN xs.length 0 (some (n:Int))=min n xs.length:=HT.Zv xs.length 0 n;rw[HT.KR,e,Nat.min_eq_left h];exact List.take_of_length_le (by rw[length_drop];omega)
theorem akI {K:Frag}{H:Hp}{p p2:Addr}{s:Sg}(n:Nat)(h1:H p=some (.tup [.str s.1.str,.int s.2]))(h2:H p2=some (.tup [.str s.1.str,.int s.2])):Deq K H (n+1) (.ref p) (.ref p2):=by
 refine .tup (ij.of h1) (ij.of h2) rfl fun i x y e1 e2=>?_;have e:x=y:=W' (e1.symm.trans e2);subst e
 match i,e1 with
 |0,e1=>cases e1;exact .flat rfl
 |1,e1=>cases e1;exact .flat rfl
 |n+2,e1=>simp at e1
noncomputable def PrI (H:Hp)(v:V)(q:Int×Int):Prop:=∃ p,v=.ref p/\H p=some (.tup [.int q.1,.int q.2])
noncomputable abbrev akJ (H:Hp):List V->List (Int×Int)->Prop:=Paired (PrI H)
theorem Vg {H H':Hp}(e:ao H H'){xs:List V}{qs:List (Int×Int)}(h:akJ H xs qs):akJ H' xs qs:=aY (fun _ _ ⟨p,a,z⟩=>⟨p,a,e _ _ z⟩) h
theorem adY {H:Hp}{D:Addr}{o:HO}{zs:List V}{v:V}{q:Int×Int}(hD:H D=some (.lst zs))(h:PrI H v q):PrI (upd H D o) v q:=by
 obtain⟨p,e,z⟩:=h;exact⟨p,e,by rw[ak (mQ z hD (by intro z;cases z))];exact z⟩
noncomputable def K9 (K:Frag):Sp:=fun vs H Q _=>∃(a:Addr)(ns:List Int),vs=[.ref a]/\aO K H a (ns.map V.int)/\ns.length<=63/\∀ H',Q (.bl true) H'
theorem aaH {K:Frag}{H:Hp}{a:Addr}{ns:List Int}(hl:ns.length<=63)(_:Only H)(hS:aO K H a (ns.map V.int)):K9 K [.ref a] H (fun v _=>v=.bl true) fun _ _ _=>False :=
 ⟨a,ns,rfl,hS,hl,fun _=>rfl⟩
theorem uc {k:Str}{v:V}{r:List (Str×V)}:((k,v)::r).lookup k=some v:=by simp[List.lookup]
theorem aL {k g:Str}{v:V}{r:List (Str×V)}(h:¬ g=k):((k,v)::r).lookup g=r.lookup g:=by
 have:(g==k)=false:=beq_eq_false_iff_ne.mpr h;simp[List.lookup,this]
theorem jS {k g:Str}{x y:V}{r:List (Str×V)}(h:¬ g=k):mO k y ((g,x)::r)=(g,x)::mO k y r:=if_neg h
noncomputable def voF (n:Str)(tm:V)(L:Addr):List (Str×V):=[("name",V.str n),("terms",tm),("signs",V.ref L)]
theorem Vh (n:Str)(tm:V)(L:Addr):(voF n tm L).lookup ("name":Str)=some (V.str n):=uc
theorem Pm (n:Str)(tm:V)(L:Addr):(voF n tm L).lookup ("terms":Str)=some (tm):=(aL (by lk)).trans (uc)
theorem uM (n:Str)(tm:V)(L:Addr):(voF n tm L).lookup ("signs":Str)=some (V.ref L):=(aL (by lk)).trans ((aL (by lk)).trans (uc))
theorem QK (v0:V):mO "name" v0 ([]:List (Str×V))=([("name",v0)]:List (Str×V)):=rfl
theorem ZO (v0 v1:V):mO "terms" v1 ([("name",v0)]:List (Str×V))=([("name",v0),("terms",v1)]:List (Str×V)):=(jS (by lk)).trans (congrArg _ (rfl))
theorem af7 (v0 v1 v2:V):mO "signs" v2 ([("name",v0),("terms",v1)]:List (Str×V))=([("name",v0),("terms",v1),("signs",v2)]:List (Str×V)):=(jS (by lk)).trans (congrArg _ ((jS (by lk)).trans (congrArg _ (rfl))))
noncomputable def La (T:Addr)(at_:Int)(B A:Addr):List (Str×V):=[("things",V.ref T),("at",V.int at_),("before",V.ref B),("after",V.ref A)]
theorem Lb (T:Addr)(at_:Int)(B A:Addr):(La T at_ B A).lookup ("things":Str)=some (V.ref T):=uc
theorem QL (T:Addr)(at_:Int)(B A:Addr):(La T at_ B A).lookup ("at":Str)=some (V.int at_):=(aL (by lk)).trans (uc)
theorem Lc (T:Addr)(at_:Int)(B A:Addr):(La T at_ B A).lookup ("before":Str)=some (V.ref B):=(aL (by lk)).trans ((aL (by lk)).trans (uc))
theorem Pn (T:Addr)(at_:Int)(B A:Addr):(La T at_ B A).lookup ("after":Str)=some (V.ref A):=(aL (by lk)).trans ((aL (by lk)).trans ((aL (by lk)).trans (uc)))
theorem Po (T:Addr)(at_:Int)(B A:Addr):(La T at_ B A).lookup ("do":Str)=none:=(aL (by lk)).trans ((aL (by lk)).trans ((aL (by lk)).trans ((aL (by lk)).trans (rfl))))
theorem Vi (T:Addr)(at_:Int)(B A:Addr):(La T at_ B A).lookup ("undo":Str)=none:=(aL (by lk)).trans ((aL (by lk)).trans ((aL (by lk)).trans ((aL (by lk)).trans (rfl))))
theorem Kx (v0:V):mO "things" v0 ([]:List (Str×V))=([("things",v0)]:List (Str×V)):=rfl
theorem QM (v0 v1:V):mO "at" v1 ([("things",v0)]:List (Str×V))=([("things",v0),("at",v1)]:List (Str×V)):=(jS (by lk)).trans (congrArg _ (rfl))
theorem ZP (v0 v1 v2:V):mO "before" v2 ([("things",v0),("at",v1)]:List (Str×V))=([("things",v0),("at",v1),("before",v2)]:List (Str×V)):=(jS (by lk)).trans (congrArg _ ((jS (by lk)).trans (congrArg _ (rfl))))
theorem af8 (v0 v1 v2 v3:V):mO "after" v3 ([("things",v0),("at",v1),("before",v2)]:List (Str×V))=([("things",v0),("at",v1),("before",v2),("after",v3)]:List (Str×V)):=(jS (by lk)).trans (congrArg _ ((jS (by lk)).trans (congrArg _ ((jS (by lk)).trans (congrArg _ (rfl))))))
noncomputable def Ee (V_ D U:Addr):List (Str×V):=[("voices",V.ref V_),("done",V.ref D),("undone",V.ref U)]
theorem q9 (V_ D U:Addr):(Ee V_ D U).lookup ("voices":Str)=some (V.ref V_):=uc
theorem Ef (V_ D U:Addr):(Ee V_ D U).lookup ("done":Str)=some (V.ref D):=(aL (by lk)).trans (uc)
theorem vK (V_ D U:Addr):(Ee V_ D U).lookup ("undone":Str)=some (V.ref U):=(aL (by lk)).trans ((aL (by lk)).trans (uc))
theorem uN (V_ D U:Addr):(Ee V_ D U).lookup ("add_voice":Str)=none:=(aL (by lk)).trans ((aL (by lk)).trans ((aL (by lk)).trans (rfl)))
theorem GC (V_ D U:Addr):(Ee V_ D U).lookup ("add_canon":Str)=none:=(aL (by lk)).trans ((aL (by lk)).trans ((aL (by lk)).trans (rfl)))
theorem Ld (V_ D U:Addr):(Ee V_ D U).lookup ("put":Str)=none:=(aL (by lk)).trans ((aL (by lk)).trans ((aL (by lk)).trans (rfl)))
theorem Xc (V_ D U:Addr):(Ee V_ D U).lookup ("cut":Str)=none:=(aL (by lk)).trans ((aL (by lk)).trans ((aL (by lk)).trans (rfl)))
theorem Vj (V_ D U:Addr):(Ee V_ D U).lookup ("swap":Str)=none:=(aL (by lk)).trans ((aL (by lk)).trans ((aL (by lk)).trans (rfl)))
theorem oK (V_ D U:Addr):(Ee V_ D U).lookup ("undo":Str)=none:=(aL (by lk)).trans ((aL (by lk)).trans ((aL (by lk)).trans (rfl)))
theorem Jv (V_ D U:Addr):(Ee V_ D U).lookup ("redo":Str)=none:=(aL (by lk)).trans ((aL (by lk)).trans ((aL (by lk)).trans (rfl)))
theorem k6 (V_ D U:Addr):(Ee V_ D U).lookup ("names":Str)=none:=(aL (by lk)).trans ((aL (by lk)).trans ((aL (by lk)).trans (rfl)))
theorem ko (V_ D U:Addr):(Ee V_ D U).lookup ("line":Str)=none:=(aL (by lk)).trans ((aL (by lk)).trans ((aL (by lk)).trans (rfl)))
theorem yq (V_ D U:Addr):(Ee V_ D U).lookup ("kept":Str)=none:=(aL (by lk)).trans ((aL (by lk)).trans ((aL (by lk)).trans (rfl)))
theorem k8 (V_ D U:Addr):(Ee V_ D U).lookup ("canon":Str)=none:=(aL (by lk)).trans ((aL (by lk)).trans ((aL (by lk)).trans (rfl)))
theorem lg (V_ D U:Addr):(Ee V_ D U).lookup ("perform":Str)=none:=(aL (by lk)).trans ((aL (by lk)).trans ((aL (by lk)).trans (rfl)))
theorem Bn (V_ D U:Addr):(Ee V_ D U).lookup ("put_in":Str)=none:=(aL (by lk)).trans ((aL (by lk)).trans ((aL (by lk)).trans (rfl)))
theorem sN (V_ D U:Addr):(Ee V_ D U).lookup ("refuse_new":Str)=none:=(aL (by lk)).trans ((aL (by lk)).trans ((aL (by lk)).trans (rfl)))
theorem fD (V_ D U:Addr):(Ee V_ D U).lookup ("voice_called":Str)=none:=(aL (by lk)).trans ((aL (by lk)).trans ((aL (by lk)).trans (rfl)))
theorem gn (V_ D U:Addr):(Ee V_ D U).lookup ("plain_voice":Str)=none:=(aL (by lk)).trans ((aL (by lk)).trans ((aL (by lk)).trans (rfl)))
theorem QN (v0:V):mO "voices" v0 ([]:List (Str×V))=([("voices",v0)]:List (Str×V)):=rfl
theorem ZQ (v0 v1:V):mO "done" v1 ([("voices",v0)]:List (Str×V))=([("voices",v0),("done",v1)]:List (Str×V)):=(jS (by lk)).trans (congrArg _ (rfl))
theorem af9 (v0 v1 v2:V):mO "undone" v2 ([("voices",v0),("done",v1)]:List (Str×V))=([("voices",v0),("done",v1),("undone",v2)]:List (Str×V)):=(jS (by lk)).trans (congrArg _ ((jS (by lk)).trans (congrArg _ (rfl))))
theorem yr {a b:TS}{D:Ends}{σ:St}{H:Hp}(h:∀ N:St->Hp->Prop,(∀ σ H,b D σ H->N σ H)->a { D with nx:=N } σ H):ajT a b D σ H:=h (b D) fun _ _ z=>z
structure Vx where
 o:Addr
 d:Addr
 n:Str
 tm:V
 l:Addr
noncomputable def aga (C:Addr)(H:Hp)(v:V)(a:Vx):Prop:=v=.ref a.o/\H a.o=some (.ins C a.d (voF a.n a.tm a.l))
structure Dd where
 o:Addr
 d:Addr
 T:Addr
 i:Nat
 B:Addr
 A:Addr
 bs:List V
 as:List V
noncomputable def qw (C:Addr)(H:Hp)(v:V)(e:Dd):Prop:=v=.ref e.o/\H e.o=some (.ins C e.d (La e.T (e.i:Int) e.B e.A))/\H e.B=some (.lst e.bs)/\H e.A=some (.lst e.as)
noncomputable abbrev MM:=Addr->List V
noncomputable def putAt (S:MM)(T:Addr)(zs:List V):MM:=fun b=>if b=T then zs else S b
theorem gp {S:MM}{T:Addr}{zs:List V}:putAt S T zs T=zs:=if_pos rfl
theorem rb {S:MM}{T b:Addr}{zs:List V}(h:b≠T):putAt S T zs b=S b:=if_neg h
noncomputable def Ba (e:Dd)(S:MM):MM:=putAt S e.T ((S e.T).take e.i++e.as++(S e.T).drop (e.i+e.bs.length))
noncomputable def unD (e:Dd)(S:MM):MM:=putAt S e.T ((S e.T).take e.i++e.bs++(S e.T).drop (e.i+e.as.length))
noncomputable def Fits (e:Dd)(S:MM):Prop:=e.i+e.bs.length<=(S e.T).length/\((S e.T).drop e.i).take e.bs.length=e.bs
theorem akK {α:Type}{xs bs as:List α}{i:Nat}(h:i+bs.length<=xs.length):(xs.take i++as++xs.drop (i+bs.length)).take i=xs.take i/\(xs.take i++as++xs.drop (i+bs.length)).drop (i+as.length)=xs.drop (i+bs.length):=by
 have h1:(xs.take i).length=i:=by rw[length_take];omega
 constructor
 ·rw[List.append_assoc];exact List.take_left' h1
 ·exact List.drop_left' (by rw[T',h1])
theorem akL {e:Dd}{S:MM}(h:Fits e S):unD e (Ba e S)=S:=by
 funext b
 unfold unD
 by_cases hb:b=e.T
 ·subst hb;rw[gp];unfold Ba;rw[gp,(akK h.1).1,(akK h.1).2];have h2:e.bs++(S e.T).drop (e.i+e.bs.length)=(S e.T).drop e.i:=by
   rw[<-List.drop_drop];have:=List.take_append_drop e.bs.length ((S e.T).drop e.i);rw[h.2]at this;exact this
  rw[List.append_assoc,h2,List.take_append_drop]
 ·rw[rb hb];unfold Ba;rw[rb hb]
theorem agb {e:Dd}{S:MM}(h:Fits e S):e.i+e.as.length<=(Ba e S e.T).length:=by
 unfold Ba;rw[gp,T',T',length_take];have:=h.1;omega
inductive Path:List MM->List Dd->MM->Prop
 |nil {M:MM}:Path [] [] M
 |snoc {Ps:List MM} {es:List Dd} {S:MM} {e:Dd}:Path Ps es S->Fits e S->Path (Ps++[S]) (es++[e]) (Ba e S)
inductive Fut:MM->List Dd->List MM->Prop
 |nil {M:MM}:Fut M [] []
 |snoc {M:MM} {us:List Dd} {Fs:List MM} {e:Dd}:Fits e M->Fut (Ba e M) us Fs->Fut M (us++[e]) (Fs++[Ba e M])
theorem lh {α:Type}{a b:List α}{x y:α}(h:a++[x]=b++[y]):a=b/\x=y:=by
 have:=List.append_inj' h rfl;exact⟨this.1,by simpa using this.2⟩
theorem Path.last {Ps:List MM}{es:List Dd}{e:Dd}{M:MM}(h:Path Ps (es++[e]) M):∃ Ps' S,Ps=Ps'++[S]/\Path Ps' es S/\Fits e S/\M=Ba e S:=by
 generalize he:es++[e]=es' at h;cases h with
 |nil=>simp at he
 |snoc p f =>
  obtain⟨rfl,rfl⟩:=lh he;exact⟨_,_,rfl,p,f,rfl⟩
theorem Fut.last {us:List Dd}{e:Dd}{M:MM}{Fs:List MM}(h:Fut M (us++[e]) Fs):∃ Fs',Fs=Fs'++[Ba e M]/\Fits e M/\Fut (Ba e M) us Fs':=by
 generalize he:us++[e]=us' at h;cases h with
 |nil=>simp at he
 |snoc f p =>
  obtain⟨rfl,rfl⟩:=lh he;exact⟨_,rfl,f,p⟩
theorem Path.len {Ps:List MM}{es:List Dd}{M:MM}(h:Path Ps es M):Ps.length=es.length:=by
 induction h with
 |nil=>rfl
 |snoc _ _ ih=>rw[T',T',ih];rfl
theorem Fut.len {us:List Dd}{M:MM}{Fs:List MM}(h:Fut M us Fs):Fs.length=us.length:=by
 induction h with
 |nil=>rfl
 |snoc _ _ ih=>rw[T',T',ih];rfl
noncomputable def jL (s:Sg):Prop:=(s.1.fk=true->0<=s.2/\s.2<100)/\(s.1.fk=false->s.2=0)
noncomputable def GV (H:Hp)(v:V):Prop:=∃ s,W8 H v s/\jL s
structure WF (H:Hp)(L:Addr)(all:List Vx)(S:MM):Prop where
 vs:∃ vx:List Vx,Paired (fun v a=>v=V.ref a.o/\a∈all) (S L) vx
 ln:∀ a∈all,(S a.l).length<=200/\∀ v∈S a.l,GV H v
 len:(S L).length<=12
 out:∀ b,b≠L->(∀ a∈all,b≠a.l)->S b=[]
inductive Th where
 |pl (ss:List Sg)
 |cn (ld:Str) (lt sl:Int) (tn:Bool)
noncomputable abbrev Vw:=List (Str×Th)
noncomputable def ad0 (H:Hp)(S:MM)(a:Vx):Th->Prop
 |.pl ss=>a.tm=.non/\iq H (S a.l) ss
 |.cn ld lt sl tn=>∃ p,a.tm=.ref p/\H p=some (.tup [.str ld,.int lt,.int sl,.bl tn])
noncomputable def aaI (H:Hp)(all:List Vx)(S:MM)(v:V)(q:Str×Th):Prop:=∃ a∈all,v=.ref a.o/\a.n=q.1/\ad0 H S a q.2
noncomputable abbrev Is (H:Hp)(L:Addr)(all:List Vx)(S:MM)(vw:Vw):Prop:=Paired (aaI H all S) (S L) vw
structure yt (vw:Vw):Prop where
 nd:(vw.map (·.1)).Nodup
 ld:∀ n ld lt sl tn,(n,Th.cn ld lt sl tn)∈vw->(∃ ss,(ld,Th.pl ss)∈vw)/\0<=lt/\lt<=999/\1<=sl/\sl<=9
 gd:∀ n ss,(n,Th.pl ss)∈vw->ss.length<=200/\∀ s∈ss,jL s
 len:vw.length<=12
structure Pp (CB CV CD:Addr)(H:Hp)(x L D U:Addr)(all:List Vx)(M:MM)(Ps Fs:List MM)(es us:List Dd):Prop where
 hx:∃ dx,H x=some (.ins CB dx (Ee L D U))
 hL:H L=some (.lst (M L))
 hD:∃ xs,H D=some (.lst xs)/\Paired (qw CD H) xs es
 hU:∃ xs,H U=some (.lst xs)/\Paired (qw CD H) xs us
 ha:∀ a∈all,H a.o=some (.ins CV a.d (voF a.n a.tm a.l))/\H a.l=some (.lst (M a.l))
 LD:L≠D
 LU:L≠U
 DU:D≠U
 nl:∀ a∈all,a.l≠L/\a.l≠D/\a.l≠U
 ni:∀ a∈all,∀ b∈all,a.l=b.l->a=b
 no:∀ a∈all,∀ b∈all,a.o=b.o->a=b
 dd:∀ e,e∈es\/e∈us->(e.T=L\/∃ a∈all,e.T=a.l)/\(e.B≠L/\e.B≠D/\e.B≠U/\∀ a∈all,e.B≠a.l)/\(e.A≠L/\e.A≠D/\e.A≠U/\∀ a∈all,e.A≠a.l)/\e.bs.length<=1/\e.as.length<=1
 past:Path Ps es M
 fut:Fut M us Fs
 wf:∀ S,S∈Ps\/S=M\/S∈Fs->WF H L all S
structure Xd (F:Addr->Prop)(L D U:Addr)(all:List Vx)(es us:List Dd):Prop where
 L:F L
 D:F D
 U:F U
 l:∀ a∈all,F a.l
 d:∀ e,e∈es\/e∈us->F e.B/\F e.A
structure Bk (CB CV CD:Addr)(H:Hp)(x:Addr)(F:Addr->Prop)(vw:Vw)(ps fs:List Vw):Prop where
 ex:∃(L D U:Addr)(all:List Vx)(M:MM)(Ps Fs:List MM)(es us:List Dd),Pp CB CV CD H x L D U all M Ps Fs es us/\Is H L all M vw/\Paired (Is H L all) Ps ps/\Paired (Is H L all) Fs fs/\Xd F L D U all es us
 wv:∀ v,v∈ps\/v=vw\/v∈fs->yt v
noncomputable def Kept (F:Addr->Prop)(H H':Hp):Prop:=∀ y o,H y=some o->(F y\/∀ xs,o≠.lst xs)->H' y=some o
theorem Kept.same {F:Addr->Prop}{H H':Hp}(s:ao H H'):Kept F H H':=fun y o e _=>s y o e
section
variable {CB CV CD:Addr} {H H':Hp} {x L D U:Addr} {all:List Vx} {M S:MM} {Ps Fs:List MM} {es us:List Dd} {F:Addr->Prop} {vw:Vw} {ps fs:List Vw}
theorem Kept.sgs (k:Kept F H H'){xs:List V}{ss:List Sg}(h:iq H xs ss):iq H' xs ss:=aY (fun _ _ ⟨p,e1,e2⟩=>⟨p,e1,k _ _ e2 (.inr fun _ z=>nomatch z)⟩) h
theorem Kept.gv (k:Kept F H H'){v:V}(h:GV H v):GV H' v:=by
 obtain⟨s,⟨p,e1,e2⟩,g⟩:=h;exact⟨s,⟨p,e1,k _ _ e2 (.inr fun _ z=>nomatch z)⟩,g⟩
theorem WF.kept (k:Kept F H H')(h:WF H L all S):WF H' L all S:=⟨h.vs,fun a ha=>⟨(h.ln a ha).1,fun v hv=>k.gv ((h.ln a ha).2 v hv)⟩,h.len,h.out⟩
theorem aaI.kept (k:Kept F H H'){v:V}{q:Str×Th}(h:aaI H all S v q):aaI H' all S v q:=by
 obtain⟨a,ha,e1,e2,t⟩:=h;refine⟨a,ha,e1,e2,?_⟩;cases hq:q.2 with
 |pl ss=>rw[hq]at t;exact⟨t.1,k.sgs t.2⟩
 |cn ld lt sl tn =>
  rw[hq]at t;obtain⟨p,e3,e4⟩:=t;exact⟨p,e3,k _ _ e4 (.inr fun _ z=>nomatch z)⟩
theorem Is.kept (k:Kept F H H')(h:Is H L all S vw):Is H' L all S vw:=aY (fun _ _ q=>aaI.kept k q) h
theorem kq (k:Kept F H H'){v:V}{e:Dd}(f:F e.B/\F e.A)(h:qw CD H v e):qw CD H' v e:=⟨h.1,k _ _ h.2.1 (.inr fun _ z=>nomatch z),k _ _ h.2.2.1 (.inl f.1),k _ _ h.2.2.2 (.inl f.2)⟩
theorem vL {α β:Type}{F G:α->β->Prop}:∀{xs:List α} {ys:List β},(∀ x y,y∈ys->F x y->G x y)->Paired F xs ys->Paired G xs ys
 |_,_,_,.nil=>.nil
 |_,_,h,.cons a b=>.cons (h _ _ (mem_cons_self ..) a) (vL (fun x y hy=>h x y (mem_cons_of_mem _ hy)) b)
theorem Pp.kept (h:Pp CB CV CD H x L D U all M Ps Fs es us)(f:Xd F L D U all es us)(k:Kept F H H'):Pp CB CV CD H' x L D U all M Ps Fs es us :=
 {
  h with
  hx:=let ⟨dx,e⟩:=h.hx;⟨dx,k _ _ e (.inr fun _ z=>nomatch z)⟩
  hL:=k _ _ h.hL (.inl f.L)
  hD:=let ⟨xs,e,p⟩:=h.hD;⟨xs,k _ _ e (.inl f.D),vL (fun _ e he q=>kq k (f.d e (.inl he)) q) p⟩
  hU:=let ⟨xs,e,p⟩:=h.hU;⟨xs,k _ _ e (.inl f.U),vL (fun _ e he q=>kq k (f.d e (.inr he)) q) p⟩
  ha:=fun a m=>⟨k _ _ (h.ha a m).1 (.inr fun _ z=>nomatch z),k _ _ (h.ha a m).2 (.inl (f.l a m))⟩
  wf:=fun S hS=>(h.wf S hS).kept k }
theorem Bk.kept (h:Bk CB CV CD H x F vw ps fs)(k:Kept F H H'):Bk CB CV CD H' x F vw ps fs:=by
 obtain⟨L,D,U,all,M,Ps,Fs,es,us,b,i,pp,pf,f⟩:=h.ex;exact⟨⟨L,D,U,all,M,Ps,Fs,es,us,b.kept f k,Is.kept k i,aY (fun _ _ q=>Is.kept k q) pp,aY (fun _ _ q=>Is.kept k q) pf,f⟩,h.wv⟩
theorem Bk.same (h:Bk CB CV CD H x F vw ps fs)(s:ao H H'):Bk CB CV CD H' x F vw ps fs:=h.kept (.same s)
theorem Pp.yu (b:Pp CB CV CD H x L D U all M Ps Fs es us)(i:Is H L all M vw):∃ vx:List Vx,Paired (aga CV H) (M L) vx/\Paired (fun a q=>a∈all/\a.n=q.1/\ad0 H M a q.2) vx vw:=by
 have go:∀{xs:List V} {vw:Vw},Paired (aaI H all M) xs vw->∃ vx:List Vx,Paired (aga CV H) xs vx/\Paired (fun a q=>a∈all/\a.n=q.1/\ad0 H M a q.2) vx vw:=by
  intro xs vw h
  induction h with
  |nil=>exact⟨[],.nil,.nil⟩
  |cons q _ ih =>
   obtain⟨a,ha,e1,e2,e3⟩:=q;obtain⟨vx,p1,p2⟩:=ih;exact⟨a::vx,.cons ⟨e1,(b.ha a ha).1⟩ p1,.cons ⟨ha,e2,e3⟩ p2⟩
 exact go i
noncomputable def ad1 (L D U:Addr)(all:List Vx)(e:Dd):Prop:=(e.T=L\/∃ a∈all,e.T=a.l)/\(e.B≠L/\e.B≠D/\e.B≠U/\∀ a∈all,e.B≠a.l)/\(e.A≠L/\e.A≠D/\e.A≠U/\∀ a∈all,e.A≠a.l)/\e.bs.length<=1/\e.as.length<=1
theorem Pp.lists (b:Pp CB CV CD H x L D U all M Ps Fs es us){T:Addr}(tg:T=L\/∃ a∈all,T=a.l):H T=some (.lst (M T))/\T≠D/\T≠U:=by
 rcases tg with rfl|⟨a,ha,rfl⟩
 ·exact⟨b.hL,b.LD,b.LU⟩
 ·exact⟨(b.ha a ha).2,(b.nl a ha).2.1,(b.nl a ha).2.2⟩
theorem Pp.chg (b:Pp CB CV CD H x L D U all M Ps Fs es us){T:Addr}(tg:T=L\/∃ a∈all,T=a.l){H2:Hp}(fr:∀ y o,H y=some o->y≠T->y≠D->y≠U->H2 y=some o){M':MM}(m1:∀ c,c≠T->M' c=M c)(hT:H2 T=some (.lst (M' T)))
  {dx:List V} {es':List Dd} (hD:H2 D=some (.lst dx)) (pD:Paired (qw CD H) dx es') {ux:List V} {us':List Dd} (hU:H2 U=some (.lst ux)) (pU:Paired (qw CD H) ux us') (dd':∀ e,e∈es'\/e∈us'->ad1 L D U all e)
  {Ps' Fs':List MM} (akM:Path Ps' es' M') (am3:Fut M' us' Fs') (wf':∀ S,S∈Ps'\/S=M'\/S∈Fs'->WF H L all S):Pp CB CV CD H2 x L D U all M' Ps' Fs' es' us'/\Kept (fun _=>False) H H2:=by
 obtain⟨hT0,TD,TU⟩:=b.lists tg;obtain⟨dx0,hD0,_⟩:=b.hD;obtain⟨ux0,WE,_⟩:=b.hU;have kN:∀ y o,H y=some o->(∀ zs,o≠.lst zs)->H2 y=some o:=fun y o hy hn=>fr y o hy
  (fun e=>by rw[e,hT0]at hy;cases hy;exact hn _ rfl) (fun e=>by rw[e,hD0]at hy;cases hy;exact hn _ rfl) (fun e=>by rw[e,WE]at hy;cases hy;exact hn _ rfl)
 have k:Kept (fun _=>False) H H2:=fun y o hy h=>kN y o hy (h.elim False.elim id);have dk:∀{v e},ad1 L D U all e->qw CD H v e->qw CD H2 v e:=fun {v e} ok h=>by
  have nT:∀{c:Addr},c≠L/\c≠D/\c≠U/\(∀ a∈all,c≠a.l)->c≠T:=fun {c} q z=>by
   rcases tg with rfl|⟨a,ha,rfl⟩
   ·exact q.1 z
   ·exact q.2.2.2 a ha z
  exact⟨h.1,kN _ _ h.2.1 (fun _ z=>nomatch z),fr _ _ h.2.2.1 (nT ok.2.1) ok.2.1.2.1 ok.2.1.2.2.1,fr _ _ h.2.2.2 (nT ok.2.2.1) ok.2.2.1.2.1 ok.2.2.1.2.2.1⟩
 have at_:∀{c:Addr},(c=L\/∃ a∈all,c=a.l)->H2 c=some (.lst (M' c)):=fun {c} hc=>by
  by_cases e:c=T
  ·rw[e];exact hT
  ·obtain⟨h1,h2,h3⟩:=b.lists hc;rw[m1 c e];exact fr _ _ h1 e h2 h3
 refine⟨{
      hx:=let ⟨dx,e⟩:=b.hx;⟨dx,kN _ _ e (fun _ z=>nomatch z)⟩
      hL:=at_ (.inl rfl)
      hD:=⟨_,hD,vL (fun _ e he q=>dk (dd' e (.inl he)) q) pD⟩
      hU:=⟨_,hU,vL (fun _ e he q=>dk (dd' e (.inr he)) q) pU⟩
      ha:=fun a ha=>⟨kN _ _ (b.ha a ha).1 (fun _ z=>nomatch z),at_ (.inr ⟨a,ha,rfl⟩)⟩
      LD:=b.LD,LU:=b.LU,DU:=b.DU,nl:=b.nl,ni:=b.ni,no:=b.no,dd:=dd'
      past:=akM
      fut:=am3
      wf:=fun S hS=>(wf' S hS).kept k },k⟩
theorem Pp.grow (b:Pp CB CV CD H x L D U all M Ps Fs es us){a:Vx}{H1:Hp}(s:ao H H1)(n1:H a.o=none)(n2:H a.l=none)(h1:H1 a.o=some (.ins CV a.d (voF a.n a.tm a.l)))(h2:H1 a.l=some (.lst [])):Pp CB CV CD H1 x L D U (all++[a]) M Ps Fs es us:=by
 have b1:=b.kept (F:=fun _=>True) ⟨trivial,trivial,trivial,fun _ _=>trivial,fun _ _=>⟨trivial,trivial⟩⟩ (.same s);obtain⟨dx0,hD0,pD0⟩:=b.hD;obtain⟨ux0,WE,pU0⟩:=b.hU;have nL:a.l≠L:=Ne.symm (ar b.hL n2);have nD:a.l≠D:=Ne.symm (ar hD0 n2);have nU:a.l≠U:=Ne.symm (ar WE n2);have nA:∀ c∈all,a.l≠c.l:=fun c hc=>Ne.symm (ar (b.ha c hc).2 n2);have nO:∀ c∈all,a.o≠c.o:=fun c hc=>Ne.symm (ar (b.ha c hc).1 n1);have mem:∀{c:Vx},c∈all++[a]->c∈all\/c=a:=fun h=>by simpa using h
 have wf2:∀ S,WF H1 L all S->WF H1 L (all++[a]) S:=fun S w =>
  {
   vs:=let ⟨vx,p⟩:=w.vs;⟨vx,aY (fun _ _ q=>⟨q.1,mem_append_left _ q.2⟩) p⟩
   ln:=fun c hc=>by
    rcases mem hc with hc|rfl
    ·exact w.ln c hc
    ·have e:S c.l=[]:=w.out c.l nL fun d hd=>nA d hd;rw[e];exact⟨Nat.zero_le _,fun _ z=>nomatch z⟩
   len:=w.len
   out:=fun c h h'=>w.out c h fun d hd=>h' d (mem_append_left _ hd) }
 have dds:∀{v e},qw CD H v e->e.B≠a.l/\e.A≠a.l:=fun h=>⟨ar h.2.2.1 n2,ar h.2.2.2 n2⟩;have ddn:∀ e,e∈es\/e∈us->e.B≠a.l/\e.A≠a.l:=fun e he=>by
  rcases he with he|he
  ·obtain⟨i,hi⟩:=getElem?_of_mem he;obtain⟨v,_,q⟩:=xO pD0 hi;exact dds q
  ·obtain⟨i,hi⟩:=getElem?_of_mem he;obtain⟨v,_,q⟩:=xO pU0 hi;exact dds q
 exact { b1 with
  ha:=fun c hc=>by
   rcases mem hc with hc|rfl
   ·exact b1.ha c hc
   ·refine⟨h1,?_⟩;rw[(b.wf M (.inr (.inl rfl))).out c.l nL fun d hd=>nA d hd];exact h2
  nl:=fun c hc=>by
   rcases mem hc with hc|rfl
   ·exact b1.nl c hc
   ·exact⟨nL,nD,nU⟩
  ni:=fun c hc d hd e=>by
   rcases mem hc with z1|z1 <;> rcases mem hd with z2|z2
   ·exact b1.ni c z1 d z2 e
   ·rw[z2]at e;exact V' e.symm (nA c z1)
   ·rw[z1]at e;exact V' e (nA d z2)
   ·rw[z1,z2]
  no:=fun c hc d hd e=>by
   rcases mem hc with z1|z1 <;> rcases mem hd with z2|z2
   ·exact b1.no c z1 d z2 e
   ·rw[z2]at e;exact V' e.symm (nO c z1)
   ·rw[z1]at e;exact V' e (nO d z2)
   ·rw[z1,z2]
  dd:=fun e he=>by
   obtain⟨q1,q2,q3,q4⟩:=b1.dd e he;refine⟨q1.imp id fun⟨c,hc,z⟩=>⟨c,mem_append_left _ hc,z⟩,⟨q2.1,q2.2.1,q2.2.2.1,fun c hc=>?_⟩,⟨q3.1,q3.2.1,q3.2.2.1,fun c hc=>?_⟩,q4⟩
   ·rcases mem hc with hc|rfl
    ·exact q2.2.2.2 c hc
    ·exact(ddn e he).1
   ·rcases mem hc with hc|rfl
    ·exact q3.2.2.2 c hc
    ·exact(ddn e he).2
  wf:=fun S hS=>wf2 S (b1.wf S hS) }
theorem Is.grow {a:Vx}(h:Is H L all S vw):Is H L (all++[a]) S vw:=aY (fun _ _ ⟨c,hc,q⟩=>⟨c,mem_append_left _ hc,q⟩) h
end
section
variable {CB CV CD:Addr} {H H1 H2 H':Hp} {x L D U:Addr} {all:List Vx} {M S:MM} {Ps Fs:List MM} {es us:List Dd} {F:Addr->Prop} {vw vw':Vw} {ps fs:List Vw}
theorem Bk.deed (b:Pp CB CV CD H1 x L D U all M Ps Fs es us)(i:Is H1 L all M vw)(pp:Paired (Is H1 L all) Ps ps)(f:Xd F L D U all es us)(wv:∀ v,v∈ps\/v=vw->yt v){e:Dd}(hd:qw CD H1 (.ref e.o) e)(ok:ad1 L D U all e)(ft:Fits e M)(w:WF H1 L all (Ba e M))
  (i':Is H1 L all (Ba e M) vw') (wv':yt vw') {dx:List V} (pD:Paired (qw CD H1) dx es) (fr:∀ y o,H1 y=some o->y≠e.T->y≠D->y≠U->H2 y=some o) (hT:H2 e.T=some (.lst (Ba e M e.T))) (hD2:H2 D=some (.lst (dx++[.ref e.o]))) (hU2:H2 U=some (.lst [])) :
  Bk CB CV CD H2 x (fun y=>F y\/y=e.B\/y=e.A) vw' (ps++[vw]) []:=by
 obtain⟨b2,k⟩:=b.chg ok.1 fr (M':=Ba e M) (fun c hc=>rb hc) hT hD2 (fL pD hd) hU2 .nil (fun e' he=>by
  rcases he with he|he
  ·rcases mem_append.mp he with he|he
   ·exact b.dd e' (.inl he)
   ·rw[mem_singleton.mp he];exact ok
  ·cases he) (b.past.snoc ft) .nil (fun S hS=>by
  rcases hS with hS|hS|hS
  ·rcases mem_append.mp hS with hS|hS
   ·exact b.wf S (.inl hS)
   ·exact b.wf S (.inr (.inl (mem_singleton.mp hS)))
  ·rw[hS];exact w
  ·cases hS)
 refine⟨⟨L,D,U,all,_,_,_,_,_,b2,Is.kept k i',fL (aY (fun _ _ q=>Is.kept k q) pp) (Is.kept k i),.nil,⟨.inl f.L,.inl f.D,.inl f.U,fun a ha=>.inl (f.l a ha),fun e' he=>?_⟩⟩,fun v hv=>?_⟩
 ·rcases he with he|he
  ·rcases mem_append.mp he with he|he
   ·exact⟨.inl (f.d e' (.inl he)).1,.inl (f.d e' (.inl he)).2⟩
   ·rw[mem_singleton.mp he];exact⟨.inr (.inl rfl),.inr (.inr rfl)⟩
  ·cases he
 ·rcases hv with hv|hv|hv
  ·rcases mem_append.mp hv with hv|hv
   ·exact wv v (.inl hv)
   ·exact wv v (.inr (mem_singleton.mp hv))
  ·rw[hv];exact wv'
  ·cases hv
theorem Le {α β:Type}{F:α->β->Prop}:∀{xs:List α} {x:α} {zs:List β},Paired F (xs++[x]) zs->∃ ys y,zs=ys++[y]/\Paired F xs ys/\F x y
 |[],_,_,.cons r .nil=>⟨[],_,rfl,.nil,r⟩
 |_::_,_,_,.cons r t=>by
  obtain⟨ys,y,rfl,p,q⟩:=Le t;exact⟨_::ys,y,rfl,.cons r p,q⟩
theorem Bk.aiC (b:Pp CB CV CD H x L D U all M Ps Fs es us)(i:Is H L all M vw)(pp:Paired (Is H L all) Ps ps)(pf:Paired (Is H L all) Fs fs)(f:Xd F L D U all es us)(wv:∀ v,v∈ps\/v=vw\/v∈fs->yt v){e:Dd}{es0:List Dd}(he:es=es0++[e]){dx ux:List V}(pD:Paired (qw CD H) dx es0)(hd:qw CD H (.ref e.o) e)(pU:Paired (qw CD H) ux us)
  (fr:∀ y o,H y=some o->y≠e.T->y≠D->y≠U->H2 y=some o) (hT:H2 e.T=some (.lst (unD e M e.T))) (hD2:H2 D=some (.lst dx)) (hU2:H2 U=some (.lst (ux++[.ref e.o]))) :
  ∃ Jw v,ps=Jw++[v]/\Bk CB CV CD H2 x F v Jw (fs++[vw]):=by
 subst he;obtain⟨Ps0,S,rfl,p0,ft,rfl⟩:=b.past.last;have ok:=b.dd e (.inl (mem_append_right _ (List.mem_singleton_self _)));rw[akL ft]at hT;obtain⟨b2,k⟩:=b.chg ok.1 fr (M':=S) (fun c hc=>(rb hc).symm) hT hD2 pD hU2 (fL pU hd) (fun e' he=>by
  rcases he with he|he
  ·exact b.dd e' (.inl (mem_append_left _ he))
  ·rcases mem_append.mp he with he|he
   ·exact b.dd e' (.inr he)
   ·rw[mem_singleton.mp he];exact ok) p0 (Fut.snoc ft b.fut) (fun T hT=>by
  rcases hT with hT|hT|hT
  ·exact b.wf T (.inl (mem_append_left _ hT))
  ·exact b.wf T (.inl (mem_append_right _ (mem_singleton.mpr hT)))
  ·rcases mem_append.mp hT with hT|hT
   ·exact b.wf T (.inr (.inr hT))
   ·exact b.wf T (.inr (.inl (mem_singleton.mp hT))))
 obtain⟨Jw,v,rfl,pp0,iv⟩:=Le pp;refine⟨Jw,v,rfl,⟨⟨L,D,U,all,_,_,_,_,_,b2,Is.kept k iv,aY (fun _ _ q=>Is.kept k q) pp0,fL (aY (fun _ _ q=>Is.kept k q) pf) (Is.kept k i),⟨f.L,f.D,f.U,f.l,fun e' he=>?_⟩⟩,fun u hu=>?_⟩⟩
 ·rcases he with he|he
  ·exact f.d e' (.inl (mem_append_left _ he))
  ·rcases mem_append.mp he with he|he
   ·exact f.d e' (.inr he)
   ·rw[mem_singleton.mp he];exact f.d e (.inl (mem_append_right _ (List.mem_singleton_self _)))
 ·rcases hu with hu|hu|hu
  ·exact wv u (.inl (mem_append_left _ hu))
  ·exact wv u (.inl (mem_append_right _ (mem_singleton.mpr hu)))
  ·rcases mem_append.mp hu with hu|hu
   ·exact wv u (.inr (.inr hu))
   ·exact wv u (.inr (.inl (mem_singleton.mp hu)))
theorem Bk.aiD (b:Pp CB CV CD H x L D U all M Ps Fs es us)(i:Is H L all M vw)(pp:Paired (Is H L all) Ps ps)(pf:Paired (Is H L all) Fs fs)(f:Xd F L D U all es us)(wv:∀ v,v∈ps\/v=vw\/v∈fs->yt v){e:Dd}{us0:List Dd}(he:us=us0++[e]){dx ux:List V}(pD:Paired (qw CD H) dx es)(hd:qw CD H (.ref e.o) e)(pU:Paired (qw CD H) ux us0)
  (fr:∀ y o,H y=some o->y≠e.T->y≠D->y≠U->H2 y=some o) (hT:H2 e.T=some (.lst (Ba e M e.T))) (hD2:H2 D=some (.lst (dx++[.ref e.o]))) (hU2:H2 U=some (.lst ux)) :
  ∃ fs0 v,fs=fs0++[v]/\Bk CB CV CD H2 x F v (ps++[vw]) fs0:=by
 subst he;obtain⟨Fs0,rfl,ft,p0⟩:=b.fut.last;have ok:=b.dd e (.inr (mem_append_right _ (List.mem_singleton_self _)));obtain⟨b2,k⟩:=b.chg ok.1 fr (M':=Ba e M) (fun c hc=>rb hc) hT hD2 (fL pD hd) hU2 pU (fun e' he=>by
  rcases he with he|he
  ·rcases mem_append.mp he with he|he
   ·exact b.dd e' (.inl he)
   ·rw[mem_singleton.mp he];exact ok
  ·exact b.dd e' (.inr (mem_append_left _ he))) (b.past.snoc ft) p0 (fun T hT=>by
  rcases hT with hT|hT|hT
  ·rcases mem_append.mp hT with hT|hT
   ·exact b.wf T (.inl hT)
   ·exact b.wf T (.inr (.inl (mem_singleton.mp hT)))
  ·exact b.wf T (.inr (.inr (mem_append_right _ (mem_singleton.mpr hT))))
  ·exact b.wf T (.inr (.inr (mem_append_left _ hT))))
 obtain⟨fs0,v,rfl,pf0,iv⟩:=Le pf;refine⟨fs0,v,rfl,⟨⟨L,D,U,all,_,_,_,_,_,b2,Is.kept k iv,fL (aY (fun _ _ q=>Is.kept k q) pp) (Is.kept k i),aY (fun _ _ q=>Is.kept k q) pf0,⟨f.L,f.D,f.U,f.l,fun e' he=>?_⟩⟩,fun u hu=>?_⟩⟩
 ·rcases he with he|he
  ·rcases mem_append.mp he with he|he
   ·exact f.d e' (.inl he)
   ·rw[mem_singleton.mp he];exact f.d e (.inr (mem_append_right _ (List.mem_singleton_self _)))
  ·exact f.d e' (.inr (mem_append_left _ he))
 ·rcases hu with hu|hu|hu
  ·rcases mem_append.mp hu with hu|hu
   ·exact wv u (.inl hu)
   ·exact wv u (.inr (.inl (mem_singleton.mp hu)))
  ·exact wv u (.inr (.inr (mem_append_right _ (mem_singleton.mpr hu))))
  ·exact wv u (.inr (.inr (mem_append_left _ hu)))
noncomputable def bp (vw:Vw)(n:Str):Option Th:=(vw.find? fun q=>decide (q.1=n)).map (·.2)
noncomputable def uO (vw:Vw)(n:Str)(th:Th):Vw:=vw.map fun q=>if q.1=n then(n,th) else q
theorem cb {n:Str}{th:Th}(h:bp vw n=some th):(n,th)∈vw:=by
 unfold bp at h;cases e:vw.find? (fun q=>decide (q.1=n)) with
 |none=>rw[e]at h;cases h
 |some q =>
  rw[e]at h;have h1:=List.mem_of_find?_eq_some e;have h2:=List.find?_some e;have h3:q.1=n:=K' h2;have h4:q.2=th:=W' h;rw[<-h3,<-h4];exact h1
theorem vM {n:Str}(h:bp vw n=none):∀ q∈vw,q.1≠n:=by
 unfold bp at h;rw[Option.map_eq_none_iff]at h;intro q hq e;exact List.find?_eq_none.mp h q hq (N' e)
theorem yv:∀{l:List Str} {i j:Nat} {n:Str},l.Nodup->l[i]? = some n->l[j]? = some n->i=j
 |[],_,_,_,_,h,_=>by simp at h
 |a::l,i,j,n,nd,h1,h2=>by
  obtain⟨na,nd'⟩:=List.nodup_cons.mp nd
  match i,j,h1,h2 with
  |0,0,_,_=>rfl
  |0,j+1,h1,h2 =>
   rw[List.getElem?_cons_zero]at h1;rw[List.getElem?_cons_succ]at h2;cases h1;exact V' (X' h2) na
  |i+1,0,h1,h2 =>
   rw[List.getElem?_cons_zero]at h2;rw[List.getElem?_cons_succ]at h1;cases h2;exact V' (X' h1) na
  |i+1,j+1,h1,h2 =>
   rw[List.getElem?_cons_succ]at h1 h2;rw[yv nd' h1 h2]
theorem yt.uniq (w:yt vw){q q':Str×Th}(h:q∈vw)(h':q'∈vw)(e:q.1=q'.1):q=q':=by
 obtain⟨i,hi⟩:=getElem?_of_mem h;obtain⟨j,hj⟩:=getElem?_of_mem h';have h1:(vw.map (·.1))[i]? = some q.1:=by rw[getElem?_map,hi];rfl
 have h2:(vw.map (·.1))[j]? = some q.1:=by rw[getElem?_map,hj,e];rfl
 have:=yv w.nd h1 h2;subst this;rw[hi]at hj;exact W' hj
theorem yt.find (w:yt vw){n:Str}{th:Th}(h:(n,th)∈vw):bp vw n=some th:=by
 cases e:bp vw n with
 |none=>exact V' rfl (vM e _ h)
 |some t =>
  have:=w.uniq (cb e) h rfl;rw[Prod.mk.injEq]at this;rw[this.2]
theorem BO (n:Str)(th:Th):(uO vw n th).map (·.1)=vw.map (·.1):=by
 unfold uO;rw[List.map_map];refine List.map_congr_left fun q _=>?_;show(if q.1=n then(n,th) else q).1=q.1;split
 ·next h=>exact h.symm
 ·rfl
theorem Vk {n:Str}{th:Th}{q:Str×Th}(h:q∈uO vw n th):(q=(n,th)/\∃ q'∈vw,q'.1=n)\/(q∈vw/\q.1≠n):=by
 obtain⟨q',h1,h2⟩:=mem_map.mp h;split at h2
 ·next e=>exact .inl ⟨h2.symm,q',h1,e⟩
 ·next e=>rw[<-h2];exact .inr ⟨h1,e⟩
theorem Xe {n:Str}{th:Th}{q:Str×Th}(h:q∈vw)(hn:q.1≠n):q∈uO vw n th:=mem_map.mpr ⟨q,h,if_neg hn⟩
theorem ad2 {n:Str}{th t:Th}(h:(n,t)∈vw):(n,th)∈uO vw n th:=mem_map.mpr ⟨(n,t),h,if_pos rfl⟩
theorem yt.set (w:yt vw){n:Str}{ss ss':List Sg}(h:(n,Th.pl ss)∈vw)(h1:ss'.length<=200)(h2:∀ s∈ss',jL s):yt (uO vw n (.pl ss')) where
 nd:=by rw[BO];exact w.nd
 ld:=fun m ld lt sl tn hm=>by
  rcases Vk hm with ⟨e,_⟩|⟨hm',_⟩
  ·cases e
  ·obtain⟨⟨s0,h0⟩,r⟩:=w.ld m ld lt sl tn hm';refine⟨?_,r⟩
   by_cases e:ld=n
   ·rw[e];exact⟨ss',ad2 h⟩
   ·exact⟨s0,Xe h0 e⟩
 gd:=fun m s0 hm=>by
  rcases Vk hm with ⟨e,_⟩|⟨hm',_⟩
  ·cases e;exact⟨h1,h2⟩
  ·exact w.gd m s0 hm'
 len:=by
  have:=congrArg List.length (BO (vw:=vw) n (.pl ss'));rw[J',J']at this;rw[this];exact w.len
theorem yt.akO (w:yt vw){n:Str}(hn:∀ q∈vw,q.1≠n)(hl:vw.length<12):yt (vw++[(n,.pl [])]) where
 nd:=by
  rw[map_append,List.nodup_append];refine⟨w.nd,by simp,?_⟩;intro a ha c hc e;obtain⟨q,hq,e1⟩:=mem_map.mp ha;have:c=n:=by simpa using hc
  exact hn q hq (by rw[e1,e,this])
 ld:=fun m ld lt sl tn hm=>by
  rcases mem_append.mp hm with hm|hm
  ·obtain⟨⟨s0,h0⟩,r⟩:=w.ld m ld lt sl tn hm;exact⟨⟨s0,mem_append_left _ h0⟩,r⟩
  ·have:=mem_singleton.mp hm;cases this
 gd:=fun m s0 hm=>by
  rcases mem_append.mp hm with hm|hm
  ·exact w.gd m s0 hm
  ·have:=mem_singleton.mp hm;cases this;exact⟨Nat.zero_le _,fun _ z=>nomatch z⟩
 len:=by rw[T'];exact hl
theorem yt.akP (w:yt vw){n ld:Str}{lt sl:Int}{tn:Bool}{ss:List Sg}(hn:∀ q∈vw,q.1≠n)(hl:vw.length<12)(h:(ld,Th.pl ss)∈vw)(h1:0<=lt)(h2:lt<=999)(h3:1<=sl)(h4:sl<=9):yt (vw++[(n,.cn ld lt sl tn)]) where
 nd:=by
  rw[map_append,List.nodup_append];refine⟨w.nd,by simp,?_⟩;intro a ha c hc e;obtain⟨q,hq,e1⟩:=mem_map.mp ha;have:c=n:=by simpa using hc
  exact hn q hq (by rw[e1,e,this])
 ld:=fun m l2 t2 s2 n2 hm=>by
  rcases mem_append.mp hm with hm|hm
  ·obtain⟨⟨s0,h0⟩,r⟩:=w.ld m l2 t2 s2 n2 hm;exact⟨⟨s0,mem_append_left _ h0⟩,r⟩
  ·have:=mem_singleton.mp hm;cases this;exact⟨⟨ss,mem_append_left _ h⟩,h1,h2,h3,h4⟩
 gd:=fun m s0 hm=>by
  rcases mem_append.mp hm with hm|hm
  ·exact w.gd m s0 hm
  ·have:=mem_singleton.mp hm;cases this
 len:=by rw[T'];exact hl
theorem ahy {α β γ:Type}{F:α->β->Prop}{G:α->γ->Prop}{f:β->γ}:∀{xs:List α} {ys:List β},Paired F xs ys->(∀(k:Nat) x y,xs[k]? = some x->ys[k]? = some y->F x y->G x (f y))->Paired G xs (ys.map f)
 |_,_,.nil,_=>.nil
 |_,_,.cons a b,h=>.cons (h 0 _ _ rfl rfl a) (ahy b fun k x y e1 e2=>h (k+1) x y (by simpa using e1) (by simpa using e2))
theorem Is.line (b:Pp CB CV CD H x L D U all M Ps Fs es us)(i:Is H L all M vw)(w:yt vw){a:Vx}(ha:a∈all){j:Nat}{th:Th}{ss':List Sg}(hj:(M L)[j]? = some (.ref a.o))(hm:vw[j]? = some (a.n,th))(UH:a.tm=.non){M':MM}(m1:∀ c,c≠a.l->M' c=M c)(g:iq H (M' a.l) ss'):Is H L all M' (uO vw a.n (.pl ss')):=by
 show Paired _ (M' L) _;rw[m1 L (Ne.symm (b.nl a ha).1)];refine ahy i fun k v q hk hq hvq=>?_;obtain⟨c,hc,rfl,e1,t⟩:=hvq;split
 ·next e =>
  have h1:(vw.map (·.1))[k]? = some a.n:=by rw[getElem?_map,hq,<-e];rfl
  have h2:(vw.map (·.1))[j]? = some a.n:=by rw[getElem?_map,hm];rfl
  have hkj:=yv w.nd h1 h2;subst hkj;rw[hj]at hk;have:a.o=c.o:=V.ref.inj (W' hk);have:=b.no a ha c hc this;subst this;exact⟨a,hc,rfl,rfl,UH,g⟩
 ·next e =>
  refine⟨c,hc,rfl,e1,?_⟩;have ne:c.l≠a.l:=fun z=>e (by rw[<-e1,b.ni c hc a ha z]);cases hq2:q.2 with
  |pl s0=>rw[hq2]at t;exact⟨t.1,by rw[m1 _ ne];exact t.2⟩
  |cn ld lt sl tn=>rw[hq2]at t;exact t
end
noncomputable abbrev Sn:=Str×Int
noncomputable def GD:List V:=[.str "G",.str "D",.str "s",.str "d"]
noncomputable def vN:List V:=[.str "R",.str "r",.str ".",.str "3",.str "2"]
noncomputable def sO (s:Sn):Bool:=if inV (.str s.1) GD=true then(if decide (0<=s.2)=true then decide (s.2<=99) else false) else(if inV (.str s.1) vN=true then decide (s.2=0) else false)
inductive Rf where
 |Ky|ZR|Pq|Full|oC|uP|Eg|ZS|aiE|Xf
structure Cs where
 B:Addr
 V:Addr
 D:Addr
 on:Bool
 x:Rf->Addr
noncomputable def RX (E:XK)(c:Cs)(r:Rf)(H:Hp):Prop:=c.on=true/\E (.ref (c.x r)) none H
noncomputable abbrev BP (c:Cs):=Bk c.B c.V c.D
noncomputable def Fr (F:Addr->Prop)(H H':Hp):Prop:=∀ y o,H y=some o->¬ F y->H' y=some o
noncomputable def Gr (F F':Addr->Prop)(H:Hp):Prop:=∀ y,F' y->F y\/H y=none
theorem Gr.refl (F:Addr->Prop)(H:Hp):Gr F F H:=fun _ h=>.inl h
theorem Gr.old {F F':Addr->Prop}{H H':Hp}(s:ao H H')(g:Gr F F' H'):Gr F F' H:=fun y z=>(g y z).imp id fun q=>s.free q
noncomputable def nameB (x:Str):Bool:=decide (1<=x.length)&&(decide (x.length<=8)&&x.cps.toList.all fun c=>inS ⟨#[c]⟩ "abcdefghijklmnopqrstuvwxyz")
theorem kinds_of {k:Str}(h:inV (.str k) GD=true\/inV (.str k) vN=true):∃ d:Kd,d.str=k:=by
 have go:∀ l:List V,(∀ v∈l,∃ d:Kd,v=.str d.str)->inV (.str k) l=true->∃ d:Kd,d.str=k:=fun l hl h=>by
  unfold inV at h;obtain⟨y,hy,e⟩:=any_eq_true.mp h;obtain⟨d,rfl⟩:=hl y hy;have:d.str=k:=by simpa [Zz] using e
  exact⟨d,this⟩
 have c:∀(l:List Kd),∀ v∈l.map (fun d=>V.str d.str),∃ d:Kd,v=.str d.str:=fun l v hv=>by
  obtain⟨d,_,e⟩:=mem_map.mp hv;exact⟨d,e.symm⟩
 rcases h with h|h
 ·exact go GD (c [.G,.D,.s,.d]) h
 ·exact go vN (c [.R,.r,.dot,.three,.two]) h
theorem ahz (d:Kd):inV (.str d.str) GD=d.fk:=by cases d <;> decide +kernel
theorem ahA (d:Kd):inV (.str d.str) vN = !d.fk:=by cases d <;> decide +kernel
theorem ZT {sn:Sn}(h:sO sn=true):∃ s:Sg,s.1.str=sn.1/\s.2=sn.2/\jL s:=by
 unfold sO at h;split at h
 ·next h1 =>
  obtain⟨d,hd⟩:=kinds_of (.inl h1);rw[<-hd,ahz]at h1;split at h
  ·next h2=>exact⟨(d,sn.2),hd,rfl,⟨(fun _=>⟨K' h2,by have:=K' h;show sn.2<100;omega⟩),fun z=>by rw[show d.fk=false from z]at h1;cases h1⟩⟩
  ·cases h
 ·next h1 =>
  split at h
  ·next h2 =>
   obtain⟨d,hd⟩:=kinds_of (.inr h2);rw[<-hd,ahA]at h2;exact⟨(d,sn.2),hd,rfl,⟨(fun z=>by rw[show d.fk=true from z]at h2;cases h2),fun _=>K' h⟩⟩
  ·cases h
theorem ZU {s:Sg}(h:jL s):sO (s.1.str,s.2)=true:=by
 unfold sO;rw[ahz,ahA];cases hs:s.1.fk with
 |true =>
  obtain⟨a,b⟩:=h.1 hs;simp only [if_true];rw[if_pos (N' a)];exact N' (by omega)
 |false =>
  have:=h.2 hs;simp[this]
noncomputable def Pr:Kd->Kd
 |.three=>.two
 |.two=>.three
 |k=>k
noncomputable def sP (s:Sg):Sg:=(Pr s.1,s.2)
noncomputable def ju (vw:Vw)(n:Str):List Sg:=match bp vw n with
 |some (.pl ss)=>ss
 |some (.cn ld _ _ tn)=>match bp vw ld with
  |some (.pl ss)=>if tn then ss.map sP else ss
  |_=>[]
 |none=>[]
noncomputable def iu (vw:Vw)(n:Str):List Int:=match bp vw n with
 |some (.pl ss)=>(jt 3 (bE ss)).1
 |some (.cn ld _ sl tn)=>match bp vw ld with
  |some (.pl ss)=>(jt (if tn then 2 else 3) (bE (if tn then ss.map sP else ss))).1.map fun w=>sl * w
  |_=>[]
 |none=>[]
theorem rf {vw:Vw}{n:Str}{ss:List Sg}(h:bp vw n=some (.pl ss)):ju vw n=ss:=by
 unfold ju;rw[h]
theorem rg {vw:Vw}{n ld:Str}{lt sl:Int}{tn:Bool}{ss:List Sg}(h:bp vw n=some (.cn ld lt sl tn))(h':bp vw ld=some (.pl ss)):ju vw n=if tn=true then ss.map sP else ss:=by
 unfold ju;rw[h];show(match bp vw ld with|some (.pl ss)=>if tn=true then ss.map sP else ss|_=>[])=_;rw[h']
theorem yw {vw:Vw}{n:Str}{ss:List Sg}(h:bp vw n=some (.pl ss)):iu vw n=(jt 3 (bE ss)).1:=by
 unfold iu;rw[h]
theorem yx {vw:Vw}{n ld:Str}{lt sl:Int}{tn:Bool}{ss:List Sg}(h:bp vw n=some (.cn ld lt sl tn))(h':bp vw ld=some (.pl ss)):iu vw n=(jt (if tn then 2 else 3) (bE (if tn then ss.map sP else ss))).1.map fun w=>sl * w:=by
 unfold iu;rw[h];show(match bp vw ld with|some (.pl ss)=>(jt (if tn then 2 else 3) (bE (if tn then ss.map sP else ss))).1.map fun w=>sl * w|_=>[])=_;rw[h']
theorem aiF {H H':Hp}{x dx C:Addr}(hx:H x=none)(hdx:H dx=none)(kp:∀ y o,(upd (upd H dx (.own x)) x (.ins C dx [])) y=some o->y≠x->H' y=some o):ao H H':=fun y o hy =>
 kp y o (by rw[ak (ar hy hx),ak (ar hy hdx)];exact hy) (ar hy hx)
theorem Lf {H:Hp}{x dx D:Addr}{o1 o2:HO}(h:upd (upd H dx o1) x o2 D=none):H D=none:=by
 unfold upd at h;split at h
 ·cases h
 ·split at h
  ·cases h
  ·exact h
theorem Kz {H:Hp}{B A:Addr}{o:HO}(h:upd H B o A=none):H A=none:=by
 unfold upd at h;split at h
 ·cases h
 ·exact h
theorem N4 (z:Int){k:Int}(hk:0<k):∃ m:Nat,z % k=(m:Int)/\(m:Int)<k:=by
 have z1:=Int.emod_nonneg z (show k≠0 by omega);have z2:=Int.emod_lt_of_pos z hk;exact⟨(z % k).toNat,by omega,by omega⟩
theorem Bk.new {c:Cs}{H:Hp}{x dx L D U:Addr}(hx:H x=some (.ins c.B dx (Ee L D U)))(hL:H L=some (.lst []))(hD:H D=some (.lst []))(hU:H U=some (.lst []))(LD:L≠D)(LU:L≠U)(DU:D≠U):BP c H x (fun y=>y=L\/y=D\/y=U) [] [] [] where
 ex:=⟨L,D,U,[],fun _=>[],[],[],[],[],
  {
   hx:=⟨dx,hx⟩,hL:=hL,hD:=⟨[],hD,.nil⟩,hU:=⟨[],hU,.nil⟩,ha:=fun _ h=>(nomatch h),LD:=LD,LU:=LU,DU:=DU,nl:=fun _ h=>(nomatch h),ni:=fun _ h=>(nomatch h),no:=fun _ h=>(nomatch h)
   dd:=fun _ h=>h.elim (fun z=>(nomatch z)) fun z=>(nomatch z)
   past:=.nil
   fut:=.nil
   wf:=fun S hS=>by
    rcases hS with hS|hS|hS
    ·cases hS
    ·subst hS;exact⟨⟨[],.nil⟩,fun _ h=>(nomatch h),Nat.zero_le _,fun _ _ _=>rfl⟩
    ·cases hS },
  .nil,.nil,.nil,⟨.inl rfl,.inr (.inl rfl),.inr (.inr rfl),fun _ h=>(nomatch h),fun _ h=>h.elim (fun z=>(nomatch z)) fun z=>(nomatch z)⟩⟩
 wv:=fun v hv=>by
  rcases hv with hv|hv|hv
  ·cases hv
  ·subst hv;exact⟨.nil,fun _ _ _ _ _ h=>(nomatch h),fun _ _ h=>(nomatch h),Nat.zero_le _⟩
  ·cases hv
theorem aiG {R:Vx->Str×Th->Prop}{vx:List Vx}{vw:Vw}(h:Paired R vx vw)(hn:∀ a q,R a q->a.n=q.1):vx.map (fun a=>V.str a.n)=vw.map (fun a=>V.str a.1):=by
 induction h with
 |nil=>rfl
 |cons r _ ih=>rw[map_cons,map_cons,ih,hn _ _ r]
theorem Lg {vx:List Vx}{vw:Vw}{R:Vx->Str×Th->Prop}(h:Paired R vx vw)(hn:∀ a q,R a q->a.n=q.1)(n:Str) :
  (vx.find? (fun a=>decide (a.n=n))=none/\bp vw n=none)\/∃ a th,∃ j:Nat,vx.find? (fun a=>decide (a.n=n))=some a/\bp vw n=some th/\R a (n,th)/\a.n=n/\vx[j]? = some a/\vw[j]? = some (n,th):=by
 induction h with
 |nil=>exact .inl ⟨rfl,rfl⟩
 | @cons a q as qs r t ih =>
  have e:=hn a q r
  by_cases hq:q.1=n
  ·refine .inr ⟨a,q.2,0,?_,?_,?_,e.trans hq,rfl,by rw[<-hq];rfl⟩
   ·rw[List.find?_cons_of_pos];exact N' (e.trans hq)
   ·unfold bp;rw[List.find?_cons_of_pos (p:=fun q:Str×Th=>decide (q.1=n)) (N' hq)];rfl
   ·rw[<-hq];exact r
  ·have h1:¬ decide (a.n=n)=true:=fun z=>hq (e ▸ K' z);have h2:¬ decide (q.1=n)=true:=fun z=>hq (K' z);have f1:(a::as).find? (fun a=>decide (a.n=n))=as.find? (fun a=>decide (a.n=n)):=List.find?_cons_of_neg h1;have f2:bp (q::qs) n=bp qs n:=by
    unfold bp;rw[List.find?_cons_of_neg (p:=fun q:Str×Th=>decide (q.1=n)) h2]
   rw[f1,f2];exact ih.imp id fun⟨a,th,j,h1,h2,h3,h4,h5,h6⟩=>⟨a,th,j+1,h1,h2,h3,h4,by simpa using h5,by simpa using h6⟩
theorem Bk.added {c:Cs}{H H1 H2 H':Hp}{x L D U:Addr}{all:List Vx}{M:MM}{Ps Fs:List MM}{es us:List Dd}{F:Addr->Prop}{vw:Vw}{ps fs:List Vw}(b:Pp c.B c.V c.D H x L D U all M Ps Fs es us)(i:Is H L all M vw)(pp:Paired (Is H L all) Ps ps)(f:Xd F L D U all es us)(wv:∀ v,v∈ps\/v=vw\/v∈fs->yt v)
  {a:Vx} {th:Th} (s1:ao H H1) (n1:H a.o=none) (n2:H a.l=none) (h1:H1 a.o=some (.ins c.V a.d (voF a.n a.tm a.l))) (h2:H1 a.l=some (.lst [])) (ht:∀ M',M' a.l=[]->ad0 H1 M' a th) (w':yt (vw++[(a.n,th)]))
  {e:Dd} (eT:e.T=L) (ei:e.i=(M L).length) (eb:e.bs=[]) (ea:e.as=[.ref a.o]) (s2:ao H1 H2) (nB:H1 e.B=none) (nA:H1 e.A=none) (hd:qw c.D H2 (.ref e.o) e) {ds:List V} (hD:H D=some (.lst ds)) (pD:Paired (qw c.D H) ds es)
  (fr:∀ y o,H2 y=some o->y≠L->y≠D->y≠U->H' y=some o) (hL':H' L=some (.lst (M L++[.ref a.o]))) (hD':H' D=some (.lst (ds++[.ref e.o]))) (hU':H' U=some (.lst [])) :
  ∃ F',Gr F F' H/\Fr F H H'/\BP c H' x F' (vw++[(a.n,th)]) (ps++[vw]) []:=by
 have s12:=s1.trans s2;have kT:Kept (fun _=>True) H H2:=.same s12;have b2:=(b.grow s1 n1 n2 h1 h2).kept (F:=fun _=>True) ⟨trivial,trivial,trivial,fun _ _=>trivial,fun _ _=>⟨trivial,trivial⟩⟩ (.same s2);have w2:=w'.len;rw[T']at w2;have ll:=bh i;have w2':vw.length+1<=12:=w2;have hM:Ba e M L=M L++[.ref a.o]:=by
  unfold Ba;rw[eT,gp,ei,eb,ea];simp
 have mo:∀ y,y≠L->Ba e M y=M y:=fun y hy=>by
  unfold Ba;exact rb (by rw[eT];exact hy)
 have wM:=b2.wf M (.inr (.inl rfl));have naL:∀ z∈all++[a],z.l≠L:=fun z hz=>(b2.nl z hz).1;obtain⟨ux,hU,_⟩:=b2.hU;have old:∀{y:Addr},H1 y=none->∀{z o},H z=some o->y≠z:=fun {y} hy {z o} hz q=>by rw[q,s1 _ _ hz]at hy;cases hy
 have oA:∀{y:Addr},H1 y=none->y≠L/\y≠D/\y≠U/\∀ z∈all++[a],y≠z.l:=fun {y} hy=>by
  obtain⟨u0,WE,_⟩:=b.hU;refine⟨old hy b.hL,old hy hD,old hy WE,fun z hz=>?_⟩;rcases mem_append.mp hz with hz|hz
  ·exact old hy (b.ha z hz).2
  ·rw[mem_singleton.mp hz];exact fun q=>by rw[q,h2]at hy;cases hy
 have ok:ad1 L D U (all++[a]) e:=⟨.inl eT,oA nB,oA nA,by rw[eb];simp,by rw[ea];simp⟩;have ft:Fits e M:=⟨by rw[ei,eb,eT];simp,by rw[eb];simp⟩;have wf2:WF H2 L (all++[a]) (Ba e M) :=
  {
   vs:=(let ⟨vx,p⟩:=wM.vs;⟨vx++[a],by rw[hM];exact fL p ⟨rfl,mem_append_right _ (List.mem_singleton_self _)⟩⟩)
   ln:=fun z hz=>by rw[mo _ (naL z hz)];exact wM.ln z hz
   len:=by rw[hM,T',ll];exact w2'
   out:=fun y h1 h2=>by rw[mo y h1];exact wM.out y h1 h2 }
 have i2:Is H2 L (all++[a]) M vw:=Is.kept kT (Is.grow i);have i':Is H2 L (all++[a]) (Ba e M) (vw++[(a.n,th)]):=by
  show Paired _ (Ba e M L) _;rw[hM];refine fL ?_ ?_
  ·refine aY (fun v q hq=>?_) i2;obtain⟨z,hz,e1,e2,e3⟩:=hq;refine⟨z,hz,e1,e2,?_⟩;cases hq2:q.2 with
   |pl ss=>rw[hq2]at e3;exact⟨e3.1,by rw[mo _ (naL z hz)];exact e3.2⟩
   |cn ld lt sl tn=>rw[hq2]at e3;exact e3
  ·refine⟨a,mem_append_right _ (List.mem_singleton_self _),rfl,rfl,?_⟩;have nal:a.l≠L:=naL a (mem_append_right _ (List.mem_singleton_self _));have:=ht (Ba e M) (by rw[mo _ nal];exact(b.wf M (.inr (.inl rfl))).out _ nal fun z hz q=>by rw[q,(b.ha z hz).2]at n2;cases n2);show ad0 H2 (Ba e M) a th;cases th with
   |pl ss=>exact⟨this.1,this.2.same s2⟩
   |cn ld lt sl tn=>obtain⟨p,e1,e2⟩:=this;exact⟨p,e1,s2 _ _ e2⟩
 have B:=Bk.deed b2 i2 (aY (fun _ _ q=>Is.kept kT (Is.grow q)) pp) (F:=fun y=>F y\/y=a.l) ⟨.inl f.L,.inl f.D,.inl f.U,fun z hz=>by
   rcases mem_append.mp hz with hz|hz
   ·exact .inl (f.l z hz)
   ·rw[mem_singleton.mp hz];exact .inr rfl,fun e' he=>⟨.inl (f.d e' he).1,.inl (f.d e' he).2⟩⟩ (fun v hv=>wv v (hv.imp id .inl)) hd ok ft wf2 i' w' (vL (fun _ e' he q=>kq (F:=fun _=>True) kT ⟨trivial,trivial⟩ q) pD) (H2:=H')
  (fun y o hy y1 y2 y3=>fr y o hy (by rw[<-eT];exact y1) y2 y3) (by rw[eT,hM];exact hL') hD' hU'
 refine⟨_,fun y hy=>?_,fun y o hy hn=>fr y o (s12 y o hy) (fun q=>hn (q ▸ f.L)) (fun q=>hn (q ▸ f.D)) (fun q=>hn (q ▸ f.U)),B⟩;rcases hy with (hy|hy)|hy|hy
 ·exact .inl hy
 ·rw[hy];exact .inr n2
 ·rw[hy];exact .inr (s1.free nB)
 ·rw[hy];exact .inr (s1.free nA)
theorem Bk.ad3 {c:Cs}{H H1 H':Hp}{x L D U:Addr}{all:List Vx}{M:MM}{Ps Fs:List MM}{es us:List Dd}{F:Addr->Prop}{vw:Vw}{ps fs:List Vw}(b:Pp c.B c.V c.D H x L D U all M Ps Fs es us)(i:Is H L all M vw)(pp:Paired (Is H L all) Ps ps)(f:Xd F L D U all es us)(wv:∀ v,v∈ps\/v=vw\/v∈fs->yt v)
  {a:Vx} (ha:a∈all) {j:Nat} {ss ss':List Sg} (hj:(M L)[j]? = some (.ref a.o)) (hm:vw[j]? = some (a.n,.pl ss)) (UH:a.tm=.non) {e:Dd} (eT:e.T=a.l) (ft:Fits e M) (lb:e.bs.length<=1) (la:e.as.length<=1) (s1:ao H H1) (nB:H e.B=none) (nA:H e.A=none) (hd:qw c.D H1 (.ref e.o) e)
  (g':iq H1 (Ba e M a.l) ss') (gl:ss'.length<=200) (gg:∀ s∈ss',jL s) {ds:List V} (hD:H D=some (.lst ds)) (pD:Paired (qw c.D H) ds es)
  (fr:∀ y o,H1 y=some o->y≠a.l->y≠D->y≠U->H' y=some o) (hl':H' a.l=some (.lst (Ba e M a.l))) (hD':H' D=some (.lst (ds++[.ref e.o]))) (hU':H' U=some (.lst [])) :
  ∃ F',Gr F F' H/\Fr F H H'/\BP c H' x F' (uO vw a.n (.pl ss')) (ps++[vw]) []:=by
 have kT:Kept (fun _=>True) H H1:=.same s1;have b2:=b.kept (F:=fun _=>True) ⟨trivial,trivial,trivial,fun _ _=>trivial,fun _ _=>⟨trivial,trivial⟩⟩ kT;have mo:∀ y,y≠a.l->Ba e M y=M y:=fun y hy=>rb (by rw[eT];exact hy);have wM:=b2.wf M (.inr (.inl rfl));have wvw:=wv vw (.inr (.inl rfl));have oA:∀{y:Addr},H y=none->y≠L/\y≠D/\y≠U/\∀ z∈all,y≠z.l:=fun {y} hy=>by
  obtain⟨u0,WE,_⟩:=b.hU;exact⟨Ne.symm (ar b.hL hy),Ne.symm (ar hD hy),Ne.symm (ar WE hy),fun z hz=>Ne.symm (ar (b.ha z hz).2 hy)⟩
 have ok:ad1 L D U all e:=⟨.inr ⟨a,ha,eT⟩,oA nB,oA nA,lb,la⟩;have nal:L≠a.l:=Ne.symm (b.nl a ha).1;have wf2:WF H1 L all (Ba e M) :=
  {
   vs:=by rw[mo L nal];exact wM.vs
   ln:=fun z hz=>by
    by_cases hza:z.l=a.l
    ·rw[hza];refine⟨by rw[bh g'];exact gl,fun v hv=>?_⟩;obtain⟨k,hk⟩:=getElem?_of_mem hv;obtain⟨sg,e1,e2⟩:=j3 g' hk;exact⟨sg,e2,gg sg (X' e1)⟩
    ·rw[mo _ hza];exact wM.ln z hz
   len:=by rw[mo L nal];exact wM.len
   out:=fun y h1 h2=>by rw[mo y (h2 a ha)];exact wM.out y h1 h2 }
 have i2:Is H1 L all M vw:=Is.kept kT i;have B:=Bk.deed b2 i2 (aY (fun _ _ q=>Is.kept kT q) pp) f (fun v hv=>wv v (hv.imp id .inl)) hd ok ft wf2 (Is.line b2 i2 wvw ha hj hm UH mo g') (wvw.set (X' hm) gl gg) (vL (fun _ e' he q=>kq (F:=fun _=>True) kT ⟨trivial,trivial⟩ q) pD) (H2:=H')
  (fun y o hy y1 y2 y3=>fr y o hy (by rw[<-eT];exact y1) y2 y3) (by rw[eT];exact hl') hD' hU'
 refine⟨_,fun y hy=>?_,fun y o hy hn=>fr y o (s1 y o hy) (fun q=>hn (q ▸ f.l a ha)) (fun q=>hn (q ▸ f.D)) (fun q=>hn (q ▸ f.U)),B⟩;rcases hy with hy|hy|hy
 ·exact .inl hy
 ·rw[hy];exact .inr nB
 ·rw[hy];exact .inr nA
noncomputable def ThV (H:Hp)(v:V):Th->Prop
 |.pl ss=>∃ l ys,v=.ref l/\H l=some (.lst ys)/\iq H ys ss
 |.cn ld lt sl tn=>∃ p,v=.ref p/\H p=some (.tup [.str ld,.int lt,.int sl,.bl tn])
noncomputable def Vl (H:Hp)(kv:Key×V)(q:Str×Th):Prop:=kv.1=Sum.inr q.1/\ThV H kv.2 q.2
noncomputable def Eh (H:Hp)(d:Addr)(vw:Vw):Prop:=∃ kvs,H d=some (.dK kvs)/\Paired (Vl H) kvs vw
theorem ThV.same {H H':Hp}(s:ao H H'){v:V}{th:Th}(h:ThV H v th):ThV H' v th:=by
 cases th with
 |pl ss=>obtain⟨l,ys,e1,e2,e3⟩:=h;exact⟨l,ys,e1,s _ _ e2,e3.same s⟩
 |cn ld lt sl tn=>obtain⟨p,e1,e2⟩:=h;exact⟨p,e1,s _ _ e2⟩
theorem Vl.same {H H':Hp}(s:ao H H'){kv:Key×V}{q:Str×Th}(h:Vl H kv q):Vl H' kv q:=⟨h.1,h.2.same s⟩
theorem Eh.same {H H':Hp}(s:ao H H'){d:Addr}{vw:Vw}(h:Eh H d vw):Eh H' d vw:=by
 obtain⟨kvs,e,p⟩:=h;exact⟨kvs,s _ _ e,aY (fun _ _ q=>q.same s) p⟩
theorem ad4 {H:Hp}{kvs:List (Key×V)}{vw:Vw}(h:Paired (Vl H) kvs vw){n:Str}{th:Th}(hf:bp vw n=some th):∃ v,ua kvs (Sum.inr n)=some v/\ThV H v th:=by
 induction h with
 |nil=>cases hf
 | @cons kv q as qs r t ih =>
  by_cases hq:q.1=n
  ·have e:bp (q::qs) n=some q.2:=by
    unfold bp;rw[List.find?_cons_of_pos (p:=fun q:Str×Th=>decide (q.1=n)) (N' hq)];rfl
   rw[e]at hf;cases hf;refine⟨kv.2,?_,r.2⟩;unfold ua;rw[List.find?_cons_of_pos (p:=fun kv:Key×V=>decide (kv.1=Sum.inr n)) (N' (by rw[r.1,hq]))];rfl
  ·have e:bp (q::qs) n=bp qs n:=by
    unfold bp;rw[List.find?_cons_of_neg (p:=fun q:Str×Th=>decide (q.1=n)) (fun z=>hq (K' z))]
   rw[e]at hf;obtain⟨v,h1,h2⟩:=ih hf;refine⟨v,?_,h2⟩;unfold ua at h1 ⊢;rw[List.find?_cons_of_neg (p:=fun kv:Key×V=>decide (kv.1=Sum.inr n)) (fun z=>hq (Sum.inr.inj (r.1.symm.trans (K' z))))];exact h1
theorem Eh.get {H:Hp}{d:Addr}{vw:Vw}(h:Eh H d vw){n:Str}{th:Th}(hf:bp vw n=some th):∃ v,Gz H d (.str n) (some v)/\ThV H v th:=by
 obtain⟨kvs,e,p⟩:=h;obtain⟨v,h1,h2⟩:=ad4 p hf;refine⟨v,?_,h2⟩;have:=Gz.k (k:=Sum.inr n) e;rw[h1]at this;exact this
theorem Eh.keys {H:Hp}{d:Addr}{vw:Vw}(h:Eh H d vw):∃ kvs,H d=some (.dK kvs)/\(kvs.map fun kv=>kV kv.1)=vw.map fun q=>V.str q.1:=by
 obtain⟨kvs,e,p⟩:=h;refine⟨kvs,e,?_⟩;clear e
 induction p with
 |nil=>rfl
 |cons r _ ih=>rw[map_cons,map_cons,ih,r.1];rfl
theorem Bk.akR {CB CV CD:Addr}{H:Hp}{x:Addr}{F:Addr->Prop}{vw:Vw}{ps fs:List Vw}(h:Bk CB CV CD H x F vw ps fs):∃ F0:Addr->Prop,(∀ y,F0 y->F y)/\(∀ y,F0 y->∃ xs,H y=some (.lst xs))/\Bk CB CV CD H x F0 vw ps fs:=by
 obtain⟨L,D,U,all,M,Ps,Fs,es,us,b,i,pp,pf,f⟩:=h.ex;obtain⟨ds,hD,pD⟩:=b.hD;obtain⟨ux,hU,pU⟩:=b.hU;have dd:∀ e,e∈es\/e∈us->H e.B=some (.lst e.bs)/\H e.A=some (.lst e.as):=fun e he=>by
  rcases he with he|he
  ·obtain⟨k,hk⟩:=getElem?_of_mem he;obtain⟨v,_,q⟩:=xO pD hk;exact⟨q.2.2.1,q.2.2.2⟩
  ·obtain⟨k,hk⟩:=getElem?_of_mem he;obtain⟨v,_,q⟩:=xO pU hk;exact⟨q.2.2.1,q.2.2.2⟩
 refine⟨fun y=>y=L\/y=D\/y=U\/(∃ a∈all,y=a.l)\/∃ e,(e∈es\/e∈us)/\(y=e.B\/y=e.A),fun y hy=>?_,fun y hy=>?_,⟨⟨L,D,U,all,M,Ps,Fs,es,us,b,i,pp,pf,⟨.inl rfl,.inr (.inl rfl),.inr (.inr (.inl rfl)),fun a ha=>.inr (.inr (.inr (.inl ⟨a,ha,rfl⟩))),fun e he=>⟨.inr (.inr (.inr (.inr ⟨e,he,.inl rfl⟩))),.inr (.inr (.inr (.inr ⟨e,he,.inr rfl⟩)))⟩⟩⟩,h.wv⟩⟩
 ·rcases hy with rfl|rfl|rfl|⟨a,ha,rfl⟩|⟨e,he,rfl|rfl⟩
  ·exact f.L
  ·exact f.D
  ·exact f.U
  ·exact f.l a ha
  ·exact(f.d e he).1
  ·exact(f.d e he).2
 ·rcases hy with rfl|rfl|rfl|⟨a,ha,rfl⟩|⟨e,he,rfl|rfl⟩
  ·exact⟨_,b.hL⟩
  ·exact⟨_,hD⟩
  ·exact⟨_,hU⟩
  ·exact⟨_,(b.ha a ha).2⟩
  ·exact⟨_,(dd e he).1⟩
  ·exact⟨_,(dd e he).2⟩
noncomputable def aaK (own:List Addr)(H H':Hp):Prop:=∀ y o,H y=some o->((∀ xs,o≠.lst xs)\/y∈own)->H' y=some o
section
variable {c:Cs} {H H' H1:Hp} {x:Addr} {own:List Addr} {vw vw':Vw} {ps ps' fs fs':List Vw} {F F':Addr->Prop}
theorem aaK.sgs (k:aaK own H H'){xs:List V}{ss:List Sg}(h:iq H xs ss):iq H' xs ss:=aY (fun _ _ ⟨p,e1,e2⟩=>⟨p,e1,k _ _ e2 (.inl fun _ z=>nomatch z)⟩) h
theorem aaK.tup (k:aaK own H H'){p:Addr}{xs:List V}(h:H p=some (.tup xs)):H' p=some (.tup xs):=k _ _ h (.inl fun _ z=>nomatch z)
end
noncomputable def Ei (H:Hp)(y:V)(q:Str×Th):Prop:=∃ p v,y=.ref p/\H p=some (.tup [.str q.1,v])/\ThV H v q.2
noncomputable def lj (H:Hp)(l:Addr)(vw:Vw):Prop:=∃ ys,H l=some (.lst ys)/\Paired (Ei H) ys vw
theorem Ei.same {H H':Hp}(s:ao H H'){y:V}{q:Str×Th}(h:Ei H y q):Ei H' y q:=by
 obtain⟨p,v,e1,e2,e3⟩:=h;exact⟨p,v,e1,s _ _ e2,e3.same s⟩
theorem lj.same {H H':Hp}(s:ao H H'){l:Addr}{vw:Vw}(h:lj H l vw):lj H' l vw:=by
 obtain⟨ys,e,p⟩:=h;exact⟨ys,s _ _ e,aY (fun _ _ q=>q.same s) p⟩
theorem vO:∀(more acc:List (Key×V)),((acc++more).map (·.1)).Nodup->iJ acc more=acc++more
 |[],acc,_=>by unfold iJ;simp
 |kv::more,acc,h=>by
  have e:ua acc kv.1=none:=by
   cases hv:ua acc kv.1 with
   |none=>rfl
   |some v =>
    have:=ZH hv;rw[map_append,map_cons]at h;obtain⟨_,_,h3⟩:=List.nodup_append.mp h;exact V' rfl (h3 _ this _ (mem_cons_self ..))
  show iJ (putK acc kv.1 kv.2) more=_;rw[K3 kv.2 e,vO more _ (by rw[List.append_assoc];exact h),List.append_assoc];rfl
theorem BQ {H:Hp}:∀{ys:List V} {vw:Vw},Paired (Ei H) ys vw->∃ kvs:List (Key×V),Paired (fun y kv=>∃ q,y=.ref q/\H q=some (.tup [kV kv.1,kv.2])) ys kvs/\Paired (Vl H) kvs vw
 |_,_,.nil=>⟨[],.nil,.nil⟩
 |_,_,.cons ⟨p,v,e1,e2,e3⟩ t=>by
  obtain⟨kvs,h1,h2⟩:=BQ t;exact⟨(Sum.inr _,v)::kvs,.cons ⟨p,e1,e2⟩ h1,.cons ⟨rfl,e3⟩ h2⟩
theorem Lh {H:Hp}{kvs:List (Key×V)}{vw:Vw}(h:Paired (Vl H) kvs vw)(n:(vw.map (·.1)).Nodup):(kvs.map (·.1)).Nodup:=by
 have e:kvs.map (·.1)=(vw.map (·.1)).map fun x=>(Sum.inr x:Key):=by
  clear n
  induction h with
  |nil=>rfl
  |cons r _ ih=>rw[map_cons,map_cons,map_cons,ih,r.1]
 rw[e];exact Gx n
theorem lj.dict {H:Hp}{l:Addr}{vw:Vw}(h:lj H l vw)(n:(vw.map (·.1)).Nodup):∃(ys:List V)(kvs:List (Key×V)),H l=some (.lst ys)/\Paired (fun y kv=>∃ q,y=.ref q/\H q=some (.tup [kV kv.1,kv.2])) ys kvs/\kvs.length=vw.length/\∀ d,H d=none->ao H (upd H d (.dK (iJ [] kvs)))/\Eh (upd H d (.dK (iJ [] kvs))) d vw:=by
 obtain⟨ys,e,p⟩:=h;obtain⟨kvs,h1,h2⟩:=BQ p;refine⟨ys,kvs,e,h1,bh h2,fun d hd=>?_⟩;rw[vO kvs [] (by simpa using Lh h2 n)];exact⟨ao.upd hd,kvs,af,aY (fun _ _ q=>q.same (ao.upd hd)) h2⟩
structure Ej (vw:Vw):Prop where
 w:yt vw
 nm:∀ q∈vw,nameB q.1=true/\q.1 ≠ "zed"/\q.1.length<=1000
 ld:∀(i:Nat) n ld lt sl tn,vw[i]? = some (n,Th.cn ld lt sl tn)->∃ ss,(ld,Th.pl ss)∈vw.take i
 sh:∀ n ss,(n,Th.pl ss)∈vw->ss.length<=24
theorem yt.take {vw:Vw}(w:Ej vw)(i:Nat):yt (vw.take i) where
 nd:=by rw[map_take];exact List.Sublist.nodup (List.take_sublist _ _) w.w.nd
 ld:=fun n ld lt sl tn h=>by
  obtain⟨j,hj⟩:=getElem?_of_mem h;have hji:j<i:=by
   have:=(C'.mp hj).1;rw[length_take]at this;omega
  rw[List.getElem?_take_of_lt hji]at hj;obtain⟨ss,hss⟩:=w.ld j n ld lt sl tn hj;have h2:=w.w.ld n ld lt sl tn (X' hj);refine⟨⟨ss,?_⟩,h2.2⟩;have:vw.take j=(vw.take i).take j:=by rw[List.take_take,Nat.min_eq_left (by omega)]
  rw[this]at hss;exact List.mem_of_mem_take hss
 gd:=fun n ss h=>w.w.gd n ss (List.mem_of_mem_take h)
 len:=by rw[length_take];have:=w.w.len;omega
noncomputable def gq (vw:Vw):Vw:=match vw.getLast? with
 |none=>[]
 |some (n,.pl ss)=>if ss=[] then vw.dropLast else vw.dropLast++[(n,.pl ss.dropLast)]
 |some (_,.cn _ _ _ _)=>vw.dropLast
end QG
namespace QG
end QG
local macro_rules | `(tactic| tm_up) => `(tactic| repeat w_up)
local macro_rules | `(tactic| w_up) => `(tactic| first
 |refine⟨_,rfl,?_⟩
 |refine⟨_,_,rfl,rfl,⟨by decide,by decide⟩,?_⟩
 |refine⟨_,_,rfl,rfl,(by first|decide|(show(0:Int)<_;decide)),?_⟩
 |refine .inl ⟨_,_,rfl,rfl,.inr ⟨by decide,by decide⟩,?_⟩
 |refine⟨_,_,rfl,rfl,?_⟩
 |refine .inl ⟨_,_,rfl,rfl,?_⟩
 |refine .inl ⟨rfl,?_⟩
 |refine .inr ⟨_,_,rfl,rfl,?_⟩
 |refine QG.ix0 (by assumption) ?_
 |refine QG.ix1 (by assumption) ?_)
namespace QG
open PySem L2
noncomputable def top (i:Nat):Stmt:=PySem.Challenge.pw_noteworth_k43_whole_rubs.main.body.getD i (.Pass ⟨0,0,0,0⟩)
noncomputable abbrev kr:Stmt:=top 68
noncomputable abbrev qJ:Stmt:=top 69
noncomputable abbrev ky:Stmt:=top 71
noncomputable abbrev kz:Stmt:=top 70
noncomputable abbrev uQ:Stmt:=top 72
noncomputable abbrev fS:Stmt:=top 73
noncomputable abbrev kA:Stmt:=inClass (top 59) 2
noncomputable abbrev kB:Stmt:=inClass (top 66) 7
noncomputable abbrev qK:Stmt:=inClass (top 59) 1
noncomputable abbrev kC:Stmt:=inClass (top 66) 8
noncomputable abbrev cf:Stmt:=top 61
noncomputable abbrev GF:Stmt:=top 9
noncomputable abbrev dq:Stmt:=top 62
noncomputable abbrev fM:Stmt:=inClass (top 66) 14
noncomputable abbrev AZ:Stmt:=top 10
noncomputable abbrev qL:Stmt:=top 63
noncomputable abbrev mV:Stmt:=top 64
noncomputable abbrev fN:Stmt:=top 11
noncomputable abbrev uR:Stmt:=top 65
noncomputable abbrev cN:Stmt:=inClass (top 66) 17
noncomputable abbrev c8:Stmt:=inClass (top 66) 18
noncomputable abbrev eK:Stmt:=inClass (top 59) 0
noncomputable abbrev kD:Stmt:=inClass (top 66) 6
noncomputable abbrev mW:Stmt:=inClass (top 66) 4
noncomputable abbrev mX:Stmt:=inClass (top 66) 5
noncomputable abbrev i9:Stmt:=top 88
noncomputable abbrev ja:Stmt:=inClass (top 66) 9
noncomputable abbrev jb:Stmt:=inClass (top 66) 12
noncomputable abbrev kE:Stmt:=top 14
noncomputable abbrev uS:Stmt:=top 33
noncomputable abbrev kF:Stmt:=inClass (top 66) 10
noncomputable abbrev mY:Stmt:=top 31
noncomputable abbrev qM:Stmt:=top 42
noncomputable abbrev gN:Stmt:=top 41
noncomputable abbrev cg:Stmt:=top 43
noncomputable abbrev GG:Stmt:=top 32
noncomputable abbrev eL:Stmt:=top 44
noncomputable abbrev dU:Stmt:=top 45
noncomputable abbrev dr:Stmt:=top 46
noncomputable abbrev du:Stmt:=top 47
noncomputable abbrev jc:Stmt:=top 48
noncomputable abbrev qN:Stmt:=top 49
noncomputable abbrev uT:Stmt:=top 50
noncomputable abbrev kG:Stmt:=inClass (top 66) 11
noncomputable abbrev uU:Stmt:=top 12
noncomputable abbrev A0:Stmt:=top 15
noncomputable abbrev cO:Stmt:=top 16
noncomputable abbrev GH:Stmt:=top 17
noncomputable abbrev qO:Stmt:=top 83
noncomputable abbrev uV:Stmt:=top 84
noncomputable abbrev kH:Stmt:=top 75
noncomputable abbrev uW:Stmt:=top 77
noncomputable abbrev qP:Stmt:=top 78
noncomputable abbrev A1:Stmt:=top 79
noncomputable abbrev uX:Stmt:=top 80
noncomputable abbrev kI:Stmt:=top 76
noncomputable abbrev jd:Stmt:=top 81
noncomputable abbrev kJ:Stmt:=top 92
noncomputable abbrev qQ:Stmt:=top 93
noncomputable abbrev qR:Stmt:=top 86
noncomputable abbrev uY:Stmt:=top 85
noncomputable abbrev mZ:Stmt:=top 87
noncomputable abbrev dw:Stmt:=top 89
noncomputable abbrev gO:Stmt:=top 90
noncomputable abbrev qS:Stmt:=top 60
noncomputable abbrev dy:Stmt:=inClass (top 66) 16
noncomputable abbrev gP:Stmt:=inClass (top 66) 15
noncomputable abbrev dW:Stmt:=inClass (top 58) 0
noncomputable abbrev dX:Stmt:=inClass (top 66) 1
noncomputable abbrev dY:Stmt:=inClass (top 66) 2
noncomputable abbrev kK:Stmt:=top 74
noncomputable abbrev eM:Stmt:=inClass (top 66) 0
noncomputable abbrev uZ:Stmt:=top 91
noncomputable abbrev Pt:Stmt:=top 94
theorem QO:aF ["_law_script","_law_k"] ["_law_script","_law_k"] (ai kr):=⟨rfl,rfl,rfl,by lk,rfl,by lk,by lk⟩
theorem BR:aF ["_law_seed","_law_k","_law_one","_law_two"] ["_law_seed","_law_k"] (ai qJ):=⟨rfl,rfl,rfl,by lk,rfl,by lk,by lk⟩
theorem Ek:aF ["_law_number","_law_kind"] ["_law_number"] (ai ky):=⟨rfl,rfl,rfl,by lk,rfl,by lk,by lk⟩
theorem lq:aF ["_law_script","_law_at","_law_many","_law_seed","_law_left","_law_row"] ["_law_script","_law_at","_law_many"] (ai kz):=⟨rfl,rfl,rfl,by lk,rfl,by lk,by lk⟩
theorem aaL:aF ["_law_script","_law_at","_law_many"] ["_law_script","_law_at","_law_many"] (ai uQ):=⟨rfl,rfl,rfl,by lk,rfl,by lk,by lk⟩
theorem bN:aF ["_law_script","_law_names","_law_plain","_law_told","_law_k","_law_size","_law_cell","_law_later","_law_slow","_law_led","_law_row"] ["_law_script"] (ai fS):=⟨rfl,rfl,rfl,by lk,rfl,by lk,by lk⟩
theorem QP:aF ["self"] ["self"] (ai kA):=⟨rfl,rfl,rfl,by lk,rfl,by lk,by lk⟩
theorem El:aF ["self","deed"] ["self"] (ai kB):=⟨rfl,rfl,rfl,by lk,rfl,by lk,by lk⟩
theorem Xg:aF ["self"] ["self"] (ai qK):=⟨rfl,rfl,rfl,by lk,rfl,by lk,by lk⟩
theorem Em:aF ["self","deed"] ["self"] (ai kC):=⟨rfl,rfl,rfl,by lk,rfl,by lk,by lk⟩
theorem vP:aF ["at","last"] ["at","last"] (ai cf):=⟨rfl,rfl,rfl,by lk,rfl,by lk,by lk⟩
theorem QR:aF ["sign","kind","tone"] ["sign"] (ai GF):=⟨rfl,rfl,rfl,by lk,rfl,by lk,by lk⟩
theorem BS:aF ["sign"] ["sign"] (ai dq):=⟨rfl,rfl,rfl,by lk,rfl,by lk,by lk⟩
theorem JU:aF ["self","deed"] ["self","deed"] (ai fM):=⟨rfl,rfl,rfl,by lk,rfl,by lk,by lk⟩
theorem ad5:aF ["sign"] ["sign"] (ai AZ):=⟨rfl,rfl,rfl,by lk,rfl,by lk,by lk⟩
theorem vQ:aF ["line","at","met","place"] ["line","at"] (ai qL):=⟨rfl,rfl,rfl,by lk,rfl,by lk,by lk⟩
theorem Jx:aF ["line","first","kinds","place"] ["line","first","kinds"] (ai mV):=⟨rfl,rfl,rfl,by lk,rfl,by lk,by lk⟩
theorem JV:aF ["sign"] ["sign"] (ai fN):=⟨rfl,rfl,rfl,by lk,rfl,by lk,by lk⟩
theorem Pu:aF ["line","at","behind","changed","kinds"] ["line","at","behind","changed"] (ai uR):=⟨rfl,rfl,rfl,by lk,rfl,by lk,by lk⟩
theorem oM:aF ["self","name","voice"] ["self","name"] (ai cN):=⟨rfl,rfl,rfl,by lk,rfl,by lk,by lk⟩
theorem qo:aF ["self","name","voice"] ["self","name"] (ai c8):=⟨rfl,rfl,rfl,by lk,rfl,by lk,by lk⟩
theorem GI:aF ["self","things","at","before","after"] ["self","things","at","before","after"] (ai eK):=⟨rfl,rfl,rfl,by lk,rfl,by lk,by lk⟩
theorem vR:aF ["self","name","at","sign","signs","before"] ["self","name","at","sign"] (ai kD):=⟨rfl,rfl,rfl,by lk,rfl,by lk,by lk⟩
theorem Jy:aF ["self","name","at","sign","signs"] ["self","name","at","sign"] (ai mW):=⟨rfl,rfl,rfl,by lk,rfl,by lk,by lk⟩
theorem yy:aF ["self","name","at","signs","sign"] ["self","name","at"] (ai mX):=⟨rfl,rfl,rfl,by lk,rfl,by lk,by lk⟩
theorem jM:aF ["_law_script","_law_book","_law_name","_law_line_here","_law_at","_law_sign","_law_way"] ["_law_script","_law_book","_law_name","_law_line_here"] (ai i9):=⟨rfl,rfl,rfl,by lk,rfl,by lk,by lk⟩
theorem N5:aF ["self"] ["self"] (ai ja):=⟨rfl,rfl,rfl,by lk,rfl,by lk,by lk⟩
theorem N6:aF ["self","name"] ["self","name"] (ai jb):=⟨rfl,rfl,rfl,by lk,rfl,by lk,by lk⟩
theorem En:aF ["book","name","terms"] ["book","name"] (ai kE):=⟨rfl,rfl,rfl,by lk,rfl,by lk,by lk⟩
theorem aaM:aF ["line"] ["line"] (ai uS):=⟨rfl,rfl,rfl,by lk,rfl,by lk,by lk⟩
theorem bO:aF ["self","name","terms","leader","later","slow","is_turned","heard"] ["self","name"] (ai kF):=⟨rfl,rfl,rfl,by lk,rfl,by lk,by lk⟩
theorem oN:aF ["line","begin","found","measure","sign"] ["line","begin"] (ai mY):=⟨rfl,rfl,rfl,by lk,rfl,by lk,by lk⟩
theorem Xh:aF ["line","at"] ["line","at"] (ai qM):=⟨rfl,rfl,rfl,by lk,rfl,by lk,by lk⟩
theorem Li:aF ["kind","measure"] ["kind","measure"] (ai gN):=⟨rfl,rfl,rfl,by lk,rfl,by lk,by lk⟩
theorem dM:aF ["line","begin","found","at","measure"] ["line","begin"] (ai cg):=⟨rfl,rfl,rfl,by lk,rfl,by lk,by lk⟩
theorem vS:aF ["line","begin","found","first","at","sign","measure"] ["line","begin"] (ai GG):=⟨rfl,rfl,rfl,by lk,rfl,by lk,by lk⟩
theorem GJ:aF ["line","found","first"] ["line","found","first"] (ai eL):=⟨rfl,rfl,rfl,by lk,rfl,by lk,by lk⟩
theorem Eo:aF ["line","behind"] ["line","behind"] (ai dU):=⟨rfl,rfl,rfl,by lk,rfl,by lk,by lk⟩
theorem BU:aF ["line","found","first","behind"] ["line","found","first","behind"] (ai dr):=⟨rfl,rfl,rfl,by lk,rfl,by lk,by lk⟩
theorem BV:aF ["line","found","first","behind"] ["line","found","first","behind"] (ai du):=⟨rfl,rfl,rfl,by lk,rfl,by lk,by lk⟩
theorem Bo:aF ["line","found","first","behind","rest"] ["line","found","first","behind"] (ai jc):=⟨rfl,rfl,rfl,by lk,rfl,by lk,by lk⟩
theorem rh:aF ["line","begin","found","loose_runs","first","behind"] ["line","begin"] (ai qN):=⟨rfl,rfl,rfl,by lk,rfl,by lk,by lk⟩
theorem aaN:aF ["line","begin"] ["line","begin"] (ai uT):=⟨rfl,rfl,rfl,by lk,rfl,by lk,by lk⟩
theorem gu:aF ["self","name","terms","leader","later","slow","is_turned","begin"] ["self","name"] (ai kG):=⟨rfl,rfl,rfl,by lk,rfl,by lk,by lk⟩
theorem aaO:aF ["sign"] ["sign"] (ai uU):=⟨rfl,rfl,rfl,by lk,rfl,by lk,by lk⟩
theorem va:aF ["book","name","found","start","sign","worth"] ["book","name"] (ai A0):=⟨rfl,rfl,rfl,by lk,rfl,by lk,by lk⟩
theorem bu:aF ["ones","others","found","first","start","end","tone","at"] ["ones","others"] (ai cO):=⟨rfl,rfl,rfl,by lk,rfl,by lk,by lk⟩
theorem qx:aF ["book","found","names","sung","place","one","other","start","end"] ["book"] (ai GH):=⟨rfl,rfl,rfl,by lk,rfl,by lk,by lk⟩
theorem Xi:aF ["_law_found"] ["_law_found"] (ai qO):=⟨rfl,rfl,rfl,by lk,rfl,by lk,by lk⟩
theorem vb:aF ["_law_found","_law_due","_law_one","_law_other","_law_a","_law_b"] ["_law_found","_law_due"] (ai uV):=⟨rfl,rfl,rfl,by lk,rfl,by lk,by lk⟩
theorem lr:aF ["_law_voices","_law_name","_law_thing","_law_told","_law_sign","_law_kind"] ["_law_voices","_law_name"] (ai kH):=⟨rfl,rfl,rfl,by lk,rfl,by lk,by lk⟩
theorem qT:aF ["_law_line_here","_law_begin","_law_told","_law_now","_law_at","_law_kind"] ["_law_line_here","_law_begin"] (ai uW):=⟨rfl,rfl,rfl,by lk,rfl,by lk,by lk⟩
theorem rj:aF ["_law_line_here","_law_begin","_law_told","_law_now","_law_sign"] ["_law_line_here","_law_begin"] (ai qP):=⟨rfl,rfl,rfl,by lk,rfl,by lk,by lk⟩
theorem vc:aF ["_law_line_here","_law_told","_law_low","_law_high","_law_rest","_law_behind","_law_after","_law_left","_law_right_here"] ["_law_line_here","_law_told","_law_low","_law_high"] (ai A1):=⟨rfl,rfl,rfl,by lk,rfl,by lk,by lk⟩
theorem kL:aF ["_law_line_here","_law_begin","_law_told","_law_three_here","_law_left","_law_low","_law_high"] ["_law_line_here","_law_begin"] (ai uX):=⟨rfl,rfl,rfl,by lk,rfl,by lk,by lk⟩
theorem vT:aF ["_law_voices","_law_name","_law_thing","_law_line_here"] ["_law_voices","_law_name"] (ai kI):=⟨rfl,rfl,rfl,by lk,rfl,by lk,by lk⟩
theorem gQ:aF ["_law_voices","_law_name","_law_beat","_law_told","_law_sign","_law_worth"] ["_law_voices","_law_name"] (ai jd):=⟨rfl,rfl,rfl,by lk,rfl,by lk,by lk⟩
theorem eR:aF ["_law_one","_law_other","_law_ones","_law_others","_law_due","_law_low","_law_high","_law_tone","_law_first","_law_last","_law_near_here"] ["_law_one","_law_other","_law_ones","_law_others"] (ai kJ):=⟨rfl,rfl,rfl,by lk,rfl,by lk,by lk⟩
theorem iK:aF ["_law_script","_law_book","_law_voices","_law_due","_law_names","_law_rows_here","_law_k","_law_j","_law_found"] ["_law_script","_law_book","_law_voices"] (ai qQ):=⟨rfl,rfl,rfl,by lk,rfl,by lk,by lk⟩
theorem BW:aF ["_law_found","_law_due","_law_one","_law_other"] ["_law_found","_law_due"] (ai qR):=⟨rfl,rfl,rfl,by lk,rfl,by lk,by lk⟩
theorem Pw:aF ["_law_found","_law_due","_law_k"] ["_law_found","_law_due"] (ai uY):=⟨rfl,rfl,rfl,by lk,rfl,by lk,by lk⟩
theorem sQ:aF ["_law_book","_law_voices","_law_told","_law_name","_law_terms"] ["_law_book","_law_voices"] (ai mZ):=⟨rfl,rfl,rfl,by lk,rfl,by lk,by lk⟩
theorem gw:aF ["_law_script","_law_book","_law_told","_law_plain","_law_name","_law_line_here","_law_voices"] ["_law_script","_law_book","_law_told"] (ai dw):=⟨rfl,rfl,rfl,by lk,rfl,by lk,by lk⟩
theorem rk:aF ["_law_script","_law_book","_law_told","_law_before"] ["_law_script","_law_book","_law_told"] (ai gO):=⟨rfl,rfl,rfl,by lk,rfl,by lk,by lk⟩
theorem Xj:aF ["name"] ["name"] (ai qS):=⟨rfl,rfl,rfl,by lk,rfl,by lk,by lk⟩
theorem BX:aF ["self","name"] ["self","name"] (ai dy):=⟨rfl,rfl,rfl,by lk,rfl,by lk,by lk⟩
theorem Lj:aF ["self","voice"] ["self","voice"] (ai gP):=⟨rfl,rfl,rfl,by lk,rfl,by lk,by lk⟩
theorem Ep:aF ["self","name","terms"] ["self","name","terms"] (ai dW):=⟨rfl,rfl,rfl,by lk,rfl,by lk,by lk⟩
theorem Er:aF ["self","name"] ["self","name"] (ai dX):=⟨rfl,rfl,rfl,by lk,rfl,by lk,by lk⟩
theorem Es:aF ["self","name","leader","later","slow","is_turned"] ["self","name","leader","later","slow","is_turned"] (ai dY):=⟨rfl,rfl,rfl,by lk,rfl,by lk,by lk⟩
theorem lu:aF ["_law_book","_law_told","_law_name","_law_thing","_law_at","_law_sign"] ["_law_book","_law_told"] (ai kK):=⟨rfl,rfl,rfl,by lk,rfl,by lk,by lk⟩
theorem GK:aF ["self"] ["self"] (ai eM):=⟨rfl,rfl,rfl,by lk,rfl,by lk,by lk⟩
theorem aaP:aF ["_law_thing"] ["_law_thing"] (ai uZ):=⟨rfl,rfl,rfl,by lk,rfl,by lk,by lk⟩
theorem Xk:aF ["_law_script","_law_told"] ["_law_script"] (ai Pt):=⟨rfl,rfl,rfl,by lk,rfl,by lk,by lk⟩
theorem Lk:(["_law_k","_law_script","_law_at","_law_many","_law_seed","_law_left","_law_row"]:List Str).Nodup:=by lk
theorem Vm:(["_law_number","_law_script","_law_at","_law_many"]:List Str).Nodup:=by lk
theorem Ll:(["_law_j","_law_script","_law_names","_law_plain","_law_told","_law_k","_law_size","_law_cell","_law_later","_law_slow","_law_led","_law_row"]:List Str).Nodup:=by lk
theorem Lm:(["_law_number","_law_script","_law_names","_law_plain","_law_told","_law_k","_law_size","_law_cell","_law_later","_law_slow","_law_led","_law_row"]:List Str).Nodup:=by lk
theorem Vn:(["sign","line","at","behind","changed","kinds"]:List Str).Nodup:=by lk
theorem JW:(["voice","self"]:List Str).Nodup:=by lk
theorem Jz:(["kind","tone","line"]:List Str).Nodup:=by lk
theorem Ln:(["worth","self","name","terms","leader","later","slow","is_turned","begin"]:List Str).Nodup:=by lk
theorem aaQ:(["name","book","found","names","sung","place","one","other","start","end"]:List Str).Nodup:=by lk
theorem Lo:(["_law_worth","_law_voices","_law_name","_law_thing","_law_line_here"]:List Str).Nodup:=by lk
theorem N7:(["_law_name","_law_script","_law_book","_law_voices","_law_due","_law_names","_law_rows_here","_law_k","_law_j","_law_found"]:List Str).Nodup:=by lk
theorem x6:(["_law_script","_law_book","_law_told","_law_plain","","_law_line_here","_law_voices"]:List Str).Nodup:=by lk
theorem mS:(["_law_name","_law_thing","_law_script","_law_book","_law_told","_law_plain","","_law_line_here","_law_voices"]:List Str).Nodup:=by lk
theorem mT:(["_law_one","_law_thing","_law_script","_law_book","_law_told","_law_plain","_law_name","_law_line_here","_law_voices"]:List Str).Nodup:=by lk
theorem N8:(["letter","name"]:List Str).Nodup:=by lk
theorem Et:(["_law_kind","_law_tone","_law_thing"]:List Str).Nodup:=by lk
theorem Px:(["_law_name","_law_thing","_law_script","_law_told"]:List Str).Nodup:=by lk
noncomputable def yz:List (Str×Pos):=[("ann",⟨350,18,350,23⟩),("bo",⟨350,25,350,29⟩),("cy",⟨350,31,350,35⟩),("dora",⟨350,37,350,43⟩),("eve",⟨350,45,350,50⟩),("ann",⟨350,52,350,57⟩),("bo",⟨350,59,350,63⟩),("cy",⟨350,65,350,69⟩),("dora",⟨350,71,350,77⟩)]
set_option genInjectivity false in
set_option genSizeOf false in
structure Adr where
 iL:Addr
 yA:FuncData
 m6:Addr
 GL:FuncData
 iN:Addr
 yB:FuncData
 iO:Addr
 yC:FuncData
 rm:Addr
 Lp:FuncData
 iP:Addr
 yD:FuncData
 fU:Addr
 yE:FuncData
 fV:Addr
 yF:FuncData
 kM:Addr
 GN:FuncData
 fW:Addr
 yG:FuncData
 bK:Addr
 gW:FuncData
 BY:Addr
 Xl:FuncData
 cI:Addr
 lx:FuncData
 di:Addr
 rp:FuncData
 vU:Addr
 QS:FuncData
 m7:Addr
 GO:FuncData
 j5:Addr
 BZ:FuncData
 d6:Addr
 rq:FuncData
 rA:Addr
 Lq:FuncData
 bI:Addr
 jy:FuncData
 bP:Addr
 j6:FuncData
 cR:Addr
 pJ:FuncData
 fX:Addr
 yH:FuncData
 iQ:Addr
 Ca:FuncData
 iR:Addr
 Cb:FuncData
 gx:Addr
 vV:FuncData
 eS:Addr
 vW:FuncData
 eU:Addr
 vX:FuncData
 iS:Addr
 yI:FuncData
 rB:Addr
 Lr:FuncData
 eV:Addr
 sR:FuncData
 j7:Addr
 vY:FuncData
 sU:Addr
 ly:Tok
 m8:Addr
 GP:FuncData
 fm:Addr
 ud:FuncData
 bL:Addr
 gX:FuncData
 Cc:Addr
 QT:FuncData
 KA:Addr
 yJ:Tok
 dB:Addr
 pK:FuncData
 c9:Addr
 m9:FuncData
 cJ:Addr
 lz:FuncData
 cK:Addr
 lB:FuncData
 gy:Addr
 vZ:FuncData
 ng:Addr
 GQ:FuncData
 rC:Addr
 Eu:FuncData
 A2:Addr
 rD:Tok
 fY:Addr
 yK:FuncData
 rE:Addr
 Ls:FuncData
 v7:Addr
 QU:FuncData
 bV:Addr
 jz:FuncData
 Cd:Addr
 Xm:FuncData
 nh:Addr
 GR:FuncData
 rF:Addr
 Lu:FuncData
 iT:Addr
 yL:FuncData
 rG:Addr
 Lv:FuncData
 nj:Addr
 GS:FuncData
 v8:Addr
 QV:FuncData
 rH:Addr
 Lw:FuncData
 iU:Addr
 yM:FuncData
 gA:Addr
 v9:FuncData
 iV:Addr
 yN:FuncData
 nr:Addr
 GU:FuncData
 nu:Addr
 GW:FuncData
 rJ:Addr
 Lx:FuncData
 j8:Addr
 Ce:FuncData
 cL:Addr
 lC:FuncData
 fo:Addr
 ue:FuncData
 nC:Addr
 GX:FuncData
 bZ:Addr
 lD:FuncData
 dQ:Addr
 uf:FuncData
 cy:Addr
 nE:FuncData
 cz:Addr
 nF:FuncData
 cA:Addr
 je:FuncData
 iw:Addr
 d7:Tok
 ed:Tok
 iW:Addr
 yO:FuncData
 cS:Addr
 pL:FuncData
 rK:Addr
 Ly:FuncData
 Lz:Addr
 ad6:FuncData
 dR:Addr
 fq:Addr
 dC:Addr
 cT:Addr
 cB:Addr
 ee:Addr
 lE:Tok
 dj:Addr
 dm:Addr
 bS:Addr
 qy:Tok
 ix:Tok
 jT:Tok
 lF:Tok
 A3:Tok
 lG:Tok
 oE:Tok
 qz:Tok
 Ew:Tok
 A4:Tok
 dg:Addr
 bx:Addr
 a7:Addr
structure Txt (K:Frag)(w:World)(mg:Str->Option Value)(t:Adr):Prop where
 ba:gU K "_law_cell_at" "_law_cell_at" kr t.iL t.yA
 bA:Binds K t.yA ["_law_script","_law_k"] []
 bB:mg "_law_cell_at"=some (.ref t.iL)
 jf:gU K "_law_mixed" "_law_mixed" qJ t.m6 t.GL
 nG:Binds K t.GL ["_law_seed","_law_k"] []
 rL:mg "_law_mixed"=some (.ref t.m6)
 iX:gU K "_law_sign_by" "_law_sign_by" ky t.iN t.yB
 oO:Binds K t.yB ["_law_number"] []
 wa:mg "_law_sign_by"=some (.ref t.iN)
 oP:gU K "_law_numbers" "_law_numbers" kz t.iO t.yC
 yP:Binds K t.yC ["_law_script","_law_at","_law_many"] []
 QW:mg "_law_numbers"=some (.ref t.iO)
 yQ:gU K "_law_line" "_law_line" uQ t.rm t.Lp
 LB:Binds K t.Lp ["_law_script","_law_at","_law_many"] []
 aaR:mg "_law_line"=some (.ref t.rm)
 oQ:gU K "_law_entries" "_law_entries" fS t.iP t.yD
 yR:Binds K t.yD ["_law_script"] []
 QX:mg "_law_entries"=some (.ref t.iP)
 sV:gU K "undo" "Deed.undo" kA t.fU t.yE
 yS:Binds K t.yE ["self"] []
 QY:Meth K t.bx "undo" t.fU
 sW:gU K "undo" "Book.undo" kB t.fV t.yF
 iY:Binds K t.yF ["self"] []
 lH:Meth K t.a7 "undo" t.fV
 A5:gU K "do" "Deed.do" qK t.kM t.GN
 A6:Binds K t.GN ["self"] []
 LC:Meth K t.bx "do" t.kM
 sX:gU K "redo" "Book.redo" kC t.fW t.yG
 sY:Binds K t.yG ["self"] []
 Ex:Meth K t.a7 "redo" t.fW
 bM:gU K "refuse_other_places" "refuse_other_places" cf t.bK t.gW
 cX:Binds K t.gW ["at","last"] []
 gB:mg "refuse_other_places"=some (.ref t.bK)
 LF:gU K "good" "good" GF t.BY t.Xl
 Xn:Binds K t.Xl ["sign"] []
 agc:mg "good"=some (.ref t.BY)
 dz:gU K "refuse_bad_sign" "refuse_bad_sign" dq t.cI t.lx
 iy:Binds K t.lx ["sign"] []
 rM:mg "refuse_bad_sign"=some (.ref t.cI)
 lI:gU K "perform" "Book.perform" fM t.di t.rp
 fO:Binds K t.rp ["self","deed"] []
 jU:Meth K t.a7 "perform" t.di
 A7:gU K "small" "small" AZ t.vU t.QS
 KC:Binds K t.QS ["sign"] []
 Vo:mg "small"=some (.ref t.vU)
 vd:gU K "low_end" "low_end" qL t.m7 t.GO
 GY:Binds K t.GO ["line","at"] []
 Xo:mg "low_end"=some (.ref t.m7)
 rN:gU K "high_end" "high_end" mV t.j5 t.BZ
 Cf:Binds K t.BZ ["line","first","kinds"] []
 Vp:mg "high_end"=some (.ref t.j5)
 fP:gU K "sets_measure" "sets_measure" fN t.d6 t.rq
 lJ:Binds K t.rq ["sign"] []
 xQ:mg "sets_measure"=some (.ref t.d6)
 rO:gU K "window" "window" uR t.rA t.Lq
 yT:Binds K t.Lq ["line","at","behind","changed"] []
 GZ:mg "window"=some (.ref t.rA)
 fE:gU K "voice_called" "Book.voice_called" cN t.bI t.jy
 cP:Binds K t.jy ["self","name"] []
 eW:Meth K t.a7 "voice_called" t.bI
 gC:gU K "plain_voice" "Book.plain_voice" c8 t.bP t.j6
 dc:Binds K t.j6 ["self","name"] []
 fF:Meth K t.a7 "plain_voice" t.bP
 jV:gU K "__init__" "Deed.__init__" eK t.cR t.pJ
 eN:Binds K t.pJ ["self","things","at","before","after"] []
 sZ:gU K "swap" "Book.swap" kD t.fX t.yH
 yU:Binds K t.yH ["self","name","at","sign"] []
 QZ:Meth K t.a7 "swap" t.fX
 wb:gU K "put" "Book.put" mW t.iQ t.Ca
 wc:Binds K t.Ca ["self","name","at","sign"] []
 JA:Meth K t.a7 "put" t.iQ
 wd:gU K "cut" "Book.cut" mX t.iR t.Cb
 Cg:Binds K t.Cb ["self","name","at"] []
 Vq:Meth K t.a7 "cut" t.iR
 lK:gU K "_law_one_deed" "_law_one_deed" i9 t.gx t.vV
 we:Binds K t.vV ["_law_script","_law_book","_law_name","_law_line_here"] []
 N9:mg "_law_one_deed"=some (.ref t.gx)
 qA:gU K "names" "Book.names" ja t.eS t.vW
 gD:Binds K t.vW ["self"] []
 jN:Meth K t.a7 "names" t.eS
 qB:gU K "canon" "Book.canon" jb t.eU t.vX
 gE:Binds K t.vX ["self","name"] []
 jO:Meth K t.a7 "canon" t.eU
 oR:gU K "beginning" "beginning" kE t.iS t.yI
 yV:Binds K t.yI ["book","name"] []
 Q0:mg "beginning"=some (.ref t.iS)
 ve:gU K "turned" "turned" uS t.rB t.Lr
 Ey:Binds K t.Lr ["line"] []
 Py:mg "turned"=some (.ref t.rB)
 oS:gU K "line" "Book.line" kF t.eV t.sR
 fZ:Binds K t.sR ["self","name"] []
 jg:Meth K t.a7 "line" t.eV
 j9:QC K "measures" "measures" mY t.j7 t.vY (.ref t.sU)
 JB:Binds K t.vY ["line","begin"] [.int 3 t.ly]
 wj:Binds K t.vY ["line","begin"] []
 JC:mg "measures"=some (.ref t.j7)
 eO:gU K "kind_at" "kind_at" qM t.m8 t.GP
 gR:Binds K t.GP ["line","at"] []
 iZ:mg "kind_at"=some (.ref t.m8)
 jP:gU K "plain_worth" "plain_worth" gN t.fm t.ud
 ug:Binds K t.ud ["kind","measure"] []
 LG:mg "plain_worth"=some (.ref t.fm)
 cY:gU K "worths_without_runs" "worths_without_runs" cg t.bL t.gX
 gY:Binds K t.gX ["line","begin"] []
 wk:mg "worths_without_runs"=some (.ref t.bL)
 G0:QC K "runs" "runs" GG t.Cc t.QT (.ref t.KA)
 ZV:Binds K t.QT ["line","begin"] [.int 3 t.yJ]
 Xp:Binds K t.QT ["line","begin"] []
 agd:mg "runs"=some (.ref t.Cc)
 eP:gU K "has_left_note" "has_left_note" eL t.dB t.pK
 jW:Binds K t.pK ["line","found","first"] []
 vf:mg "has_left_note"=some (.ref t.dB)
 dZ:gU K "has_right_note" "has_right_note" dU t.c9 t.m9
 jh:Binds K t.m9 ["line","behind"] []
 tf:mg "has_right_note"=some (.ref t.c9)
 eX:gU K "settle_one_over" "settle_one_over" dr t.cJ t.lz
 lL:Binds K t.lz ["line","found","first","behind"] []
 Ci:mg "settle_one_over"=some (.ref t.cJ)
 eY:gU K "settle_two_over" "settle_two_over" du t.cK t.lB
 lM:Binds K t.lB ["line","found","first","behind"] []
 Cj:mg "settle_two_over"=some (.ref t.cK)
 lN:gU K "settle_run" "settle_run" jc t.gy t.vZ
 wm:Binds K t.vZ ["line","found","first","behind"] []
 Oa:mg "settle_run"=some (.ref t.gy)
 vg:gU K "reading" "reading" qN t.ng t.GQ
 G1:Binds K t.GQ ["line","begin"] []
 Xq:mg "reading"=some (.ref t.ng)
 rP:QC K "worths" "worths" uT t.rC t.Eu (.ref t.A2)
 Pz:Binds K t.Eu ["line","begin"] [.int 3 t.rD]
 Ez:Binds K t.Eu ["line","begin"] []
 PB:mg "worths"=some (.ref t.rC)
 tj:gU K "kept" "Book.kept" kG t.fY t.yK
 oT:Binds K t.yK ["self","name"] []
 wq:Meth K t.a7 "kept" t.fY
 yW:gU K "sounds" "sounds" uU t.rE t.Ls
 LH:Binds K t.Ls ["sign"] []
 aaS:mg "sounds"=some (.ref t.rE)
 EA:gU K "spans" "spans" A0 t.v7 t.QU
 Q1:Binds K t.QU ["book","name"] []
 ad7:mg "spans"=some (.ref t.v7)
 dH:gU K "rubbing_stretches" "rubbing_stretches" cO t.bV t.jz
 jA:Binds K t.jz ["ones","others"] []
 yX:mg "rubbing_stretches"=some (.ref t.bV)
 G2:gU K "rubs" "rubs" GH t.Cd t.Xm
 Q2:Binds K t.Xm ["book"] []
 ZW:mg "rubs"=some (.ref t.Cd)
 ji:gU K "_law_whole" "_law_whole" qO t.nh t.GR
 nH:Binds K t.GR ["_law_found"] []
 rQ:mg "_law_whole"=some (.ref t.nh)
 vh:gU K "_law_rows" "_law_rows" uV t.rF t.Lu
 EB:Binds K t.Lu ["_law_found","_law_due"] []
 PC:mg "_law_rows"=some (.ref t.rF)
 i0:gU K "_law_line_of" "_law_line_of" kH t.iT t.yL
 oU:Binds K t.yL ["_law_voices","_law_name"] []
 wt:mg "_law_line_of"=some (.ref t.iT)
 yY:gU K "_law_base" "_law_base" uW t.rG t.Lv
 LI:Binds K t.Lv ["_law_line_here","_law_begin"] []
 aaT:mg "_law_base"=some (.ref t.rG)
 vi:gU K "_law_three" "_law_three" qP t.nj t.GS
 G3:Binds K t.GS ["_law_line_here","_law_begin"] []
 Xr:mg "_law_three"=some (.ref t.nj)
 EC:gU K "_law_run" "_law_run" A1 t.v8 t.QV
 Q3:Binds K t.QV ["_law_line_here","_law_told","_law_low","_law_high"] []
 ad8:mg "_law_run"=some (.ref t.v8)
 vj:gU K "_law_read" "_law_read" uX t.rH t.Lw
 ED:Binds K t.Lw ["_law_line_here","_law_begin"] []
 PD:mg "_law_read"=some (.ref t.rH)
 kO:gU K "_law_kept_of" "_law_kept_of" kI t.iU t.yM
 tq:Binds K t.yM ["_law_voices","_law_name"] []
 EF:mg "_law_kept_of"=some (.ref t.iU)
 lO:gU K "_law_spans_of" "_law_spans_of" jd t.gA t.v9
 wu:Binds K t.v9 ["_law_voices","_law_name"] []
 Ob:mg "_law_spans_of"=some (.ref t.gA)
 oV:gU K "_law_rubs_of" "_law_rubs_of" kJ t.iV t.yN
 yZ:Binds K t.yN ["_law_one","_law_other","_law_ones","_law_others"] []
 Q4:mg "_law_rubs_of"=some (.ref t.iV)
 gS:gU K "_law_right" "_law_right" qQ t.nr t.GU
 kP:Binds K t.GU ["_law_script","_law_book","_law_voices"] []
 nI:mg "_law_right"=some (.ref t.nr)
 vk:gU K "_law_signs" "_law_signs" qR t.nu t.GW
 G4:Binds K t.GW ["_law_found","_law_due"] []
 Xs:mg "_law_signs"=some (.ref t.nu)
 y8:gU K "_law_nums" "_law_nums" uY t.rJ t.Lx
 LJ:Binds K t.Lx ["_law_found","_law_due"] []
 aaU:mg "_law_nums"=some (.ref t.rJ)
 i3:gU K "_law_stands" "_law_stands" mZ t.j8 t.Ce
 nJ:Binds K t.Ce ["_law_book","_law_voices"] []
 tw:mg "_law_stands"=some (.ref t.j8)
 eZ:gU K "_law_changed_right" "_law_changed_right" dw t.cL t.lC
 lP:Binds K t.lC ["_law_script","_law_book","_law_told"] []
 Ck:mg "_law_changed_right"=some (.ref t.cL)
 jQ:gU K "_law_all_round" "_law_all_round" gO t.fo t.ue
 uh:Binds K t.ue ["_law_script","_law_book","_law_told"] []
 LK:mg "_law_all_round"=some (.ref t.fo)
 vm:gU K "is_name" "is_name" qS t.nC t.GX
 G5:Binds K t.GX ["name"] []
 Xt:mg "is_name"=some (.ref t.nC)
 iA:gU K "refuse_new" "Book.refuse_new" dy t.bZ t.lD
 iB:Binds K t.lD ["self","name"] []
 rR:Meth K t.a7 "refuse_new" t.bZ
 oF:gU K "put_in" "Book.put_in" gP t.dQ t.uf
 oG:Binds K t.uf ["self","voice"] []
 za:Meth K t.a7 "put_in" t.dQ
 jj:gU K "__init__" "Voice.__init__" dW t.cy t.nE
 jk:Binds K t.nE ["self","name","terms"] []
 jm:gU K "add_voice" "Book.add_voice" dX t.cz t.nF
 jo:Binds K t.nF ["self","name"] []
 tD:Meth K t.a7 "add_voice" t.cz
 fQ:QC K "add_canon" "Book.add_canon" dY t.cA t.je (.ref t.iw)
 tE:Binds K t.je ["self","name","leader","later","slow","is_turned"] [.int 0 t.d7,.int 1 t.ed,.bool false]
 nK:Binds K t.je ["self","name","leader","later","slow","is_turned"] []
 EG:Meth K t.a7 "add_canon" t.cA
 oW:gU K "_law_book_of" "_law_book_of" kK t.iW t.yO
 zb:Binds K t.yO ["_law_book","_law_told"] []
 Q5:mg "_law_book_of"=some (.ref t.iW)
 jX:gU K "__init__" "Book.__init__" eM t.cS t.pL
 pM:Binds K t.pL ["self"] []
 zc:gU K "_law_near" "_law_near" uZ t.rK t.Ly
 LL:Binds K t.Ly ["_law_thing"] []
 aaV:mg "_law_near"=some (.ref t.rK)
 ZX:gU K "law" "law" Pt t.Lz t.ad6
 ahB:Binds K t.ad6 ["_law_script"] []
 ana:mg "law"=some (.ref t.Lz)
 aiH:mg "abs"=none
 aiI:mg "all"=none
 aiJ:mg "any"=none
 ZY:mg "bool"=none
 qC:mg "dict"=none
 qD:mg "enumerate"=none
 Cm:mg "int"=none
 aW:mg "isinstance"=none
 bD:mg "len"=none
 fG:mg "list"=none
 Q6:mg "max"=none
 Q7:mg "min"=none
 i4:mg "range"=none
 Q8:mg "str"=none
 anb:mg "sum"=none
 zd:mg "tuple"=none
 G6:mg "zip"=none
 Bp:mg "GREAT_KINDS"=some (.ref t.dR)
 Br:∀ H,ij K H t.dR [.str "G",.str "D",.str "R"]
 Oc:mg "SMALL_KINDS"=some (.ref t.fq)
 Od:∀ H,ij K H t.fq [.str "s",.str "d",.str "r"]
 JX:mg "PARTING_KINDS"=some (.ref t.dC)
 JY:∀ H,ij K H t.dC [.str ".",.str "3",.str "2"]
 xR:mg "MEASURE_KINDS"=some (.ref t.cT)
 xS:∀ H,ij K H t.cT [.str "3",.str "2"]
 vo:mg "SOUNDING_KINDS"=some (.ref t.cB)
 vq:∀ H,ij K H t.cB [.str "G",.str "D",.str "s",.str "d"]
 LM:mg "SILENT_KINDS"=some (.ref t.ee)
 LN:∀ H,ij K H t.ee [.str "R",.str "r",.str ".",.str "3",.str "2"]
 LO:mg "HIGHEST_TONE"=some (.int 99 t.lE)
 LP:mg "TURNED_KINDS"=some (.ref t.dj)
 JZ:KD K w t.dj [("3",.str "2"),("2",.str "3")]
 LQ:mg "PLAIN_WORTHS"=some (.ref t.dm)
 J0:KD K w t.dm [("G",.int 3),("D",.int 2),("R",.int 3),("s",.int 1),("d",.int 1),("r",.int 1),(".",.int 0),("3",.int 0),("2",.int 0)]
 vt:mg "TWOFOLD_WORTHS"=some (.ref t.bS)
 tF:KD K w t.bS [("G",.int 2),("R",.int 2)]
 Q9:mg "FULL_WORTH"=some (.int 3 t.qy)
 iC:mg "SHORTENED_WORTH"=some (.int 2 t.ix)
 J1:mg "DOUBLED_WORTH"=some (.int 2 t.jT)
 LR:mg "DOTTED_WORTH"=some (.int 3 t.lF)
 aaW:mg "LETTERS"=some (.str "abcdefghijklmnopqrstuvwxyz" t.A3)
 LS:mg "LONGEST_NAME"=some (.int 8 t.lG)
 Oe:mg "MOST_VOICES"=some (.int 12 t.oE)
 Ra:mg "MOST_SIGNS"=some (.int 200 t.qz)
 ad9:mg "LATEST"=some (.int 999 t.Ew)
 aaX:mg "SLOWEST"=some (.int 9 t.A4)
 Vr:mg "Voice"=some (.ref t.dg)
 Vs:Mk K t.dg t.cy
 gL:Cls K t.dg
 fu:jw K t.dg "name"
 eh:jw K t.dg "terms"
 ck:jw K t.dg "signs"
 KG:mg "Deed"=some (.ref t.bx)
 KH:Mk K t.bx t.cR
 e8:Cls K t.bx
 eA:jw K t.bx "things"
 gF:jw K t.bx "at"
 eB:jw K t.bx "before"
 fz:jw K t.bx "after"
 age:mg "Book"=some (.ref t.a7)
 agf:Mk K t.a7 t.cS
 aN:Cls K t.a7
 cm:jw K t.a7 "voices"
 dN:jw K t.a7 "done"
 cM:jw K t.a7 "undone"
noncomputable def cs (t:Adr):Cs:=⟨t.a7,t.dg,t.bx,false,fun r=>match r with
 |.Ky=>0
 |.ZR=>0
 |.Pq=>0
 |.Full=>0
 |.oC=>0
 |.uP=>0
 |.Eg=>0
 |.ZS=>0
 |.aiE=>0
 |.Xf=>0⟩
noncomputable def gf (ns:List Int)(k:Nat):Int:=ns.getD k 0
inductive EH (K:Frag)(vs:List V)(H:Hp)(Q:VK)(E:XK):Prop
 |mk (a:Addr) (ns:List Int) (k:Nat) (dE:vs=[.ref a,.int (k:Int)]) (dF:aO K H a (ns.map V.int)) (eQ:ns.length<=63) (jv:Q (.int (gf ns k)) H):EH K vs H Q E
variable {P:Program} {w:World} {K:Frag} {mg:Str->Option Value} {base:Heap} {t:Adr}
theorem lQ (T:Txt K w mg t):br P w K mg base fK (0+1) t.iL t.yA ["_law_script","_law_k"] (EH K):=by
 refine T.ba.ok QO (fun vs H Q E h=>?_) (fun cdv A outer s H vs Q E hr h=>?_)
 ·obtain⟨a,ns,k,rfl,_⟩:=h;rfl
 ·obtain⟨a,ns,k,rfl,hS,hl,q⟩:=h;refine aR (ag (aU (aw mR (pv 1) (av (AW rfl) rfl T.Q7 Qx (aa aj (aa (av (az.or aA) rfl T.bD bC (aa (pv 0) ae)) ae))) (aG _)) (ah (ax (aT aI (pv 0) (pv 1) (fun _ _=>rfl)))) aD) (ah (ax aj))) ?_;refine⟨_,rfl,_,rfl,.inl ⟨_,_,rfl,.inl hS,_,_,rfl,_,_,rfl,rfl,_,rfl,?_⟩⟩;rw[J'];refine aZ (fun h=>?_) (fun h=>?_)
  ·have hk:k<ns.length:=by
    have:=K' h;split at this <;> omega
   have e:(ns.map V.int)[k]? = some (V.int (gf ns k)):=by
    rw[getElem?_map,G' hk];unfold gf;rw[List.getD_eq_getElem?_getD,G' hk];rfl
   exact⟨_,rfl,_,rfl,.inl ⟨_,_,_,_,rfl,rfl,hS,DX e,q⟩⟩
  ·have hk:ns.length<=k:=by
    have h':¬((k:Int)<if(ns.length:Int)<63 then(ns.length:Int) else 63):=fun z=>h (N' z);split at h' <;> omega
   have e:gf ns k=0:=by
    unfold gf;rw[List.getD_eq_getElem?_getD,List.getElem?_eq_none hk];rfl
   rw[e]at q;exact q
inductive LV (vs:List V)(H:Hp)(Q:VK)(E:XK):Prop
 |mk (seed k:Int) (dE:vs=[.int seed,.int k]) (dF:∀ r:Int,0<=r->r<65521->Q (.int r) H):LV vs H Q E
theorem Cn (T:Txt K w mg t):br P w K mg base fK (0+1) t.m6 t.GL ["_law_seed","_law_k"] LV:=by
 refine T.jf.ok BR (fun vs H Q E h=>?_) (fun cdv A outer s H vs Q E hr h=>?_)
 ·obtain⟨_,_,rfl,_⟩:=h;rfl
 ·obtain⟨seed,k,rfl,q⟩:=h;refine aR (ag (aH (i:=2) BR.nd rfl (Or.inl rfl) (aJ cG (aJ (a8.or (aE.or a9)) (aJ (a8.or (aE.or a9)) (aJ (pC.or pF) (aJ cG (pv 0) aj) aj) (aJ (pC.or pF) (pv 1) aj)) aj) aj)) (ag (aH (i:=3) BR.nd rfl (Or.inl rfl) (aJ cG (aJ (a8.or (aE.or a9)) (aJ (a8.or (aE.or a9)) (aJ (pC.or pF) (pv 2) (pv 2)) (aJ (pC.or pF) (pv 1) aj)) (aJ cG (aJ oy (pv 0) aj) aj)) aj)) (ah (ax (aJ cG (aJ (a8.or (aE.or a9)) (aJ oy (aJ (pC.or pF) (pv 3) (pv 3)) aj) (pv 3)) aj))))) ?_;have p2:(2:Int) ^ 64=18446744073709551616:=by decide
  refine⟨_,rfl,_,_,rfl,rfl,(by decide:(0:Int)<1000003),.inl ⟨_,_,rfl,rfl,.inr ⟨by decide,by decide⟩,_,rfl,.inl ⟨_,_,rfl,rfl,.inr ⟨by decide,by decide⟩,.inl ⟨_,_,rfl,rfl,.inl ⟨_,_,rfl,rfl,_,_,rfl,rfl,(by decide:(0:Int)<1000033),?_⟩⟩⟩⟩⟩;generalize hone:(seed % 1000003 * 48271+k * 30011+17) % 1000033=one;have b1:0<=one/\one<1000033:=by omega
  refine⟨_,rfl,_,rfl,.inl ⟨_,_,rfl,rfl,.inl ⟨by rw[p2];omega,by rw[p2];omega⟩,_,rfl,.inl ⟨_,_,rfl,rfl,.inr ⟨by decide,by decide⟩,.inl ⟨_,_,rfl,rfl,_,rfl,_,_,rfl,rfl,⟨by decide,by decide⟩,_,_,rfl,rfl,(by decide:(0:Int)<997),.inl ⟨_,_,rfl,rfl,_,_,rfl,rfl,(by decide:(0:Int)<999983),?_⟩⟩⟩⟩⟩;generalize ap9:(one * one+k * 613+seed / 1000003 % 997) % 999983=two;have b2:0<=two/\two<999983:=by omega
  refine⟨_,rfl,_,rfl,.inl ⟨_,_,rfl,rfl,.inl ⟨by rw[p2];omega,by rw[p2];omega⟩,_,_,rfl,rfl,⟨by decide,by decide⟩,_,rfl,.inl ⟨_,_,rfl,rfl,_,_,rfl,rfl,(by decide:(0:Int)<65521),?_⟩⟩⟩;exact q _ (by omega) (by omega)
noncomputable def l24:List Kd:=[.G,.G,.G,.G,.G,.s,.s,.s,.s,.s,.s,.s,.s,.s,.d,.d,.r,.r,.D,.R,.dot,.dot,.three,.two]
theorem akS:(Str.ofString "GGGGGsssssssssddrrDR..32").cps.toList=l24.map Kd.cp:=by lk
theorem oX (k:Kd):inS k.str "GDsd"=k.fk:=by cases k <;> decide +kernel
inductive EJ (vs:List V)(H:Hp)(Q:VK)(E:XK):Prop
 |mk (m:Int) (dE:vs=[.int m]) (dF:∀(p:Addr)(s:Sg),jL s->H p=none->Q (.ref p) (upd H p (.tup [.str s.1.str,.int s.2]))):EJ vs H Q E
theorem wx (T:Txt K w mg t):br P w K mg base fK (0+1) t.iN t.yB ["_law_number"] EJ:=by
 refine T.iX.ok Ek (fun vs H Q E h=>?_) (fun cdv A outer s H vs Q E hr h=>?_)
 ·obtain⟨_,rfl,_⟩:=h;rfl
 ·obtain⟨m,rfl,q⟩:=h;refine aR (ag (aH (i:=1) Ek.nd rfl (Or.inl rfl) (aT aI bG (aJ cG (pv 0) aj) (fun _ _=>rfl))) (ag (aU (aw (c7.or c0) (pv 1) bG rfl) (ah (ax (cV (aa (pv 1) (aa (aJ cG (aJ oy (pv 0) aj) aj) ae))))) aD) (ah (ax (cV (aa (pv 1) (aa aj ae))))))) ?_;obtain⟨k,hk⟩:∃ k,l24[(m % 24).toNat]? = some k:=by
   have h1:(m % 24).toNat<l24.length:=by
    show _<24;omega
   exact⟨_,G' h1⟩
  have hat:atI (Str.ofString "GGGGGsssssssssddrrDR..32").cps.toList (m % 24)=some k.cp:=by
   have e0:m % 24=(((m % 24).toNat:Nat):Int):=by omega
   rw[e0,akS];exact DX (by rw[getElem?_map,hk];rfl)
  refine⟨_,rfl,_,_,rfl,rfl,(by decide:(0:Int)<24),.inr (.inr ⟨_,_,_,rfl,rfl,(by lk),hat,?_⟩)⟩;rw[<-akF k];tm_up;refine aZ (fun h=>?_) (fun h=>?_)
  ·have h4:k.fk=true:=by rw[<-oX];exact h
   tm_up;refine⟨(by show 2<=sizeLine;decide),fun p hp=>?_⟩;exact q p (k,m / 24 % 100) ⟨fun _=>by show 0<=m / 24 % 100/\m / 24 % 100<100;omega,fun z=>by rw[h4]at z;cases z⟩ hp
  ·have h4:k.fk=false:=by
    rw[<-oX];exact U'.mpr h
   tm_up;refine⟨(by show 2<=sizeLine;decide),fun p hp=>?_⟩;exact q p (k,0) ⟨(fun z=>by rw[h4]at z;cases z),fun _=>rfl⟩ hp
inductive EK (K:Frag)(vs:List V)(H:Hp)(Q:VK)(E:XK):Prop
 |mk (a:Addr) (ns:List Int) (k m:Nat) (dE:vs=[.ref a,.int (k:Int),.int (m:Int)]) (dF:aO K H a (ns.map V.int)) (eQ:ns.length<=63) (jv:m<=48) (pE:∀(l:Addr)(ms:List Int)(H':Hp),ao H H'->H' l=some (.lst (ms.map V.int))->ms.length<=60->(∀ x∈ms,0<=x)->Q (.ref l) H'):EK K vs H Q E
theorem Rc (T:Txt K w mg t):br P w K mg base fK (0+2) t.iO t.yC ["_law_script","_law_at","_law_many"] (EK K):=by
 have bc:=lQ (P:=P) (base:=base) T;have nM:=Cn (P:=P) (base:=base) T;refine T.oP.ok lq (fun vs H Q E h=>?_) (fun cdv A outer s H vs Q E hr h=>?_)
 ·obtain⟨_,_,_,_,rfl,_⟩:=h;rfl
 ·obtain⟨a,ns,k,m,rfl,hS,hl,hm,q⟩:=h;refine aR (ag (aH (i:=3) lq.nd rfl (Or.inr rfl) (aq bc (hr.mono (by decide)) rfl T.bB T.ba.kp T.bA .nil au (aa (pv 0) (aa (pv 1) ae)))) (ag (aU (aw mR (pv 3) (aJ ac4 aj aj) (aG _)) (ah (ax (kY (cn:=["_law_k"]) rfl (bY.of rfl) (kj rfl T.i4 (aa (pv 2) ae)) (fun _=>(aB (i:=0) Lk rfl (Or.inl rfl))) (fun _=>j0) (fun _=>(aq nM (hr.mono (by decide)) rfl T.rL T.jf.kp T.nG .nil au (aa (aJ (a8.or (aE.or a9)) (pv 4) (aJ (pC.or pF) aj (aq bc (hr.mono (by decide)) rfl T.bB T.ba.kp T.bA .nil au (aa (pv 1) (aa (aJ (a8.or (aE.or a9)) (aJ (a8.or (aE.or a9)) (pv 2) aj) (pv 0)) ae))))) (aa (pv 0) ae))))))) aD) (ag (aH (i:=4) lq.nd rfl (Or.inl rfl) (aJ gT (pv 3) (aJ ac4 aj aj))) (ag (aH (i:=5) lq.nd rfl (Or.inl rfl) (bq ae)) (ag (ye PassesOwn.never (bF (PW.pt (cU (aw UP (pv 4) aj (aG _)) (dn (aw mR (av (az.or aA) rfl T.bD bC (aa (pv 5) ae)) aj (aG _)))))) (ag (aP (eE plainAttrs_list slot_list_append type_list_append a6 (pv 5) (aa (aJ cG (pv 4) aj) ae))) (ah (aH (i:=4) lq.nd rfl (Or.inl rfl) (aJ oy (pv 4) aj))))) (ah (ax (pv 5)))))))) ?_;refine⟨_,rfl,_,rfl,a,ns,k,rfl,hS,hl,?_⟩;refine⟨_,rfl,_,_,rfl,rfl,⟨by decide,by decide,by decide⟩,_,_,rfl,rfl,_,rfl,?_⟩;refine aZ (fun _=>?_) (fun _=>?_)
  ·refine⟨_,rfl,(m:Int),rfl,(by omega),(by omega),fun D b hD=>?_⟩;refine KZ (lo:=0) (n:=((m:Int)).toNat) (fun i ys σ H'=>∃(v:Option V)(ms:List Int),σ=[v,some (.ref a),some (.int (k:Int)),some (.int (m:Int)),some (.int (gf ns k)),none,none]/\H'=upd H D (.lst ys)/\ys=ms.map V.int/\ms.length=i/\∀ x∈ms,0<=x) ⟨none,[],rfl,rfl,rfl,rfl,fun _ h=>nomatch h⟩ ?_ ?_
   ·rintro i ys σ H' hi ⟨v,ms,rfl,rfl,rfl,hlen,hpos⟩ N hN;refine fi ?_;refine⟨_,rfl,_,rfl,_,rfl,.inl ⟨_,_,rfl,rfl,_,rfl,.inl ⟨_,_,rfl,rfl,a,ns,k+1+i,?_,ip hS hD,hl,.inl ⟨_,_,rfl,rfl,.inl ⟨by decide,by decide⟩,?_⟩⟩⟩⟩
    ·show [V.ref a,V.int ((k:Int)+1+(0+(i:Int)))]=[V.ref a,V.int ((k+1+i:Nat):Int)];have e:(k:Int)+1+(0+(i:Int))=((k+1+i:Nat):Int):=by omega
     rw[e]
    ·refine .inl ⟨_,_,rfl,rfl,_,rfl,_,_,rfl,fun r h0 h1=>⟨af,?_,?_⟩⟩
     ·rw[J'];exact aQ (by omega)
     ·refine hN _ _ _ ⟨some _,ms++[r],rfl,df,by simp,by simp[hlen],fun x hx=>?_⟩;rcases mem_append.mp hx with z|z
      ·exact hpos x z
      ·have:x=r:=by simpa using z
       omega
   ·rintro ys σ H' ⟨v,ms,rfl,rfl,rfl,hlen,hpos⟩;exact q D ms _ (ao.upd hD) af (by omega) hpos
  ·refine⟨_,rfl,_,_,rfl,rfl,⟨by decide,by decide,by decide⟩,_,_,rfl,rfl,(by decide),fun l hl0=>?_⟩;refine⟨fun mm σ H'=>∃(left:Int)(ms:List Int),σ=[some (.ref a),some (.int (k:Int)),some (.int (m:Int)),some (.int (gf ns k)),some (.int left),some (.ref l)]/\H'=upd H l (.lst (ms.map V.int))/\mm=60-ms.length/\ms.length<=60/\∀ x∈ms,0<=x,
    ⟨60,_,[],rfl,rfl,rfl,Nat.zero_le _,fun _ h=>nomatch h⟩,?_⟩
   rintro mm σ H' ⟨left,ms,rfl,rfl,rfl,hlen,hpos⟩;refine iF (decide (0<left)&&decide ((ms.length:Int)<60)) ?_ ?_
   ·refine⟨_,rfl,_,_,rfl,rfl,_,rfl,?_⟩;refine aZ (fun h=>?_) (fun h=>?_)
    ·refine⟨_,rfl,.inl ⟨l,_,rfl,.inl (aO.of af),_,_,rfl,rfl,_,rfl,?_⟩⟩;rw[J'];exact⟨by rw[h,Bool.true_and],rfl⟩
    ·exact⟨by rw[U'.mpr h];rfl,rfl⟩
   refine aZ (fun h60=>?_) (fun _=>?_)
   ·have aqb:ms.length<60:=by
     have:=K' (Bool.and_eq_true_iff.mp h60).2;omega
    refine⟨fun σ' H'=>∃ m',m'<60-ms.length/\∃(left:Int)(ms:List Int),σ'=[some (.ref a),some (.int (k:Int)),some (.int (m:Int)),some (.int (gf ns k)),some (.int left),some (.ref l)]/\H'=upd H l (.lst (ms.map V.int))/\m'=60-ms.length/\ms.length<=60/\∀ x∈ms,0<=x,fun _ _ h=>h,?_⟩;refine⟨_,rfl,.inl ⟨rfl,_,aO.of af⟩,_,rfl,_,_,rfl,rfl,(by decide:(0:Int)<2400),l,_,_,rfl,rfl,af,(by rw[J'];exact aQ (by omega)),_,rfl,_,_,rfl,rfl,⟨by decide,by decide⟩,60-(ms.length+1),by omega,_,ms++[left % 2400],rfl,?_,by simp,by simp;omega,fun x hx=>?_⟩
    ·rw[df,map_append];rfl
    ·rcases mem_append.mp hx with z|z
     ·exact hpos x z
     ·have:x=left % 2400:=by simpa using z
      omega
   ·exact⟨_,rfl,q l ms _ (ao.upd hl0) af (by omega) hpos⟩
inductive PH (K:Frag)(vs:List V)(H:Hp)(Q:VK)(E:XK):Prop
 |mk (a:Addr) (ns:List Int) (k m:Nat) (dE:vs=[.ref a,.int (k:Int),.int (m:Int)]) (dF:aO K H a (ns.map V.int)) (eQ:ns.length<=63) (jv:m<=48) (pE:∀(l:Addr)(xs:List V)(ss:List Sg)(H':Hp),ao H H'->H l=none->H' l=some (.lst xs)->iq H' xs ss->(∀ s∈ss,jL s)->ss.length<=60->Q (.ref l) H'):PH K vs H Q E
theorem aaY (T:Txt K w mg t):br P w K mg base fK (0+3) t.rm t.Lp ["_law_script","_law_at","_law_many"] (PH K):=by
 have oY:=wx (P:=P) (base:=base) T;have Vt:=Rc (P:=P) (base:=base) T;refine T.yQ.ok aaL (fun vs H Q E h=>?_) (fun cdv A outer s H vs Q E hr h=>?_)
 ·obtain⟨_,_,_,_,rfl,_⟩:=h;rfl
 ·obtain⟨a,ns,k,m,rfl,hS,hl,hm,q⟩:=h;refine aR (ah (ax (kY (cn:=["_law_number"]) rfl (bY.of rfl) (cu (aq Vt (hr.mono (by decide)) rfl T.QW T.oP.kp T.yP .nil au (aa (pv 0) (aa (pv 1) (aa (pv 2) ae))))) (fun _=>(aB (i:=0) Vm rfl (Or.inl rfl))) (fun _=>j0) (fun _=>(aq oY (hr.mono (by decide)) rfl T.wa T.iX.kp T.oO .nil au (aa (pv 0) ae)))))) ?_;refine⟨_,rfl,_,rfl,_,rfl,a,ns,k,m,rfl,hS,hl,hm,fun l ms H1 s1 hl1 hlen hpos=>⟨l,rfl,⟨_,aO.of hl1⟩,fun D b hD=>?_⟩⟩;refine eJ (K:=K) (xs:=ms.map V.int) (fun i ys σ H'=>∃(v:Option V)(ss:List Sg),σ=[v,some (.ref a),some (.int (k:Int)),some (.int (m:Int))]/\ao H1 H'/\H' D=some (.lst ys)/\iq H' ys ss/\ss.length=i/\i<=ms.length/\∀ s∈ss,jL s)
   ⟨none,[],rfl,ao.upd hD,af,.nil,rfl,Nat.zero_le _,fun _ h=>nomatch h⟩ ?_ ?_ ?_
  ·rintro i ys σ H' ⟨v,ss,rfl,s2,_⟩;exact s2.seq (aO.of hl1)
  ·rintro i ys x σ H' hx ⟨v,ss,rfl,s2,ui,hsg,hsl,hi,hg⟩ N hN;have hil:i<ms.length:=by
    have:=(C'.mp hx).1;rw[J']at this;exact this
   obtain⟨z,hz,rfl⟩:=yo hx;refine fi ?_;refine⟨_,rfl,z,rfl,fun p s gs hp=>⟨ao.upd hp _ _ ui,?_,?_⟩⟩
   ·rw[bh hsg,hsl];exact aQ (by omega)
   ·have hD4:=ao.upd (o:=.tup [.str s.1.str,.int s.2]) hp _ _ ui;refine hN _ _ _ ⟨_,ss++[s],rfl,cD (s2.trans (ao.upd hp)) hD,af,fL (K6 hD4 (hsg.same (ao.upd hp))) (Pl hD4 ⟨p,rfl,af⟩),by simp[hsl],hil,fun y hy=>?_⟩;rcases mem_append.mp hy with z|z
    ·exact hg y z
    ·have:y=s:=by simpa using z
     rw[this];exact gs
  ·rintro ys σ H' ⟨v,ss,rfl,s2,ui,hsg,hsl,hi,hg⟩;refine q D ys ss H' (s1.trans s2) (s1.free hD) ui hsg hg ?_;rw[hsl,J'];omega
noncomputable def nine:List Str:=["ann","bo","cy","dora","eve","ann","bo","cy","dora"]
noncomputable def G7 (r k:Nat):Str:=nine.getD (r+k) ""
noncomputable def xnK (k:Nat):Str:=["xg","xf","xa","xb","xc","xd","xe"].getD k ""
theorem akT:(List.range 5).all (fun r=>(List.range 6).all fun m=>decide (((List.range m).map (G7 r)++(List.range 7).map xnK).Nodup)&&((List.range m).map (G7 r)++(List.range 7).map xnK).all fun n=>nameB n && !decide (n = "zed")&&decide (n.length<=1000))=true:=by lk
theorem agg {r k:Nat}(hr:r<5)(hk:k<5):(nine.drop r)[k]? = some (G7 r k):=by
 rw[getElem?_drop];unfold G7;have:r+k<nine.length:=by show r+k<9;omega
 rw[List.getD_eq_getElem?_getD,G' this];rfl
noncomputable def strip (t:Addr)(H:Hp):Hp:=fun b=>if b=t then none else H b
theorem eC {t b:Addr}{H:Hp}{o:HO}(n:b≠t)(h:H b=some o):strip t H b=some o:=by
 unfold strip;rw[if_neg n,h]
theorem ze (t:Addr)(H:Hp):ao (strip t H) H:=fun b o h=>by
 unfold strip at h
 by_cases e:b=t
 ·rw[if_pos e]at h;exact nomatch h
 ·rwa [if_neg e]at h
theorem kc {t:Addr}{H H':Hp}(s:ao H H'):ao (strip t H) (strip t H'):=fun b o h=>by
 unfold strip at *
 by_cases e:b=t
 ·rw[if_pos e]at h;exact nomatch h
 ·rw[if_neg e] at *;exact s _ _ h
theorem aaZ (t:Addr)(H:Hp)(o:HO):strip t (upd H t o)=strip t H:=by
 funext b
 unfold strip
 by_cases e:b=t
 ·rw[if_pos e,if_pos e]
 ·rw[if_neg e,if_neg e,ak e]
theorem iq.strip {t:Addr}{H:Hp}{xs:List V}(h:H t=some (.lst xs)):∀{ys:List V} {ss:List Sg},iq H ys ss->iq (strip t H) ys ss:=fun g=>aY (fun y s=>by
 rintro⟨p,e1,e2⟩;exact⟨p,e1,eC (fun e=>by rw[e,h]at e2;exact nomatch e2) e2⟩) g
structure EI (r pn:Nat)(nsx:List Str)(vw:Vw):Prop where
 n:vw.map (·.1)=nsx
 p:∀(j:Nat) q,vw[j]? = some q->j<pn->∃ ss,q.2=.pl ss
 g:∀ q∈vw,(∃ ss,q.2=.pl ss/\ss.length<=24/\∀ s∈ss,jL s)\/(∃ c lt sl tn,c<pn/\q.2=.cn (G7 r c) lt sl tn/\(0<=lt/\lt<=999/\1<=sl/\sl<=9))
theorem EI.plus {r pn:Nat}{nsx:List Str}{vw:Vw}(h:EI r pn nsx vw){n:Str}{ss:List Sg}(hs:ss.length<=24)(hg:∀ s∈ss,jL s):EI r pn (nsx++[n]) (vw++[(n,.pl ss)]) where
 n:=by rw[map_append,h.n];rfl
 p:=fun j q e hj=>by
  by_cases hlt:j<vw.length
  ·rw[getElem?_append_left hlt]at e;exact h.p j q e hj
  ·have:q∈[(n,Th.pl ss)]:=by
    rw[getElem?_append_right (by omega)]at e;exact X' e
   rw[mem_singleton.mp this];exact⟨ss,rfl⟩
 g:=fun q hq=>by
  rcases mem_append.mp hq with hq|hq
  ·exact h.g q hq
  ·rw[mem_singleton.mp hq];exact .inl ⟨ss,rfl,hs,hg⟩
theorem EI.more {r pn:Nat}{nsx:List Str}{vw:Vw}(h:EI r pn nsx vw){n:Str}{c:Nat}{lt sl:Int}{tn:Bool}(hl:pn<=vw.length)(hc:c<pn)(hk:(0<=lt/\lt<=999/\1<=sl/\sl<=9)):EI r pn (nsx++[n]) (vw++[(n,.cn (G7 r c) lt sl tn)]) where
 n:=by rw[map_append,h.n];rfl
 p:=fun j q e hj=>by
  rw[getElem?_append_left (by omega)]at e;exact h.p j q e hj
 g:=fun q hq=>by
  rcases mem_append.mp hq with hq|hq
  ·exact h.g q hq
  ·rw[mem_singleton.mp hq];exact .inr ⟨c,lt,sl,tn,hc,rfl,hk⟩
theorem EI.ok {r pn m x:Nat}{vw:Vw}(h:EI r pn ((List.range m).map (G7 r)++(List.range x).map xnK) vw)(hr:r<5)(hm:m<6)(hx:x=0\/x=7)(hp:pn<=m):Ej vw:=by
 have h1:=all_eq_true.mp (all_eq_true.mp akT r (mem_range.mpr hr)) m (mem_range.mpr hm);rw[Bool.and_eq_true,decide_eq_true_eq,all_eq_true]at h1;have sub:List.Sublist ((List.range m).map (G7 r)++(List.range x).map xnK) ((List.range m).map (G7 r)++(List.range 7).map xnK):=by
  rcases hx with rfl|rfl
  ·exact List.Sublist.append_left (List.nil_sublist _) _
  ·exact List.Sublist.refl _
 have nd:(vw.map (·.1)).Nodup:=by rw[h.n];exact sub.nodup h1.1
 have vl:vw.length=m+x:=by
  have:=congrArg List.length h.n;rw[J',T',J',J',length_range,length_range]at this;exact this
 have ld:∀(i:Nat) n ld lt sl tn,vw[i]? = some (n,Th.cn ld lt sl tn)->(∃ ss,(ld,Th.pl ss)∈vw.take i)/\(0<=lt/\lt<=999/\1<=sl/\sl<=9):=by
  intro i n ld lt sl tn e;have hi:¬ i<pn:=fun hi=>by
   obtain⟨ss,hss⟩:=h.p i _ e hi;exact nomatch hss
  rcases h.g _ (X' e) with ⟨ss,hss,_⟩|⟨c,lt',sl',tn',hc,hcn,hk⟩
  ·exact nomatch hss
  ·have hcn:Th.cn ld lt sl tn=Th.cn (G7 r c) lt' sl' tn':=hcn
   injection hcn with e1 e2 e3 e4
   subst e1 e2 e3 e4;refine⟨?_,hk⟩;have hcl:c<vw.length:=by omega
   obtain⟨ss,hss⟩:=h.p c _ (G' hcl) hc;have hn:(vw[c]).1=G7 r c:=by
    have e5:(vw.map (·.1))[c]? = some (vw[c]).1:=by rw[getElem?_map,G' hcl];rfl
    rw[h.n,getElem?_append_left (by rw[J',length_range];omega),getElem?_map,List.getElem?_range (by omega)]at e5;exact(W' e5).symm
   refine⟨ss,?_⟩;have e6:(vw.take i)[c]? = some (G7 r c,Th.pl ss):=by
    rw[List.getElem?_take_of_lt (by omega),G' hcl];exact congrArg some (Prod.ext hn hss)
   exact X' e6
 refine⟨⟨nd,fun n l lt sl tn hq=>?_,fun n ss hq=>?_,by omega⟩,fun q hq=>?_,fun i n l lt sl tn e=>(ld i n l lt sl tn e).1,fun n ss hq=>?_⟩
 ·obtain⟨i,e⟩:=getElem?_of_mem hq;obtain⟨⟨ss,hss⟩,hk⟩:=ld i n l lt sl tn e;exact⟨⟨ss,List.mem_of_mem_take hss⟩,hk⟩
 ·rcases h.g _ hq with ⟨ss',e,h2,h3⟩|⟨_,_,_,_,_,e,_⟩
  ·have e:Th.pl ss=Th.pl ss':=e
   injection e with e
   subst e;exact⟨by omega,h3⟩
  ·exact nomatch e
 ·have hn:q.1∈vw.map (·.1):=List.mem_map_of_mem hq;rw[h.n]at hn;have:=h1.2 _ (sub.mem hn);rw[Bool.and_eq_true,Bool.and_eq_true,Bool.not_eq_true',decide_eq_false_iff_not,decide_eq_true_eq]at this;exact⟨this.1.1,this.1.2,this.2⟩
 ·rcases h.g _ hq with ⟨ss',e,h2,h3⟩|⟨_,_,_,_,_,e,_⟩
  ·have e:Th.pl ss=Th.pl ss':=e
   injection e with e
   subst e;exact h2
  ·exact nomatch e
theorem aiL {H:Hp}{t:Addr}{ys zs:List V}{vw:Vw}{p:Addr}{n:Str}{v:V}{th:Th}(ht:H t=some (.lst zs))(pv:Paired (Ei (strip t H)) ys vw)(hp:H p=none)(hv:ThV (strip t H) v th):Paired (Ei (strip t (upd H p (.tup [.str n,v])))) (ys++[.ref p]) (vw++[(n,th)]):=by
 have s:=ao.upd (o:=.tup [.str n,v]) hp;refine BK (aY (fun _ _ q=>q.same (kc s)) pv) (.cons ⟨p,v,rfl,eC (fun e=>by rw[e,ht]at hp;exact nomatch hp) af,hv.same (kc s)⟩ .nil)
theorem Vu {H H':Hp}{t:Addr}{o:HO}(s:ao H H')(n:H t=none):ao H (upd H' t o):=fun b u h=>by
 rw[ak (fun e=>by rw[e,n]at h;exact nomatch h)];exact s _ _ h
theorem Co {H H5:Hp}{t p m1:Addr}{ys ns:List V}{vw:Vw}{n:Str}{v:V}{th:Th}(s:ao H H5)(nt:H t=none)(ht:H5 t=some (.lst ys))(hm:H5 m1=some (.lst ns))(nm:m1≠t)(pv:Paired (Ei (strip t H5)) ys vw)(hp:H5 p=none)(hv:ThV (strip t H5) v th):∀ H6,H6=upd (upd H5 p (.tup [.str n,v])) t (.lst (ys++[.ref p]))->ao H H6/\H6 m1=some (.lst ns)/\H6 t=some (.lst (ys++[.ref p]))/\Paired (Ei (strip t H6)) (ys++[.ref p]) (vw++[(n,th)]):=by
 rintro H6 rfl;have s1:=s.trans (ao.upd (o:=.tup [.str n,v]) hp);refine⟨Vu s1 nt,?_,af,?_⟩
 ·rw[ak nm];exact ao.upd hp _ _ hm
 ·rw[aaZ];exact aiL ht pv hp hv
theorem aiM:(List.range 7).all (fun i=>match (Str.ofString "gfabcde").cps.toList[i]? with|some c=>decide ((Str.ofString "x")++(⟨#[c]⟩:Str)=xnK i)&&decide ((Str.ofString "x").length+(⟨#[c]⟩:Str).length<=1000)|none=>false)=true:=by lk
theorem akV {i:Nat}(h:i<7):∃ c,(Str.ofString "gfabcde").cps.toList[i]? = some c/\(Str.ofString "x")++(⟨#[c]⟩:Str)=xnK i/\(Str.ofString "x").length+(⟨#[c]⟩:Str).length<=1000:=by
 have h1:=all_eq_true.mp aiM i (mem_range.mpr h);cases e:(Str.ofString "gfabcde").cps.toList[i]? with
 |none=>rw[e]at h1;exact nomatch h1
 |some c =>
  rw[e]at h1;have h2:=Bool.and_eq_true_iff.mp h1;exact⟨c,rfl,K' h2.1,K' h2.2⟩
inductive EL (K:Frag)(vs:List V)(H:Hp)(Q:VK)(E:XK):Prop
 |mk (a:Addr) (ns:List Int) (dE:vs=[.ref a]) (dF:aO K H a (ns.map V.int)) (eQ:ns.length<=63) (jv:∀(l:Addr)(vw:Vw)(H':Hp),ao H H'->H l=none->lj H' l vw->Ej vw->Q (.ref l) H'):EL K vs H Q E
theorem Rg (T:Txt K w mg t):br P w K mg base fK (0+4) t.iP t.yD ["_law_script"] (EL K):=by
 have bc:=lQ (P:=P) (base:=base) T;have nM:=Cn (P:=P) (base:=base) T;have aeb:=aaY (P:=P) (base:=base) T;have oY:=wx (P:=P) (base:=base) T;refine T.oQ.ok bN (fun vs H Q E h=>?_) (fun cdv A outer s H vs Q E hr h=>?_)
 ·obtain⟨_,_,rfl,_⟩:=h;rfl
 ·obtain⟨a,ns,rfl,hS,hl,q⟩:=h;obtain⟨xV,xW⟩:∃ v:List (Str×Pos),v=yz:=⟨_,rfl⟩;have hbody:ay fS=Stmt.Assign [Expr.Name "_law_names" ⟨350,4,350,14⟩] (Expr.List (xV.map fun c=>Expr.Constant (.str c.1) 0 c.2) ⟨350,17,350,78⟩) ⟨350,4,350,78⟩::(ay fS).drop 1:=by subst xW;rfl
  rw[hbody];refine aR (ag (adA (i:=1) xV bN.nd rfl (Or.inl rfl)) (ag (aH (i:=1) bN.nd rfl (Or.inl rfl) (iI (kX.or (qW.or qX)) (pv 1) (gh (aJ cG (aJ oy (aq bc (hr.mono (by decide)) rfl T.bB T.ba.kp T.bA .nil au (aa (pv 0) (aa aj ae))) aj) aj)) kW)) (ag (aH (i:=2) bN.nd rfl (Or.inl rfl) (aJ cG (aq bc (hr.mono (by decide)) rfl T.bB T.ba.kp T.bA .nil au (aa (pv 0) (aa aj ae))) aj)) (ag (aH (i:=3) bN.nd rfl (Or.inl rfl) (bq ae)) (ag (cE PassesOwn.never rfl (kj rfl T.i4 (aa (pv 2) ae)) (aB (i:=4) bN.nd rfl (Or.inr rfl)) (ag (aH (i:=5) bN.nd rfl (Or.inl rfl) (aJ cG (aq nM (hr.mono (by decide)) rfl T.rL T.jf.kp T.nG .nil au (aa (aq bc (hr.mono (by decide)) rfl T.bB T.ba.kp T.bA .nil au (aa (pv 0) (aa aj ae))) (aa (pv 4) ae))) aj)) (ah (aP (eE plainAttrs_list slot_list_append type_list_append a6 (pv 3) (aa (cV (aa (aT aI (pv 1) (pv 4) (fun _ _=>rfl)) (aa (iI (kX.or (qW.or qX)) (aq aeb (hr.mono (by decide)) rfl T.aaR T.yQ.kp T.LB .nil au (aa (pv 0) (aa (aJ (a8.or (aE.or a9)) aj (aJ (pC.or pF) aj (pv 4))) (aa (pv 5) ae)))) kW (gh aj)) ae))) ae)))))) (ag (cE PassesOwn.never rfl (kj rfl T.i4 (aa (aJ (pC.or pF) (aJ cG (aJ oy (aq bc (hr.mono (by decide)) rfl T.bB T.ba.kp T.bA .nil au (aa (pv 0) (aa aj ae))) aj) aj) (bH (qH.or gM) rfl T.Cm BH (aa (cC UP (pv 2) aj (aG _)) ae))) ae)) (aB (i:=4) bN.nd rfl (Or.inr rfl)) (ag (aH (i:=6) bN.nd rfl (Or.inl rfl) (aq bc (hr.mono (by decide)) rfl T.bB T.ba.kp T.bA .nil au (aa (pv 0) (aa (aJ (a8.or (aE.or a9)) aj (pv 4)) ae)))) (ag (aH (i:=7) bN.nd rfl (Or.inl rfl) (dJ (gI (aw (bQ.or (bo (aM hr))) (aJ cG (pv 6) aj) aj (aG _)) (aJ cG (pv 6) aj) (aJ cG (aJ oy (pv 6) aj) aj)))) (ag (aH (i:=8) bN.nd rfl (Or.inl rfl) (aJ (a8.or (aE.or a9)) aj (aJ cG (aq bc (hr.mono (by decide)) rfl T.bB T.ba.kp T.bA .nil au (aa (pv 0) (aa (aJ (a8.or (aE.or a9)) aj (pv 4)) ae))) (aT aI (bq (aa aj (aa aj ae))) (bH (qH.or gM) rfl T.Cm BH (aa (cC UP (aJ cG (pv 6) aj) aj (aG _)) ae)) (fun _ _=>rfl))))) (ag (aH (i:=9) bN.nd rfl (Or.inl rfl) (aT aI (pv 1) (aJ cG (aq bc (hr.mono (by decide)) rfl T.bB T.ba.kp T.bA .nil au (aa (pv 0) (aa (aJ (a8.or (aE.or a9)) aj (pv 4)) ae))) (pv 2)) (fun _ _=>rfl))) (ah (aP (eE plainAttrs_list slot_list_append type_list_append a6 (pv 3) (aa (cV (aa (aT aI (pv 1) (aJ (a8.or (aE.or a9)) (pv 2) (pv 4)) (fun _ _=>rfl)) (aa (cV (aa (pv 9) (aa (pv 7) (aa (pv 8) (aa (cC (bQ.or (bo (aM hr))) (aJ cG (aJ oy (pv 6) aj) aj) aj (aG _)) ae))))) ae))) ae))))))))) (ag (cE PassesOwn.never rfl (kj rfl T.i4 (aa (aJ (pC.or pF) aj (bH (qH.or gM) rfl T.Cm BH (aa (cC (bQ.or (bo (aM hr))) (aJ cG (aJ oy (aq bc (hr.mono (by decide)) rfl T.bB T.ba.kp T.bA .nil au (aa (pv 0) (aa aj ae))) aj) aj) aj (aG _)) ae))) ae)) (aB (i:=4) bN.nd rfl (Or.inr rfl)) (ag (vG (i:=10) bN.nd rfl rfl (cn:=["_law_j"]) rfl (bY.of rfl) (kj rfl T.i4 (aa (aJ (a8.or (aE.or a9)) (aJ cG (aq bc (hr.mono (by decide)) rfl T.bB T.ba.kp T.bA .nil au (aa (pv 0) (aa aj ae))) aj) aj) ae)) (fun _=>(aB (i:=0) Ll rfl (Or.inl rfl))) (fun _=>j0) (fun _=>(aq nM (hr.mono (by decide)) rfl T.rL T.jf.kp T.nG .nil au (aa (aq bc (hr.mono (by decide)) rfl T.bB T.ba.kp T.bA .nil au (aa (pv 1) (aa aj ae))) (aa (aJ (a8.or (aE.or a9)) (aJ (a8.or (aE.or a9)) (aJ (pC.or pF) aj (pv 5)) (pv 0)) aj) ae))))) (ah (aP (eE plainAttrs_list slot_list_append type_list_append a6 (pv 3) (aa (cV (aa (aJ (a8.or (aE.or a9)) bG (aT aI bG (pv 4) (fun _ _=>rfl))) (aa (kY (cn:=["_law_number"]) rfl (bY.of rfl) (cu (pv 10)) (fun _=>(aB (i:=0) Lm rfl (Or.inl rfl))) (fun _=>j0) (fun _=>(aq oY (hr.mono (by decide)) rfl T.wa T.iX.kp T.oO .nil au (aa (pv 0) ae)))) ae))) ae)))))) (ah (ax (pv 3)))))))))) ?_;subst xW;refine yr fun N hN=>?_;refine⟨by show 9<=sizeLine;decide,fun m0 hm0=>?_⟩;have e9:(yz.map fun c=>V.str c.1)=nine.map V.str:=rfl;rw[e9];have s0:=ao.upd (o:=.lst (nine.map V.str)) hm0;have h0:=af (H:=H) (a:=m0) (o:=.lst (nine.map V.str));generalize upd H m0 (.lst (nine.map V.str))=H0 at s0 h0;obtain⟨r,hr,hr5⟩:=N4 (gf ns 0 / 12) (k:=5) (by decide);obtain⟨pn,hpn,hp4⟩:=N4 (gf ns 0) (k:=4) (by decide);have hr5:r<5:=by omega
  have hp4:pn<4:=by omega
  refine hN _ _ ?_;refine yr fun N hN=>?_;tm_up;refine⟨a,ns,0,rfl,s0.seq hS,hl,?_⟩;tm_up;rw[hr];refine .inl ⟨m0,_,rfl,aO.of h0,fun m1 hm1=>?_⟩;rw[Ed _ r (by rw[J'];show r<=9;omega)];have s1:=s0.trans (ao.upd (o:=.lst ((nine.map V.str).drop r)) hm1);have h1:=af (H:=H0) (a:=m1) (o:=.lst ((nine.map V.str).drop r));generalize upd H0 m1 (.lst ((nine.map V.str).drop r))=H1 at s1 h1;have nms:∀ k,k<5->((nine.map V.str).drop r)[k]? = some (.str (G7 r k)):=fun k hk=>by
   rw[<-List.map_drop,getElem?_map,agg hr5 hk];rfl
  refine hN _ _ ?_;refine yr fun N hN=>?_;tm_up;refine⟨a,ns,0,rfl,s1.seq hS,hl,?_⟩;tm_up;rw[show V.int ((gf ns 0) % 4)=V.int (pn:Int) from congrArg V.int hpn];refine hN _ _ ?_;refine yr fun N hN=>?_;refine⟨big (by show 0<=1000;omega),fun tl htl=>?_⟩;have s2:=s1.trans (ao.upd (o:=.lst []) htl);have h2:=ao.upd (o:=.lst []) htl _ _ h1;have ht2:=af (H:=H1) (a:=tl) (o:=.lst []);have ntm:m1≠tl:=ar h1 htl;have ntl:H tl=none:=s1.free htl;generalize upd H1 tl (.lst [])=H2 at s2 h2 ht2;have Of:(2:Int) ^ 62=4611686018427387904:=by decide
  refine hN _ _ ?_;refine yr fun N hN=>?_;refine⟨_,rfl,(pn:Int),rfl,by rw[Of];omega,by rw[Of];omega,?_⟩;refine km (n:=((pn:Int)).toNat) (fun i σ H'=>∃(u v:Option V)(ys:List V)(vw:Vw),σ=[some (.ref a),some (.ref m1),some (.int (pn:Int)),some (.ref tl),u,v,none,none,none,none,none]/\ao H H'/\H' m1=some (.lst ((nine.map V.str).drop r))/\H' tl=some (.lst ys)/\Paired (Ei (strip tl H')) ys vw/\vw.length=i/\EI r pn ((List.range i).map (G7 r)) vw)
   ⟨none,none,[],[],rfl,s2,h2,ht2,.nil,rfl,⟨rfl,fun j q e=>by simp at e,fun q h=>nomatch h⟩⟩ ?_ ?_
  ·rintro i σ H3 hi ⟨u,v,ys,vw,rfl,s3,h3,ht3,pv3,vl,ei⟩;have hi4:i<4:=by omega
   have yl:=bh pv3;refine⟨_,rfl,a,ns,1,rfl,s3.seq hS,hl,?_⟩;refine⟨_,rfl,_,_,rfl,fun sz hsz0 hsz1=>?_⟩;obtain⟨m,hm,aqc⟩:=N4 sz (k:=13) (by decide);refine⟨_,_,rfl,rfl,(by decide:(0:Int)<13),?_⟩;rw[show V.int (sz % 13)=V.int (m:Int) from congrArg V.int hm];refine⟨_,rfl,.inl ⟨rfl,_,aO.of ht3⟩,?_⟩;refine⟨_,rfl,_,rfl,QI (aO.of h3) (n:=i) (by omega) (nms i (by omega)) ?_⟩;tm_up;refine⟨.inl ⟨by decide,by decide⟩,?_⟩;refine .inl ⟨_,_,rfl,rfl,?_⟩;refine⟨_,rfl,?_⟩;refine⟨a,ns,8+18 * i,m,by show [V.ref a,V.int (8+18 * (0+(i:Int))),V.int (m:Int)]=_;rw[show(8:Int)+18 * (0+(i:Int))=((8+18 * i:Nat):Int) by omega],s3.seq hS,hl,by omega,fun l0 xs0 ss0 H4 s4 n4 h4 g4 gt4 agh=>?_⟩;tm_up;refine .inl ⟨l0,xs0,rfl,aO.of h4,fun l hl0=>?_⟩;rw[show BG xs0 none (some 24)=xs0.take 24 from ZN xs0 24];have ht4:=s4 _ _ ht3;have s5:=s4.trans (ao.upd (o:=.lst (xs0.take 24)) hl0);have nl:l≠tl:=fun e=>by rw[e,ht4]at hl0;exact nomatch hl0
   have h5:upd H4 l (.lst (xs0.take 24)) l=some (.lst (xs0.take 24)):=af;have g5:iq (upd H4 l (.lst (xs0.take 24))) (xs0.take 24) (ss0.take 24):=iq.same (ao.upd (o:=.lst (xs0.take 24)) hl0) (Ju 24 g4);have gt5:∀ s∈ss0.take 24,jL s:=fun s hs=>gt4 s (List.mem_of_mem_take hs);have aee:(ss0.take 24).length<=24:=by rw[length_take];omega
   generalize upd H4 l (.lst (xs0.take 24))=H5 at s5 h5 g5;generalize xs0.take 24=xs at h5 g5;generalize ss0.take 24=ss at g5 gt5 aee;have ht5:=s5 _ _ ht3;tm_up;refine⟨big (by show 2<=1000;omega),fun p hp=>?_⟩;tm_up;have ht6:upd H5 p (.tup [.str (G7 r i),.ref l]) tl=some (.lst ys):=ao.upd hp _ _ ht5;refine⟨tl,ys,_,rfl,rfl,ht6,aQ (by omega),?_⟩;obtain⟨s6,h6,t6,p6⟩:=Co (n:=G7 r i) (s3.trans s5) ntl ht5 (s5 _ _ h3) ntm (aY (fun _ _ q=>q.same (kc s5)) pv3) hp (th:=.pl ss) ⟨l,xs,rfl,eC nl h5,iq.strip ht5 g5⟩ _ rfl;exact⟨_,_,_,_,rfl,s6,h6,t6,p6,by rw[T',vl];rfl,by rw[List.range_succ,map_append];exact ei.plus aee gt5⟩
  rintro σ H3 ⟨u,v,ys,vw,rfl,s3,h3,ht3,pv3,vl,ei⟩;rw[show((pn:Int)).toNat=pn by omega]at vl ei;refine hN _ _ ?_;refine yr fun N hN=>?_;tm_up;refine⟨a,ns,0,rfl,s3.seq hS,hl,?_⟩;tm_up;refine .inl (.inr ⟨_,rfl,?_⟩);obtain⟨cn,hcn,aqe,hcp⟩:∃ cn:Nat,(gf ns 0 / 4 % 3) * (if decide ((pn:Int) > 0)=true then 1 else 0)=(cn:Int)/\cn<=2/\(0<cn->0<pn):=by
   obtain⟨m,hm,hm3⟩:=N4 (gf ns 0 / 4) (k:=3) (by decide)
   by_cases h:(pn:Int) > 0
   ·exact⟨m,by rw[hm,if_pos (N' h)];omega,by omega,by omega⟩
   ·exact⟨0,by rw[if_neg (by simpa using h)];omega,by omega,by omega⟩
  have b3:=Int.emod_lt_of_pos (gf ns 0 / 4) (show(0:Int)<3 by decide);have c3:=Int.emod_nonneg (gf ns 0 / 4) (show(3:Int)≠0 by decide);have p64:(2:Int) ^ 64=18446744073709551616:=by decide
  refine .inl ⟨_,_,rfl,rfl,.inl ⟨by rw[p64];omega,by rw[p64];omega⟩,?_⟩;rw[show V.int ((gf ns 0 / 4 % 3) * (if decide ((pn:Int) > 0)=true then 1 else 0))=V.int (cn:Int) from congrArg V.int hcn];refine⟨(cn:Int),rfl,by rw[Of];omega,by rw[Of];omega,?_⟩;refine km (n:=((cn:Int)).toNat) (fun i σ H'=>∃(u v w1 w2 w3 w4:Option V)(ys:List V)(vw:Vw),σ=[some (.ref a),some (.ref m1),some (.int (pn:Int)),some (.ref tl),u,v,w1,w2,w3,w4,none]/\ao H H'/\H' m1=some (.lst ((nine.map V.str).drop r))/\H' tl=some (.lst ys)/\Paired (Ei (strip tl H')) ys vw/\vw.length=pn+i/\EI r pn ((List.range (pn+i)).map (G7 r)) vw)
   ⟨_,_,_,_,_,_,_,_,rfl,s3,h3,ht3,pv3,vl,ei⟩ ?_ ?_
  ·rintro i σ H4 hi ⟨u,v,w1,w2,w3,w4,ys,vw,rfl,s4,h4,ht4,pv4,vl,ei⟩;have aqf:0<pn:=hcp (by omega);have yl:=bh pv4;tm_up;refine⟨a,ns,2+i,by show [V.ref a,V.int (2+(0+(i:Int)))]=_;rw[show(2:Int)+(0+(i:Int))=((2+i:Nat):Int) by omega],s4.seq hS,hl,?_⟩;generalize gf ns (2+i)=cl;refine⟨fun x H'=>H'=H4/\∃ lt:Int,x=.int lt/\0<=lt/\lt<=999,?_,?_⟩
   ·tm_up;show if decide (V.int (cl % 7)=V.int 5)=true then _ else _;cases decide (V.int (cl % 7)=V.int 5) with
    |true =>
     refine pG ?_;tm_up;exact⟨rfl,_,rfl,by have:=Int.emod_nonneg cl (show(1000:Int)≠0 by decide);omega,by have:=Int.emod_lt_of_pos cl (show(0:Int)<1000 by decide);omega⟩
    |false =>
     refine cv ?_;tm_up;exact⟨rfl,_,rfl,by have:=Int.emod_nonneg (cl / 7) (show(12:Int)≠0 by decide);omega,by have:=Int.emod_lt_of_pos (cl / 7) (show(0:Int)<12 by decide);omega⟩
   rintro _ H' ⟨e,lt,rfl,lt0,lt9⟩;rw[e];clear e H';tm_up;refine⟨a,ns,4+i,by show [V.ref a,V.int (4+(0+(i:Int)))]=_;rw[show(4:Int)+(0+(i:Int))=((4+i:Nat):Int) by omega],s4.seq hS,hl,?_⟩;generalize gf ns (4+i)=c4;tm_up;refine⟨big (by show 2<=1000;omega),fun q0 hq0=>?_⟩;have s5:=ao.upd (o:=.lst [V.int 9,V.int 2]) hq0;have hq5:=af (H:=H4) (a:=q0) (o:=.lst [V.int 9,V.int 2]);generalize upd H4 q0 (.lst [V.int 9,V.int 2])=H5 at s5 hq5;tm_up;refine .inl (.inr ⟨_,rfl,?_⟩);obtain⟨n5,d5,e5,x5,d50,d59⟩:∃(n:Nat)(d:Int),(if decide (0<cl % 3)=true then(1:Int) else 0)=(n:Int)/\[V.int 9,V.int 2][n]? = some (.int d)/\0<d/\d<=9:=by
    by_cases h:0<cl % 3
    ·exact⟨1,2,by rw[if_pos (N' h)];rfl,rfl,by decide,by decide⟩
    ·exact⟨0,9,by rw[if_neg (by simpa using h)];rfl,rfl,by decide,by decide⟩
   refine QI (aO.of hq5) (n:=n5) e5 x5 ?_;tm_up;refine⟨d50,?_⟩;tm_up;obtain⟨sl,hsl⟩:∃ z,z=1+c4 % d5:=⟨_,rfl⟩;have sl1:1<=sl:=by have:=Int.emod_nonneg c4 (show d5≠0 by omega);omega
   have sl9:sl<=9:=by have:=Int.emod_lt_of_pos c4 d50;omega
   refine⟨a,ns,6+i,by show [V.ref a,V.int (6+(0+(i:Int)))]=_;rw[show(6:Int)+(0+(i:Int))=((6+i:Nat):Int) by omega],(s4.trans s5).seq hS,hl,?_⟩;generalize gf ns (6+i)=c6;obtain⟨c,hc,hcl⟩:=N4 c6 (k:=(pn:Int)) (by omega);tm_up;refine⟨(by omega:(0:Int)<(pn:Int)),?_⟩;refine QI (aO.of (s5 _ _ h4)) (n:=c) hc (nms c (by omega)) ?_;tm_up;refine⟨.inl ⟨rfl,_,aO.of (s5 _ _ ht4)⟩,?_⟩;tm_up;refine QI (aO.of (s5 _ _ h4)) (n:=pn+i) (by omega) (nms (pn+i) (by omega)) ?_;tm_up;refine⟨big (by show 4<=1000;omega),fun p0 hp0=>?_⟩;obtain⟨tn,htn⟩:∃ z,z=decide (V.int (cl / 84 % 2)=V.int 1):=⟨_,rfl⟩;have e6:upd H5 p0 (.tup [V.str (G7 r c),V.int lt,V.int (1+c4 % d5),V.bl (decide (V.int (cl / 84 % 2)=V.int 1))])=upd H5 p0 (.tup [V.str (G7 r c),V.int lt,V.int sl,V.bl tn]):=by rw[hsl,htn]
   have s6:=s5.trans (ao.upd (o:=.tup [V.str (G7 r c),V.int lt,V.int sl,V.bl tn]) hp0);have h6:=af (H:=H5) (a:=p0) (o:=.tup [V.str (G7 r c),V.int lt,V.int sl,V.bl tn]);have np0:p0≠tl:=fun e=>by rw[e,s5 _ _ ht4]at hp0;exact nomatch hp0
   have go:∀ H6,H6=upd H5 p0 (.tup [V.str (G7 r c),V.int lt,V.int (1+c4 % d5),V.bl (decide (V.int (cl / 84 % 2)=V.int 1))])->ao H4 H6/\H6 p0=some (.tup [V.str (G7 r c),V.int lt,V.int sl,V.bl tn]):=by
    rintro H6 rfl;rw[e6];exact⟨s6,h6⟩
   clear s6 h6;generalize hH6:upd H5 p0 _=H6;obtain⟨s6,h6⟩:=go H6 hH6.symm;clear go e6;have ht6:=s6 _ _ ht4;tm_up;refine⟨big (by show 2<=1000;omega),fun p hp=>?_⟩;tm_up;have ht7:upd H6 p (.tup [.str (G7 r (pn+i)),.ref p0]) tl=some (.lst ys):=ao.upd hp _ _ ht6;refine⟨tl,ys,_,rfl,rfl,ht7,aQ (by omega),?_⟩;obtain⟨s8,h8,t8,p8⟩:=Co (n:=G7 r (pn+i)) (s4.trans s6) ntl ht6 (s6 _ _ h4) ntm (aY (fun _ _ q=>q.same (kc s6)) pv4) hp (th:=.cn (G7 r c) lt sl tn) ⟨p0,rfl,eC np0 h6⟩ _ rfl;exact⟨_,_,_,_,_,_,_,_,rfl,s8,h8,t8,p8,by rw[T',vl];rfl,by rw[<-Nat.add_assoc,List.range_succ,map_append];exact ei.more (by omega) (by omega) ⟨lt0,lt9,sl1,sl9⟩⟩
  rintro σ H4 ⟨u,v,w1,w2,w3,w4,ys,vw,rfl,s4,h4,ht4,pv4,vl,ei⟩;rw[show((cn:Int)).toNat=cn by omega]at vl ei;refine hN _ _ ?_;refine yr fun N hN=>?_;tm_up;refine⟨a,ns,0,rfl,s4.seq hS,hl,?_⟩;tm_up;refine .inl (.inr ⟨_,rfl,?_⟩);obtain⟨xn,hxn,hx7⟩:∃ xn:Nat,7 * (if decide (V.int (gf ns 0 / 180 % 8)=V.int 1)=true then(1:Int) else 0)=(xn:Int)/\(xn=0\/xn=7):=by
   cases decide (V.int (gf ns 0 / 180 % 8)=V.int 1)
   ·exact⟨0,by rw[if_neg (by decide)];rfl,.inl rfl⟩
   ·exact⟨7,by rw[if_pos rfl];rfl,.inr rfl⟩
  refine .inl ⟨_,_,rfl,rfl,.inl ⟨by decide,by decide⟩,?_⟩;rw[show V.int (7 * (if decide ((fun i j:Int=>V.int (i % j)) (gf ns 0 / 180) 8=V.int 1)=true then 1 else 0))=V.int (xn:Int) from congrArg V.int hxn];refine⟨(xn:Int),rfl,by rw[Of];omega,by rw[Of];omega,?_⟩;refine km (n:=((xn:Int)).toNat) (fun i σ H'=>∃(u v w1 w2 w3 w4 w5:Option V)(ys:List V)(vw:Vw),σ=[some (.ref a),some (.ref m1),some (.int (pn:Int)),some (.ref tl),u,v,w1,w2,w3,w4,w5]/\ao H H'/\H' m1=some (.lst ((nine.map V.str).drop r))/\H' tl=some (.lst ys)/\Paired (Ei (strip tl H')) ys vw/\vw.length=pn+cn+i/\EI r pn ((List.range (pn+cn)).map (G7 r)++(List.range i).map xnK) vw)
   ⟨_,_,_,_,_,_,_,_,_,rfl,s4,h4,ht4,pv4,vl,by rw[show(List.range 0).map xnK=[] from rfl,append_nil];exact ei⟩ ?_ ?_
  ·rintro i σ H5 hi ⟨u,v,w1,w2,w3,w4,w5,ys,vw,rfl,s5,h5,ht5,pv5,vl,ei⟩;have hi7:i<7:=by omega
   have yl:=bh pv5;tm_up;refine⟨a,ns,6,rfl,s5.seq hS,hl,?_⟩;generalize gf ns 6=c6;obtain⟨jn,hjn,hj3⟩:=N4 c6 (k:=3) (by decide);tm_up;refine⟨by rw[Of];omega,by rw[Of];omega,fun D b hD=>?_⟩;refine KZ (lo:=0) (n:=(c6 % 3+1).toNat) (fun j zs σ H'=>∃(x:Option V)(ms:List Int),σ=[x,some (.ref a),some (.ref m1),some (.int (pn:Int)),some (.ref tl),some (.int (0+(i:Int))),v,w1,w2,w3,w4,w5]/\H'=upd H5 D (.lst zs)/\zs=ms.map V.int/\ms.length=j) ⟨none,[],rfl,rfl,rfl,rfl⟩ ?_ ?_
   ·rintro j zs σ H' hj ⟨x,ms,rfl,rfl,rfl,hlen⟩ N hN;refine fi ?_;tm_up;refine⟨a,ns,1,rfl,ip (s5.seq hS) hD,hl,?_⟩;tm_up;refine⟨.inl ⟨by decide,by decide⟩,?_⟩;tm_up;refine⟨_,_,rfl,fun r h0 h1=>⟨af,?_,?_⟩⟩
    ·rw[J'];exact aQ (by omega)
    ·exact hN _ _ _ ⟨some _,ms++[r],rfl,df,by simp,by simp[hlen]⟩
   ·rintro zs σ H' ⟨x,ms,rfl,rfl,rfl,hlen⟩;have s6:=ao.upd (o:=.lst (ms.map V.int)) hD;have h6:=af (H:=H5) (a:=D) (o:=.lst (ms.map V.int));generalize upd H5 D (.lst (ms.map V.int))=H6 at s6 h6;have ht6:=s6 _ _ ht5;obtain⟨cx,hcx,ecx⟩:=akV hi7;tm_up;refine⟨.inl ⟨rfl,_,aO.of ht6⟩,?_⟩;tm_up;refine .inr (.inr ⟨_,_,cx,rfl,rfl,big (by lk),?_,?_⟩)
    ·rw[show(0:Int)+(i:Int)=(i:Int) by omega];exact DX hcx
    tm_up;refine .inr (.inl ⟨_,_,rfl,rfl,big ecx.2,?_⟩);rw[ecx.1];tm_up;refine⟨⟨_,aO.of h6⟩,fun D2 b2 hD2=>?_⟩;refine eJ (K:=K) (xs:=ms.map V.int) (fun j zs σ H'=>∃(x:Option V)(ss:List Sg),σ=[x,some (.ref a),some (.ref m1),some (.int (pn:Int)),some (.ref tl),some (.int (0+(i:Int))),v,w1,w2,w3,w4,some (.ref D)]/\ao H6 H'/\H' D2=some (.lst zs)/\iq H' zs ss/\ss.length=j/\j<=ms.length/\∀ s∈ss,jL s)
     ⟨none,[],rfl,ao.upd hD2,af,.nil,rfl,Nat.zero_le _,fun _ h=>nomatch h⟩ ?_ ?_ ?_
    ·rintro j zs σ H' ⟨x,ss,rfl,s7,_⟩;exact s7.seq (aO.of h6)
    ·rintro j zs x σ H' hx ⟨x2,ss,rfl,s7,ui,hsg,hsl,hj,hg⟩ N hN;have hjl:j<ms.length:=by
      have:=(C'.mp hx).1;rw[J']at this;exact this
     obtain⟨z,hz,rfl⟩:=yo hx;refine fi ?_;refine⟨_,rfl,z,rfl,fun p s gs hp=>⟨ao.upd hp _ _ ui,?_,?_⟩⟩
     ·rw[bh hsg,hsl];exact aQ (by omega)
     ·have hD4:=ao.upd (o:=.tup [.str s.1.str,.int s.2]) hp _ _ ui;refine hN _ _ _ ⟨_,ss++[s],rfl,cD (s7.trans (ao.upd hp)) hD2,af,fL (K6 hD4 (hsg.same (ao.upd hp))) (Pl hD4 ⟨p,rfl,af⟩),by simp[hsl],hjl,fun y hy=>?_⟩;rcases mem_append.mp hy with z|z
      ·exact hg y z
      ·have:y=s:=by simpa using z
       rw[this];exact gs
    ·rintro zs σ H7 ⟨x2,ss,rfl,s7,ui,hsg,hsl,hj,hg⟩;have ht7:=s7 _ _ ht6;have nD2:D2≠tl:=fun e=>by rw[e,ht6]at hD2;exact nomatch hD2
     have s57:=s6.trans s7;have anj:ss.length<=24:=by rw[hsl,J'];omega
     tm_up;refine⟨big (by show 2<=1000;omega),fun p hp=>?_⟩;tm_up;have ht8:upd H7 p (.tup [.str (xnK i),.ref D2]) tl=some (.lst ys):=ao.upd hp _ _ ht7;refine⟨tl,ys,_,rfl,rfl,ht8,aQ (by omega),?_⟩;obtain⟨s8,h8,t8,p8⟩:=Co (n:=xnK i) (s5.trans s57) ntl ht7 (s57 _ _ h5) ntm (aY (fun _ _ q=>q.same (kc s57)) pv5) hp (th:=.pl ss) ⟨D2,zs,rfl,eC nD2 ui,iq.strip ht7 hsg⟩ _ rfl;exact⟨_,_,_,_,_,_,_,_,_,rfl,s8,h8,t8,p8,by rw[T',vl];rfl,by rw[List.range_succ,map_append,<-List.append_assoc];exact ei.plus anj hg⟩
  rintro σ H5 ⟨u,v,w1,w2,w3,w4,w5,ys,vw,rfl,s5,h5,ht5,pv5,vl,ei⟩;rw[show((xn:Int)).toNat=xn by omega]at vl ei;refine hN _ _ ?_;tm_up;exact q tl vw H5 s5 ntl ⟨ys,ht5,aY (fun _ _ q=>q.same (ze tl H5)) pv5⟩ (ei.ok hr5 (by omega) hx7 (by omega))
inductive EM (C:Addr)(vs:List V)(H:Hp)(Q:VK)(E:XK):Prop
 |mk (x dx T_ B A:Addr) (i:Nat) (xs bs as:List V) (dE:vs=[.ref x]) (dF:H x=some (.ins C dx (La T_ (i:Int) B A))) (eQ:H T_=some (.lst xs)) (jv:H B=some (.lst bs)) (pE:H A=some (.lst as)) (Pa:T_≠B) (h6_:i+as.length<=xs.length) (h7_:xs.length+bs.length<=1000) (h8_:Q .non (upd H T_ (.lst (xs.take i++bs++xs.drop (i+as.length))))):EM C vs H Q E
theorem qE (T:Txt K w mg t):br P w K mg base fK (0+1) t.fU t.yE ["self"] (EM t.bx):=by
 refine T.sV.ok QP (fun vs H Q E h=>?_) (fun cdv A outer s H vs Q E hr h=>?_)
 ·obtain⟨_,_,_,_,_,_,_,_,_,rfl,_⟩:=h;rfl
 ·obtain⟨x,dx,T_,B,A_,i,xs,bs,as,rfl,hx,hT,hB,hA,hne,hi,hz,q⟩:=h;refine aR (ah (kS (cj (pv 0) rfl) (U5 (cj (pv 0) rfl) (gh (cj (pv 0) rfl)) (gh (aJ (a8.or (aE.or a9)) (cj (pv 0) rfl) (av (az.or aA) rfl T.bD bC (aa (cj (pv 0) rfl) ae))))))) ?_;refine⟨_,rfl,x,_,dx,_,_,rfl,hx,T.e8,T.eB,Lc _ _ _ _,?_⟩;refine⟨_,rfl,x,_,dx,_,_,rfl,hx,T.e8,T.eA,Lb _ _ _ _,?_⟩;refine⟨_,rfl,x,_,dx,_,_,rfl,hx,T.e8,T.gF,QL _ _ _ _,_,rfl,?_⟩;refine⟨_,rfl,x,_,dx,_,_,rfl,hx,T.e8,T.gF,QL _ _ _ _,?_⟩;refine⟨_,rfl,x,_,dx,_,_,rfl,hx,T.e8,T.fz,Pn _ _ _ _,?_⟩;refine .inl ⟨A_,as,rfl,.inl (aO.of hA),.inl ⟨_,_,rfl,rfl,_,rfl,?_⟩⟩;refine⟨T_,B,xs,bs,(i:Int),((i+as.length:Nat):Int),rfl,rfl,rfl,by simp,hT,hB,hne,by omega,by omega,by omega,Nat.le_trans hz (by decide),?_⟩;rw[Int.toNat_natCast,Int.toNat_natCast];exact q
inductive EN (c:Cs)(vs:List V)(H:Hp)(Q:VK)(E:XK):Prop
 |mk (x:Addr) (F:Addr->Prop) (vw:Vw) (ps fs:List Vw) (dE:vs=[.ref x]) (dF:BP c H x F vw ps fs) (eQ:ps.length+fs.length<=900) (jv:(ps=[]->∀ H',ao H H'->RX E c .Xf H')) (pE:(∀ Jw v,ps=Jw++[v]->∀ H',Fr F H H'->BP c H' x F v Jw (fs++[vw])->Q .non H')):EN c vs H Q E
theorem wz (T:Txt K w mg t):br P w K mg base fK (0+2) t.fV t.yF ["self"] (EN (cs t)):=by
 have tG:=qE (P:=P) (base:=base) T;refine T.sW.ok El (fun vs H Q E h=>?_) (fun cdv A outer s H vs Q E hr h=>?_)
 ·obtain⟨_,_,_,_,_,rfl,_⟩:=h;rfl
 ·obtain⟨x,F,vw,ps,fs,rfl,B,hps,q1,q2⟩:=h;refine aR (ag (aU (aw (Gy (aM hr)) (cj (pv 0) rfl) (bq ae) (aG _)) (ah iH) aD) (ag (aH (i:=1) El.nd rfl (Or.inl rfl) (Qs plainAttrs_list slot_list_pop type_list_pop ado (cj (pv 0) rfl))) (ag (aP (d4 (pv 1) T.e8 T.QY tG (hr.mono (by decide)) T.yS .nil au)) (ah (aP (eE plainAttrs_list slot_list_append type_list_append a6 (cj (pv 0) rfl) (aa (pv 1) ae))))))) ?_;obtain⟨L,D,U,all,M,Ps,Fs,es,us,b,iM,pp,pf,f⟩:=B.ex;obtain⟨dx,hx⟩:=b.hx;obtain⟨ds,hD,pD⟩:=b.hD;have dl:=bh pD;have pl:=bh pp;have pe:=b.past.len;refine⟨_,rfl,x,_,dx,_,_,rfl,hx,T.aN,T.dN,Ef _ _ _,big (by show 0<=1000;omega),fun e0 ZZ=>?_⟩;have s0:=ao.upd (o:=.lst []) ZZ;refine⟨D,e0,ds,rfl,rfl,aO.of (s0 _ _ hD),aO.of af,_,rfl,?_⟩;generalize upd H e0 (.lst [])=H0 at s0;refine aZ (fun h=>?_) (fun h=>?_)
  ·have hds:ds=[]:=List.isEmpty_iff.mp h;rw[hds]at dl;have hp0:ps=[]:=List.length_eq_zero_iff.mp (by rw[<-pl,pe,<-dl];rfl);have q:=q1 hp0 H0 s0;exact(Bool.noConfusion (show false=true from q.1))
  have hne:ds≠[]:=fun z=>h (by rw[z];rfl);obtain⟨ds0,v,rfl⟩:∃ ds0 v,ds=ds0++[v]:=⟨ds.dropLast,ds.getLast hne,(List.dropLast_concat_getLast hne).symm⟩;obtain⟨es0,e,he,pD0,hd⟩:=Le pD;have hvo:=hd.1;subst hvo;have B0:=B.same s0;have b0:=b.kept f (.same s0);have hd0:qw t.bx H0 (.ref e.o) e:=kq (F:=fun _=>True) (.same s0) ⟨trivial,trivial⟩ hd;have ok:=b.dd e (.inl (by rw[he];exact mem_append_right _ (List.mem_singleton_self _)));obtain⟨hT,TD,TU⟩:=b0.lists ok.1;have nTB:e.T≠e.B:=by
   rcases ok.1 with z|⟨a,ha,z⟩
   ·rw[z];exact Ne.symm ok.2.1.1
   ·rw[z];exact Ne.symm (ok.2.1.2.2.2 a ha)
  obtain⟨Ps0,S,_,_,ft,hMS⟩:=(he ▸ b.past).last;have fit:e.i+e.as.length<=(M e.T).length:=by rw[hMS];exact agb ft
  have hx0:=s0 _ _ hx;have hD0:=s0 _ _ hD;obtain⟨ux,WE,pU⟩:=b0.hU;have anl:(M e.T).length<=200:=by
   rcases ok.1 with z|⟨a,ha,z⟩
   ·rw[z];exact Nat.le_trans (b.wf M (.inr (.inl rfl))).len (by decide)
   ·rw[z];exact((b.wf M (.inr (.inl rfl))).ln a ha).1
  refine⟨_,rfl,x,_,dx,_,_,rfl,hx0,T.aN,T.dN,Ef _ _ _,?_⟩;refine⟨.inl ⟨rfl,_,aO.of hD0⟩,D,ds0++[V.ref e.o],V.ref e.o,rfl,rfl,hD0,by simp,?_⟩;rw[List.dropLast_concat];have nD:∀{y C d fs},H0 y=some (.ins C d fs)->y≠D:=fun hy=>mQ hy hD0 (by intro z;cases z);have nT:∀{y C d fs},H0 y=some (.ins C d fs)->y≠e.T:=fun hy=>mQ hy hT (by intro z;cases z);have r1:∀{y o},H0 y=some o->y≠D->upd H0 D (.lst ds0) y=some o:=fun hy hn=>by rw[ak hn];exact hy
  refine⟨_,rfl,e.o,e.d,_,rfl,r1 hd0.2.1 (nD hd0.2.1),Vi _ _ _ _,?_⟩;refine⟨e.o,e.d,e.T,e.B,e.A,e.i,M e.T,e.bs,e.as,rfl,r1 hd0.2.1 (nD hd0.2.1),r1 hT TD,r1 hd0.2.2.1 ok.2.1.2.1,r1 hd0.2.2.2 ok.2.2.1.2.1,nTB,fit,by have:=ok.2.2.2.1;omega,?_⟩;have r2:∀{y o},H0 y=some o->y≠D->y≠e.T->upd (upd H0 D (.lst ds0)) e.T (.lst ((M e.T).take e.i++e.bs++(M e.T).drop (e.i+e.as.length))) y=some o:=fun hy hn hn'=>by rw[ak hn',ak hn];exact hy
  refine⟨_,rfl,x,_,dx,_,_,rfl,r2 hx0 (nD hx0) (nT hx0),T.aN,T.cM,vK _ _ _,?_⟩;have hU1:=r2 WE (Ne.symm b.DU) (Ne.symm TU);have ul:=bh pU;have fl:=bh pf;have fe:=b.fut.len;refine⟨.inl ⟨rfl,_,aO.of hU1⟩,_,rfl,U,_,_,rfl,rfl,hU1,aQ (by omega),?_⟩;obtain⟨Jw,v,e1,B2⟩:=Bk.aiC b0 (Is.kept (F:=F) (.same s0) iM) (aY (fun _ _ q=>Is.kept (F:=F) (.same s0) q) pp) (aY (fun _ _ q=>Is.kept (F:=F) (.same s0) q) pf) f B.wv he (vL (fun _ e' _ q=>kq (F:=fun _=>True) (.same s0) ⟨trivial,trivial⟩ q) pD0) hd0 pU
   (H2:=upd (upd (upd H0 D (.lst ds0)) e.T (.lst ((M e.T).take e.i++e.bs++(M e.T).drop (e.i+e.as.length)))) U (.lst (ux++[.ref e.o]))) (fun y o hy y1 y2 y3=>by rw[ak y3];exact r2 hy y2 y1) (by rw[ak TU,af];exact congrArg (fun z=>some (HO.lst z)) gp.symm) (by rw[ak b.DU,ak (Ne.symm TD),af]) af
  refine q2 Jw v e1 _ (fun y o hy hn=>?_) B2;have fT:F e.T:=by
   rcases ok.1 with z|⟨a,ha,z⟩
   ·rw[z];exact f.L
   ·rw[z];exact f.l a ha
  rw[ak (show y≠U from fun z=>hn (z ▸ f.U))];exact r2 (s0 _ _ hy) (fun z=>hn (z ▸ f.D)) (fun z=>hn (z ▸ fT))
inductive LW (C:Addr)(vs:List V)(H:Hp)(Q:VK)(E:XK):Prop
 |mk (x dx T_ B A:Addr) (i:Nat) (xs bs as:List V) (dE:vs=[.ref x]) (dF:H x=some (.ins C dx (La T_ (i:Int) B A))) (eQ:H T_=some (.lst xs)) (jv:H B=some (.lst bs)) (pE:H A=some (.lst as)) (Pa:T_≠A) (h6_:i+bs.length<=xs.length) (h7_:xs.length+as.length<=1000) (h8_:Q .non (upd H T_ (.lst (xs.take i++as++xs.drop (i+bs.length))))):LW C vs H Q E
theorem LX (T:Txt K w mg t):br P w K mg base fK (0+1) t.kM t.GN ["self"] (LW t.bx):=by
 refine T.A5.ok Xg (fun vs H Q E h=>?_) (fun cdv A outer s H vs Q E hr h=>?_)
 ·obtain⟨_,_,_,_,_,_,_,_,_,rfl,_⟩:=h;rfl
 ·obtain⟨x,dx,T_,B,A_,i,xs,bs,as,rfl,hx,hT,hB,hA,hne,hi,hz,q⟩:=h;refine aR (ah (kS (cj (pv 0) rfl) (U5 (cj (pv 0) rfl) (gh (cj (pv 0) rfl)) (gh (aJ (a8.or (aE.or a9)) (cj (pv 0) rfl) (av (az.or aA) rfl T.bD bC (aa (cj (pv 0) rfl) ae))))))) ?_;refine⟨_,rfl,x,_,dx,_,_,rfl,hx,T.e8,T.fz,Pn _ _ _ _,?_⟩;refine⟨_,rfl,x,_,dx,_,_,rfl,hx,T.e8,T.eA,Lb _ _ _ _,?_⟩;refine⟨_,rfl,x,_,dx,_,_,rfl,hx,T.e8,T.gF,QL _ _ _ _,_,rfl,?_⟩;refine⟨_,rfl,x,_,dx,_,_,rfl,hx,T.e8,T.gF,QL _ _ _ _,?_⟩;refine⟨_,rfl,x,_,dx,_,_,rfl,hx,T.e8,T.eB,Lc _ _ _ _,?_⟩;refine .inl ⟨B,bs,rfl,.inl (aO.of hB),.inl ⟨_,_,rfl,rfl,_,rfl,?_⟩⟩;refine⟨T_,A_,xs,as,(i:Int),((i+bs.length:Nat):Int),rfl,rfl,rfl,by simp,hT,hA,hne,by omega,by omega,by omega,Nat.le_trans hz (by decide),?_⟩;rw[Int.toNat_natCast,Int.toNat_natCast];exact q
inductive EO (c:Cs)(vs:List V)(H:Hp)(Q:VK)(E:XK):Prop
 |mk (x:Addr) (F:Addr->Prop) (vw:Vw) (ps fs:List Vw) (dE:vs=[.ref x]) (dF:BP c H x F vw ps fs) (eQ:ps.length+fs.length<=900) (jv:(fs=[]->∀ H',ao H H'->RX E c .Xf H')) (pE:(∀ fs0 v,fs=fs0++[v]->∀ H',Fr F H H'->BP c H' x F v (ps++[vw]) fs0->Q .non H')):EO c vs H Q E
theorem ER (T:Txt K w mg t):br P w K mg base fK (0+2) t.fW t.yG ["self"] (EO (cs t)):=by
 have G8:=LX (P:=P) (base:=base) T;refine T.sX.ok Em (fun vs H Q E h=>?_) (fun cdv A outer s H vs Q E hr h=>?_)
 ·obtain⟨_,_,_,_,_,rfl,_⟩:=h;rfl
 ·obtain⟨x,F,vw,ps,fs,rfl,B,hps,q1,q2⟩:=h;refine aR (ag (aU (aw (Gy (aM hr)) (cj (pv 0) rfl) (bq ae) (aG _)) (ah iH) aD) (ag (aH (i:=1) Em.nd rfl (Or.inl rfl) (Qs plainAttrs_list slot_list_pop type_list_pop ado (cj (pv 0) rfl))) (ag (aP (d4 (pv 1) T.e8 T.LC G8 (hr.mono (by decide)) T.A6 .nil au)) (ah (aP (eE plainAttrs_list slot_list_append type_list_append a6 (cj (pv 0) rfl) (aa (pv 1) ae))))))) ?_;obtain⟨L,D,U,all,M,Ps,Fs,es,us,b,iM,pp,pf,f⟩:=B.ex;obtain⟨dx,hx⟩:=b.hx;obtain⟨ux,hU,pU⟩:=b.hU;have ul:=bh pU;have fl:=bh pf;have fe:=b.fut.len;refine⟨_,rfl,x,_,dx,_,_,rfl,hx,T.aN,T.cM,vK _ _ _,big (by show 0<=1000;omega),fun e0 ZZ=>?_⟩;have s0:=ao.upd (o:=.lst []) ZZ;refine⟨U,e0,ux,rfl,rfl,aO.of (s0 _ _ hU),aO.of af,_,rfl,?_⟩;generalize upd H e0 (.lst [])=H0 at s0;refine aZ (fun h=>?_) (fun h=>?_)
  ·have hds:ux=[]:=List.isEmpty_iff.mp h;rw[hds]at ul;have hp0:fs=[]:=List.length_eq_zero_iff.mp (by rw[<-fl,fe,<-ul];rfl);have q:=q1 hp0 H0 s0;exact(Bool.noConfusion (show false=true from q.1))
  have hne:ux≠[]:=fun z=>h (by rw[z];rfl);obtain⟨ux0,v,rfl⟩:∃ ux0 v,ux=ux0++[v]:=⟨ux.dropLast,ux.getLast hne,(List.dropLast_concat_getLast hne).symm⟩;obtain⟨us0,e,he,pU0,hd⟩:=Le pU;have hvo:=hd.1;subst hvo;have b0:=b.kept f (.same s0);have hd0:qw t.bx H0 (.ref e.o) e:=kq (F:=fun _=>True) (.same s0) ⟨trivial,trivial⟩ hd;have ok:=b.dd e (.inr (by rw[he];exact mem_append_right _ (List.mem_singleton_self _)));obtain⟨hT,TD,TU⟩:=b0.lists ok.1;have nTA:e.T≠e.A:=by
   rcases ok.1 with z|⟨a,ha,z⟩
   ·rw[z];exact Ne.symm ok.2.2.1.1
   ·rw[z];exact Ne.symm (ok.2.2.1.2.2.2 a ha)
  obtain⟨Fs0,_,ft,_⟩:=(he ▸ b.fut).last;have fit:=ft.1;have hx0:=s0 _ _ hx;have WE:=s0 _ _ hU;obtain⟨ds,hD0,pD⟩:=b0.hD;have anl:(M e.T).length<=200:=by
   rcases ok.1 with z|⟨a,ha,z⟩
   ·rw[z];exact Nat.le_trans (b.wf M (.inr (.inl rfl))).len (by decide)
   ·rw[z];exact((b.wf M (.inr (.inl rfl))).ln a ha).1
  refine⟨_,rfl,x,_,dx,_,_,rfl,hx0,T.aN,T.cM,vK _ _ _,?_⟩;refine⟨.inl ⟨rfl,_,aO.of WE⟩,U,ux0++[V.ref e.o],V.ref e.o,rfl,rfl,WE,by simp,?_⟩;rw[List.dropLast_concat];have nU:∀{y C d fs},H0 y=some (.ins C d fs)->y≠U:=fun hy=>mQ hy WE (by intro z;cases z);have nT:∀{y C d fs},H0 y=some (.ins C d fs)->y≠e.T:=fun hy=>mQ hy hT (by intro z;cases z);have r1:∀{y o},H0 y=some o->y≠U->upd H0 U (.lst ux0) y=some o:=fun hy hn=>by rw[ak hn];exact hy
  refine⟨_,rfl,e.o,e.d,_,rfl,r1 hd0.2.1 (nU hd0.2.1),Po _ _ _ _,?_⟩;refine⟨e.o,e.d,e.T,e.B,e.A,e.i,M e.T,e.bs,e.as,rfl,r1 hd0.2.1 (nU hd0.2.1),r1 hT TU,r1 hd0.2.2.1 ok.2.1.2.2.1,r1 hd0.2.2.2 ok.2.2.1.2.2.1,nTA,fit,by have:=ok.2.2.2.2;omega,?_⟩;have r2:∀{y o},H0 y=some o->y≠U->y≠e.T->upd (upd H0 U (.lst ux0)) e.T (.lst ((M e.T).take e.i++e.as++(M e.T).drop (e.i+e.bs.length))) y=some o:=fun hy hn hn'=>by rw[ak hn',ak hn];exact hy
  refine⟨_,rfl,x,_,dx,_,_,rfl,r2 hx0 (nU hx0) (nT hx0),T.aN,T.dN,Ef _ _ _,?_⟩;have hD1:=r2 hD0 b.DU (Ne.symm TD);have dl:=bh pD;have pl:=bh pp;have pe:=b.past.len;refine⟨.inl ⟨rfl,_,aO.of hD1⟩,_,rfl,D,_,_,rfl,rfl,hD1,aQ (by omega),?_⟩;obtain⟨fs0,v,e1,B2⟩:=Bk.aiD b0 (Is.kept (F:=F) (.same s0) iM) (aY (fun _ _ q=>Is.kept (F:=F) (.same s0) q) pp) (aY (fun _ _ q=>Is.kept (F:=F) (.same s0) q) pf) f B.wv he pD hd0 (vL (fun _ e' _ q=>kq (F:=fun _=>True) (.same s0) ⟨trivial,trivial⟩ q) pU0)
   (H2:=upd (upd (upd H0 U (.lst ux0)) e.T (.lst ((M e.T).take e.i++e.as++(M e.T).drop (e.i+e.bs.length)))) D (.lst (ds++[.ref e.o]))) (fun y o hy y1 y2 y3=>by rw[ak y2];exact r2 hy y3 y1) (by rw[ak TD,af];exact congrArg (fun z=>some (HO.lst z)) gp.symm) af (by rw[ak (Ne.symm b.DU),ak (Ne.symm TU),af])
  refine q2 fs0 v e1 _ (fun y o hy hn=>?_) B2;have fT:F e.T:=by
   rcases ok.1 with z|⟨a,ha,z⟩
   ·rw[z];exact f.L
   ·rw[z];exact f.l a ha
  rw[ak (show y≠D from fun z=>hn (z ▸ f.D))];exact r2 (s0 _ _ hy) (fun z=>hn (z ▸ f.U)) (fun z=>hn (z ▸ fT))
inductive lR (c:Cs)(vs:List V)(H:Hp)(Q:VK)(E:XK):Prop
 |mk (i n:Int) (dE:vs=[.int i,.int n]) (dF:((0<=i/\i<=n->Q .non H)/\(¬(0<=i/\i<=n)->RX E c .Eg H))):lR c vs H Q E
theorem gG (T:Txt K w mg t):br P w K mg base fK (0+1) t.bK t.gW ["at","last"] (lR (cs t)):=by
 refine T.bM.ok vP (fun vs H Q E h=>?_) (fun cdv A outer s H vs Q E hr h=>?_)
 ·obtain⟨_,_,rfl,_⟩:=h;rfl
 ·obtain⟨i,n,rfl,q1,q2⟩:=h;refine aR (ah (aU (bJ (DV xM xM aj (pv 0) (pv 1))) (ah iH) aD)) ?_;refine⟨_,rfl,_,_,rfl,rfl,_,rfl,?_⟩;refine aZ (fun h0=>?_) (fun h0=>?_)
  ·refine⟨_,rfl,_,_,rfl,rfl,_,rfl,?_⟩;refine aZ (fun h=>?_) (fun h=>?_)
   ·have h':(!decide (i<=n))=true:=h;have q:=q2 fun z=>by rw[N' z.2]at h';cases h'
    exact(Bool.noConfusion (show false=true from q.1))
   ·have h':¬(!decide (i<=n))=true:=h;refine q1 ⟨K' h0,?_⟩
    by_cases z:i<=n
    ·exact z
    ·exact V' (by rw[Y' z];rfl) h'
  ·have q:=q2 fun z=>h0 (N' z.1);exact⟨_,rfl,pG (Bool.noConfusion (show false=true from q.1))⟩
inductive Z0 (vs:List V)(H:Hp)(Q:VK)(E:XK):Prop
 |mk (p:Addr) (s:Sn) (dE:vs=[.ref p]) (dF:H p=some (.tup [.str s.1,.int s.2])) (eQ:Q (.bl (sO s)) H):Z0 vs H Q E
theorem agi (T:Txt K w mg t):br P w K mg base fK (0+1) t.BY t.Xl ["sign"] Z0:=by
 refine T.LF.ok QR (fun vs H Q E h=>?_) (fun cdv A outer s H vs Q E hr h=>?_)
 ·obtain⟨_,_,rfl,_⟩:=h;rfl
 ·obtain⟨p,s,rfl,hp,q⟩:=h;unfold sO at q;refine aR (ag (kS (pv 0) (dA rfl (aK (aB (i:=1) QR.nd rfl (Or.inl rfl)) (aK (aB (i:=2) QR.nd rfl (Or.inl rfl)) cq)))) (ag (aU (aw (c7.or c0) (pv 1) (bR (v:=.ref t.cB) rfl T.vo rfl) rfl) (ah (ax (UQ xM xM aj (pv 2) (bR (v:=.int 99) rfl T.LO ⟨_,rfl⟩)))) aD) (ah (ax (dJ (pB (cC (c7.or c0) (pv 1) (bR (v:=.ref t.ee) rfl T.LM rfl) rfl) (pA (cC (bQ.or (bo (aM hr))) (pv 2) aj (aG _))))))))) ?_;refine⟨_,rfl,_,_,rfl,ij.of hp,rfl,_,_,rfl,_,_,rfl,rfl,_,rfl,.inl ⟨_,_,rfl,.inr (T.vq _),rfl,rfl,_,rfl,?_⟩⟩;refine aZ (fun h=>?_) (fun h=>?_)
  ·rw[if_pos (show inV (.str s.1) GD=true from h)]at q;refine⟨_,rfl,_,_,rfl,rfl,_,rfl,?_⟩;refine aZ (fun h2=>?_) (fun h2=>?_)
   ·rw[if_pos h2]at q;exact⟨_,_,rfl,rfl,q⟩
   ·rw[if_neg h2]at q;exact q
  ·rw[if_neg (show ¬ inV (.str s.1) GD=true from h)]at q;refine⟨fun v H'=>v=.bl (if inV (V.str s.fst) vN=true then decide (s.snd=0) else false)/\H'=H,?_,fun _ _ ⟨e1,e2⟩=>by rw[e1,e2];exact q⟩;refine⟨_,rfl,.inl ⟨_,_,rfl,.inr (T.LN _),rfl,rfl,_,rfl,?_⟩⟩;refine aZ (fun h2=>?_) (fun h2=>?_)
   ·rw[if_pos (show inV (.str s.1) vN=true from h2)];refine⟨_,rfl,.inl ⟨rfl,?_⟩⟩;rw[dG];exact⟨rfl,rfl⟩
   ·rw[if_neg (show ¬ inV (.str s.1) vN=true from h2)];exact⟨rfl,rfl⟩
inductive rS (c:Cs)(vs:List V)(H:Hp)(Q:VK)(E:XK):Prop
 |mk (p:Addr) (s:Sn) (dE:vs=[.ref p]) (dF:H p=some (.tup [.str s.1,.int s.2])) (eQ:((sO s=true->Q .non H)/\(sO s=false->RX E c .Ky H))):rS c vs H Q E
theorem rT (T:Txt K w mg t):br P w K mg base fK (0+2) t.cI t.lx ["sign"] (rS (cs t)):=by
 have aiQ:=agi (P:=P) (base:=base) T;refine T.dz.ok BS (fun vs H Q E h=>?_) (fun cdv A outer s H vs Q E hr h=>?_)
 ·obtain⟨_,_,rfl,_⟩:=h;rfl
 ·obtain⟨p,g,rfl,hp,q1,q2⟩:=h;refine aR (ah (aU (bJ (aX (aq aiQ (hr.mono (by decide)) rfl T.agc T.LF.kp T.Xn .nil au (aa (pv 0) ae)))) (ah iH) aD)) ?_;refine⟨_,rfl,p,g,rfl,hp,_,rfl,?_⟩;cases hg:sO g with
  |true=>exact cv (q1 hg)
  |false =>
   have q:=q2 hg;exact pG (Bool.noConfusion (show false=true from q.1))
inductive xX (CB CD:Addr)(vs:List V)(H:Hp)(Q:VK)(E:XK):Prop
 |mk (x dx L D U d dd T_ B A:Addr) (i:Nat) (ds us xs bs as:List V) (dE:vs=[.ref x,.ref d]) (dF:H x=some (.ins CB dx (Ee L D U))) (eQ:H D=some (.lst ds)) (jv:H U=some (.lst us)) (pE:H d=some (.ins CD dd (La T_ (i:Int) B A))) (Pa:H T_=some (.lst xs)) (h6_:H B=some (.lst bs)) (h7_:H A=some (.lst as)) (h8_:T_≠A) (h9_:T_≠D) (anm:T_≠U) (aqp:D≠U) (aqq:i+bs.length<=xs.length) (aqr:xs.length+as.length<=1000) (aqs:ds.length<=900) (aqt:Q .non (upd (upd (upd H T_ (.lst (xs.take i++as++xs.drop (i+bs.length)))) D (.lst (ds++[.ref d]))) U (.lst []))):xX CB CD vs H Q E
theorem jY (T:Txt K w mg t):br P w K mg base fK (0+2) t.di t.rp ["self","deed"] (xX t.a7 t.bx):=by
 have G8:=LX (P:=P) (base:=base) T;refine T.lI.ok JU (fun vs H Q E h=>?_) (fun cdv A outer s H vs Q E hr h=>?_)
 ·obtain⟨_,_,_,_,_,_,_,_,_,_,_,_,_,_,_,_,rfl,_⟩:=h;rfl
 ·obtain⟨x,dx,L,D,U,d,dd,T_,B,A_,i,ds,us,xs,bs,as,rfl,hx,hD,hU,hd,hT,hB,hA,n1,n2,n3,n4,hi,hz,hds,q⟩:=h;refine aR (ag (aP (d4 (pv 1) T.e8 T.LC G8 (hr.mono (by decide)) T.A6 .nil au)) (ag (aP (eE plainAttrs_list slot_list_append type_list_append a6 (cj (pv 0) rfl) (aa (pv 1) ae))) (ah (aP (Qs plainAttrs_list PySem.F.slot_list_clear PySem.F.type_list_clear adq (cj (pv 0) rfl)))))) ?_;have xT:x≠T_:=mQ hx hT (by intro z;cases z);have xD:x≠D:=mQ hx hD (by intro z;cases z);refine⟨_,rfl,d,dd,_,rfl,hd,Po _ _ _ _,?_⟩;refine⟨d,dd,T_,B,A_,i,xs,bs,as,rfl,hd,hT,hB,hA,n1,hi,hz,?_⟩;refine⟨_,rfl,x,_,dx,_,_,rfl,by rw[ak xT];exact hx,T.aN,T.dN,Ef _ _ _,?_⟩;refine⟨.inl ⟨rfl,_,aO.of (show upd H T_ _ D=some (.lst ds) by rw[ak (Ne.symm n2)];exact hD)⟩,_,rfl,D,_,_,rfl,rfl,by rw[ak (Ne.symm n2)];exact hD,aQ (by omega),?_⟩;refine⟨_,rfl,x,_,dx,_,_,rfl,by rw[ak xD,ak xT];exact hx,T.aN,T.cM,vK _ _ _,?_⟩;have hU2:upd (upd H T_ (.lst (xs.take i++as++xs.drop (i+bs.length)))) D (.lst (ds++[.ref d])) U=some (.lst us):=by rw[ak (Ne.symm n4),ak (Ne.symm n3)];exact hU
  exact⟨.inl ⟨rfl,_,aO.of hU2⟩,U,_,rfl,rfl,hU2,q⟩
inductive Vv (vs:List V)(H:Hp)(Q:VK)(E:XK):Prop
 |mk (p:Addr) (s:Sg) (dE:vs=[.ref p]) (dF:H p=some (.tup [.str s.1.str,.int s.2])) (eQ:Q (.bl s.1.small) H):Vv vs H Q E
theorem ES (k:Kd):inV (.str k.str) [.str "s",.str "d",.str "r"]=k.small:=by cases k <;> decide +kernel
theorem Vy (T:Txt K w mg t):br P w K mg base fK (0+1) t.vU t.QS ["sign"] Vv:=by
 refine T.A7.ok ad5 (fun vs H Q E h=>?_) (fun cdv A outer s H vs Q E hr h=>?_)
 ·obtain⟨_,_,rfl,_⟩:=h;rfl
 ·obtain⟨p,s,rfl,hp,q⟩:=h;rw[<-ES]at q;refine aR (ah (ax (cC (c7.or c0) (aT aI (pv 0) aj (fun _ _=>rfl)) (bR (v:=.ref t.fq) rfl T.Oc rfl) rfl))) ?_;tm_up;exact .inl ⟨_,_,rfl,.inr (T.Od _),rfl,rfl,q⟩
inductive LY (K:Frag)(vs:List V)(H:Hp)(Q:VK)(E:XK):Prop
 |mk (l:Addr) (xs:List V) (ss:List Sg) (i:Nat) (dE:vs=[.ref l,.int (i:Int)]) (dF:aO K H l xs) (eQ:iq H xs ss) (jv:ss.length<=200) (pE:i<=ss.length) (Pa:∀ r:Int,Q (.int r) H):LY K vs H Q E
theorem Xu (T:Txt K w mg t):br P w K mg base fK (0+2) t.m7 t.GO ["line","at"] (LY K):=by
 have Rh:=Vy (P:=P) (base:=base) T;refine T.vd.ok vQ (fun vs H Q E h=>?_) (fun cdv A outer s H vs Q E hr h=>?_)
 ·obtain⟨_,_,_,_,rfl,_⟩:=h;rfl
 ·obtain⟨l,xs,ss,i,rfl,hS,g,hl,hi,q⟩:=h;refine aR (ag (aH (i:=2) vQ.nd rfl (Or.inl rfl) aj) (ag (cE PassesOwn.never rfl (aaB rfl T.i4 (aa (aJ gT (pv 1) aj) (aa (Jo yf aj) (aa (Jo yf aj) ae)))) (aB (i:=3) vQ.nd rfl (Or.inl rfl)) (ag (jx (aU (bJ (aX (aq Rh (hr.mono (by decide)) rfl T.Vo T.A7.kp T.KC .nil au (aa (aT aI (pv 0) (pv 3) (fun _ _=>rfl)) ae)))) (ah (Qn (i:=2) vQ.nd rfl (Or.inl rfl) aj Qo)) aD)) (ah (aU (aw (bQ.or (bo (aM hr))) (pv 2) aj (aG _)) (ah (ax (pv 3))) aD)))) (ah (ax aj)))) ?_;tm_up;have xl:=bh g;refine⟨(i:Int)-1,-1,rfl,⟨by omega,by omega,by omega,by omega⟩,adN (fun j σ H'=>∃(met:Int)(v:Option V),σ=[some (.ref l),some (.int (i:Int)),some (.int met),v]/\H'=H) ⟨0,none,rfl,rfl⟩ ?_ ?_⟩
  ·rintro j σ H1 hj ⟨met,v,rfl,eH⟩;have eH:=eH.symm;subst eH;obtain⟨sg,hsg⟩:∃ sg,ss[i-1-j]? = some sg:=⟨_,G' (by omega)⟩;refine⟨fun σ H'=>∃(met:Int),σ=[some (.ref l),some (.int (i:Int)),some (.int met),some (.int ((i:Int)-1-(j:Int)))]/\H'=H,?_,?_⟩
   ·tm_up;refine N3 hS g (n:=i-1-j) (by omega) hsg fun b hb=>?_;refine⟨b,sg,rfl,hb,?_⟩;refine⟨_,rfl,?_⟩;refine aZ (fun _=>?_) (fun _=>?_)
    ·tm_up;rfl
    ·exact⟨_,rfl,rfl⟩
   ·rintro _ H1 ⟨met,rfl,eH⟩;have eH:=eH.symm;subst eH;tm_up;refine aZ (fun _=>?_) (fun _=>?_)
    ·exact⟨_,rfl,q _⟩
    ·exact⟨_,_,rfl,rfl⟩
  ·rintro σ H1 ⟨met,v,rfl,eH⟩;have eH:=eH.symm;subst eH;exact q _
inductive JD (K:Frag)(vs:List V)(H:Hp)(Q:VK)(E:XK):Prop
 |mk (l kp:Addr) (xs kv:List V) (ss:List Sg) (i:Nat) (dE:vs=[.ref l,.int (i:Int),.ref kp]) (dF:aO K H l xs) (eQ:iq H xs ss) (jv:ss.length<=200) (pE:ij K H kp kv) (Pa:kv.all xN=true) (h6_:i<=1000) (h7_:∀ r:Int,Q (.int r) H):JD K vs H Q E
theorem Vz (T:Txt K w mg t):br P w K mg base fK (0+1) t.j5 t.BZ ["line","first","kinds"] (JD K):=by
 refine T.rN.ok Jx (fun vs H Q E h=>?_) (fun cdv A outer s H vs Q E hr h=>?_)
 ·obtain⟨_,_,_,_,_,_,rfl,_⟩:=h;rfl
 ·obtain⟨l,kp,xs,kv,ss,i,rfl,hS,g,hl,hT,hf,hi,q⟩:=h;refine aR (ag (cE PassesOwn.never rfl (O9 rfl T.i4 (aa (pv 1) (aa (av (az.or aA) rfl T.bD bC (aa (pv 0) ae)) ae))) (aB (i:=3) Jx.nd rfl (Or.inl rfl)) (ah (aU (aw (c7.or c0) (aT aI (aT aI (pv 0) (pv 3) (fun _ _=>rfl)) aj (fun _ _=>rfl)) (pv 2) rfl) (ah (ax (pv 3))) aD))) (ah (ax (av (az.or aA) rfl T.bD bC (aa (pv 0) ae))))) ?_;have xl:=bh g;tm_up;refine .inl ⟨l,xs,rfl,.inl hS,?_⟩;refine⟨(i:Int),(xs.length:Int),rfl,⟨by omega,by omega,by omega,by omega⟩,km (fun j σ H'=>∃(v:Option V),σ=[some (.ref l),some (.int (i:Int)),some (.ref kp),v]/\H'=H) ⟨none,rfl,rfl⟩ ?_ ?_⟩
  ·rintro j σ H1 hj ⟨v,rfl,eH⟩;have eH:=eH.symm;subst eH;obtain⟨sg,hsg⟩:∃ sg,ss[i+j]? = some sg:=⟨_,G' (by omega)⟩;tm_up;refine N3 hS g (n:=i+j) (by omega) hsg fun b hb=>?_;tm_up;refine .inl ⟨kp,kv,rfl,.inr hT,rfl,hf,_,rfl,?_⟩;refine aZ (fun _=>?_) (fun _=>?_)
   ·exact⟨_,rfl,q _⟩
   ·exact⟨_,rfl,rfl⟩
  ·rintro σ H1 ⟨v,rfl,eH⟩;have eH:=eH.symm;subst eH;exact⟨_,rfl,.inl ⟨l,_,rfl,.inl hS,q _⟩⟩
inductive xY (vs:List V)(H:Hp)(Q:VK)(E:XK):Prop
 |mk (p:Addr) (s:Sg) (dE:vs=[.ref p]) (dF:H p=some (.tup [.str s.1.str,.int s.2])) (eQ:Q (.bl s.1.meas) H):xY vs H Q E
theorem aiR (k:Kd):inV (.str k.str) [.str "3",.str "2"]=k.meas:=by cases k <;> decide +kernel
theorem xZ (T:Txt K w mg t):br P w K mg base fK (0+1) t.d6 t.rq ["sign"] xY:=by
 refine T.fP.ok JV (fun vs H Q E h=>?_) (fun cdv A outer s H vs Q E hr h=>?_)
 ·obtain⟨_,_,rfl,_⟩:=h;rfl
 ·obtain⟨p,s,rfl,hp,q⟩:=h;rw[<-aiR]at q;refine aR (ah (ax (cC (c7.or c0) (aT aI (pv 0) aj (fun _ _=>rfl)) (bR (v:=.ref t.cT) rfl T.xR rfl) rfl))) ?_;tm_up;exact .inl ⟨_,_,rfl,.inr (T.xS _),rfl,rfl,q⟩
inductive PJ (K:Frag)(vs:List V)(H:Hp)(Q:VK)(E:XK):Prop
 |mk (l ch:Addr) (xs cx:List V) (ss cs:List Sg) (i b:Nat) (dE:vs=[.ref l,.int (i:Int),.int (b:Int),.ref ch]) (dF:aO K H l xs) (eQ:iq H xs ss) (jv:ss.length<=200) (pE:i<=ss.length) (Pa:b<=1000) (h6_:aO K H ch cx) (h7_:iq H cx cs) (h8_:cs.length<=100) (h9_:∀(p:Addr)(H':Hp),ao H H'->Q (.ref p) H'):PJ K vs H Q E
theorem G9 (T:Txt K w mg t):br P w K mg base fK (0+3) t.rA t.Lq ["line","at","behind","changed"] (PJ K):=by
 have aa0:=Xu (P:=P) (base:=base) T;have Xv:=Vz (P:=P) (base:=base) T;have rV:=xZ (P:=P) (base:=base) T;refine T.rO.ok Pu (fun vs H Q E h=>?_) (fun cdv A outer s H vs Q E hr h=>?_)
 ·obtain⟨_,_,_,_,_,_,_,_,rfl,_⟩:=h;rfl
 ·obtain⟨l,ch,xs,cx,ss,cs,i,b,rfl,hS,g,hl,hi,hb,hC,gc,hcl,q⟩:=h;refine aR (ag (aH (i:=4) Pu.nd rfl (Or.inl rfl) (dJ (gI (aX (av adx rfl T.aiJ aij (aa (kY (cn:=["sign"]) rfl (bY.of rfl) (cu (pv 3)) (fun _=>(aB (i:=0) Vn rfl (Or.inl rfl))) (fun _=>j0) (fun _=>(aq rV (hr.mono (by decide)) rfl T.xQ T.fP.kp T.lJ .nil au (aa (pv 0) ae)))) ae))) (bR (v:=.ref t.cT) rfl T.xR rfl) (bR (v:=.ref t.dC) rfl T.JX rfl)))) (ah (ax (cV (aa (aq aa0 (hr.mono (by decide)) rfl T.Xo T.vd.kp T.GY .nil au (aa (pv 0) (aa (pv 1) ae))) (aa (aq Xv (hr.mono (by decide)) rfl T.Vp T.rN.kp T.Cf .nil au (aa (pv 0) (aa (pv 2) (aa (pv 4) ae)))) ae)))))) ?_;have cl:=bh gc;refine⟨fun v H'=>∃ kp kv,v=.ref kp/\(∀ Ri ,ij K Ri kp kv)/\kv.all xN=true/\ao H H',?_,?_⟩
  ·refine⟨_,rfl,ch,rfl,⟨_,hC⟩,fun D b2 hD=>?_⟩;refine eJ (K:=K) (xs:=cx) (fun ii ys σ H'=>∃ v,σ=[v,some (.ref l),some (.int (i:Int)),some (.int (b:Int)),some (.ref ch),none]/\H'=upd H D (.lst ys)/\∃ bs:List Bool,ys=bs.map V.bl/\bs.length=ii) ⟨none,rfl,rfl,[],rfl,rfl⟩ ?_ ?_ ?_
   ·rintro ii ys σ H' ⟨v,rfl,rfl,_⟩;exact ip hC hD
   ·rintro ii ys x σ H' hx ⟨v,rfl,rfl,bs,rfl,hbs⟩ N hN;obtain⟨sg,e1,p,rfl,hp⟩:=j3 gc hx;have hii:ii<cs.length:=(C'.mp e1).1;refine fi ?_;refine⟨_,rfl,p,sg,rfl,(by rw[ak (ar hp hD)];exact hp),af,?_,?_⟩
    ·rw[J'];exact aQ (by omega)
    ·exact hN _ _ _ ⟨_,rfl,df,bs++[sg.1.meas],by simp,by simp[hbs]⟩
   ·rintro ys σ H' ⟨v,rfl,rfl,bs,rfl,hbs⟩;refine⟨rfl,D,bs,rfl,aO.of af,_,rfl,?_⟩;refine aZ (fun _=>?_) (fun _=>?_)
    ·exact⟨_,_,rfl,fun Ri=>T.xS Ri,rfl,ao.upd hD⟩
    ·exact⟨_,_,rfl,fun Ri=>T.JY Ri,rfl,ao.upd hD⟩
  ·rintro _ H1 ⟨kp,kv,rfl,hk,hf,s1⟩;refine⟨_,rfl,_,rfl,l,xs,ss,i,rfl,s1.seq hS,g.same s1,hl,hi,fun r=>?_⟩;refine⟨_,rfl,_,rfl,_,rfl,l,kp,xs,kv,ss,b,rfl,s1.seq hS,g.same s1,hl,hk _,hf,hb,fun r2=>?_⟩;refine⟨by show 2<=sizeLine;decide,fun p hp=>q p _ (s1.trans (ao.upd hp))⟩
inductive oZ (c:Cs)(vs:List V)(H:Hp)(Q:VK)(E:XK):Prop
 |mk (x dx L D U:Addr) (xs:List V) (vx:List Vx) (n:Str) (dE:vs=[.ref x,.str n]) (dF:H x=some (.ins c.B dx (Ee L D U))) (eQ:H L=some (.lst xs)) (jv:Paired (aga c.V H) xs vx) (pE:match vx.find? (fun a=>decide (a.n=n)) with
 |none=>RX E c .oC H
 |some a=>Q (.ref a.o) H):oZ c vs H Q E
theorem aa1 {vx:List Vx}{n:Str}:∀{i:Nat},(∀ j a,j<i->vx[j]? = some a->a.n≠n)->∀{b},vx[i]? = some b->b.n=n->vx.find? (fun a=>decide (a.n=n))=some b:=by
 induction vx with
 |nil=>intro i _ b h;simp at h
 |cons v vs ih =>
  intro i hi b hb he;cases i with
  |zero =>
   simp at hb;subst hb;exact List.find?_cons_of_pos (N' he)
  |succ i =>
   have h0:=hi 0 v (by omega) rfl;have h1:(v::vs).find? (fun a=>decide (a.n=n))=vs.find? (fun a=>decide (a.n=n)):=List.find?_cons_of_neg (fun z=>h0 (K' z));rw[h1];exact ih (i:=i) (fun j a hj ha=>hi (j+1) a (Nat.succ_lt_succ hj) (by simpa using ha)) (by simpa using hb) he
theorem fc (T:Txt K w mg t):br P w K mg base fK (0+1) t.bI t.jy ["self","name"] (oZ (cs t)):=by
 refine T.fE.ok oM (fun vs H Q E h=>?_) (fun cdv A outer s H vs Q E hr h=>?_)
 ·obtain⟨_,_,_,_,_,_,_,_,rfl,_⟩:=h;rfl
 ·obtain⟨x,dx,L,D,U,xs,vx,n,rfl,hx,hL,g,q⟩:=h;refine aR (ag (cE PassesOwn.never rfl (cu (cj (pv 0) rfl)) (aB (i:=2) oM.nd rfl (Or.inl rfl)) (ah (aU (aw (bQ.or (bo (aM hr))) (cj (pv 2) rfl) (pv 1) (aG _)) (ah (ax (pv 2))) aD))) (ah iH)) ?_;have xl:=bh g;refine⟨_,rfl,x,_,dx,_,_,rfl,hx,T.aN,T.cm,q9 _ _ _,L,rfl,⟨_,aO.of hL⟩,gJ (K:=K) (xs:=xs) (fun i σ H'=>∃ v,σ=[some (.ref x),some (.str n),v]/\H'=H/\∀ j a,j<i->vx[j]? = some a->a.n≠n) ⟨none,rfl,rfl,fun j a hj=>by omega⟩ ?_ ?_ ?_⟩
  ·rintro i σ H1 _ ⟨v,rfl,eH,_⟩;rw[eH];exact aO.of hL
  ·rintro i y σ H1 hy ⟨v,rfl,eH,hi⟩;have eH:=eH.symm;subst eH;obtain⟨b,e1,rfl,hb⟩:=j3 g hy;refine⟨_,rfl,b.o,_,b.d,_,_,rfl,hb,T.gL,T.fu,Vh _ _ _,?_⟩;refine⟨_,rfl,.inl ⟨rfl,_,rfl,?_⟩⟩;refine aZ (fun h=>?_) (fun h=>?_)
   ·have e:b.n=n:=V.str.inj (K' h);rw[aa1 hi e1 e]at q;exact⟨_,rfl,q⟩
   ·refine⟨_,rfl,rfl,fun j a hj ha=>?_⟩;rcases Nat.lt_or_ge j i with z|z
    ·exact hi j a z ha
    ·have hij:j=i:=by omega
     rw[hij,e1]at ha;cases ha;exact fun z=>h (N' (congrArg V.str z))
  ·rintro σ H1 ⟨v,rfl,eH,hi⟩;have eH:=eH.symm;subst eH;have hn:vx.find? (fun a=>decide (a.n=n))=none:=List.find?_eq_none.mpr fun a ha z=>by
    obtain⟨j,hj⟩:=getElem?_of_mem ha;have hjl:j<vx.length:=(C'.mp hj).1;exact hi j a (by omega) hj (K' z)
   rw[hn]at q;exact(Bool.noConfusion (show false=true from q.1))
inductive qp (c:Cs)(vs:List V)(H:Hp)(Q:VK)(E:XK):Prop
 |mk (x dx L D U:Addr) (xs:List V) (vx:List Vx) (n:Str) (dE:vs=[.ref x,.str n]) (dF:H x=some (.ins c.B dx (Ee L D U))) (eQ:H L=some (.lst xs)) (jv:Paired (aga c.V H) xs vx) (pE:match vx.find? (fun a=>decide (a.n=n)) with
 |none=>RX E c .oC H
 |some a=>(a.tm=.non->Q (.ref a.o) H)/\(∀ p,a.tm=.ref p->RX E c .uP H)/\(a.tm=.non\/∃ p,a.tm=.ref p)):qp c vs H Q E
theorem fH (T:Txt K w mg t):br P w K mg base fK (0+2) t.bP t.j6 ["self","name"] (qp (cs t)):=by
 have bW:=fc (P:=P) (base:=base) T;refine T.gC.ok qo (fun vs H Q E h=>?_) (fun cdv A outer s H vs Q E hr h=>?_)
 ·obtain⟨_,_,_,_,_,_,_,_,rfl,_⟩:=h;rfl
 ·obtain⟨x,dx,L,D,U,xs,vx,n,rfl,hx,hL,g,q⟩:=h;refine aR (ag (aH (i:=2) qo.nd rfl (Or.inl rfl) (bj (pv 0) T.aN T.eW bW (hr.mono (by decide)) T.cP .nil au (aa (pv 1) ae))) (ag (aU (aw Zu (cj (pv 2) rfl) BF (aG _)) (ah iH) aD) (ah (ax (pv 2))))) ?_;refine⟨_,rfl,x,dx,_,rfl,hx,fD _ _ _,_,rfl,x,dx,L,D,U,xs,vx,n,rfl,hx,hL,g,?_⟩;cases hf:vx.find? (fun a=>decide (a.n=n)) with
  |none =>
   rw[hf]at q;exact(Bool.noConfusion (show false=true from q.1))
  |some a =>
   rw[hf]at q;obtain⟨q1,q2,q3⟩:=q;obtain⟨j,hj⟩:=getElem?_of_mem (List.mem_of_find?_eq_some hf);obtain⟨v,hv,rfl,ha⟩:=xO g hj;refine⟨_,rfl,a.o,_,a.d,_,_,rfl,ha,T.gL,T.eh,Pm _ _ _,?_⟩;rcases q3 with e|⟨p,e⟩
   ·rw[e];refine⟨rfl,_,rfl,?_⟩;exact aZ (fun h=>V' h (by decide)) (fun _=>⟨_,rfl,q1 e⟩)
   ·have q:=q2 p e;rw[e];refine⟨rfl,_,rfl,?_⟩;exact aZ (fun _=>(Bool.noConfusion (show false=true from q.1))) (fun h=>V' (show(!decide (V.ref p=V.non))=true by rw[Y' (fun z=>nomatch z)];rfl) h)
inductive ET (C:Addr)(vs:List V)(H:Hp)(Q:VK)(E:XK):Prop
 |mk (x dx:Addr) (T_:Addr) (i:Int) (B A:Addr) (dE:vs=[.ref x,.ref T_,.int i,.ref B,.ref A]) (dF:H x=some (.ins C dx [])) (eQ:Q .non (upd H x (.ins C dx (La T_ i B A)))):ET C vs H Q E
theorem jq (T:Txt K w mg t):br P w K mg base fK (0+1) t.cR t.pJ ["self","things","at","before","after"] (ET t.bx):=by
 refine T.jV.ok GI (fun vs H Q E h=>?_) (fun cdv A outer s H vs Q E hr h=>?_)
 ·obtain⟨_,_,_,_,_,_,rfl,_⟩:=h;rfl
 ·obtain⟨x,dx,T_,i,B,A_,rfl,hx,q⟩:=h;refine aR (ag (t5 (pv 0) (pv 1) rfl) (ag (t5 (pv 0) (pv 2) rfl) (ag (t5 (pv 0) (pv 3) rfl) (ah (t5 (pv 0) (pv 4) rfl))))) ?_;refine⟨_,rfl,_,rfl,x,_,dx,_,rfl,hx,T.e8,T.eA,by show 0<1000;decide,?_⟩;refine⟨_,rfl,_,rfl,x,_,dx,_,rfl,af,T.e8,T.gF,by rw[Kx];show 1<1000;decide,?_⟩;refine⟨_,rfl,_,rfl,x,_,dx,_,rfl,af,T.e8,T.eB,by rw[Kx,QM];show 2<1000;decide,?_⟩;refine⟨_,rfl,_,rfl,x,_,dx,_,rfl,af,T.e8,T.fz,by rw[Kx,QM,ZP];show 3<1000;decide,?_⟩;rw[Kx,QM,ZP,af8];simp only [df];exact q
inductive EU (c:Cs)(vs:List V)(H:Hp)(Q:VK)(E:XK):Prop
 |mk (x:Addr) (F:Addr->Prop) (vw:Vw) (ps fs:List Vw) (n:Str) (i:Int) (p:Addr) (sn:Sn) (dE:vs=[.ref x,.str n,.int i,.ref p]) (dF:BP c H x F vw ps fs) (eQ:H p=some (.tup [.str sn.1,.int sn.2])) (jv:ps.length<=900) (pE:match bp vw n with
 |none=>RX E c .oC H
 |some (.cn _ _ _ _)=>RX E c .uP H
 |some (.pl ss)=>(¬(0<=i/\i<=(ss.length:Int)-1)->RX E c .Eg H)/\((0<=i/\i<=(ss.length:Int)-1)->sO sn=false->RX E c .Ky H) /\
  ((0<=i/\i<=(ss.length:Int)-1)->sO sn=true->∀(s:Sg)(w:Addr) F' H',s.1.str=sn.1->s.2=sn.2->Gr F F' H->Fr F H H'->BP c H' x F' (uO vw n (.pl (ss.take i.toNat++[s]++ss.drop (i.toNat+1)))) (ps++[vw]) []->Q (.ref w) H')):EU c vs H Q E
theorem akY {α:Type}{xs:List α}{i:Nat}{y:α}(h:xs[i]? = some y):xs.drop i=y::xs.drop (i+1):=by
 obtain⟨h1,h2⟩:=C'.mp h;rw[List.drop_eq_getElem_cons h1,h2]
theorem Rj (T:Txt K w mg t):br P w K mg base fK (0+4) t.fX t.yH ["self","name","at","sign"] (EU (cs t)):=by
 have cZ:=gG (P:=P) (base:=base) T;have lS:=rT (P:=P) (base:=base) T;have eD:=jY (P:=P) (base:=base) T;have zf:=G9 (P:=P) (base:=base) T;have cw:=fH (P:=P) (base:=base) T;have dD:=jq (P:=P) (base:=base) T;refine T.sZ.ok vR (fun vs H Q E h=>?_) (fun cdv A outer s H vs Q E hr h=>?_)
 ·obtain⟨_,_,_,_,_,_,_,_,_,rfl,_⟩:=h;rfl
 ·obtain⟨x,F,vw,ps,fs,n,iz,p,sn,rfl,B,hp,hps,q⟩:=h;refine aR (ag (aH (i:=4) vR.nd rfl (Or.inl rfl) (cj (bj (pv 0) T.aN T.fF cw (hr.mono (by decide)) T.dc .nil au (aa (pv 1) ae)) rfl)) (ag (aP (aq cZ (hr.mono (by decide)) rfl T.gB T.bM.kp T.cX .nil au (aa (pv 2) (aa (aJ gT (av (az.or aA) rfl T.bD bC (aa (pv 4) ae)) aj) ae)))) (ag (aP (aq lS (hr.mono (by decide)) rfl T.rM T.dz.kp T.iy .nil au (aa (pv 3) ae))) (ag (aH (i:=5) vR.nd rfl (Or.inl rfl) (aT aI (pv 4) (pv 2) (fun _ _=>rfl))) (ag (aP (bj (pv 0) T.aN T.jU eD (hr.mono (by decide)) T.fO .nil au (aa (AX T.KH dD (hr.mono (by decide)) rfl T.KG T.eN .nil au (aa (pv 4) (aa (pv 2) (aa (bq (aa (pv 5) ae)) (aa (bq (aa (pv 3) ae)) ae))))) ae))) (ah (ax (aq zf (hr.mono (by decide)) rfl T.GZ T.rO.kp T.yT .nil au (aa (pv 4) (aa (pv 2) (aa (aJ (a8.or (aE.or a9)) (pv 2) aj) (aa (bq (aa (pv 5) (aa (pv 3) ae))) ae)))))))))))) ?_;obtain⟨L,D,U,all,M,Ps,Fs,es,us,b,iM,pp,pf,f⟩:=B.ex;obtain⟨dx,hx⟩:=b.hx;obtain⟨vx,g,gv⟩:=b.yu iM;obtain⟨ds,hD,pD⟩:=b.hD;obtain⟨ux,hU,pU⟩:=b.hU;have dl:=bh pD;have pl:=bh pp;have pe:=b.past.len;refine⟨_,rfl,x,dx,_,rfl,hx,gn _ _ _,_,rfl,x,dx,L,D,U,M L,vx,n,rfl,hx,b.hL,g,?_⟩;rcases Lg gv (fun _ _ r=>r.2.1) n with ⟨f1,f2⟩|⟨a,th,j,f1,f2,r,an,fj,fw⟩
  ·rw[f1];rw[f2]at q;exact(Bool.noConfusion (show false=true from q.1))
  rw[f1];rw[f2]at q;subst an;cases th with
  |cn ld lt sl tn =>
   obtain⟨pt,hpt,_⟩:=r.2.2;refine⟨fun z=>?_,fun _ _=>(Bool.noConfusion (show false=true from q.1)),.inr ⟨pt,hpt⟩⟩;rw[hpt]at z;cases z
  |pl ss =>
   obtain⟨UH,hg⟩:=r.2.2;obtain⟨q1,q2,q4⟩:=q;have haa:=r.1;obtain⟨ha,hl⟩:=b.ha a haa;have yl:=bh hg;have hj:(M L)[j]? = some (.ref a.o):=by
    obtain⟨v,hv,e1,_⟩:=xO g fj;rw[<-e1];exact hv
   refine⟨fun _=>?_,(fun pz z=>by rw[UH]at z;cases z),.inl UH⟩;refine⟨a.o,_,a.d,_,_,rfl,ha,T.gL,T.ck,uM _ _ _,?_⟩;refine⟨_,rfl,_,rfl,.inl ⟨a.l,M a.l,rfl,.inl (aO.of hl),?_⟩⟩;refine⟨_,_,rfl,rfl,?_⟩;refine⟨iz,((M a.l).length:Int)-1,rfl,fun hi=>?_,fun hi=>?_⟩
   rotate_left
   ·have q:=q1 (by rw[<-yl];exact hi);exact(Bool.noConfusion (show false=true from q.1))
   rw[yl]at hi;refine⟨_,rfl,p,sn,rfl,hp,fun hgd=>?_,fun hgd=>?_⟩
   rotate_left
   ·have q:=q2 hi hgd;exact(Bool.noConfusion (show false=true from q.1))
   obtain⟨sg,e1,e2,gt⟩:=ZT hgd;rw[<-e1,<-e2]at hp;obtain⟨i,rfl⟩:∃ i:Nat,iz=(i:Int):=⟨iz.toNat,by omega⟩;have hi:i<ss.length:=by omega
   have hlt:ss.length<=200:=((B.wv vw (.inr (.inl rfl))).gd _ _ (X' fw)).1;have q4:=q4 (by omega) hgd sg;rw[Int.toNat_natCast]at q4;obtain⟨sg0,hsg⟩:∃ sg,ss[i]? = some sg:=⟨_,G' hi⟩;obtain⟨vp,hvp,p0,rfl,hp0⟩:=xO hg hsg;refine⟨_,rfl,_,rfl,QI (aO.of hl) (n:=i) rfl hvp ?_⟩;refine⟨_,rfl,x,dx,_,rfl,hx,lg _ _ _,?_⟩;refine⟨_,rfl,_,rfl,_,rfl,big (by show 1<=1000;omega),fun B' hB=>?_⟩;refine⟨_,rfl,big (by show 1<=1000;omega),fun A_ hA=>?_⟩;have hA0:=Kz hA;have sB:=(ao.upd (o:=.lst [V.ref p0]) hB).trans (ao.upd (o:=.lst [V.ref p]) hA);have hB2:=ao.upd (o:=.lst [V.ref p]) hA _ _ (af (H:=H) (a:=B') (o:=.lst [V.ref p0]));have Xw:=af (H:=upd H B' (.lst [V.ref p0])) (a:=A_) (o:=.lst [V.ref p]);have lA:a.l≠A_:=ar hl hA0;generalize upd (upd H B' (.lst [V.ref p0])) A_ (.lst [V.ref p])=H2 at sB hB2 Xw;intro d dd nd ndd ne;refine⟨d,dd,a.l,(i:Int),B',A_,rfl,af,rfl,?_⟩;rw[df];have s3:ao H2 (upd (upd H2 dd (.own d)) d (.ins t.bx dd (La a.l (i:Int) B' A_))):=fun y o hy=>by
    rw[ak (ar hy nd),ak (ar hy ndd)];exact hy
   have U8:=af (H:=upd H2 dd (.own d)) (a:=d) (o:=.ins t.bx dd (La a.l (i:Int) B' A_));generalize upd (upd H2 dd (.own d)) d (.ins t.bx dd (La a.l (i:Int) B' A_))=H3 at s3 U8;have s4:=sB.trans s3;obtain⟨_,d1,d2⟩:=b.lists (.inr ⟨a,haa,rfl⟩);refine⟨x,dx,L,D,U,d,dd,a.l,B',A_,i,ds,ux,M a.l,[.ref p0],[.ref p],rfl,s4 _ _ hx,s4 _ _ hD,s4 _ _ hU,U8,s4 _ _ hl,s3 _ _ hB2,s3 _ _ Xw,lA,d1,d2,b.DU,by simp;omega,by simp;omega,by omega,?_⟩;have hM:Ba ⟨d,dd,a.l,i,B',A_,[.ref p0],[.ref p]⟩ M a.l=(M a.l).take i++[.ref p]++(M a.l).drop (i+1):=gp;have keep:∀ y o,H3 y=some o->y≠a.l->y≠D->y≠U->(upd (upd (upd H3 a.l (.lst ((M a.l).take i++[.ref p]++(M a.l).drop (i+1)))) D (.lst (ds++[.ref d]))) U (.lst [])) y=some o:=fun y o hy y1 y2 y3=>by
    rw[ak y3,ak y2,ak y1];exact hy
   have k1:(upd (upd (upd H3 a.l (.lst ((M a.l).take i++[.ref p]++(M a.l).drop (i+1)))) D (.lst (ds++[.ref d]))) U (.lst [])) a.l=some (.lst ((M a.l).take i++[.ref p]++(M a.l).drop (i+1))):=by
    rw[ak d2,ak d1,af]
   have k2:(upd (upd (upd H3 a.l (.lst ((M a.l).take i++[.ref p]++(M a.l).drop (i+1)))) D (.lst (ds++[.ref d]))) U (.lst [])) D=some (.lst (ds++[.ref d])):=by
    rw[ak b.DU,af]
   have k3:(upd (upd (upd H3 a.l (.lst ((M a.l).take i++[.ref p]++(M a.l).drop (i+1)))) D (.lst (ds++[.ref d]))) U (.lst [])) U=some (.lst []):=af;generalize (upd (upd (upd H3 a.l (.lst ((M a.l).take i++[.ref p]++(M a.l).drop (i+1)))) D (.lst (ds++[.ref d]))) U (.lst []))=H4 at keep k1 k2 k3;have g3:=hg.same s4;have sgN:iq H3 ((M a.l).take i++[.ref p]++(M a.l).drop (i+1)) (ss.take i++[sg]++ss.drop (i+1)):=BK (BK (Ju i g3) (.cons ⟨p,rfl,s4 _ _ hp⟩ .nil)) (K5 (i+1) g3);obtain⟨F',gr,fr,B4⟩:=Bk.ad3 b iM pp f B.wv haa hj fw UH (e:=⟨d,dd,a.l,i,B',A_,[.ref p0],[.ref p]⟩) rfl ⟨by show i+1<=(M a.l).length;omega,by rw[show([V.ref p0]:List V).length=1 from rfl,akY hvp];rfl⟩ (by simp) (by simp) s4 hB hA0 ⟨rfl,U8,s3 _ _ hB2,s3 _ _ Xw⟩ (by rw[hM];exact sgN) (by simp;omega) (fun s hs=>by
    have wg:=((B.wv vw (.inr (.inl rfl))).gd _ _ (X' fw)).2;rcases mem_append.mp hs with hs|hs
    ·rcases mem_append.mp hs with hs|hs
     ·exact wg s (List.mem_of_mem_take hs)
     ·rw[mem_singleton.mp hs];exact gt
    ·exact wg s (List.mem_of_mem_drop hs)) hD pD keep (by rw[hM];exact k1) k2 k3
   have nT:∀{y us},H3 y=some (.tup us)->H4 y=some (.tup us):=fun {y us} hy=>keep y _ hy (mQ hy (s4 _ _ hl) (by intro z;cases z)) (mQ hy (s4 _ _ hD) (by intro z;cases z)) (mQ hy (s4 _ _ hU) (by intro z;cases z));have sg4:iq H4 ((M a.l).take i++[.ref p]++(M a.l).drop (i+1)) (ss.take i++[sg]++ss.drop (i+1)):=aY (fun _ _ ⟨z,e1,e2⟩=>⟨z,e1,nT e2⟩) sgN;refine⟨_,rfl,_,rfl,_,rfl,.inl ⟨_,_,rfl,rfl,_,rfl,_,rfl,big (by show 2<=1000;omega),fun lc hlc=>?_⟩⟩;have sc:=ao.upd (o:=.lst [V.ref p0,V.ref p]) hlc;refine⟨a.l,lc,_,[.ref p0,.ref p],ss.take i++[sg]++ss.drop (i+1),[sg0,sg],i,i+1,rfl,aO.of (sc _ _ k1),sg4.same sc,by simp;omega,by simp;omega,by omega,aO.of af,.cons ⟨p0,rfl,sc _ _ (nT (s4 _ _ hp0))⟩ (.cons ⟨p,rfl,sc _ _ (nT (s4 _ _ hp))⟩ .nil),by simp,fun w H5 s5=>?_⟩;have s6:=sc.trans s5;exact q4 w F' H5 e1 e2 gr (fun y o hy hn=>s6 _ _ (fr y o hy hn)) (B4.same s6)
inductive JE (c:Cs)(vs:List V)(H:Hp)(Q:VK)(E:XK):Prop
 |mk (x:Addr) (F:Addr->Prop) (vw:Vw) (ps fs:List Vw) (n:Str) (i:Int) (p:Addr) (sn:Sn) (dE:vs=[.ref x,.str n,.int i,.ref p]) (dF:BP c H x F vw ps fs) (eQ:H p=some (.tup [.str sn.1,.int sn.2])) (jv:ps.length<=900) (pE:match bp vw n with
 |none=>RX E c .oC H
 |some (.cn _ _ _ _)=>RX E c .uP H
 |some (.pl ss)=>(¬(0<=i/\i<=(ss.length:Int))->RX E c .Eg H)/\((0<=i/\i<=(ss.length:Int))->sO sn=false->RX E c .Ky H)/\((0<=i/\i<=(ss.length:Int))->sO sn=true->200<=ss.length->RX E c .Full H) /\
  ((0<=i/\i<=(ss.length:Int))->sO sn=true->ss.length<200->∀(s:Sg)(w:Addr) F' H',s.1.str=sn.1->s.2=sn.2->Gr F F' H->Fr F H H'->BP c H' x F' (uO vw n (.pl (ss.take i.toNat++[s]++ss.drop i.toNat))) (ps++[vw]) []->Q (.ref w) H')):JE c vs H Q E
theorem JF (T:Txt K w mg t):br P w K mg base fK (0+4) t.iQ t.Ca ["self","name","at","sign"] (JE (cs t)):=by
 have cZ:=gG (P:=P) (base:=base) T;have lS:=rT (P:=P) (base:=base) T;have eD:=jY (P:=P) (base:=base) T;have zf:=G9 (P:=P) (base:=base) T;have cw:=fH (P:=P) (base:=base) T;have dD:=jq (P:=P) (base:=base) T;refine T.wb.ok Jy (fun vs H Q E h=>?_) (fun cdv A outer s H vs Q E hr h=>?_)
 ·obtain⟨_,_,_,_,_,_,_,_,_,rfl,_⟩:=h;rfl
 ·obtain⟨x,F,vw,ps,fs,n,iz,p,sn,rfl,B,hp,hps,q⟩:=h;refine aR (ag (aH (i:=4) Jy.nd rfl (Or.inl rfl) (cj (bj (pv 0) T.aN T.fF cw (hr.mono (by decide)) T.dc .nil au (aa (pv 1) ae)) rfl)) (ag (aP (aq cZ (hr.mono (by decide)) rfl T.gB T.bM.kp T.cX .nil au (aa (pv 2) (aa (av (az.or aA) rfl T.bD bC (aa (pv 4) ae)) ae)))) (ag (aP (aq lS (hr.mono (by decide)) rfl T.rM T.dz.kp T.iy .nil au (aa (pv 3) ae))) (ag (aU (aw ag7 (av (az.or aA) rfl T.bD bC (aa (pv 4) ae)) (bR (v:=.int 200) rfl T.Ra ⟨_,rfl⟩) (aG _)) (ah iH) aD) (ag (aP (bj (pv 0) T.aN T.jU eD (hr.mono (by decide)) T.fO .nil au (aa (AX T.KH dD (hr.mono (by decide)) rfl T.KG T.eN .nil au (aa (pv 4) (aa (pv 2) (aa (bq ae) (aa (bq (aa (pv 3) ae)) ae))))) ae))) (ah (ax (aq zf (hr.mono (by decide)) rfl T.GZ T.rO.kp T.yT .nil au (aa (pv 4) (aa (pv 2) (aa (aJ (a8.or (aE.or a9)) (pv 2) aj) (aa (bq (aa (pv 3) ae)) ae)))))))))))) ?_;obtain⟨L,D,U,all,M,Ps,Fs,es,us,b,iM,pp,pf,f⟩:=B.ex;obtain⟨dx,hx⟩:=b.hx;obtain⟨vx,g,gv⟩:=b.yu iM;obtain⟨ds,hD,pD⟩:=b.hD;obtain⟨ux,hU,pU⟩:=b.hU;have dl:=bh pD;have pl:=bh pp;have pe:=b.past.len;refine⟨_,rfl,x,dx,_,rfl,hx,gn _ _ _,_,rfl,x,dx,L,D,U,M L,vx,n,rfl,hx,b.hL,g,?_⟩;rcases Lg gv (fun _ _ r=>r.2.1) n with ⟨f1,f2⟩|⟨a,th,j,f1,f2,r,an,fj,fw⟩
  ·rw[f1];rw[f2]at q;exact(Bool.noConfusion (show false=true from q.1))
  rw[f1];rw[f2]at q;subst an;cases th with
  |cn ld lt sl tn =>
   obtain⟨pt,hpt,_⟩:=r.2.2;refine⟨fun z=>?_,fun _ _=>(Bool.noConfusion (show false=true from q.1)),.inr ⟨pt,hpt⟩⟩;rw[hpt]at z;cases z
  |pl ss =>
   obtain⟨UH,hg⟩:=r.2.2;obtain⟨q1,q2,q3,q4⟩:=q;have haa:=r.1;obtain⟨ha,hl⟩:=b.ha a haa;have yl:=bh hg;have hj:(M L)[j]? = some (.ref a.o):=by
    obtain⟨v,hv,e1,_⟩:=xO g fj;rw[<-e1];exact hv
   refine⟨fun _=>?_,(fun pz z=>by rw[UH]at z;cases z),.inl UH⟩;refine⟨a.o,_,a.d,_,_,rfl,ha,T.gL,T.ck,uM _ _ _,?_⟩;refine⟨_,rfl,_,rfl,.inl ⟨a.l,M a.l,rfl,.inl (aO.of hl),?_⟩⟩;refine⟨iz,((M a.l).length:Int),rfl,fun hi=>?_,fun hi=>?_⟩
   rotate_left
   ·have q:=q1 (by rw[<-yl];exact hi);exact(Bool.noConfusion (show false=true from q.1))
   rw[yl]at hi;refine⟨_,rfl,p,sn,rfl,hp,fun hgd=>?_,fun hgd=>?_⟩
   rotate_left
   ·have q:=q2 hi hgd;exact(Bool.noConfusion (show false=true from q.1))
   refine⟨_,rfl,.inl ⟨a.l,M a.l,rfl,.inl (aO.of hl),?_⟩⟩;refine⟨_,_,rfl,rfl,_,rfl,?_⟩;refine aZ (fun h=>?_) (fun h=>?_)
   ·have h':=K' h;have q:=q3 hi hgd (by omega);exact(Bool.noConfusion (show false=true from q.1))
   have hlt:ss.length<200:=by
    rcases Nat.lt_or_ge ss.length 200 with z|z
    ·exact z
    ·exact V' (N' (by omega)) h
   obtain⟨sg,e1,e2,gt⟩:=ZT hgd;rw[<-e1,<-e2]at hp;obtain⟨i,rfl⟩:∃ i:Nat,iz=(i:Int):=⟨iz.toNat,by omega⟩;have hi:i<=ss.length:=by omega
   have q4:=q4 (by omega) hgd hlt sg;rw[Int.toNat_natCast]at q4;refine⟨_,rfl,x,dx,_,rfl,hx,lg _ _ _,?_⟩;refine⟨_,rfl,_,rfl,big (by show 0<=1000;omega),fun B' hB=>?_⟩;refine⟨_,rfl,big (by show 1<=1000;omega),fun A_ hA=>?_⟩;have hA0:=Kz hA;have sB:=(ao.upd (o:=.lst []) hB).trans (ao.upd (o:=.lst [V.ref p]) hA);have hB2:=ao.upd (o:=.lst [V.ref p]) hA _ _ (af (H:=H) (a:=B') (o:=.lst []));have Xw:=af (H:=upd H B' (.lst [])) (a:=A_) (o:=.lst [V.ref p]);have lA:a.l≠A_:=ar hl hA0;generalize upd (upd H B' (.lst [])) A_ (.lst [V.ref p])=H2 at sB hB2 Xw;intro d dd nd ndd ne;refine⟨d,dd,a.l,(i:Int),B',A_,rfl,af,rfl,?_⟩;rw[df];have s3:ao H2 (upd (upd H2 dd (.own d)) d (.ins t.bx dd (La a.l (i:Int) B' A_))):=fun y o hy=>by
    rw[ak (ar hy nd),ak (ar hy ndd)];exact hy
   have U8:=af (H:=upd H2 dd (.own d)) (a:=d) (o:=.ins t.bx dd (La a.l (i:Int) B' A_));generalize upd (upd H2 dd (.own d)) d (.ins t.bx dd (La a.l (i:Int) B' A_))=H3 at s3 U8;have s4:=sB.trans s3;obtain⟨_,d1,d2⟩:=b.lists (.inr ⟨a,haa,rfl⟩);refine⟨x,dx,L,D,U,d,dd,a.l,B',A_,i,ds,ux,M a.l,[],[.ref p],rfl,s4 _ _ hx,s4 _ _ hD,s4 _ _ hU,U8,s4 _ _ hl,s3 _ _ hB2,s3 _ _ Xw,lA,d1,d2,b.DU,by simp;omega,by simp;omega,by omega,?_⟩;have hM:Ba ⟨d,dd,a.l,i,B',A_,[],[.ref p]⟩ M a.l=(M a.l).take i++[.ref p]++(M a.l).drop (i+0):=gp;have keep:∀ y o,H3 y=some o->y≠a.l->y≠D->y≠U->(upd (upd (upd H3 a.l (.lst ((M a.l).take i++[.ref p]++(M a.l).drop (i+0)))) D (.lst (ds++[.ref d]))) U (.lst [])) y=some o:=fun y o hy y1 y2 y3=>by
    rw[ak y3,ak y2,ak y1];exact hy
   have k1:(upd (upd (upd H3 a.l (.lst ((M a.l).take i++[.ref p]++(M a.l).drop (i+0)))) D (.lst (ds++[.ref d]))) U (.lst [])) a.l=some (.lst ((M a.l).take i++[.ref p]++(M a.l).drop (i+0))):=by
    rw[ak d2,ak d1,af]
   have k2:(upd (upd (upd H3 a.l (.lst ((M a.l).take i++[.ref p]++(M a.l).drop (i+0)))) D (.lst (ds++[.ref d]))) U (.lst [])) D=some (.lst (ds++[.ref d])):=by
    rw[ak b.DU,af]
   have k3:(upd (upd (upd H3 a.l (.lst ((M a.l).take i++[.ref p]++(M a.l).drop (i+0)))) D (.lst (ds++[.ref d]))) U (.lst [])) U=some (.lst []):=af;generalize (upd (upd (upd H3 a.l (.lst ((M a.l).take i++[.ref p]++(M a.l).drop (i+0)))) D (.lst (ds++[.ref d]))) U (.lst []))=H4 at keep k1 k2 k3;have g3:=hg.same s4;have sgN:iq H3 ((M a.l).take i++[.ref p]++(M a.l).drop (i+0)) (ss.take i++[sg]++ss.drop i):=BK (BK (Ju i g3) (.cons ⟨p,rfl,s4 _ _ hp⟩ .nil)) (K5 i g3);obtain⟨F',gr,fr,B4⟩:=Bk.ad3 b iM pp f B.wv haa hj fw UH (e:=⟨d,dd,a.l,i,B',A_,[],[.ref p]⟩) rfl ⟨by simp;omega,by simp⟩ (by simp) (by simp) s4 hB hA0 ⟨rfl,U8,s3 _ _ hB2,s3 _ _ Xw⟩ (by rw[hM];exact sgN) (by simp;omega) (fun s hs=>by
    have wg:=((B.wv vw (.inr (.inl rfl))).gd _ _ (X' fw)).2;rcases mem_append.mp hs with hs|hs
    ·rcases mem_append.mp hs with hs|hs
     ·exact wg s (List.mem_of_mem_take hs)
     ·rw[mem_singleton.mp hs];exact gt
    ·exact wg s (List.mem_of_mem_drop hs)) hD pD keep (by rw[hM];exact k1) k2 k3
   have nT:∀{y us},H3 y=some (.tup us)->H4 y=some (.tup us):=fun {y us} hy=>keep y _ hy (mQ hy (s4 _ _ hl) (by intro z;cases z)) (mQ hy (s4 _ _ hD) (by intro z;cases z)) (mQ hy (s4 _ _ hU) (by intro z;cases z));have sg4:iq H4 ((M a.l).take i++[.ref p]++(M a.l).drop (i+0)) (ss.take i++[sg]++ss.drop i):=aY (fun _ _ ⟨z,e1,e2⟩=>⟨z,e1,nT e2⟩) sgN;refine⟨_,rfl,_,rfl,_,rfl,.inl ⟨_,_,rfl,rfl,_,rfl,big (by show 1<=1000;omega),fun lc hlc=>?_⟩⟩;have sc:=ao.upd (o:=.lst [V.ref p]) hlc;refine⟨a.l,lc,_,[.ref p],ss.take i++[sg]++ss.drop i,[sg],i,i+1,rfl,aO.of (sc _ _ k1),sg4.same sc,by simp;omega,by simp;omega,by omega,aO.of af,.cons ⟨p,rfl,sc _ _ (nT (s4 _ _ hp))⟩ .nil,by simp,fun w H5 s5=>?_⟩;have s6:=sc.trans s5;exact q4 w F' H5 e1 e2 gr (fun y o hy hn=>s6 _ _ (fr y o hy hn)) (B4.same s6)
inductive JG (c:Cs)(vs:List V)(H:Hp)(Q:VK)(E:XK):Prop
 |mk (x:Addr) (F:Addr->Prop) (vw:Vw) (ps fs:List Vw) (n:Str) (i:Int) (dE:vs=[.ref x,.str n,.int i]) (dF:BP c H x F vw ps fs) (eQ:ps.length<=900) (jv:match bp vw n with
 |none=>RX E c .oC H
 |some (.cn _ _ _ _)=>RX E c .uP H
 |some (.pl ss)=>(¬(0<=i/\i<=(ss.length:Int)-1)->RX E c .Eg H) /\
  ((0<=i/\i<=(ss.length:Int)-1)->∀(w:Addr) F' H',Gr F F' H->Fr F H H'->BP c H' x F' (uO vw n (.pl (ss.take i.toNat++[]++ss.drop (i.toNat+1)))) (ps++[vw]) []->Q (.ref w) H')):JG c vs H Q E
theorem aiT {α:Type}{xs:List α}{i:Nat}{y:α}(h:xs[i]? = some y):xs.drop i=y::xs.drop (i+1):=by
 obtain⟨h1,h2⟩:=C'.mp h;rw[List.drop_eq_getElem_cons h1,h2]
theorem VA (T:Txt K w mg t):br P w K mg base fK (0+4) t.iR t.Cb ["self","name","at"] (JG (cs t)):=by
 have cZ:=gG (P:=P) (base:=base) T;have eD:=jY (P:=P) (base:=base) T;have zf:=G9 (P:=P) (base:=base) T;have cw:=fH (P:=P) (base:=base) T;have dD:=jq (P:=P) (base:=base) T;refine T.wd.ok yy (fun vs H Q E h=>?_) (fun cdv A outer s H vs Q E hr h=>?_)
 ·obtain⟨_,_,_,_,_,_,_,rfl,_⟩:=h;rfl
 ·obtain⟨x,F,vw,ps,fs,n,iz,rfl,B,hps,q⟩:=h;refine aR (ag (aH (i:=3) yy.nd rfl (Or.inl rfl) (cj (bj (pv 0) T.aN T.fF cw (hr.mono (by decide)) T.dc .nil au (aa (pv 1) ae)) rfl)) (ag (aP (aq cZ (hr.mono (by decide)) rfl T.gB T.bM.kp T.cX .nil au (aa (pv 2) (aa (aJ gT (av (az.or aA) rfl T.bD bC (aa (pv 3) ae)) aj) ae)))) (ag (aH (i:=4) yy.nd rfl (Or.inl rfl) (aT aI (pv 3) (pv 2) (fun _ _=>rfl))) (ag (aP (bj (pv 0) T.aN T.jU eD (hr.mono (by decide)) T.fO .nil au (aa (AX T.KH dD (hr.mono (by decide)) rfl T.KG T.eN .nil au (aa (pv 3) (aa (pv 2) (aa (bq (aa (pv 4) ae)) (aa (bq ae) ae))))) ae))) (ah (ax (aq zf (hr.mono (by decide)) rfl T.GZ T.rO.kp T.yT .nil au (aa (pv 3) (aa (pv 2) (aa (pv 2) (aa (bq (aa (pv 4) ae)) ae))))))))))) ?_;obtain⟨L,D,U,all,M,Ps,Fs,es,us,b,iM,pp,pf,f⟩:=B.ex;obtain⟨dx,hx⟩:=b.hx;obtain⟨vx,g,gv⟩:=b.yu iM;obtain⟨ds,hD,pD⟩:=b.hD;obtain⟨ux,hU,pU⟩:=b.hU;have dl:=bh pD;have pl:=bh pp;have pe:=b.past.len;refine⟨_,rfl,x,dx,_,rfl,hx,gn _ _ _,_,rfl,x,dx,L,D,U,M L,vx,n,rfl,hx,b.hL,g,?_⟩;rcases Lg gv (fun _ _ r=>r.2.1) n with ⟨f1,f2⟩|⟨a,th,j,f1,f2,r,an,fj,fw⟩
  ·rw[f1];rw[f2]at q;exact(Bool.noConfusion (show false=true from q.1))
  rw[f1];rw[f2]at q;subst an;cases th with
  |cn ld lt sl tn =>
   obtain⟨pt,hpt,_⟩:=r.2.2;refine⟨fun z=>?_,fun _ _=>(Bool.noConfusion (show false=true from q.1)),.inr ⟨pt,hpt⟩⟩;rw[hpt]at z;cases z
  |pl ss =>
   obtain⟨UH,hg⟩:=r.2.2;obtain⟨q1,q4⟩:=q;have haa:=r.1;obtain⟨ha,hl⟩:=b.ha a haa;have yl:=bh hg;have hj:(M L)[j]? = some (.ref a.o):=by
    obtain⟨v,hv,e1,_⟩:=xO g fj;rw[<-e1];exact hv
   refine⟨fun _=>?_,(fun pz z=>by rw[UH]at z;cases z),.inl UH⟩;refine⟨a.o,_,a.d,_,_,rfl,ha,T.gL,T.ck,uM _ _ _,?_⟩;refine⟨_,rfl,_,rfl,.inl ⟨a.l,M a.l,rfl,.inl (aO.of hl),?_⟩⟩;refine⟨_,_,rfl,rfl,?_⟩;refine⟨iz,((M a.l).length:Int)-1,rfl,fun hi=>?_,fun hi=>?_⟩
   rotate_left
   ·have q:=q1 (by rw[<-yl];exact hi);exact(Bool.noConfusion (show false=true from q.1))
   rw[yl]at hi;obtain⟨i,rfl⟩:∃ i:Nat,iz=(i:Int):=⟨iz.toNat,by omega⟩;have hi:i<ss.length:=by omega
   have hlt:ss.length<=200:=((B.wv vw (.inr (.inl rfl))).gd _ _ (X' fw)).1;have q4:=q4 (by omega);rw[Int.toNat_natCast]at q4;obtain⟨sg0,hsg⟩:∃ sg,ss[i]? = some sg:=⟨_,G' hi⟩;obtain⟨vp,hvp,p0,rfl,hp0⟩:=xO hg hsg;refine⟨_,rfl,_,rfl,QI (aO.of hl) (n:=i) rfl hvp ?_⟩;refine⟨_,rfl,x,dx,_,rfl,hx,lg _ _ _,?_⟩;refine⟨_,rfl,_,rfl,_,rfl,big (by show 1<=1000;omega),fun B' hB=>?_⟩;refine⟨big (by show 0<=1000;omega),fun A_ hA=>?_⟩;have hA0:=Kz hA;have sB:=(ao.upd (o:=.lst [V.ref p0]) hB).trans (ao.upd (o:=.lst []) hA);have hB2:=ao.upd (o:=.lst []) hA _ _ (af (H:=H) (a:=B') (o:=.lst [V.ref p0]));have Xw:=af (H:=upd H B' (.lst [V.ref p0])) (a:=A_) (o:=.lst []);have lA:a.l≠A_:=ar hl hA0;generalize upd (upd H B' (.lst [V.ref p0])) A_ (.lst [])=H2 at sB hB2 Xw;intro d dd nd ndd ne;refine⟨d,dd,a.l,(i:Int),B',A_,rfl,af,rfl,?_⟩;rw[df];have s3:ao H2 (upd (upd H2 dd (.own d)) d (.ins t.bx dd (La a.l (i:Int) B' A_))):=fun y o hy=>by
    rw[ak (ar hy nd),ak (ar hy ndd)];exact hy
   have U8:=af (H:=upd H2 dd (.own d)) (a:=d) (o:=.ins t.bx dd (La a.l (i:Int) B' A_));generalize upd (upd H2 dd (.own d)) d (.ins t.bx dd (La a.l (i:Int) B' A_))=H3 at s3 U8;have s4:=sB.trans s3;obtain⟨_,d1,d2⟩:=b.lists (.inr ⟨a,haa,rfl⟩);refine⟨x,dx,L,D,U,d,dd,a.l,B',A_,i,ds,ux,M a.l,[.ref p0],[],rfl,s4 _ _ hx,s4 _ _ hD,s4 _ _ hU,U8,s4 _ _ hl,s3 _ _ hB2,s3 _ _ Xw,lA,d1,d2,b.DU,by simp;omega,by simp;omega,by omega,?_⟩;have hM:Ba ⟨d,dd,a.l,i,B',A_,[.ref p0],[]⟩ M a.l=(M a.l).take i++[]++(M a.l).drop (i+1):=gp;have keep:∀ y o,H3 y=some o->y≠a.l->y≠D->y≠U->(upd (upd (upd H3 a.l (.lst ((M a.l).take i++[]++(M a.l).drop (i+1)))) D (.lst (ds++[.ref d]))) U (.lst [])) y=some o:=fun y o hy y1 y2 y3=>by
    rw[ak y3,ak y2,ak y1];exact hy
   have k1:(upd (upd (upd H3 a.l (.lst ((M a.l).take i++[]++(M a.l).drop (i+1)))) D (.lst (ds++[.ref d]))) U (.lst [])) a.l=some (.lst ((M a.l).take i++[]++(M a.l).drop (i+1))):=by
    rw[ak d2,ak d1,af]
   have k2:(upd (upd (upd H3 a.l (.lst ((M a.l).take i++[]++(M a.l).drop (i+1)))) D (.lst (ds++[.ref d]))) U (.lst [])) D=some (.lst (ds++[.ref d])):=by
    rw[ak b.DU,af]
   have k3:(upd (upd (upd H3 a.l (.lst ((M a.l).take i++[]++(M a.l).drop (i+1)))) D (.lst (ds++[.ref d]))) U (.lst [])) U=some (.lst []):=af;generalize (upd (upd (upd H3 a.l (.lst ((M a.l).take i++[]++(M a.l).drop (i+1)))) D (.lst (ds++[.ref d]))) U (.lst []))=H4 at keep k1 k2 k3;have g3:=hg.same s4;have sgN:iq H3 ((M a.l).take i++[]++(M a.l).drop (i+1)) (ss.take i++[]++ss.drop (i+1)):=BK (BK (Ju i g3) .nil) (K5 (i+1) g3);obtain⟨F',gr,fr,B4⟩:=Bk.ad3 b iM pp f B.wv haa hj fw UH (e:=⟨d,dd,a.l,i,B',A_,[.ref p0],[]⟩) rfl ⟨by show i+1<=(M a.l).length;omega,by rw[show([V.ref p0]:List V).length=1 from rfl,aiT hvp];rfl⟩ (by simp) (by simp) s4 hB hA0 ⟨rfl,U8,s3 _ _ hB2,s3 _ _ Xw⟩ (by rw[hM];exact sgN) (by simp;omega) (fun s hs=>by
    have wg:=((B.wv vw (.inr (.inl rfl))).gd _ _ (X' fw)).2;rcases mem_append.mp hs with hs|hs
    ·rcases mem_append.mp hs with hs|hs
     ·exact wg s (List.mem_of_mem_take hs)
     ·cases hs
    ·exact wg s (List.mem_of_mem_drop hs)) hD pD keep (by rw[hM];exact k1) k2 k3
   have nT:∀{y us},H3 y=some (.tup us)->H4 y=some (.tup us):=fun {y us} hy=>keep y _ hy (mQ hy (s4 _ _ hl) (by intro z;cases z)) (mQ hy (s4 _ _ hD) (by intro z;cases z)) (mQ hy (s4 _ _ hU) (by intro z;cases z));have sg4:iq H4 ((M a.l).take i++[]++(M a.l).drop (i+1)) (ss.take i++[]++ss.drop (i+1)):=aY (fun _ _ ⟨z,e1,e2⟩=>⟨z,e1,nT e2⟩) sgN;refine⟨_,rfl,_,rfl,_,rfl,_,rfl,big (by show 1<=1000;omega),fun lc hlc=>?_⟩;have sc:=ao.upd (o:=.lst [V.ref p0]) hlc;refine⟨a.l,lc,_,[.ref p0],ss.take i++[]++ss.drop (i+1),[sg0],i,i,rfl,aO.of (sc _ _ k1),sg4.same sc,by simp;omega,by simp;omega,by omega,aO.of af,.cons ⟨p0,rfl,sc _ _ (nT (s4 _ _ hp0))⟩ .nil,by simp,fun w H5 s5=>?_⟩;have s6:=sc.trans s5;exact q4 w F' H5 gr (fun y o hy hn=>s6 _ _ (fr y o hy hn)) (B4.same s6)
noncomputable def Rk (vw:Vw):Vw:=vw++[(("zed":Str),Th.pl [])]
structure Bw (c:Cs)(H0 H:Hp)(x:Addr)(own:List Addr)(vw:Vw)(ps fs:List Vw):Prop where
 ex:∃ F,BP c H x F vw ps fs/\(∀ y,F y->∃ xs,H y=some (.lst xs))/\(∀ y,F y->H0 y=none)/\∀ a∈own,¬ F a/\∃ o,H a=some o
 sm:ao H0 H
section
variable {c:Cs} {H0 H H' H1:Hp} {x:Addr} {own:List Addr} {vw vw':Vw} {ps ps' fs fs':List Vw} {F F':Addr->Prop}
theorem Bw.mk' (b:BP c H' x F' vw' ps' fs')(sm:ao H0 H)(hF:∀ y,F y->∃ xs,H y=some (.lst xs))(h0:∀ y,F y->H0 y=none)(ho:∀ a∈own,¬ F a/\∃ o,H a=some o)(g:Gr F F' H)(fr:Fr F H H'):Bw c H0 H' x own vw' ps' fs'/\aaK own H H':=by
 obtain⟨F0,h1,h2,b0⟩:=b.akR;refine⟨⟨⟨F0,b0,h2,fun y z=>?_,fun a ha=>?_⟩,fun y o e=>fr y o (sm y o e) fun z=>?_⟩,fun y o e k=>fr y o e fun z=>?_⟩
 ·rcases g y (h1 y z) with q|q
  ·exact h0 y q
  ·exact sm.free q
 ·obtain⟨n,o,e⟩:=ho a ha;refine⟨fun z=>?_,o,fr a o e n⟩;rcases g a (h1 a z) with q|q
  ·exact n q
  ·rw[e]at q;cases q
 ·rw[h0 y z]at e;cases e
 ·rcases k with k|k
  ·obtain⟨xs,q⟩:=hF y z;rw[e]at q;cases q;exact k _ rfl
  ·exact(ho y k).1 z
theorem Bw.same (h:Bw c H0 H x own vw ps fs)(s:ao H H'):Bw c H0 H' x own vw ps fs:=by
 obtain⟨F,b,hF,h0,ho⟩:=h.ex;exact⟨⟨F,b.same s,fun y z=>let ⟨xs,e⟩:=hF y z;⟨xs,s _ _ e⟩,h0,fun a ha=>⟨(ho a ha).1,let ⟨o,e⟩:=(ho a ha).2;⟨o,s _ _ e⟩⟩⟩,h.sm.trans s⟩
theorem Bw.add (h:Bw c H0 H x own vw ps fs)(s:ao H H'){l:Addr}(n:H l=none){o:HO}(e:H' l=some o):Bw c H0 H' x (l::own) vw ps fs:=by
 obtain⟨F,b,hF,h0,ho⟩:=h.ex;refine⟨⟨F,b.same s,fun y z=>let ⟨xs,e⟩:=hF y z;⟨xs,s _ _ e⟩,h0,fun a ha=>?_⟩,h.sm.trans s⟩;rcases List.mem_cons.mp ha with rfl|ha
 ·refine⟨fun z=>?_,o,e⟩;obtain⟨xs,q⟩:=hF _ z;rw[n]at q;cases q
 ·exact⟨(ho a ha).1,let ⟨o,e⟩:=(ho a ha).2;⟨o,s _ _ e⟩⟩
theorem Bw.wv (h:Bw c H0 H x own vw ps fs):yt vw:=by
 obtain⟨F,b,_⟩:=h.ex;exact b.wv vw (.inr (.inl rfl))
theorem Bw.hx (h:Bw c H0 H x own vw ps fs):∃ dx L D U,H x=some (.ins c.B dx (Ee L D U)):=by
 obtain⟨F,b,_⟩:=h.ex;obtain⟨L,D,U,all,M,Ps,Fs,es,us,b,_⟩:=b.ex;obtain⟨dx,e⟩:=b.hx;exact⟨dx,L,D,U,e⟩
theorem Bw.new {dx L D U:Addr}(hx:H' x=some (.ins c.B dx (Ee L D U)))(hL:H' L=some (.lst []))(hD:H' D=some (.lst []))(hU:H' U=some (.lst []))(LD:L≠D)(LU:L≠U)(DU:D≠U)(s:ao H H')(nL:H L=none)(nD:H D=none)(nU:H U=none):Bw c H H' x [] [] [] []:=by
 refine⟨⟨_,Bk.new hx hL hD hU LD LU DU,fun y hy=>?_,fun y hy=>?_,fun a ha=>nomatch ha⟩,s⟩
 ·rcases hy with rfl|rfl|rfl
  ·exact⟨_,hL⟩
  ·exact⟨_,hD⟩
  ·exact⟨_,hU⟩
 ·rcases hy with rfl|rfl|rfl
  ·exact nL
  ·exact nD
  ·exact nU
end
theorem Bw.rebase {c:Cs}{H0 H:Hp}{x:Addr}{own:List Addr}{vw:Vw}{ps fs:List Vw}(h:Bw c H0 H x own vw ps fs):∃ H1,Bw c H1 H x [] vw ps fs/\ao H0 H1/\aaK own H H1:=by
 obtain⟨F,b,hF,h0,ho⟩:=h.ex
 classical
 refine⟨fun y=>if F y then none else H y,⟨⟨F,b,hF,fun y hy=>if_pos hy,fun a ha=>nomatch ha⟩,fun y o e=>?_⟩,fun y o e=>?_,fun y o e k=>?_⟩
 ·have e:(if F y then none else H y)=some o:=e
  by_cases hy:F y
  ·rw[if_pos hy]at e;exact nomatch e
  ·rwa [if_neg hy]at e
 ·show(if F y then none else H y)=some o;rw[if_neg (fun hy=>by rw[h0 y hy]at e;exact nomatch e)];exact h.sm _ _ e
 ·show(if F y then none else H y)=some o;rw[if_neg ?_,e];intro hy;rcases k with k|k
  ·obtain⟨xs,q⟩:=hF y hy;rw[e]at q;cases q;exact k _ rfl
  ·exact(ho y k).1 hy
theorem good3 {ss:List Sg}{sg:Sg}{i j:Nat}(h:∀ s∈ss,jL s)(g:jL sg):∀ s∈ss.take i++[sg]++ss.drop j,jL s:=fun s hs=>by
 rcases mem_append.mp hs with hs|hs
 ·rcases mem_append.mp hs with hs|hs
  ·exact h s (List.mem_of_mem_take hs)
  ·rw[mem_singleton.mp hs];exact g
 ·exact h s (List.mem_of_mem_drop hs)
theorem good2 {ss:List Sg}{i j:Nat}(h:∀ s∈ss,jL s):∀ s∈ss.take i++[]++ss.drop j,jL s:=fun s hs=>by
 rcases mem_append.mp hs with hs|hs
 ·rcases mem_append.mp hs with hs|hs
  ·exact h s (List.mem_of_mem_take hs)
  ·exact nomatch hs
 ·exact h s (List.mem_of_mem_drop hs)
inductive Bs (K:Frag)(c:Cs)(vs:List V)(H:Hp)(Q:VK)(E:XK):Prop
 |mk (a x l:Addr) (n:Str) (ns:List Int) (ys:List V) (ss:List Sg) (H0:Hp) (vw:Vw) (ps fs:List Vw) (dE:vs=[.ref a,.ref x,.str n,.ref l]) (dF:aO K H0 a (ns.map V.int)) (eQ:ns.length<=63) (jv:Bw c H0 H x [] vw ps fs) (pE:H0 l=some (.lst ys)) (Pa:iq H0 ys ss) (h6_:bp vw n=some (.pl ss)) (h7_:ss.length<=24) (h8_:ps.length<=890) (h9_:∀(l':Addr)(ys':List V)(ss':List Sg)(H':Hp),Bw c H0 H' x [l'] (uO vw n (.pl ss')) (ps++[vw]) []->H' l'=some (.lst ys')->iq H' ys' ss'->ss'.length<=25->(∀ s∈ss',jL s)->Q (.ref l') H'):Bs K c vs H Q E
theorem Og (T:Txt K w mg t):br P w K mg base fK (0+5) t.gx t.vV ["_law_script","_law_book","_law_name","_law_line_here"] (Bs K (cs t)):=by
 have oY:=wx (P:=P) (base:=base) T;have VB:=Rj (P:=P) (base:=base) T;have bc:=lQ (P:=P) (base:=base) T;have nM:=Cn (P:=P) (base:=base) T;have Cp:=JF (P:=P) (base:=base) T;have Xx:=VA (P:=P) (base:=base) T;refine T.lK.ok jM (fun vs H Q E h=>?_) (fun cdv A outer s H vs Q E hr h=>?_)
 ·obtain⟨_,_,_,_,_,_,_,_,_,_,_,rfl,_⟩:=h;rfl
 ·obtain⟨a,x,l,n,ns,ys,ss,H0,vw,ps,fs,rfl,hS,hl,B,h0,g0,hf,sl,pl,q⟩:=h;refine aR (ag (aH (i:=4) jM.nd rfl (Or.inl rfl) (aJ cG (aq bc (hr.mono (by decide)) rfl T.bB T.ba.kp T.bA .nil au (aa (pv 0) (aa aj ae))) (aJ (a8.or (aE.or a9)) (av (az.or aA) rfl T.bD bC (aa (pv 3) ae)) aj))) (ag (aH (i:=5) jM.nd rfl (Or.inl rfl) (aq oY (hr.mono (by decide)) rfl T.wa T.iX.kp T.oO .nil au (aa (aq nM (hr.mono (by decide)) rfl T.rL T.jf.kp T.nG .nil au (aa (aq bc (hr.mono (by decide)) rfl T.bB T.ba.kp T.bA .nil au (aa (pv 0) (aa aj ae))) (aa aj ae))) ae))) (ag (aH (i:=6) jM.nd rfl (Or.inl rfl) (aJ cG (aq nM (hr.mono (by decide)) rfl T.rL T.jf.kp T.nG .nil au (aa (aq bc (hr.mono (by decide)) rfl T.bB T.ba.kp T.bA .nil au (aa (pv 0) (aa aj ae))) (aa aj ae))) aj)) (ag (aU (bF (PW.pt (iG (aw (bQ.or (bo (aM hr))) (pv 6) aj (aG _)) (fJ (aw (Gy (aM hr)) (pv 3) (bq ae) (aG _)))))) (ag (aP (bj (pv 1) T.aN T.JA Cp (hr.mono (by decide)) T.wc .nil au (aa (pv 2) (aa (pv 4) (aa (pv 5) ae))))) (ah (ax (aJ (a8.or (aE.or a9)) (aJ (a8.or (aE.or a9)) (iI (kX.or (qW.or qX)) (pv 3) kW (gh (pv 4))) (bq (aa (pv 5) ae))) (iI (kX.or (qW.or qX)) (pv 3) (gh (pv 4)) kW))))) aD) (ag (aH (i:=4) jM.nd rfl (Or.inl rfl) (aJ cG (pv 4) (av (az.or aA) rfl T.bD bC (aa (pv 3) ae)))) (ag (aU (aw (bQ.or (bo (aM hr))) (pv 6) aj (aG _)) (ag (aP (bj (pv 1) T.aN T.Vq Xx (hr.mono (by decide)) T.Cg .nil au (aa (pv 2) (aa (pv 4) ae)))) (ah (ax (aJ (a8.or (aE.or a9)) (iI (kX.or (qW.or qX)) (pv 3) kW (gh (pv 4))) (iI (kX.or (qW.or qX)) (pv 3) (gh (aJ (a8.or (aE.or a9)) (pv 4) aj)) kW))))) aD) (ag (aP (bj (pv 1) T.aN T.QZ VB (hr.mono (by decide)) T.yU .nil au (aa (pv 2) (aa (pv 4) (aa (pv 5) ae))))) (ah (ax (aJ (a8.or (aE.or a9)) (aJ (a8.or (aE.or a9)) (iI (kX.or (qW.or qX)) (pv 3) kW (gh (pv 4))) (bq (aa (pv 5) ae))) (iI (kX.or (qW.or qX)) (pv 3) (gh (aJ (a8.or (aE.or a9)) (pv 4) aj)) kW))))))))))) ?_;have yl:=bh g0;have gd:=(B.wv.gd _ _ (cb hf)).2;tm_up;refine⟨a,ns,6,rfl,B.sm.seq hS,hl,?_⟩;refine⟨_,rfl,.inl ⟨l,ys,rfl,.inl (aO.of (B.sm _ _ h0)),.inl ⟨_,_,rfl,rfl,_,_,rfl,rfl,(by omega),?_⟩⟩⟩;obtain⟨k,hkI,hk⟩:=N4 (gf ns 6) (k:=(ys.length:Int)+1) (by omega);rw[show V.int ((gf ns 6) % ((ys.length:Int)+1))=V.int (k:Int) from congrArg V.int hkI];tm_up;refine⟨a,ns,5,rfl,B.sm.seq hS,hl,?_⟩;tm_up;refine⟨_,_,rfl,fun m1 _ _=>?_⟩;tm_up;refine fun pq sg gts hpq=>?_;have s1:=ao.upd (o:=.tup [.str sg.1.str,.int sg.2]) hpq;have hp1:=af (H:=H) (a:=pq) (o:=.tup [.str sg.1.str,.int sg.2]);generalize upd H pq (.tup [.str sg.1.str,.int sg.2])=H1 at s1 hp1;have B1:=B.same s1;tm_up;refine⟨a,ns,5,rfl,B1.sm.seq hS,hl,?_⟩;tm_up;refine⟨_,_,rfl,fun m2 _ _=>?_⟩;obtain⟨wy,hwy,aqv⟩:=N4 m2 (k:=3) (by decide);refine⟨_,_,rfl,rfl,(by decide:(0:Int)<3),?_⟩;rw[show V.int (m2 % 3)=V.int (wy:Int) from congrArg V.int hwy];refine⟨fun b H'=>ao H1 H'/\(b=false->0<ys.length),?_,?_⟩
  ·tm_up;refine aZ (fun _=>⟨ao.refl _,fun z=>nomatch z⟩) (fun _=>?_);tm_up;refine⟨big (by show 0<=1000;omega),fun e0 ZZ=>?_⟩;refine⟨l,e0,ys,rfl,rfl,aO.of (ao.upd ZZ _ _ (B1.sm _ _ h0)),aO.of af,_,rfl,ao.upd ZZ,fun z=>?_⟩;cases ys with
   |nil=>exact nomatch z
   |cons _ _=>exact Nat.succ_pos _
  rintro b H2 ⟨s2,hb⟩;have B2:=B1.same s2;have hp2:=s2 _ _ hp1;clear B1 s1 s2 hp1 B;obtain⟨dx,L,D,U,hx⟩:=B2.hx;obtain⟨F2,b2,f2,z2,o2⟩:=B2.ex;have gsg:=ZU gts;cases b with
  |true =>
   refine pG ?_;tm_up;refine⟨x,dx,_,rfl,hx,Ld _ _ _,_,rfl,_,rfl,_,rfl,?_⟩;refine⟨x,F2,vw,ps,fs,n,(k:Int),pq,(sg.1.str,sg.2),rfl,b2,hp2,by omega,?_⟩;rw[hf];refine⟨(fun z=>V' ⟨by omega,by omega⟩ z),(fun _ z=>by rw[gsg]at z;cases z),(fun _ _ z=>by omega),fun _ _ _ s11 w F11 UI e1 e2 aeh Rl b11=>?_⟩;have es:s11=sg:=Prod.ext (str_inj.mp e1) e2;subst es;rw[Int.toNat_natCast]at b11;obtain⟨B11,k11⟩:=Bw.mk' b11 B2.sm f2 z2 o2 aeh Rl;have aiU:=k11.tup hp2;have l11:=B11.sm _ _ h0;have g11:=g0.same B11.sm;refine⟨_,rfl,_,rfl,k,rfl,.inl ⟨l,ys,rfl,aO.of l11,fun c1 hc1=>?_⟩⟩;rw[ZN];have S1:=ao.upd (o:=.lst (ys.take k)) hc1;have k1:=af (H:=UI) (a:=c1) (o:=.lst (ys.take k));generalize upd UI c1 (.lst (ys.take k))=H13 at S1 k1;refine⟨_,rfl,big (by show 1<=1000;omega),fun c2 hc2=>?_⟩;have S2:=ao.upd (o:=.lst [V.ref pq]) hc2;have k2:=af (H:=H13) (a:=c2) (o:=.lst [V.ref pq]);generalize upd H13 c2 (.lst [V.ref pq])=H14 at S2 k2;refine .inr (.inr ⟨c1,c2,_,_,rfl,rfl,S2 _ _ k1,k2,?_,fun c3 hc3=>?_⟩)
   ·exact big (by rw[length_take];show _+1<=1000;omega)
   have S3':=ao.upd (o:=.lst (ys.take k++[V.ref pq])) hc3;have k3:=af (H:=H14) (a:=c3) (o:=.lst (ys.take k++[V.ref pq]));generalize upd H14 c3 (.lst (ys.take k++[V.ref pq]))=H15 at S3' k3;have SS:=(S1.trans S2).trans S3';refine⟨_,rfl,_,rfl,k,rfl,.inl ⟨l,ys,rfl,aO.of (SS _ _ l11),fun c4 hc4=>?_⟩⟩;rw[Ed ys k (by omega)];have S4:=ao.upd (o:=.lst (ys.drop k)) hc4;have k4:=af (H:=H15) (a:=c4) (o:=.lst (ys.drop k));generalize upd H15 c4 (.lst (ys.drop k))=H16 at S4 k4;refine .inr (.inr ⟨c3,c4,_,_,rfl,rfl,S4 _ _ k3,k4,?_,fun c5 hc5=>?_⟩)
   ·exact big (by simp only [T',length_take,length_drop,length_singleton];omega)
   have S5:=ao.upd (o:=.lst (ys.take k++[V.ref pq]++ys.drop k)) hc5;have k5:=af (H:=H16) (a:=c5) (o:=.lst (ys.take k++[V.ref pq]++ys.drop k));have B16:=B11.same (SS.trans S4);have gg:=iq.same ((SS.trans S4).trans S5) (BK (BK (Ju k g11) (.cons ⟨pq,rfl,aiU⟩ .nil)) (K5 k g11));generalize upd H16 c5 (.lst (ys.take k++[V.ref pq]++ys.drop k))=H17 at S5 k5 gg;exact q c5 _ _ H17 (B16.add S5 hc5 k5) k5 gg (by simp only [T',length_take,length_drop,length_singleton];omega) (good3 gd gts)
  |false =>
   refine cv ?_;have y0:=hb rfl;tm_up;refine .inl ⟨l,ys,rfl,.inl (aO.of (B2.sm _ _ h0)),?_⟩;obtain⟨j,hj,hjl⟩:=N4 (k:Int) (k:=(ys.length:Int)) (by omega);refine⟨_,_,rfl,rfl,(by omega:(0:Int)<(ys.length:Int)),?_⟩;rw[show V.int ((k:Int) % (ys.length:Int))=V.int (j:Int) from congrArg V.int hj];tm_up;refine aZ (fun _=>?_) (fun _=>?_)
   ·tm_up;refine⟨x,dx,_,rfl,hx,Xc _ _ _,_,rfl,_,rfl,?_⟩;refine⟨x,F2,vw,ps,fs,n,(j:Int),rfl,b2,by omega,?_⟩;rw[hf];refine⟨(fun z=>V' ⟨by omega,by omega⟩ z),fun _ w F11 UI aeh Rl b11=>?_⟩;rw[Int.toNat_natCast]at b11;obtain⟨B11,k11⟩:=Bw.mk' b11 B2.sm f2 z2 o2 aeh Rl;have l11:=B11.sm _ _ h0;have g11:=g0.same B11.sm;refine⟨_,rfl,_,rfl,j,rfl,.inl ⟨l,ys,rfl,aO.of l11,fun c1 hc1=>?_⟩⟩;rw[ZN];have S1:=ao.upd (o:=.lst (ys.take j)) hc1;have k1:=af (H:=UI) (a:=c1) (o:=.lst (ys.take j));generalize upd UI c1 (.lst (ys.take j))=H15 at S1 k1;refine⟨_,rfl,_,rfl,.inl ⟨_,_,rfl,rfl,_,rfl,.inl ⟨l,ys,rfl,aO.of (S1 _ _ l11),fun c4 hc4=>?_⟩⟩⟩;rw[show BG ys (some ((j:Int)+1)) none=ys.drop (j+1) from Ed ys (j+1) (by omega)];have S4:=ao.upd (o:=.lst (ys.drop (j+1))) hc4;have k4:=af (H:=H15) (a:=c4) (o:=.lst (ys.drop (j+1)));generalize upd H15 c4 (.lst (ys.drop (j+1)))=H16 at S4 k4;refine .inr (.inr ⟨c1,c4,_,_,rfl,rfl,S4 _ _ k1,k4,?_,fun c5 hc5=>?_⟩)
    ·exact big (by simp only [length_take,length_drop];omega)
    have S5:=ao.upd (o:=.lst (ys.take j++ys.drop (j+1))) hc5;have k5:=af (H:=H16) (a:=c5) (o:=.lst (ys.take j++ys.drop (j+1)));have B16:=B11.same (S1.trans S4);have gg:=iq.same ((S1.trans S4).trans S5) (BK (Ju j g11) (K5 (j+1) g11));generalize upd H16 c5 (.lst (ys.take j++ys.drop (j+1)))=H17 at S5 k5 gg;exact q c5 _ _ H17 (B16.add S5 hc5 k5) k5 (by rw[append_nil];exact gg) (by simp only [T',length_take,length_drop,List.length_nil];omega) (good2 gd)
   ·tm_up;refine⟨x,dx,_,rfl,hx,Vj _ _ _,_,rfl,_,rfl,_,rfl,?_⟩;refine⟨x,F2,vw,ps,fs,n,(j:Int),pq,(sg.1.str,sg.2),rfl,b2,hp2,by omega,?_⟩;rw[hf];refine⟨(fun z=>V' ⟨by omega,by omega⟩ z),(fun _ z=>by rw[gsg]at z;cases z),fun _ _ s11 w F11 UI e1 e2 aeh Rl b11=>?_⟩;have es:s11=sg:=Prod.ext (str_inj.mp e1) e2;subst es;rw[Int.toNat_natCast]at b11;obtain⟨B11,k11⟩:=Bw.mk' b11 B2.sm f2 z2 o2 aeh Rl;have aiU:=k11.tup hp2;have l11:=B11.sm _ _ h0;have g11:=g0.same B11.sm;refine⟨_,rfl,_,rfl,j,rfl,.inl ⟨l,ys,rfl,aO.of l11,fun c1 hc1=>?_⟩⟩;rw[ZN];have S1:=ao.upd (o:=.lst (ys.take j)) hc1;have k1:=af (H:=UI) (a:=c1) (o:=.lst (ys.take j));generalize upd UI c1 (.lst (ys.take j))=H13 at S1 k1;refine⟨_,rfl,big (by show 1<=1000;omega),fun c2 hc2=>?_⟩;have S2:=ao.upd (o:=.lst [V.ref pq]) hc2;have k2:=af (H:=H13) (a:=c2) (o:=.lst [V.ref pq]);generalize upd H13 c2 (.lst [V.ref pq])=H14 at S2 k2;refine .inr (.inr ⟨c1,c2,_,_,rfl,rfl,S2 _ _ k1,k2,?_,fun c3 hc3=>?_⟩)
    ·exact big (by rw[length_take];show _+1<=1000;omega)
    have S3':=ao.upd (o:=.lst (ys.take j++[V.ref pq])) hc3;have k3:=af (H:=H14) (a:=c3) (o:=.lst (ys.take j++[V.ref pq]));generalize upd H14 c3 (.lst (ys.take j++[V.ref pq]))=H15 at S3' k3;have SS:=(S1.trans S2).trans S3';refine⟨_,rfl,_,rfl,.inl ⟨_,_,rfl,rfl,_,rfl,.inl ⟨l,ys,rfl,aO.of (SS _ _ l11),fun c4 hc4=>?_⟩⟩⟩;rw[show BG ys (some ((j:Int)+1)) none=ys.drop (j+1) from Ed ys (j+1) (by omega)];have S4:=ao.upd (o:=.lst (ys.drop (j+1))) hc4;have k4:=af (H:=H15) (a:=c4) (o:=.lst (ys.drop (j+1)));generalize upd H15 c4 (.lst (ys.drop (j+1)))=H16 at S4 k4;refine .inr (.inr ⟨c3,c4,_,_,rfl,rfl,S4 _ _ k3,k4,?_,fun c5 hc5=>?_⟩)
    ·exact big (by simp only [T',length_take,length_drop,length_singleton];omega)
    have S5:=ao.upd (o:=.lst (ys.take j++[V.ref pq]++ys.drop (j+1))) hc5;have k5:=af (H:=H16) (a:=c5) (o:=.lst (ys.take j++[V.ref pq]++ys.drop (j+1)));have B16:=B11.same (SS.trans S4);have gg:=iq.same ((SS.trans S4).trans S5) (BK (BK (Ju j g11) (.cons ⟨pq,rfl,aiU⟩ .nil)) (K5 (j+1) g11));generalize upd H16 c5 (.lst (ys.take j++[V.ref pq]++ys.drop (j+1)))=H17 at S5 k5 gg;exact q c5 _ _ H17 (B16.add S5 hc5 k5) k5 gg (by simp only [T',length_take,length_drop,length_singleton];omega) (good3 gd gts)
inductive Bt (c:Cs)(vs:List V)(H:Hp)(Q:VK)(E:XK):Prop
 |mk (x:Addr) (F:Addr->Prop) (vw:Vw) (ps fs:List Vw) (dE:vs=[.ref x]) (dF:BP c H x F vw ps fs) (eQ:∀(l:Addr)(H':Hp),H l=none->ao H H'->H' l=some (.lst (vw.map fun a=>V.str a.1))->Q (.ref l) H'):Bt c vs H Q E
theorem oH (T:Txt K w mg t):br P w K mg base fK (0+1) t.eS t.vW ["self"] (Bt (cs t)):=by
 refine T.qA.ok N5 (fun vs H Q E h=>?_) (fun cdv A outer s H vs Q E hr h=>?_)
 ·obtain⟨_,_,_,_,_,rfl,_⟩:=h;rfl
 ·obtain⟨x,F,vw,ps,fs,rfl,B,q⟩:=h;refine aR (ah (ax (kY (cn:=["voice"]) rfl (bY.of rfl) (cu (cj (pv 0) rfl)) (fun _=>(aB (i:=0) JW rfl (Or.inl rfl))) (fun _=>j0) (fun _=>(cj (pv 0) rfl))))) ?_;obtain⟨L,D,U,all,M,Ps,Fs,es,us,b,i,pp,pf,f⟩:=B.ex;obtain⟨dx,hx⟩:=b.hx;obtain⟨vx,g,gv⟩:=b.yu i;have hL:=b.hL;have xl:=bh g;have vl:=bh gv;have ln:=(b.wf M (.inr (.inl rfl))).len;have hn:=aiG gv fun _ _ r=>r.2.1;refine⟨_,rfl,x,_,dx,_,_,rfl,hx,T.aN,T.cm,q9 _ _ _,L,rfl,⟨_,aO.of hL⟩,fun D' b' hD'=>?_⟩;refine eJ (K:=K) (xs:=M L) (fun i ys σ H'=>∃ v,σ=[v,some (.ref x)]/\H'=upd H D' (.lst ys)/\ys=(vx.take i).map fun a=>V.str a.n) ⟨none,rfl,rfl,by simp⟩ ?_ ?_ ?_
  ·rintro i ys σ H' ⟨v,rfl,rfl,_⟩;exact ip (aO.of hL) hD'
  ·rintro i ys y σ H' hy ⟨v,rfl,rfl,rfl⟩ N hN;obtain⟨a,e1,rfl,ha⟩:=j3 g hy;have hi:i<vx.length:=(C'.mp e1).1;refine fi ?_;refine⟨_,rfl,a.o,_,a.d,_,_,rfl,by rw[ak (ar ha hD')];exact ha,T.gL,T.fu,Vh _ _ _,af,?_,?_⟩
   ·rw[J',length_take];exact aQ (by omega)
   ·refine hN _ _ _ ⟨_,rfl,df,?_⟩;rw[take_succ,e1];simp
  ·rintro ys σ H' ⟨v,rfl,rfl,rfl⟩;rw[xl,take_length,hn];exact q D' _ hD' (ao.upd hD') af
inductive Bu (c:Cs)(vs:List V)(H:Hp)(Q:VK)(E:XK):Prop
 |mk (x:Addr) (F:Addr->Prop) (vw:Vw) (ps fs:List Vw) (n:Str) (dE:vs=[.ref x,.str n]) (dF:BP c H x F vw ps fs) (eQ:match bp vw n with
 |none=>RX E c .oC H
 |some (.pl _)=>Q .non H
 |some (.cn ld lt sl tn)=>∀ p,H p=some (.tup [.str ld,.int lt,.int sl,.bl tn])->Q (.ref p) H):Bu c vs H Q E
theorem jR (T:Txt K w mg t):br P w K mg base fK (0+2) t.eU t.vX ["self","name"] (Bu (cs t)):=by
 have bW:=fc (P:=P) (base:=base) T;refine T.qB.ok N6 (fun vs H Q E h=>?_) (fun cdv A outer s H vs Q E hr h=>?_)
 ·obtain⟨_,_,_,_,_,_,rfl,_⟩:=h;rfl
 ·obtain⟨x,F,vw,ps,fs,n,rfl,B,q⟩:=h;refine aR (ah (ax (cj (bj (pv 0) T.aN T.eW bW (hr.mono (by decide)) T.cP .nil au (aa (pv 1) ae)) rfl))) ?_;obtain⟨L,D,U,all,M,Ps,Fs,es,us,b,iM,pp,pf,f⟩:=B.ex;obtain⟨dx,hx⟩:=b.hx;obtain⟨vx,g,gv⟩:=b.yu iM;refine⟨_,rfl,x,dx,_,rfl,hx,fD _ _ _,_,rfl,x,dx,L,D,U,M L,vx,n,rfl,hx,b.hL,g,?_⟩;rcases Lg gv (fun _ _ r=>r.2.1) n with ⟨f1,f2⟩|⟨a,th,j,f1,f2,r,an,fj,fw⟩
  ·rw[f1];rw[f2]at q;exact(Bool.noConfusion (show false=true from q.1))
  rw[f1];rw[f2]at q;refine⟨a.o,_,a.d,_,_,rfl,(b.ha a r.1).1,T.gL,T.eh,Pm _ _ _,?_⟩;cases th with
  |pl ss=>rw[r.2.2.1];exact q
  |cn ld lt sl tn =>
   obtain⟨p,e1,e2⟩:=r.2.2;rw[e1];exact q p e2
noncomputable def EV:Th->Int
 |.pl _=>0
 |.cn _ lt _ _=>lt
theorem bw3 (m:Int)(k:Kd)(n:Option Kd):0<=bw m k n/\bw m k n<=3:=by
 unfold bw;split
 ·omega
 ·cases k <;> unfold pw <;> first|omega|(split <;> omega)
theorem ak3 (m:Int)(ks:List Kd):∀ x∈gK m ks,0<=x/\x<=(3:Int):=by
 induction ks generalizing m with
 |nil=>intro x hx;cases hx
 |cons k t ih =>
  intro x hx;rcases List.mem_cons.mp hx with rfl|hx
  ·exact bw3 (nm m k) k t.head?
  ·exact ih _ x hx
theorem aiV {f:List Int}{j:Nat}(h:∀ x∈f,0<=x/\x<=(3:Int)):∀ x∈f.set j 2,0<=x/\x<=(3:Int):=fun x hx=>by
 rcases List.mem_or_eq_of_mem_set hx with z|z
 ·exact h x z
 ·omega
theorem agm {ks:List Kd}{f:List Int}{a z:Nat}(h:∀ x∈f,0<=x/\x<=(3:Int)):∀ x∈(settle ks f a z).2,0<=x/\x<=(3:Int):=by
 unfold settle vI vJ
 repeat' split
 all_goals first|exact h|exact aiV h|exact aiV (aiV h)
theorem ak4 (ks:List Kd)(rs:List (Nat×Nat))(c:RdS)(h:∀ x∈c.1,0<=x/\x<=(3:Int)):∀ x∈(rs.foldl (pI ks) c).1,0<=x/\x<=(3:Int):=by
 induction rs generalizing c with
 |nil=>exact h
 |cons p t ih=>exact ih _ (agm h)
theorem ahE (m:Int)(ks:List Kd):∀ x∈(jt m ks).1,0<=x/\x<=(3:Int):=ak4 _ _ _ (ak3 m ks)
theorem Rm {vw:Vw}(w:yt vw){n:Str}{th:Th}(hf:bp vw n=some th):(∀ x∈iu vw n,0<=x/\x<=(27:Int))/\(iu vw n).length=(ju vw n).length/\(ju vw n).length<=200/\0<=EV th/\EV th<=999:=by
 cases th with
 |pl ss =>
  rw[yw hf,rf hf];refine⟨fun x hx=>?_,by rw[qI,J'],(w.gd _ _ (cb hf)).1,by show(0:Int)<=0;omega,by show(0:Int)<=999;omega⟩;have:=ahE _ _ x hx;omega
 |cn ld lt sl tn =>
  obtain⟨⟨ss,Bv⟩,lt0,lt1,sl0,sl1⟩:=w.ld n ld lt sl tn (cb hf);have hfl:=w.find Bv;have gl:=(w.gd _ _ Bv).1;rw[yx hf hfl,rg hf hfl];refine⟨fun x hx=>?_,by rw[J',qI,J'],?_,lt0,lt1⟩
  ·obtain⟨y,hy,rfl⟩:=mem_map.mp hx;have:=ahE _ _ y hy;have h1:0<=sl * y:=Int.mul_nonneg (by omega) this.1;have h2:sl * y<=9 * 3:=Int.mul_le_mul sl1 this.2 this.1 (by omega);exact⟨h1,by omega⟩
  ·split
   ·rw[J'];omega
   ·omega
noncomputable def eI:List Sg->List Int->Int->List (Int×Int×Int)
 |s::ss,w::ws,b=>(if s.1.fk=true then [(b,b+w,s.2)] else [])++eI ss ws (b+w)
 |_,_,_=>[]
noncomputable def gZ (H:Hp)(y:V)(t:Int×Int×Int):Prop:=∃ p,y=.ref p/\H p=some (.tup [.int t.1,.int t.2.1,.int t.2.2])
theorem gZ.same {H H':Hp}(s:ao H H'){y:V}{t:Int×Int×Int}(h:gZ H y t):gZ H' y t:=by
 obtain⟨p,e1,e2⟩:=h;exact⟨p,e1,s _ _ e2⟩
theorem gZ.write {H:Hp}{l:Addr}{xs:List V}{o:HO}(hl:H l=some (.lst xs)){y:V}{t:Int×Int×Int}(h:gZ H y t):gZ (upd H l o) y t:=by
 obtain⟨p,e1,e2⟩:=h;exact⟨p,e1,by rw[ak (fun e=>by rw[e,hl]at e2;exact nomatch e2)];exact e2⟩
theorem Xy (ss:List Sg):∀(ws:List Int)(b:Int),(eI ss ws b).length<=ss.length:=by
 induction ss with
 |nil=>intro ws b;cases ws <;> exact R' _
 |cons s t ih =>
  intro ws b;cases ws with
  |nil=>exact Nat.zero_le _
  |cons w ws =>
   have:=ih ws (b+w);show((if s.1.fk=true then [(b,b+w,s.2)] else [])++eI t ws (b+w)).length<=t.length+1;rw[T'];split
   ·show 1+_<=_;omega
   ·show 0+_<=_;omega
theorem JH {ss:List Sg}{ws:List Int}{i:Nat}{s:Sg}{w:Int}(hs:ss[i]? = some s)(hw:ws[i]? = some w)(b:Int):eI (ss.drop i) (ws.drop i) b=(if s.1.fk=true then [(b,b+w,s.2)] else [])++eI (ss.drop (i+1)) (ws.drop (i+1)) (b+w):=by
 rw[i8 hs,i8 hw];rfl
inductive EW (c:Cs)(vs:List V)(H:Hp)(Q:VK)(E:XK):Prop
 |mk (x:Addr) (F:Addr->Prop) (vw:Vw) (ps fs:List Vw) (n:Str) (th:Th) (dE:vs=[.ref x,.str n]) (dF:BP c H x F vw ps fs) (eQ:bp vw n=some th) (jv:Q (.int (EV th)) H):EW c vs H Q E
theorem Rn (T:Txt K w mg t):br P w K mg base fK (0+3) t.iS t.yI ["book","name"] (EW (cs t)):=by
 have dO:=jR (P:=P) (base:=base) T;refine T.oR.ok En (fun vs H Q E h=>?_) (fun cdv A outer s H vs Q E hr h=>?_)
 ·obtain⟨_,_,_,_,_,_,_,rfl,_⟩:=h;rfl
 ·obtain⟨x,F,vw,ps,fs,n,th,rfl,B,hf,q⟩:=h;refine aR (ag (aH (i:=2) En.nd rfl (Or.inl rfl) (bj (pv 0) T.aN T.jO dO (hr.mono (by decide)) T.gE .nil au (aa (pv 1) ae))) (ag (aU (aw Qp (pv 2) BF (aG _)) (ah (ax aj)) aD) (ah (ax (aT aI (pv 2) aj (fun _ _=>rfl)))))) ?_;obtain⟨L,D,U,all,M,Ps,Fs,es,us,b,_⟩:=B.ex;obtain⟨dx,hx⟩:=b.hx;tm_up;refine⟨x,dx,_,rfl,hx,k8 _ _ _,_,rfl,x,F,vw,ps,fs,n,rfl,B,?_⟩;rw[hf];cases th with
  |pl ss =>
   tm_up;exact⟨rfl,true,by rw[N' rfl],pG q⟩
  |cn ld lt sl tn =>
   intro p hp;tm_up;refine⟨rfl,false,by rw[Y' (fun e=>nomatch e)],cv ?_⟩;tm_up;exact .inr (.inl ⟨p,_,1,_,rfl,rfl,ij.of hp,rfl,q⟩)
theorem aej (k:Kd):(([(Str.ofString "3",V.str "2"),(Str.ofString "2",V.str "3")]:List (Str×V)).lookup k.str).getD (.str k.str)=.str (Pr k).str:=by cases k <;> decide +kernel
inductive PK (K:Frag)(vs:List V)(H:Hp)(Q:VK)(E:XK):Prop
 |mk (l:Addr) (xs:List V) (ss:List Sg) (dE:vs=[.ref l]) (dF:aO K H l xs) (eQ:iq H xs ss) (jv:ss.length<=400) (pE:∀(f:Addr)(ys:List V)(H':Hp),ao H H'->H f=none->H' f=some (.lst ys)->iq H' ys (ss.map sP)->Q (.ref f) H'):PK K vs H Q E
theorem PL (T:Txt K w mg t):br P w K mg base fK (0+1) t.rB t.Lr ["line"] (PK K):=by
 refine T.ve.ok aaM (fun vs H Q E h=>?_) (fun cdv A outer s H vs Q E hr h=>?_)
 ·obtain⟨_,_,_,rfl,_⟩:=h;rfl
 ·obtain⟨l,xs,ss,rfl,hS,hg,hn,q⟩:=h;refine aR (ah (ax (kY (cn:=["kind","tone"]) rfl (bY.of rfl) (cu (pv 0)) (fun _=>(dA rfl (aK (aB (i:=0) Jz rfl (Or.inl rfl)) (aK (aB (i:=1) Jz rfl (Or.inl rfl)) cq)))) (fun _=>j0) (fun _=>(cV (aa (adJ (bR (v:=.ref t.dj) rfl T.LP rfl) (pv 0) (pv 0)) (aa (pv 1) ae))))))) ?_;tm_up;refine⟨⟨xs,hS⟩,fun D b hD=>?_⟩;refine eJ (K:=K) (xs:=xs) (fun i ys σ H'=>∃(v w:Option V),σ=[v,w,some (.ref l)]/\ao H H'/\H' D=some (.lst ys)/\iq H' ys ((ss.take i).map sP))
   ⟨none,none,rfl,ao.upd hD,af,.nil⟩ ?_ ?_ ?_
  ·rintro i ys σ H' ⟨v,w,rfl,s2,_⟩;exact s2.seq hS
  ·rintro i ys x σ H' hx ⟨v,w,rfl,s2,ui,hsg⟩ N hN;obtain⟨s,hs,p,rfl,hp⟩:=j3 hg hx;have hi:i<ss.length:=(C'.mp hs).1;refine⟨p,_,rfl,ij.of (s2 _ _ hp),rfl,_,_,rfl,_,_,rfl,rfl,?_⟩;refine⟨_,_,rfl,T.JZ,?_⟩;tm_up;rw[aej];refine⟨by show 2<=sizeLine;decide,fun z hz=>?_⟩;have sz:=ao.upd (o:=.tup [.str (Pr s.1).str,.int s.2]) hz;have hD3:=sz _ _ ui;refine⟨hD3,?_,?_⟩
   ·rw[bh hsg,J',length_take];exact aQ (by omega)
   ·refine hN _ _ _ ⟨_,_,rfl,cD (s2.trans sz) hD,af,?_⟩;rw[take_succ,hs,map_append];exact fL (K6 hD3 (hsg.same sz)) (Pl hD3 ⟨z,rfl,af⟩)
  ·rintro ys σ H' ⟨v,w,rfl,s2,ui,hsg⟩;rw[bh hg,take_length]at hsg;exact q D ys H' s2 hD ui hsg
inductive Bx (c:Cs)(vs:List V)(H:Hp)(Q:VK)(E:XK):Prop
 |mk (x:Addr) (F:Addr->Prop) (vw:Vw) (ps fs:List Vw) (n:Str) (ss:List Sg) (dE:vs=[.ref x,.str n]) (dF:BP c H x F vw ps fs) (eQ:bp vw n=some (.pl ss)) (jv:∀(l:Addr)(ys:List V)(H':Hp),H l=none->ao H H'->H' l=some (.lst ys)->iq H' ys ss->Q (.ref l) H'):Bx c vs H Q E
theorem Oh (T:Txt K w mg t):br P w K mg base fK (0+3) t.eV t.sR ["self","name"] (Bx (cs t)):=by
 have dO:=jR (P:=P) (base:=base) T;have LZ:=PL (P:=P) (base:=base) T;have bW:=fc (P:=P) (base:=base) T;refine T.oS.ok bO (fun vs H Q E h=>?_) (fun cdv A outer s H vs Q E hr h=>?_)
 ·obtain⟨_,_,_,_,_,_,_,rfl,_⟩:=h;rfl
 ·obtain⟨x,F,vw,ps,fs,n,ss,rfl,B,hf,q⟩:=h;refine aR (ag (aH (i:=2) bO.nd rfl (Or.inl rfl) (bj (pv 0) T.aN T.jO dO (hr.mono (by decide)) T.gE .nil au (aa (pv 1) ae))) (ag (aU (aw Qp (pv 2) BF (aG _)) (ah (ax (bH D5 rfl T.fG fB (aa (cj (bj (pv 0) T.aN T.eW bW (hr.mono (by decide)) T.cP .nil au (aa (pv 1) ae)) rfl) ae)))) aD) (ag (kS (pv 2) (dA rfl (aK (aB (i:=3) bO.nd rfl (Or.inl rfl)) (aK (aB (i:=4) bO.nd rfl (Or.inl rfl)) (aK (aB (i:=5) bO.nd rfl (Or.inl rfl)) (aK (aB (i:=6) bO.nd rfl (Or.inl rfl)) cq)))))) (ag (aH (i:=7) bO.nd rfl (Or.inl rfl) adO) (ah (ax (dJ (gI (aX (pv 6)) (aq LZ (hr.mono (by decide)) rfl T.Py T.ve.kp T.Ey .nil au (aa (pv 7) ae)) (pv 7))))))))) ?_;obtain⟨L,D,U,all,M,Ps,Fs,es,us,b,iM,pp,pf,f⟩:=B.ex;obtain⟨dx,hx⟩:=b.hx;obtain⟨vx,g,gv⟩:=b.yu iM;refine⟨_,rfl,x,dx,_,rfl,hx,k8 _ _ _,_,rfl,x,F,vw,ps,fs,n,rfl,B,?_⟩;rw[hf];refine⟨_,rfl,rfl,_,rfl,?_⟩;refine aZ (fun _=>?_) (fun h=>V' (by decide) h);refine⟨_,rfl,x,dx,_,rfl,hx,fD _ _ _,_,rfl,x,dx,L,D,U,M L,vx,n,rfl,hx,b.hL,g,?_⟩;rcases Lg gv (fun _ _ r=>r.2.1) n with ⟨f1,f2⟩|⟨a,th,j,f1,f2,r,an,fj,fw⟩
  ·rw[f2]at hf;cases hf
  rw[f1];rw[f2]at hf;cases hf;refine⟨a.o,_,a.d,_,_,rfl,(b.ha a r.1).1,T.gL,T.ck,uM _ _ _,?_⟩;refine⟨_,_,rfl,.inl (aO.of (b.ha a r.1).2),fun l hl=>?_⟩;exact q l _ _ hl (ao.upd hl) af (r.2.2.2.same (ao.upd hl))
inductive EX (c:Cs)(vs:List V)(H:Hp)(Q:VK)(E:XK):Prop
 |mk (x:Addr) (F:Addr->Prop) (vw:Vw) (ps fs:List Vw) (n:Str) (dE:vs=[.ref x,.str n]) (dF:BP c H x F vw ps fs) (eQ:match bp vw n with
 |none=>RX E c .oC H
 |some _=>∀(l:Addr)(ys:List V)(H':Hp),H l=none->ao H H'->H' l=some (.lst ys)->iq H' ys (ju vw n)->Q (.ref l) H'):EX c vs H Q E
theorem wA (T:Txt K w mg t):br P w K mg base fK (0+4) t.eV t.sR ["self","name"] (EX (cs t)):=by
 have Ro:=Oh (P:=P) (base:=base) T;have dO:=jR (P:=P) (base:=base) T;have LZ:=PL (P:=P) (base:=base) T;have bW:=fc (P:=P) (base:=base) T;refine T.oS.ok bO (fun vs H Q E h=>?_) (fun cdv A outer s H vs Q E hr h=>?_)
 ·obtain⟨_,_,_,_,_,_,rfl,_⟩:=h;rfl
 ·obtain⟨x,F,vw,ps,fs,n,rfl,B,q⟩:=h;refine aR (ag (aH (i:=2) bO.nd rfl (Or.inl rfl) (bj (pv 0) T.aN T.jO dO (hr.mono (by decide)) T.gE .nil au (aa (pv 1) ae))) (ag (aU (aw Qp (pv 2) BF (aG _)) (ah (ax (bH D5 rfl T.fG fB (aa (cj (bj (pv 0) T.aN T.eW bW (hr.mono (by decide)) T.cP .nil au (aa (pv 1) ae)) rfl) ae)))) aD) (ag (kS (pv 2) (dA rfl (aK (aB (i:=3) bO.nd rfl (Or.inl rfl)) (aK (aB (i:=4) bO.nd rfl (Or.inl rfl)) (aK (aB (i:=5) bO.nd rfl (Or.inl rfl)) (aK (aB (i:=6) bO.nd rfl (Or.inl rfl)) cq)))))) (ag (aH (i:=7) bO.nd rfl (Or.inl rfl) (bj (pv 0) T.aN T.jg Ro (hr.mono (by decide)) T.fZ .nil au (aa (pv 3) ae))) (ah (ax (dJ (gI (aX (pv 6)) (aq LZ (hr.mono (by decide)) rfl T.Py T.ve.kp T.Ey .nil au (aa (pv 7) ae)) (pv 7))))))))) ?_;obtain⟨L,D,U,all,M,Ps,Fs,es,us,b,iM,pp,pf,f⟩:=B.ex;obtain⟨dx,hx⟩:=b.hx;obtain⟨vx,g,gv⟩:=b.yu iM;have wv:=B.wv vw (.inr (.inl rfl));refine⟨_,rfl,x,dx,_,rfl,hx,k8 _ _ _,_,rfl,x,F,vw,ps,fs,n,rfl,B,?_⟩;cases hf:bp vw n with
  |none =>
   rw[hf]at q;exact(Bool.noConfusion (show false=true from q.1))
  |some th =>
   rw[hf]at q;cases th with
   |pl ss =>
    refine⟨_,rfl,rfl,_,rfl,?_⟩;refine aZ (fun _=>?_) (fun h=>V' (by decide) h);refine⟨_,rfl,x,dx,_,rfl,hx,fD _ _ _,_,rfl,x,dx,L,D,U,M L,vx,n,rfl,hx,b.hL,g,?_⟩;rcases Lg gv (fun _ _ r=>r.2.1) n with ⟨f1,f2⟩|⟨a,th,j,f1,f2,r,an,fj,fw⟩
    ·rw[f2]at hf;cases hf
    rw[f1];rw[f2]at hf;cases hf;refine⟨a.o,_,a.d,_,_,rfl,(b.ha a r.1).1,T.gL,T.ck,uM _ _ _,?_⟩;refine⟨_,_,rfl,.inl (aO.of (b.ha a r.1).2),fun l hl=>?_⟩;exact q l _ _ hl (ao.upd hl) af (by rw[rf f2];exact r.2.2.2.same (ao.upd hl))
   |cn ld lt sl tn =>
    intro p hp;refine⟨_,rfl,rfl,_,rfl,?_⟩;refine aZ (fun h=>by have:=K' h;cases this) (fun _=>?_);obtain⟨⟨ss,Bv⟩,_⟩:=wv.ld n ld lt sl tn (cb hf);have hfl:=wv.find Bv;have gl:=(wv.gd _ _ Bv).1;rw[rg hf hfl]at q;refine⟨_,rfl,p,_,rfl,ij.of hp,rfl,_,_,rfl,_,_,rfl,_,_,rfl,_,_,rfl,rfl,?_⟩;refine⟨_,rfl,x,dx,_,rfl,hx,ko _ _ _,_,rfl,x,F,vw,ps,fs,ld,ss,rfl,B,hfl,fun l ys H1 hl s1 h1 g1=>?_⟩;refine⟨fun v H'=>∃ l' ys',v=.ref l'/\H l'=none/\ao H H'/\H' l'=some (.lst ys')/\iq H' ys' (if tn=true then ss.map sP else ss),?_,?_⟩
    ·refine⟨_,rfl,_,rfl,?_⟩;cases tn with
     |true =>
      refine pG ⟨_,rfl,l,ys,ss,rfl,aO.of h1,g1,by omega,fun f' ys' H2 s2 hf' h2 g2=>⟨f',ys',rfl,s1.free hf',s1.trans s2,h2,g2⟩⟩
     |false=>exact cv ⟨_,rfl,l,ys,rfl,hl,s1,h1,g1⟩
    ·rintro v H' ⟨l',ys',rfl,a1,a2,a3,a4⟩;exact q l' ys' H' a1 a2 a3 a4
inductive JI (K:Frag)(vs:List V)(H:Hp)(Q:VK)(E:XK):Prop
 |mk (l:Addr) (b:Int) (xs:List V) (ss:List Sg) (dE:vs=[.ref l,.int b]) (dF:aO K H l xs) (eQ:iq H xs ss) (jv:ss.length<=400) (pE:∀(f:Addr)(H':Hp),ao H H'->H f=none->H' f=some (.lst ((ir b (bE ss)).map V.int))->Q (.ref f) H'):JI K vs H Q E
theorem ak5 {k:Kd}(h:k.meas=true)(m:Int):intText? k.str=some (nm m k)/\k.str.length<=640:=by
 cases k <;> first|(cases h;done)|exact⟨by first|exact(show intText? Kd.three.str=some 3 by lk)|exact(show intText? Kd.two.str=some 2 by lk),by lk⟩
theorem aiX {k:Kd}(h:¬ k.meas=true)(m:Int):nm m k=m:=by
 cases k <;> first|rfl|exact V' rfl h
theorem JJ (T:Txt K w mg t):br P w K mg base fK (0+2) t.j7 t.vY ["line","begin"] (JI K):=by
 have rV:=xZ (P:=P) (base:=base) T;refine T.j9.ok oN (fun vs H Q E h=>?_) (fun cdv A outer s H vs Q E hr h=>?_)
 ·obtain⟨_,_,_,_,rfl,_⟩:=h;rfl
 ·obtain⟨l,b,xs,ss,rfl,hS,hg,hn,q⟩:=h;refine aR (ag (aH (i:=2) oN.nd rfl (Or.inl rfl) (bq ae)) (ag (aH (i:=3) oN.nd rfl (Or.inl rfl) (pv 1)) (ag (cE PassesOwn.never rfl (cu (pv 0)) (aB (i:=4) oN.nd rfl (Or.inl rfl)) (ag (jx (aU (aX (aq rV (hr.mono (by decide)) rfl T.xQ T.fP.kp T.lJ .nil au (aa (pv 4) ae))) (ah (aH (i:=3) oN.nd rfl (Or.inl rfl) (bH (qH.or gM) rfl T.Cm BH (aa (aT aI (pv 4) aj (fun _ _=>rfl)) ae)))) aD)) (ah (aP (eE plainAttrs_list slot_list_append type_list_append a6 (pv 2) (aa (pv 3) ae)))))) (ah (ax (pv 2)))))) ?_;refine⟨big (by show 0<=1000;omega),fun f hf=>?_⟩;tm_up;refine⟨⟨xs,ip hS hf⟩,gJ (K:=K) (xs:=xs) (fun i σ H'=>∃(m:Int)(v:Option V)(fs:List Int),σ=[some (.ref l),some (.int b),some (.ref f),some (.int m),v]/\H'=upd H f (.lst (fs.map V.int))/\fs++ir m ((bE ss).drop i)=ir b (bE ss))
   ⟨b,none,[],rfl,rfl,rfl⟩ ?_ ?_ ?_⟩
  ·rintro i σ H' _ ⟨m,v,fs,rfl,rfl,_⟩;exact ip hS hf
  ·rintro i x σ H' hx ⟨m,v,fs,rfl,rfl,hm⟩;obtain⟨s,hs,p,rfl,hp⟩:=j3 hg hx;have hd:=i8 (yp (f:=Prod.fst) hs);rw[hd]at hm;have hp':upd H f (.lst (fs.map V.int)) p=some (.tup [.str s.1.str,.int s.2]):=by rw[ak (ar hp hf)];exact hp
   have hl:=congrArg List.length hm;simp only [T',ir,length_cons,GA,J']at hl;refine adK [some (.ref l),some (.int b),some (.ref f),some (.int (nm m s.1)),some (.ref p)] (upd H f (.lst (fs.map V.int))) ?_ ?_
   ·refine⟨_,rfl,p,s,rfl,hp',_,rfl,?_⟩;refine aZ (fun h=>?_) (fun h=>?_)
    ·obtain⟨e1,e2⟩:=ak5 h m;tm_up;exact .inr ⟨_,_,rfl,e1,e2,rfl,rfl⟩
    ·rw[aiX h];exact⟨rfl,rfl⟩
   ·tm_up;refine⟨.inl ⟨rfl,_,aO.of af⟩,?_⟩;tm_up;refine⟨_,_,_,rfl,rfl,af,by rw[J'];exact aQ (by omega),?_⟩;exact⟨_,_,fs++[nm m s.1],rfl,by rw[df,map_append];rfl,by rw[List.append_assoc];exact hm⟩
  ·rintro σ H' ⟨m,v,fs,rfl,rfl,hm⟩;rw[List.drop_eq_nil_of_le (by rw[J',bh hg];exact R' _)]at hm;tm_up;have e:fs=ir b (bE ss):=by rw[<-hm];simp[ir]
   subst e;exact q f _ (ao.upd hf) hf af
inductive L0 (K:Frag)(vs:List V)(H:Hp)(Q:VK)(E:XK):Prop
 |mk (l:Addr) (i:Int) (xs:List V) (ss:List Sg) (dE:vs=[.ref l,.int i]) (dF:aO K H l xs) (eQ:iq H xs ss) (jv:Q (.str (sI (QJ (bE ss) i))) H):L0 K vs H Q E
theorem wB (T:Txt K w mg t):br P w K mg base fK (0+1) t.m8 t.GP ["line","at"] (L0 K):=by
 refine T.eO.ok Xh (fun vs H Q E h=>?_) (fun cdv A outer s H vs Q E hr h=>?_)
 ·obtain⟨_,_,_,_,rfl,_⟩:=h;rfl
 ·obtain⟨l,i,xs,ss,rfl,hS,hg,q⟩:=h;have out:¬(0<=i/\i<ss.length)->QJ (bE ss) i=none:=fun z=>by
   unfold QJ;split
   ·exact List.getElem?_eq_none (by rw[J'];omega)
   ·rfl
  refine aR (ag (aU (DV xM mR aj (pv 1) (av (az.or aA) rfl T.bD bC (aa (pv 0) ae))) (ah (ax (aT aI (aT aI (pv 0) (pv 1) (fun _ _=>rfl)) aj (fun _ _=>rfl)))) aD) (ah (ax bG))) ?_;tm_up;refine aZ (fun h0=>?_) (fun h0=>?_)
  ·have h0':=K' h0;tm_up;refine .inl ⟨_,_,rfl,.inl hS,?_⟩;rw[bh hg];tm_up;refine aZ (fun h1=>?_) (fun h1=>?_)
   ·have h1':=K' h1;have hi:i.toNat<ss.length:=by omega
    have e:QJ (bE ss) i=some (ss[i.toNat]).1:=by
     unfold QJ;rw[if_pos h0',getElem?_map,G' hi];rfl
    rw[e]at q;tm_up;refine N3 hS hg (n:=i.toNat) (by omega) (G' hi) fun b hb=>?_;tm_up;exact q
   ·rw[out fun z=>h1 (N' z.2)]at q;exact q
  ·rw[out fun z=>h0 (N' z.1)]at q;exact⟨_,rfl,cv q⟩
inductive zg (vs:List V)(H:Hp)(Q:VK)(E:XK):Prop
 |mk (k:Kd) (m:Int) (dE:vs=[.str k.str,.int m]) (dF:Q (.int (pw k m)) H):zg vs H Q E
theorem L1 (T:Txt K w mg t):br P w K mg base fK (0+1) t.fm t.ud ["kind","measure"] zg:=by
 refine T.jP.ok Li (fun vs H Q E h=>?_) (fun cdv A outer s H vs Q E hr h=>?_)
 ·obtain⟨_,_,rfl,_⟩:=h;rfl
 ·obtain⟨k,m,rfl,q⟩:=h;refine aR (ag (aU (bF (PW.pt (cU (aw (bQ.or (bo (aM hr))) (pv 1) aj (aG _)) (dn (aw adI (pv 0) (bR (v:=.ref t.bS) rfl T.vt rfl) rfl))))) (ah (ax (aT ahp (bR (v:=.ref t.bS) rfl T.vt rfl) (pv 0) (fun _ _=>rfl)))) aD) (ah (ax (aT ahp (bR (v:=.ref t.dm) rfl T.LQ rfl) (pv 0) (fun _ _=>rfl))))) ?_;refine iF (decide (m=2)&&(decide (k=.G)||decide (k=.R))) ?_ ?_
  ·tm_up;rw[dG];refine aZ (fun h=>?_) (fun h=>?_)
   ·tm_up;refine⟨_,_,_,rfl,rfl,T.tF,_,rfl,cF ?_⟩;rw[h];cases k <;> decide +kernel
   ·exact cF (by rw[U'.mpr h];rfl)
  ·refine aZ (fun h=>?_) (fun h=>?_)
   ·tm_up;obtain⟨h1,h2⟩:=Bool.and_eq_true_iff.mp h;have hm:=K' h1;have e:[(Str.ofString "G",V.int 2),(Str.ofString "R",V.int 2)].lookup k.str=some (.int (pw k m)):=by
     rw[hm];cases k <;> first|decide +kernel|(exfalso;revert h2;decide)
    exact⟨_,_,_,_,rfl,rfl,T.tF,e,q⟩
   ·tm_up;have e:[(Str.ofString "G",V.int 3),(Str.ofString "D",V.int 2),(Str.ofString "R",V.int 3),(Str.ofString "s",V.int 1),(Str.ofString "d",V.int 1),(Str.ofString "r",V.int 1),(Str.ofString ".",V.int 0),(Str.ofString "3",V.int 0),(Str.ofString "2",V.int 0)].lookup k.str=some (.int (pw k m)):=by
     by_cases hm:m=2
     ·rw[hm]at h ⊢;cases k <;> first|decide +kernel|(exfalso;revert h;decide)
     ·cases k <;> first|decide +kernel|(simp only [pw,if_neg hm];decide +kernel)
    exact⟨_,_,_,_,rfl,rfl,T.J0,e,q⟩
inductive lT (K:Frag)(vs:List V)(H:Hp)(Q:VK)(E:XK):Prop
 |mk (l:Addr) (b:Int) (xs:List V) (ss:List Sg) (dE:vs=[.ref l,.int b]) (dF:aO K H l xs) (eQ:iq H xs ss) (jv:ss.length<=400) (pE:∀(f:Addr)(H':Hp),ao H H'->H f=none->H' f=some (.lst ((gK b (bE ss)).map V.int))->Q (.ref f) H'):lT K vs H Q E
theorem wC (T:Txt K w mg t):br P w K mg base fK (0+3) t.bL t.gX ["line","begin"] (lT K):=by
 have Cq:=JJ (P:=P) (base:=base) T;have fR:=wB (P:=P) (base:=base) T;have Oi:=L1 (P:=P) (base:=base) T;refine T.cY.ok dM (fun vs H Q E h=>?_) (fun cdv A outer s H vs Q E hr h=>?_)
 ·obtain⟨_,_,_,_,rfl,_⟩:=h;rfl
 ·obtain⟨l,b,xs,ss,rfl,hS,hg,hn,q⟩:=h;refine aR (ag (aH (i:=2) dM.nd rfl (Or.inl rfl) (bq ae)) (ag (cE PassesOwn.never rfl (QA rfl T.qD (aq Cq (hr.mono (by decide)) rfl T.JC T.j9.kp T.wj .nil au (aa (pv 0) (aa (pv 1) ae)))) (dA rfl (aK (aB (i:=3) dM.nd rfl (Or.inl rfl)) (aK (aB (i:=4) dM.nd rfl (Or.inl rfl)) cq))) (ah (aU (bF (PW.pt (cU (aw (bQ.or (bo (aM hr))) (pv 4) aj (aG _)) (cU (aw (bQ.or (bo (aM hr))) (aq fR (hr.mono (by decide)) rfl T.iZ T.eO.kp T.gR .nil au (aa (pv 0) (aa (pv 3) ae))) bG (aG _)) (dn (aw (bQ.or (bo (aM hr))) (aq fR (hr.mono (by decide)) rfl T.iZ T.eO.kp T.gR .nil au (aa (pv 0) (aa (aJ (a8.or (aE.or a9)) (pv 3) aj) ae))) bG (aG _))))))) (ah (aP (eE plainAttrs_list slot_list_append type_list_append a6 (pv 2) (aa (bR (v:=.int 3) rfl T.LR ⟨_,rfl⟩) ae)))) (ah (aP (eE plainAttrs_list slot_list_append type_list_append a6 (pv 2) (aa (aq Oi (hr.mono (by decide)) rfl T.LG T.jP.kp T.ug .nil au (aa (aq fR (hr.mono (by decide)) rfl T.iZ T.eO.kp T.gR .nil au (aa (pv 0) (aa (pv 3) ae))) (aa (pv 4) ae))) ae))))))) (ah (ax (pv 2))))) ?_;refine⟨big (by show 0<=1000;omega),fun f hf=>?_⟩;tm_up;refine⟨l,b,xs,ss,rfl,ip hS hf,hg.same (ao.upd hf),hn,fun f2 H2 s2 n2 h2=>⟨_,rfl,⟨_,aO.of h2⟩,?_⟩⟩;have ml:(ir b (bE ss)).length=ss.length:=by rw[GA,J']
  have nff:f2≠f:=fun e=>by rw[e,af]at n2;cases n2
  refine K0 (K:=K) (xs:=(ir b (bE ss)).map V.int) (fun i σ H'=>∃(v w:Option V)(fs:List Int),σ=[some (.ref l),some (.int b),some (.ref f),v,w]/\ao H H'/\H' f=some (.lst (fs.map V.int))/\H' f2=some (.lst ((ir b (bE ss)).map V.int))/\fs++BL ((bE ss).drop i) ((ir b (bE ss)).drop i)=gK b (bE ss))
   ⟨none,none,[],rfl,(ao.upd hf).trans s2,s2 _ _ af,h2,Vd ..⟩ ?_ ?_ ?_
  ·rintro i σ H' ⟨v,w,fs,rfl,_,_,h3,_⟩;exact aO.of h3
  ·rintro i x t σ H' hx ⟨v,w,fs,rfl,s3,h3,h4,hm⟩ ht;obtain⟨m,hm1,rfl⟩:=yo hx;have hil:i<ss.length:=by
    have:=(C'.mp hm1).1;omega
   have hk:(bE ss)[i]? = some (ss[i]).1:=yp (G' hil);rw[i8 hk,i8 hm1]at hm;simp only [BL,head_drop]at hm;have hl:=congrArg List.length hm;simp only [T',length_cons,uL,J']at hl;have sT:ao H' (upd H' t (.tup [.int i,.int m])):=ao.upd ht;have hS':aO K (upd H' t (.tup [.int i,.int m])) l xs:=(s3.trans sT).seq hS;have hg':=hg.same (s3.trans sT);have h3':=sT _ _ h3;have ka:QJ (bE ss) (i:Int)=some (ss[i]).1:=by rw[sJ];exact hk
   have kb:QJ (bE ss) ((i:Int)+1)=(bE ss)[i+1]?:=by rw[<-sJ];rfl
   refine⟨t,_,rfl,ij.of af,rfl,_,_,rfl,_,_,rfl,rfl,?_⟩;have fin:∀ z:Int,z=bw m (ss[i]).1 (bE ss)[i+1]?->∃(v w:Option V)(fs':List Int),[some (V.ref l),some (V.int b),some (V.ref f),some (V.int (i:Int)),some (V.int m)]=[some (.ref l),some (.int b),some (.ref f),v,w]/\ao H (upd (upd H' t (.tup [.int i,.int m])) f (.lst (fs.map V.int++[V.int z]))) /\
     (upd (upd H' t (.tup [.int i,.int m])) f (.lst (fs.map V.int++[V.int z]))) f=some (.lst (fs'.map V.int))/\(upd (upd H' t (.tup [.int i,.int m])) f (.lst (fs.map V.int++[V.int z]))) f2=some (.lst ((ir b (bE ss)).map V.int))/\fs'++BL ((bE ss).drop (i+1)) ((ir b (bE ss)).drop (i+1))=gK b (bE ss):=by
    intro z hz;refine⟨_,_,fs++[z],rfl,cD (s3.trans sT) hf,by rw[af,map_append];rfl,by rw[ak nff];exact sT _ _ h4,?_⟩;rw[List.append_assoc,hz];exact hm
   refine iF (decide (m=2)&&(decide (sI (QJ (bE ss) (i:Int)) = "G")&&decide (sI (QJ (bE ss) ((i:Int)+1)) = "."))) ?_ ?_
   ·tm_up;rw[dG];refine aZ (fun h=>?_) (fun h=>?_)
    ·tm_up;refine⟨l,_,xs,ss,rfl,hS',hg',?_⟩;tm_up;rw[af5];refine aZ (fun h2=>?_) (fun h2=>?_)
     ·tm_up;refine⟨l,_,xs,ss,rfl,hS',hg',?_⟩;tm_up;rw[af5];exact cF (by rw[h,h2];rfl)
     ·exact cF (by rw[h,U'.mpr h2];rfl)
    ·exact cF (by rw[U'.mpr h];rfl)
   ·refine aZ (fun h=>?_) (fun h=>?_)
    ·tm_up;refine⟨.inl ⟨rfl,_,aO.of h3'⟩,?_⟩;refine⟨_,_,_,rfl,rfl,h3',by rw[J'];exact aQ (by omega),fin 3 ?_⟩;obtain⟨h1,h2⟩:=Bool.and_eq_true_iff.mp h;obtain⟨h2,h5⟩:=Bool.and_eq_true_iff.mp h2;have e1:(ss[i]).1=.G:=by
      have:=K' h2;rw[ka]at this;exact str_inj.mp (this.trans (rfl:("G":Str)=Kd.G.str))
     have e2:(bE ss)[i+1]? = some .dot:=by
      have:=K' h5;rw[kb]at this;exact Vc.mp (this.trans (rfl:(".":Str)=sI (some .dot)))
     unfold bw;rw[if_pos ⟨K' h1,e1,e2⟩]
    ·tm_up;refine⟨.inl ⟨rfl,_,aO.of h3'⟩,?_⟩;tm_up;refine⟨l,_,xs,ss,rfl,hS',hg',?_⟩;tm_up;rw[ka];refine⟨_,_,rfl,?_⟩;refine⟨_,_,_,rfl,rfl,h3',by rw[J'];exact aQ (by omega),fin _ ?_⟩;unfold bw;rw[if_neg];rintro⟨h1,h2,h5⟩;refine h ?_;rw[ka,kb,h2,h5,h1];decide +kernel
  ·rintro σ H' ⟨v,w,fs,rfl,s3,h3,_,hm⟩;rw[J',ml,List.drop_eq_nil_of_le (by rw[J'];exact R' _)]at hm;tm_up;have e:fs=gK b (bE ss):=by rw[<-hm];simp[BL]
   subst e;exact q f _ s3 hf h3
inductive Z1 (K:Frag)(vs:List V)(H:Hp)(Q:VK)(E:XK):Prop
 |mk (l:Addr) (b:Int) (xs:List V) (ss:List Sg) (dE:vs=[.ref l,.int b]) (dF:aO K H l xs) (eQ:iq H xs ss) (jv:ss.length<=400) (pE:∀(f:Addr)(ys:List V)(H':Hp),ao H H'->H f=none->H' f=some (.lst ys)->Xa H' ys (xP b (bE ss))->Q (.ref f) H'):Z1 K vs H Q E
theorem agn (T:Txt K w mg t):br P w K mg base fK (0+3) t.Cc t.QT ["line","begin"] (Z1 K):=by
 have Cq:=JJ (P:=P) (base:=base) T;have Rh:=Vy (P:=P) (base:=base) T;refine T.G0.ok vS (fun vs H Q E h=>?_) (fun cdv A outer s H vs Q E hr h=>?_)
 ·obtain⟨_,_,_,_,rfl,_⟩:=h;rfl
 ·obtain⟨l,b,xs,ss,rfl,hS,hg,hn,q⟩:=h;refine aR (ag (aH (i:=2) vS.nd rfl (Or.inl rfl) (bq ae)) (ag (aH (i:=3) vS.nd rfl (Or.inl rfl) aj) (ag (cE PassesOwn.never rfl (akp rfl T.G6 rfl T.qD (pv 0) (aq Cq (hr.mono (by decide)) rfl T.JC T.j9.kp T.wj .nil au (aa (pv 0) (aa (pv 1) ae)))) (dA rfl (aK (aB (i:=4) vS.nd rfl (Or.inl rfl)) (aK (dA rfl (aK (aB (i:=5) vS.nd rfl (Or.inl rfl)) (aK (aB (i:=6) vS.nd rfl (Or.inl rfl)) cq))) cq))) (ah (aU (bF (PW.pt (iG (aw (bQ.or (bo (aM hr))) (pv 6) aj (aG _)) (fJ (bJ (aX (aq Rh (hr.mono (by decide)) rfl T.Vo T.A7.kp T.KC .nil au (aa (pv 5) ae)))))))) (ag (jx (aU (aw mR (pv 3) (pv 4) (aG _)) (ah (aP (eE plainAttrs_list slot_list_append type_list_append a6 (pv 2) (aa (cV (aa (pv 3) (aa (pv 4) ae))) ae)))) aD)) (ah (aH (i:=3) vS.nd rfl (Or.inl rfl) (aJ (a8.or (aE.or a9)) (pv 4) aj)))) aD))) (ag (jx (aU (aw mR (pv 3) (av (az.or aA) rfl T.bD bC (aa (pv 0) ae)) (aG _)) (ah (aP (eE plainAttrs_list slot_list_append type_list_append a6 (pv 2) (aa (cV (aa (pv 3) (aa (av (az.or aA) rfl T.bD bC (aa (pv 0) ae)) ae))) ae)))) aD)) (ah (ax (pv 2))))))) ?_;refine⟨big (by show 0<=1000;omega),fun f hf=>?_⟩;tm_up;refine⟨l,b,xs,ss,rfl,ip hS hf,hg.same (ao.upd hf),hn,fun f2 H2 s2 n2 h2=>⟨_,_,rfl,rfl,⟨xs,((ao.upd hf).trans s2).seq hS⟩,⟨_,aO.of h2⟩,?_⟩⟩;have ml:(ir b (bE ss)).length=ss.length:=by rw[GA,J']
  have nff:f2≠f:=fun e=>by rw[e,af]at n2;cases n2
  have cnt:(xP b (bE ss)).length<=401:=by
   have:=oJ (jJ b (bE ss)) 0 0;rw[qY,J']at this;exact Nat.le_trans this (by omega)
  refine aiq (K:=K) (xs:=xs) (ys:=(ir b (bE ss)).map V.int) (fun i σ H'=>∃(v w u:Option V)(first:Nat)(ys:List V)(qs:List (Nat×Nat)),σ=[some (.ref l),some (.int b),some (.ref f),some (.int (first:Int)),v,w,u]/\ao H H'/\H' f=some (.lst ys)/\Xa H' ys qs/\H' f2=some (.lst ((ir b (bE ss)).map V.int))/\first<=i/\qs++eF i first (Ve ((bE ss).drop i) ((ir b (bE ss)).drop i))=xP b (bE ss))
   (by rw[J',ml];exact bh hg) ⟨none,none,none,0,[],[],rfl,(ao.upd hf).trans s2,s2 _ _ af,.nil,h2,R' _,by rw[List.drop_zero,List.drop_zero,W9];rfl⟩ ?_ ?_ ?_
  ·rintro i σ H' ⟨v,w,u,first,ys,qs,rfl,s3,_,_,h4,_⟩;exact⟨s3.seq hS,aO.of h4⟩
  ·rintro i x y t u' σ H' hx hy ⟨v,w,u,first,ys,qs,rfl,s3,h3,hq,h4,hfi,hm⟩ ht hu htu;obtain⟨s,hs,p,rfl,hp⟩:=j3 hg hx;obtain⟨m,hm1,rfl⟩:=yo hy;rw[i8 (yp (f:=Prod.fst) hs),i8 hm1]at hm;simp only [Ve]at hm;have sT:ao H' (upd (upd H' t (.tup [.ref p,.int m])) u' (.tup [.int i,.ref t])):=(ao.upd ht).trans (ao.upd (by rw[ak htu.symm];exact hu));have ut:upd (upd H' t (.tup [.ref p,.int m])) u' (.tup [.int i,.ref t]) t=some (.tup [.ref p,.int m]):=by rw[ak htu,af]
   refine⟨u',_,rfl,ij.of af,rfl,_,_,rfl,_,_,rfl,t,_,rfl,ij.of ut,rfl,_,_,rfl,_,_,rfl,rfl,rfl,?_⟩;generalize upd (upd H' t (.tup [.ref p,.int m])) u' (.tup [.int i,.ref t])=H3 at sT;have hp3:=(s3.trans sT) _ _ hp;have h33:=sT _ _ h3;have hq3:=sL sT hq;refine iF (!inR m s.1) ?_ ?_
   ·tm_up;rw[dG];refine aZ (fun h=>?_) (fun h=>?_)
    ·refine cF ?_;unfold inR;have:=K' h;simp[this]
    ·tm_up;refine⟨p,s,rfl,hp3,_,rfl,cF ?_⟩;have hm2:m≠2:=fun e=>h (N' e);unfold inR;simp[hm2]
   ·cases hin:inR m s.1 with
    |false =>
     rw[hin]at hm;refine pG ?_;refine⟨fun σ1 H1=>σ1=[some (.ref l),some (.int b),some (.ref f),some (.int (first:Int)),some (.int i),some (.ref p),some (.int m)]/\ao H H1/\(∃ ys',H1 f=some (.lst ys')/\Xa H1 ys' (qs++if first<i then [(first,i)] else []))/\H1 f2=some (.lst ((ir b (bE ss)).map V.int)),?_,?_⟩
     ·tm_up;refine aZ (fun h=>?_) (fun h=>?_)
      ·have hlt:first<i:=by have:=K' h;omega
       have ql:qs.length<=401:=by
        have:=congrArg List.length hm;simp only [T']at this;omega
       tm_up;refine⟨.inl ⟨rfl,_,aO.of h33⟩,?_⟩;tm_up;refine⟨by show 2<=sizeLine;decide,fun z hz=>?_⟩;have sz:ao H3 (upd H3 z (.tup [.int (first:Int),.int i])):=ao.upd hz;have h3z:=sz _ _ h33;refine⟨_,_,_,rfl,rfl,h3z,by rw[bh hq3];exact aQ (by omega),?_⟩;rw[if_pos hlt];exact⟨rfl,cD ((s3.trans sT).trans sz) hf,⟨_,af,fL (qZ h3z (sL sz hq3)) (Vf h3z ⟨z,rfl,af⟩)⟩,by rw[ak nff];exact sz _ _ (sT _ _ h4)⟩
      ·have hlt:¬ first<i:=fun z=>h (N' (by omega))
       rw[if_neg hlt,append_nil];exact⟨rfl,s3.trans sT,⟨_,h33,hq3⟩,sT _ _ h4⟩
     ·rintro σ1 H1 ⟨rfl,sa,⟨ys',hb,hc⟩,hd⟩;tm_up;refine⟨_,_,_,i+1,ys',_,rfl,sa,hb,hc,hd,R' _,?_⟩;rw[<-hm,List.append_assoc];rfl
    |true =>
     rw[hin]at hm;refine cv ?_;exact⟨_,_,_,first,ys,qs,rfl,s3.trans sT,h33,hq3,sT _ _ h4,by omega,hm⟩
  ·rintro σ H' ⟨v,w,u,first,ys,qs,rfl,s3,h3,hq,h4,hfi,hm⟩;rw[bh hg]at hm hfi;rw[List.drop_eq_nil_of_le (by rw[J'];exact R' _)]at hm;have hm':qs++(if first<ss.length then [(first,ss.length)] else [])=xP b (bE ss):=hm;have ql:qs.length<=401:=by
    have:=congrArg List.length hm;simp only [T']at this;omega
   refine⟨fun σ1 H1=>σ1=[some (.ref l),some (.int b),some (.ref f),some (.int (first:Int)),v,w,u]/\ao H H1/\∃ ys',H1 f=some (.lst ys')/\Xa H1 ys' (xP b (bE ss)),?_,?_⟩
   ·tm_up;refine .inl ⟨_,_,rfl,.inl (s3.seq hS),?_⟩;rw[bh hg];tm_up;refine aZ (fun h=>?_) (fun h=>?_)
    ·have hlt:first<ss.length:=by have:=K' h;omega
     tm_up;refine⟨.inl ⟨rfl,_,aO.of h3⟩,?_⟩;tm_up;refine .inl ⟨_,_,rfl,.inl (s3.seq hS),?_⟩;rw[bh hg];refine⟨by show 2<=sizeLine;decide,fun z hz=>?_⟩;have sz:ao H' (upd H' z (.tup [.int (first:Int),.int (ss.length:Int)])):=ao.upd hz;have h3z:=sz _ _ h3;refine⟨_,_,_,rfl,rfl,h3z,by rw[bh hq];exact aQ (by omega),?_⟩;rw[if_pos hlt]at hm';rw[<-hm'];exact⟨rfl,cD (s3.trans sz) hf,_,af,fL (qZ h3z (sL sz hq)) (Vf h3z ⟨z,rfl,af⟩)⟩
    ·have hlt:¬ first<ss.length:=fun z=>h (N' (by omega))
     rw[if_neg hlt,append_nil]at hm';rw[<-hm'];exact⟨rfl,s3,_,h3,hq⟩
   ·rintro σ1 H1 ⟨rfl,sa,ys',hb,hc⟩;tm_up;exact q f ys' H1 sa hf hb hc
inductive vy (K:Frag)(vs:List V)(H:Hp)(Q:VK)(E:XK):Prop
 |mk (l f:Addr) (a:Nat) (xs:List V) (ss:List Sg) (fs:List Int) (dE:vs=[.ref l,.ref f,.int (a:Int)]) (dF:aO K H l xs) (eQ:iq H xs ss) (jv:H f=some (.lst (fs.map V.int))) (pE:fs.length=ss.length) (Pa:Q (.bl (jK (bE ss) fs a)) H):vy K vs H Q E
theorem vz (T:Txt K w mg t):br P w K mg base fK (0+2) t.dB t.pK ["line","found","first"] (vy K):=by
 have fR:=wB (P:=P) (base:=base) T;refine T.eP.ok GJ (fun vs H Q E h=>?_) (fun cdv A outer s H vs Q E hr h=>?_)
 ·obtain⟨_,_,_,_,_,_,rfl,_⟩:=h;rfl
 ·obtain⟨l,f,a,xs,ss,fs,rfl,hS,hg,hf,hl,q⟩:=h;refine aR (ah (ax (dJ (pB (cC (bQ.or (bo (aM hr))) (aq fR (hr.mono (by decide)) rfl T.iZ T.eO.kp T.gR .nil au (aa (pv 0) (aa (aJ gT (pv 2) aj) ae))) bG (aG _)) (pA (cC (bQ.or (bo (aM hr))) (aT aI (pv 1) (aJ gT (pv 2) aj) (fun _ _=>rfl)) (bR (v:=.int 3) rfl T.Q9 ⟨_,rfl⟩) (aG _))))))) ?_;refine K1 (.bl (jK (bE ss) fs a)) ?_ q;tm_up;refine⟨l,_,xs,ss,rfl,hS,hg,?_⟩;tm_up;rw[o_G];refine aZ (fun h=>?_) (fun h=>?_)
  ·have e:=K' h;have e':1<=a/\a-1<ss.length:=by
    unfold QJ at e;split at e
    ·have:=(C'.mp e).1;rw[J']at this;omega
    ·cases e
   tm_up;refine adV (aO.of hf) (n:=a-1) (by omega) (G' (by omega)) ?_;tm_up;rw[dG];refine qv ?_;unfold jK;rw[h,List.getD_eq_getElem?_getD,G' (by omega)];rfl
  ·refine qv ?_;unfold jK;rw[U'.mpr h];rfl
inductive tH (K:Frag)(vs:List V)(H:Hp)(Q:VK)(E:XK):Prop
 |mk (l:Addr) (z:Nat) (xs:List V) (ss:List Sg) (dE:vs=[.ref l,.int (z:Int)]) (dF:aO K H l xs) (eQ:iq H xs ss) (jv:Q (.bl (gm (bE ss) z)) H):tH K vs H Q E
theorem Z2 (k:Option Kd):inV (.str (sI k)) [.str "G",.str "D",.str "R"]=ub k:=by
 cases k with
 |none=>decide +kernel
 |some k=>cases k <;> decide +kernel
theorem tI (T:Txt K w mg t):br P w K mg base fK (0+2) t.c9 t.m9 ["line","behind"] (tH K):=by
 have fR:=wB (P:=P) (base:=base) T;refine T.dZ.ok Eo (fun vs H Q E h=>?_) (fun cdv A outer s H vs Q E hr h=>?_)
 ·obtain⟨_,_,_,_,rfl,_⟩:=h;rfl
 ·obtain⟨l,z,xs,ss,rfl,hS,hg,q⟩:=h;refine aR (ah (ax (dJ (pB (cC (bQ.or (bo (aM hr))) (aq fR (hr.mono (by decide)) rfl T.iZ T.eO.kp T.gR .nil au (aa (pv 0) (aa (pv 1) ae))) bG (aG _)) (pA (cC (DZ.or D3) (aq fR (hr.mono (by decide)) rfl T.iZ T.eO.kp T.gR .nil au (aa (pv 0) (aa (aJ (a8.or (aE.or a9)) (pv 1) aj) ae))) (bR (v:=.ref t.dR) rfl T.Bp rfl) rfl)))))) ?_;refine K1 (.bl (gm (bE ss) z)) ?_ q;tm_up;refine⟨l,_,xs,ss,rfl,hS,hg,?_⟩;tm_up;rw[o_G];refine aZ (fun h=>?_) (fun h=>?_)
  ·tm_up;refine⟨l,_,xs,ss,rfl,hS,hg,?_⟩;tm_up;refine .inl ⟨_,_,rfl,.inr (T.Br _),rfl,rfl,qv ?_⟩;unfold gm;rw[sJ]at h;have e:QJ (bE ss) ((z:Int)+1)=(bE ss)[z+1]?:=by rw[<-sJ];rfl
   rw[h,<-Z2,<-e];rfl
  ·refine qv ?_;unfold gm;rw[sJ]at h;rw[U'.mpr h];rfl
noncomputable def aek (K:Frag)(g:List Kd->List Int->Nat->Nat->Bool×List Int):Sp:=fun vs H Q _=>∃(l f:Addr)(a z:Nat)(xs:List V)(ss:List Sg)(fs:List Int),vs=[.ref l,.ref f,.int (a:Int),.int (z:Int)]/\aO K H l xs/\iq H xs ss/\H f=some (.lst (fs.map V.int))/\fs.length=ss.length/\a<z/\z<=ss.length /\
 Q (.bl (g (bE ss) fs a z).1) (upd H f (.lst ((g (bE ss) fs a z).2.map V.int)))
theorem Cr (T:Txt K w mg t):br P w K mg base fK (0+3) t.cJ t.lz ["line","found","first","behind"] (aek K vI):=by
 have pN:=vz (P:=P) (base:=base) T;have nN:=tI (P:=P) (base:=base) T;refine T.eX.ok BU (fun vs H Q E h=>?_) (fun cdv A outer s H vs Q E hr h=>?_)
 ·obtain⟨_,_,_,_,_,_,_,rfl,_⟩:=h;rfl
 ·obtain⟨l,f,a,z,xs,ss,fs,rfl,hS,hg,hf,hl,haz,hz,q⟩:=h;unfold vI at q;refine aR (ag (aU (aX (aq pN (hr.mono (by decide)) rfl T.vf T.eP.kp T.jW .nil au (aa (pv 0) (aa (pv 1) (aa (pv 2) ae))))) (ag (kS (bR (v:=.int 2) rfl T.iC ⟨_,rfl⟩) (yd (pv 1) (aJ gT (pv 2) aj) set_list)) (ah (ax de))) aD) (ag (aU (aX (aq nN (hr.mono (by decide)) rfl T.tf T.dZ.kp T.jh .nil au (aa (pv 0) (aa (pv 3) ae)))) (ag (kS (bR (v:=.int 2) rfl T.iC ⟨_,rfl⟩) (yd (pv 1) (pv 3) set_list)) (ah (ax de))) aD) (ah (ax de)))) ?_;tm_up;refine⟨l,f,a,xs,ss,fs,rfl,hS,hg,hf,hl,_,rfl,?_⟩;refine aZ (fun h=>?_) (fun h=>?_)
  ·rw[if_pos h]at q;have hp:=GB h;rw[J']at hp;tm_up;refine⟨_,_,_,_,rfl,rfl,hf,sM (j:=a-1) (by omega) (by rw[J'];omega),?_⟩;rw[oB];exact q
  ·rw[if_neg h]at q;tm_up;refine⟨l,z,xs,ss,rfl,hS,hg,_,rfl,?_⟩;refine aZ (fun h2=>?_) (fun h2=>?_)
   ·rw[if_pos h2]at q;have hp:=BN h2;rw[J']at hp;tm_up;refine⟨_,_,_,_,rfl,rfl,hf,sM (j:=z) rfl (by rw[J'];omega),?_⟩;rw[oB];exact q
   ·rw[if_neg h2,Ec hf]at q;exact q
theorem Ct (T:Txt K w mg t):br P w K mg base fK (0+3) t.cK t.lB ["line","found","first","behind"] (aek K vJ):=by
 have pN:=vz (P:=P) (base:=base) T;have nN:=tI (P:=P) (base:=base) T;have fR:=wB (P:=P) (base:=base) T;refine T.eY.ok BV (fun vs H Q E h=>?_) (fun cdv A outer s H vs Q E hr h=>?_)
 ·obtain⟨_,_,_,_,_,_,_,rfl,_⟩:=h;rfl
 ·obtain⟨l,f,a,z,xs,ss,fs,rfl,hS,hg,hf,hl,haz,hz,q⟩:=h;unfold vJ at q;refine aR (ag (aU (bF (PW.pt (cU (aw (c7.or c0) (aq fR (hr.mono (by decide)) rfl T.iZ T.eO.kp T.gR .nil au (aa (pv 0) (aa (pv 3) ae))) (bR (v:=.ref t.dR) rfl T.Bp rfl) rfl) (dn (aw (bQ.or (bo (aM hr))) (aq fR (hr.mono (by decide)) rfl T.iZ T.eO.kp T.gR .nil au (aa (pv 0) (aa (aJ gT (pv 3) aj) ae))) bG (aG _)))))) (ag (kS (bR (v:=.int 2) rfl T.J1 ⟨_,rfl⟩) (yd (pv 1) (aJ gT (pv 3) aj) set_list)) (ah (ax de))) aD) (ag (aU (bF (PW.pt (cU (aX (aq pN (hr.mono (by decide)) rfl T.vf T.eP.kp T.jW .nil au (aa (pv 0) (aa (pv 1) (aa (pv 2) ae))))) (dn (aX (aq nN (hr.mono (by decide)) rfl T.tf T.dZ.kp T.jh .nil au (aa (pv 0) (aa (pv 3) ae)))))))) (ag (kS (bR (v:=.int 2) rfl T.iC ⟨_,rfl⟩) (yd (pv 1) (aJ gT (pv 2) aj) set_list)) (ag (kS (bR (v:=.int 2) rfl T.iC ⟨_,rfl⟩) (yd (pv 1) (pv 3) set_list)) (ah (ax de)))) aD) (ah (ax de)))) ?_;refine iF (ub (bE ss)[z]? && decide ((bE ss)[z-1]? = some .s)) ?_ ?_
  ·tm_up;refine⟨l,_,xs,ss,rfl,hS,hg,?_⟩;tm_up;refine .inl ⟨_,_,rfl,.inr (T.Br _),rfl,rfl,_,rfl,?_⟩;show if inV (.str (sI (QJ (bE ss) (z:Int)))) [.str "G",.str "D",.str "R"]=true then _ else _;rw[Z2,sJ];refine aZ (fun h=>?_) (fun h=>?_)
   ·tm_up;refine⟨l,_,xs,ss,rfl,hS,hg,?_⟩;tm_up;rw[o_s];have e:QJ (bE ss) ((z:Int)-1)=(bE ss)[z-1]?:=by rw[<-sJ];congr 1;omega
    rw[e];exact cF (by rw[h];rfl)
   ·exact cF (by rw[U'.mpr h];rfl)
  ·refine aZ (fun h=>?_) (fun h=>?_)
   ·rw[if_pos h]at q;tm_up;refine⟨_,_,_,_,rfl,rfl,hf,sM (j:=z-1) (by omega) (by rw[J'];omega),?_⟩;rw[oB];exact q
   ·rw[if_neg h]at q;refine iF (jK (bE ss) fs a&&gm (bE ss) z) ?_ ?_
    ·tm_up;refine⟨l,f,a,xs,ss,fs,rfl,hS,hg,hf,hl,_,rfl,?_⟩;refine aZ (fun h=>?_) (fun h=>?_)
     ·tm_up;refine⟨l,z,xs,ss,rfl,hS,hg,_,rfl,cF ?_⟩;rw[h];rfl
     ·exact cF (by rw[U'.mpr h];rfl)
    ·refine aZ (fun h2=>?_) (fun h2=>?_)
     ·rw[if_pos h2]at q;have hp:=GB (Bool.and_eq_true_iff.mp h2).1;have hr:=BN (Bool.and_eq_true_iff.mp h2).2;rw[J']at hp hr;tm_up;refine⟨_,_,_,_,rfl,rfl,hf,sM (j:=a-1) (by omega) (by rw[J'];omega),?_⟩;rw[oB];tm_up;refine⟨_,_,_,_,rfl,rfl,af,sM (j:=z) rfl (by rw[J',List.length_set];omega),?_⟩;rw[oB,df];exact q
     ·rw[if_neg h2,Ec hf]at q;exact q
theorem Oj (T:Txt K w mg t):br P w K mg base fK (0+4) t.gy t.vZ ["line","found","first","behind"] (aek K settle):=by
 have EY:=Cr (P:=P) (base:=base) T;have EZ:=Ct (P:=P) (base:=base) T;refine T.lN.ok Bo (fun vs H Q E h=>?_) (fun cdv A outer s H vs Q E hr h=>?_)
 ·obtain⟨_,_,_,_,_,_,_,rfl,_⟩:=h;rfl
 ·obtain⟨l,f,a,z,xs,ss,fs,rfl,hS,hg,hf,hl,haz,hz,q⟩:=h;unfold settle at q;refine aR (ag (aH (i:=4) Bo.nd rfl (Or.inl rfl) (aJ cG (aJ gT (pv 3) (pv 2)) aj)) (ag (aU (aw (bQ.or (bo (aM hr))) (pv 4) aj (aG _)) (ah (ax (aq EY (hr.mono (by decide)) rfl T.Ci T.eX.kp T.lL .nil au (aa (pv 0) (aa (pv 1) (aa (pv 2) (aa (pv 3) ae))))))) aD) (ag (aU (aw (bQ.or (bo (aM hr))) (pv 4) aj (aG _)) (ah (ax (aq EZ (hr.mono (by decide)) rfl T.Cj T.eY.kp T.lM .nil au (aa (pv 0) (aa (pv 1) (aa (pv 2) (aa (pv 3) ae))))))) aD) (ah (ax de))))) ?_;tm_up;rw[dG];have e:((z:Int)-(a:Int)) % 3=(((z-a) % 3:Nat):Int):=by omega
  refine aZ (fun h=>?_) (fun h=>?_)
  ·have h1:(z-a) % 3=1:=by have:((z:Int)-(a:Int)) % 3=1:=K' h;omega
   rw[if_pos h1]at q;tm_up;exact⟨l,f,a,z,xs,ss,fs,rfl,hS,hg,hf,hl,haz,hz,q⟩
  ·have h1:¬(z-a) % 3=1:=fun c=>h (N' (by show((z:Int)-(a:Int)) % 3=1;omega));rw[if_neg h1]at q;tm_up;rw[dG];refine aZ (fun h=>?_) (fun h=>?_)
   ·have h2:(z-a) % 3=2:=by have:((z:Int)-(a:Int)) % 3=2:=K' h;omega
    rw[if_pos h2]at q;tm_up;exact⟨l,f,a,z,xs,ss,fs,rfl,hS,hg,hf,hl,haz,hz,q⟩
   ·have h2:¬(z-a) % 3=2:=fun c=>h (N' (by show((z:Int)-(a:Int)) % 3=2;omega));rw[if_neg h2,Ec hf]at q;exact q
inductive L3 (K:Frag)(vs:List V)(H:Hp)(Q:VK)(E:XK):Prop
 |mk (l:Addr) (b:Int) (xs:List V) (ss:List Sg) (dE:vs=[.ref l,.int b]) (dF:aO K H l xs) (eQ:iq H xs ss) (jv:ss.length<=400) (pE:∀(p f lo:Addr)(ys:List V)(H':Hp),ao H H'->H f=none->H lo=none->f≠lo->H' p=some (.tup [.ref f,.ref lo])->H' f=some (.lst ((jt b (bE ss)).1.map V.int))->H' lo=some (.lst ys)->Xa H' ys (jt b (bE ss)).2->Q (.ref p) H'):L3 K vs H Q E
theorem Xz (T:Txt K w mg t):br P w K mg base fK (0+5) t.ng t.GQ ["line","begin"] (L3 K):=by
 have x8:=wC (P:=P) (base:=base) T;have aiZ:=agn (P:=P) (base:=base) T;have Rp:=Oj (P:=P) (base:=base) T;refine T.vg.ok rh (fun vs H Q E h=>?_) (fun cdv A outer s H vs Q E hr h=>?_)
 ·obtain⟨_,_,_,_,rfl,_⟩:=h;rfl
 ·obtain⟨l,b,xs,ss,rfl,hS,hg,hn,q⟩:=h;refine aR (ag (aH (i:=2) rh.nd rfl (Or.inl rfl) (aq x8 (hr.mono (by decide)) rfl T.wk T.cY.kp T.gY .nil au (aa (pv 0) (aa (pv 1) ae)))) (ag (aH (i:=3) rh.nd rfl (Or.inl rfl) (bq ae)) (ag (cE PassesOwn.never rfl (cu (aq aiZ (hr.mono (by decide)) rfl T.agd T.G0.kp T.Xp .nil au (aa (pv 0) (aa (pv 1) ae)))) (dA rfl (aK (aB (i:=4) rh.nd rfl (Or.inl rfl)) (aK (aB (i:=5) rh.nd rfl (Or.inl rfl)) cq))) (ah (aU (bJ (aX (aq Rp (hr.mono (by decide)) rfl T.Oa T.lN.kp T.wm .nil au (aa (pv 0) (aa (pv 2) (aa (pv 4) (aa (pv 5) ae))))))) (ah (aP (eE plainAttrs_list slot_list_append type_list_append a6 (pv 3) (aa (cV (aa (pv 4) (aa (pv 5) ae))) ae)))) aD))) (ah (ax (cV (aa (pv 2) (aa (pv 3) ae)))))))) ?_;tm_up;refine⟨l,b,xs,ss,rfl,hS,hg,hn,fun f H1 s1 n1 h1=>?_⟩;refine⟨big (by show 0<=1000;omega),fun lo hlo=>?_⟩;have s1':=s1.trans (ao.upd (o:=.lst []) hlo);tm_up;refine⟨l,b,xs,ss,rfl,s1'.seq hS,hg.same s1',hn,fun r zs H2 s2 n2 h2 hz=>⟨_,rfl,⟨_,aO.of h2⟩,?_⟩⟩;have ael:H lo=none:=s1.free hlo;have nfl:f≠lo:=ar h1 hlo;have nrf:r≠f:=fun e=>by
   have:=s1'.free n2;have h1':=ao.upd (o:=.lst []) hlo _ _ h1;rw[<-e,n2]at h1';cases h1'
  have nrl:r≠lo:=fun e=>by rw[e,af]at n2;cases n2
  have bl:(gK b (bE ss)).length=ss.length:=by rw[uL,J']
  have cnt:(xP b (bE ss)).length<=401:=by
   have:=oJ (jJ b (bE ss)) 0 0;rw[qY,J']at this;exact Nat.le_trans this (by omega)
  refine gJ (K:=K) (xs:=zs) (fun i σ H'=>∃(v w:Option V)(c:RdS)(ys:List V),σ=[some (.ref l),some (.int b),some (.ref f),some (.ref lo),v,w]/\ao H H'/\H' f=some (.lst (c.1.map V.int))/\H' lo=some (.lst ys)/\Xa H' ys c.2/\H' r=some (.lst zs)/\Xa H' zs (xP b (bE ss))/\c.1.length=ss.length/\c.2.length<=i/\((xP b (bE ss)).drop i).foldl (pI (bE ss)) c=jt b (bE ss))
   ⟨none,none,(gK b (bE ss),[]),[],rfl,s1'.trans s2,s2 _ _ (ao.upd (o:=.lst []) hlo _ _ h1),s2 _ _ af,.nil,h2,hz,bl,R' _,rfl⟩ ?_ ?_ ?_
  ·rintro i σ H' _ ⟨v,w,c,ys,rfl,_,_,_,_,hr,_⟩;exact aO.of hr
  ·rintro i x σ H' hx ⟨v,w,c,ys,rfl,s3,Ol,ai1,hys,hr3,hzs,hcl,hci,tJ⟩;obtain⟨pr,hpr,p,rfl,hp⟩:=j3 hzs hx;have hin:=adX b (bE ss) pr (X' hpr);rw[J']at hin;rw[i8 hpr,List.foldl_cons]at tJ;have hil:i<401:=by
    have:=(C'.mp hpr).1;omega
   refine⟨p,_,rfl,ij.of hp,rfl,_,_,rfl,_,_,rfl,rfl,?_⟩;tm_up;refine⟨l,f,pr.1,pr.2,xs,ss,c.1,rfl,s3.seq hS,hg.same s3,Ol,hcl,hin.1,hin.2,?_⟩;have s4:ao H (upd H' f (.lst ((settle (bE ss) c.1 pr.1 pr.2).2.map V.int))):=cD s3 n1;have XA:upd H' f (.lst ((settle (bE ss) c.1 pr.1 pr.2).2.map V.int)) lo=some (.lst ys):=by rw[ak nfl.symm];exact ai1
   have hr4:upd H' f (.lst ((settle (bE ss) c.1 pr.1 pr.2).2.map V.int)) r=some (.lst zs):=by rw[ak nrf];exact hr3
   have agh:(settle (bE ss) c.1 pr.1 pr.2).2.length=ss.length:=by rw[BM];exact hcl
   tm_up;refine aZ (fun h=>?_) (fun h=>?_)
   ·have hst:(settle (bE ss) c.1 pr.1 pr.2).1=false:=by
     cases e:(settle (bE ss) c.1 pr.1 pr.2).1
     ·rfl
     ·rw[e]at h;cases h
    tm_up;refine⟨.inl ⟨rfl,_,aO.of XA⟩,?_⟩;tm_up;refine⟨by show 2<=sizeLine;decide,fun z hz=>?_⟩;have sz:=ao.upd (o:=.tup [.int (pr.1:Int),.int (pr.2:Int)]) hz;have VC:=sz _ _ XA;refine⟨_,_,_,rfl,rfl,VC,by rw[bh hys];exact aQ (by omega),?_⟩;refine⟨_,_,((settle (bE ss) c.1 pr.1 pr.2).2,c.2++[pr]),_,rfl,cD (s4.trans sz) ael,by rw[ak nfl];exact sz _ _ af,af,fL (qZ VC (sL sz (qZ Ol hys))) (Vf VC ⟨z,rfl,af⟩),
     by rw[ak nrl];exact sz _ _ hr4,qZ VC (sL sz (qZ Ol hzs)),agh,by simp;omega,?_⟩
    rw[<-tJ];unfold pI;rw[hst];rfl
   ·have hst:(settle (bE ss) c.1 pr.1 pr.2).1=true:=by
     cases e:(settle (bE ss) c.1 pr.1 pr.2).1
     ·rw[e]at h;exact V' rfl h
     ·rfl
    refine⟨_,_,((settle (bE ss) c.1 pr.1 pr.2).2,c.2),ys,rfl,s4,af,XA,qZ Ol hys,hr4,qZ Ol hzs,agh,by show c.2.length<=i+1;omega,?_⟩;rw[<-tJ];unfold pI;rw[hst];rfl
  ·rintro σ H' ⟨v,w,c,ys,rfl,s3,Ol,ai1,hys,hr3,hzs,hcl,hci,tJ⟩;rw[bh hz,List.drop_length]at tJ;have e:c=jt b (bE ss):=tJ;subst e;tm_up;refine⟨by show 2<=sizeLine;decide,fun z hz=>?_⟩;have sz:=ao.upd (o:=.tup [.ref f,.ref lo]) hz;exact q z f lo ys _ (s3.trans sz) n1 ael nfl af (sz _ _ Ol) (sz _ _ ai1) (sL sz hys)
inductive PM (K:Frag)(vs:List V)(H:Hp)(Q:VK)(E:XK):Prop
 |mk (l:Addr) (b:Int) (xs:List V) (ss:List Sg) (dE:vs=[.ref l,.int b]) (dF:aO K H l xs) (eQ:iq H xs ss) (jv:ss.length<=400) (pE:∀(f:Addr)(H':Hp),ao H H'->H f=none->H' f=some (.lst ((jt b (bE ss)).1.map V.int))->Q (.ref f) H'):PM K vs H Q E
theorem aa2 (T:Txt K w mg t):br P w K mg base fK (0+6) t.rC t.Eu ["line","begin"] (PM K):=by
 have aa3:=Xz (P:=P) (base:=base) T;refine T.rP.ok aaN (fun vs H Q E h=>?_) (fun cdv A outer s H vs Q E hr h=>?_)
 ·obtain⟨_,_,_,_,rfl,_⟩:=h;rfl
 ·obtain⟨l,b,xs,ss,rfl,hS,hg,hn,q⟩:=h;refine aR (ah (ax (aT aI (aq aa3 (hr.mono (by decide)) rfl T.Xq T.vg.kp T.G1 .nil au (aa (pv 0) (aa (pv 1) ae))) aj (fun _ _=>rfl)))) ?_;tm_up;refine⟨l,b,xs,ss,rfl,hS,hg,hn,fun p f lo ys H' s1 n1 n2 _ hp hf _ _=>?_⟩;tm_up;exact q f H' s1 n1 hf
inductive E1 (c:Cs)(vs:List V)(H:Hp)(Q:VK)(E:XK):Prop
 |mk (x:Addr) (F:Addr->Prop) (vw:Vw) (ps fs:List Vw) (n:Str) (dE:vs=[.ref x,.str n]) (dF:BP c H x F vw ps fs) (eQ:match bp vw n with
 |none=>RX E c .oC H
 |some _=>∀(l:Addr)(H':Hp),H l=none->ao H H'->H' l=some (.lst ((iu vw n).map V.int))->Q (.ref l) H'):E1 c vs H Q E
theorem E2 (T:Txt K w mg t):br P w K mg base fK (0+7) t.fY t.yK ["self","name"] (E1 (cs t)):=by
 have dO:=jR (P:=P) (base:=base) T;have VD:=aa2 (P:=P) (base:=base) T;have i5:=wA (P:=P) (base:=base) T;refine T.tj.ok gu (fun vs H Q E h=>?_) (fun cdv A outer s H vs Q E hr h=>?_)
 ·obtain⟨_,_,_,_,_,_,rfl,_⟩:=h;rfl
 ·obtain⟨x,F,vw,ps,fs,n,rfl,B,q⟩:=h;refine aR (ag (aH (i:=2) gu.nd rfl (Or.inl rfl) (bj (pv 0) T.aN T.jO dO (hr.mono (by decide)) T.gE .nil au (aa (pv 1) ae))) (ag (aU (aw Qp (pv 2) BF (aG _)) (ah (ax (aq VD (hr.mono (by decide)) rfl T.PB T.rP.kp T.Ez .nil au (aa (bj (pv 0) T.aN T.jg i5 (hr.mono (by decide)) T.fZ .nil au (aa (pv 1) ae)) (aa aj ae))))) aD) (ag (kS (pv 2) (dA rfl (aK (aB (i:=3) gu.nd rfl (Or.inl rfl)) (aK (aB (i:=4) gu.nd rfl (Or.inl rfl)) (aK (aB (i:=5) gu.nd rfl (Or.inr rfl)) (aK (aB (i:=6) gu.nd rfl (Or.inl rfl)) cq)))))) (ag (aH (i:=7) gu.nd rfl (Or.inl rfl) (dJ (gI (aX (pv 6)) aj aj))) (ah (ax (kY (cn:=["worth"]) rfl (bY.of rfl) (cu (aq VD (hr.mono (by decide)) rfl T.PB T.rP.kp T.Ez .nil au (aa (bj (pv 0) T.aN T.jg i5 (hr.mono (by decide)) T.fZ .nil au (aa (pv 1) ae)) (aa (pv 7) ae)))) (fun _=>(aB (i:=0) Ln rfl (Or.inl rfl))) (fun _=>j0) (fun _=>(aJ (pC.or pF) (pv 6) (pv 0)))))))))) ?_;obtain⟨L,D,U,all,M,Ps,Fs,es,us,b,iM,pp,pf,f⟩:=B.ex;obtain⟨dx,hx⟩:=b.hx;have wv:=B.wv vw (.inr (.inl rfl));refine⟨_,rfl,x,dx,_,rfl,hx,k8 _ _ _,_,rfl,x,F,vw,ps,fs,n,rfl,B,?_⟩;cases hf:bp vw n with
  |none =>
   rw[hf]at q;exact(Bool.noConfusion (show false=true from q.1))
  |some th =>
   rw[hf]at q;cases th with
   |pl ss =>
    have gl:=(wv.gd _ _ (cb hf)).1;refine⟨_,rfl,rfl,_,rfl,?_⟩;refine aZ (fun _=>?_) (fun h=>V' (by decide) h);refine⟨_,rfl,x,dx,_,rfl,hx,ko _ _ _,_,rfl,x,F,vw,ps,fs,n,rfl,B,?_⟩;rw[hf];intro l ys H1 hl s1 h1 g1;rw[rf hf]at g1;refine⟨l,3,ys,ss,rfl,aO.of h1,g1,by omega,fun f' H2 s2 n2 h2=>?_⟩;exact q f' H2 (s1.free n2) (s1.trans s2) (by rw[yw hf];exact h2)
   |cn ld lt sl tn =>
    intro p hp;obtain⟨⟨ss,Bv⟩,lt0,lt1,sl0,sl1⟩:=wv.ld n ld lt sl tn (cb hf);have hfl:=wv.find Bv;have gl:=(wv.gd _ _ Bv).1;rw[yx hf hfl]at q;refine⟨_,rfl,rfl,_,rfl,?_⟩;refine aZ (fun h=>by have:=K' h;cases this) (fun _=>?_);refine⟨_,rfl,p,_,rfl,ij.of hp,rfl,_,_,rfl,_,_,rfl,_,_,rfl,_,_,rfl,rfl,?_⟩;refine⟨fun v H'=>v=.int (if tn=true then 2 else 3)/\H'=H,?_,?_⟩
    ·refine⟨_,rfl,_,rfl,?_⟩;cases tn with
     |true=>exact pG ⟨rfl,rfl⟩
     |false=>exact cv ⟨rfl,rfl⟩
    intro v0 H0 ⟨e1,e2⟩;rw[e1,e2];refine⟨_,rfl,x,dx,_,rfl,hx,ko _ _ _,_,rfl,x,F,vw,ps,fs,n,rfl,B,?_⟩;rw[hf];intro l ys H1 hl s1 h1 g1;rw[rg hf hfl]at g1;have gl2:(if tn=true then ss.map sP else ss).length<=400:=by
     split
     ·rw[J'];omega
     ·omega
    refine⟨_,rfl,l,(if tn=true then 2 else 3),ys,_,rfl,aO.of h1,g1,gl2,fun f' H2 s2 n2 h2=>?_⟩;generalize hW:(jt (if tn=true then 2 else 3) (bE (if tn=true then ss.map sP else ss))).1=W at q h2;have hWl:W.length<=400:=by rw[<-hW,qI,J'];exact gl2
    refine⟨f',rfl,⟨_,aO.of h2⟩,fun D' b' hD'=>?_⟩;generalize hbz:(if tn=true then(2:Int) else 3)=bz;refine eJ (K:=K) (xs:=W.map V.int) (fun i ys σ H'=>∃ v,σ=[v,some (.ref x),some (.str n),some (.ref p),some (.str ld),some (.int lt),some (.int sl),some (.bl tn),some (.int bz)]/\H'=upd H2 D' (.lst ys)/\ys=((W.take i).map fun w=>sl * w).map V.int) ⟨none,rfl,rfl,by simp⟩ ?_ ?_ ?_
    ·rintro i ys σ H' ⟨v,rfl,rfl,_⟩;exact ip (aO.of h2) hD'
    ·rintro i ys y σ H' hy ⟨v,rfl,rfl,rfl⟩ N hN;obtain⟨z,hz,rfl⟩:=yo hy;have hi:i<W.length:=(C'.mp hz).1;refine fi ?_;refine⟨_,rfl,_,rfl,.inl ⟨_,_,rfl,rfl,.inl ⟨by omega,by omega⟩,af,?_,?_⟩⟩
     ·rw[J',J',length_take];exact aQ (by omega)
     ·refine hN _ _ _ ⟨_,rfl,df,?_⟩;rw[take_succ,hz,map_append,map_append];rfl
    ·rintro ys σ H' ⟨v,rfl,rfl,rfl⟩;rw[J',take_length];exact q D' _ (s1.free (s2.free hD')) ((s1.trans s2).trans (ao.upd hD')) af
inductive PN (vs:List V)(H:Hp)(Q:VK)(E:XK):Prop
 |mk (p:Addr) (s:Sg) (dE:vs=[.ref p]) (dF:H p=some (.tup [.str s.1.str,.int s.2])) (eQ:Q (.bl s.1.fk) H):PN vs H Q E
theorem aa4 (k:Kd):inV (.str k.str) [.str "G",.str "D",.str "s",.str "d"]=k.fk:=by cases k <;> decide +kernel
theorem aa5 (T:Txt K w mg t):br P w K mg base fK (0+1) t.rE t.Ls ["sign"] PN:=by
 refine T.yW.ok aaO (fun vs H Q E h=>?_) (fun cdv A outer s H vs Q E hr h=>?_)
 ·obtain⟨_,_,rfl,_⟩:=h;rfl
 ·obtain⟨p,s,rfl,hp,q⟩:=h;rw[<-aa4]at q;refine aR (ah (ax (cC (c7.or c0) (aT aI (pv 0) aj (fun _ _=>rfl)) (bR (v:=.ref t.cB) rfl T.vo rfl) rfl))) ?_;tm_up;exact .inl ⟨_,_,rfl,.inr (T.vq _),rfl,rfl,q⟩
theorem Cu {H H':Hp}{t:Addr}(s:ao H H')(n:H t=none):ao H (strip t H'):=fun b o h=>eC (fun e=>by rw[e,n]at h;exact nomatch h) (s _ _ h)
theorem Ha {H H':Hp}{t:Addr}{o:HO}(s:ao (strip t H) H'):ao (strip t H) (upd H' t o):=Vu s (by unfold strip;rw[if_pos rfl])
inductive VE (c:Cs)(vs:List V)(H:Hp)(Q:VK)(E:XK):Prop
 |mk (x:Addr) (F:Addr->Prop) (vw:Vw) (ps fs:List Vw) (n:Str) (th:Th) (dE:vs=[.ref x,.str n]) (dF:BP c H x F vw ps fs) (eQ:bp vw n=some th) (jv:∀(l:Addr)(ys:List V)(H':Hp),H l=none->ao H H'->H' l=some (.lst ys)->Paired (gZ H') ys (eI (ju vw n) (iu vw n) (EV th))->Q (.ref l) H'):VE c vs H Q E
theorem aem (T:Txt K w mg t):br P w K mg base fK (0+8) t.v7 t.QU ["book","name"] (VE (cs t)):=by
 have VF:=Rn (P:=P) (base:=base) T;have i5:=wA (P:=P) (base:=base) T;have tK:=E2 (P:=P) (base:=base) T;have aen:=aa5 (P:=P) (base:=base) T;refine T.EA.ok va (fun vs H Q E h=>?_) (fun cdv A outer s H vs Q E hr h=>?_)
 ·obtain⟨_,_,_,_,_,_,_,rfl,_⟩:=h;rfl
 ·obtain⟨x,F,vw,ps,fs,n,th,rfl,B,hf,q⟩:=h;refine aR (ag (aH (i:=2) va.nd rfl (Or.inl rfl) (bq ae)) (ag (aH (i:=3) va.nd rfl (Or.inl rfl) (aq VF (hr.mono (by decide)) rfl T.Q0 T.oR.kp T.yV .nil au (aa (pv 0) (aa (pv 1) ae)))) (ag (cE PassesOwn.never rfl (QB rfl T.G6 (bj (pv 0) T.aN T.jg i5 (hr.mono (by decide)) T.fZ .nil au (aa (pv 1) ae)) (bj (pv 0) T.aN T.wq tK (hr.mono (by decide)) T.oT .nil au (aa (pv 1) ae))) (dA rfl (aK (aB (i:=4) va.nd rfl (Or.inl rfl)) (aK (aB (i:=5) va.nd rfl (Or.inl rfl)) cq))) (ag (jx (aU (aX (aq aen (hr.mono (by decide)) rfl T.aaS T.yW.kp T.LH .nil au (aa (pv 4) ae))) (ah (aP (eE plainAttrs_list slot_list_append type_list_append a6 (pv 2) (aa (cV (aa (pv 3) (aa (aJ (a8.or (aE.or a9)) (pv 3) (pv 5)) (aa (aT aI (pv 4) aj (fun _ _=>rfl)) ae)))) ae)))) aD)) (ah (Qn (i:=3) va.nd rfl (Or.inl rfl) (pv 5) Qo)))) (ah (ax (pv 2)))))) ?_;have wv:=B.wv vw (.inr (.inl rfl));obtain⟨kb,kl,ll,b0,b9⟩:=Rm wv hf;refine⟨big (by show 0<=1000;omega),fun fd hfd=>?_⟩;have s0:=ao.upd (o:=.lst []) hfd;have h0:=af (H:=H) (a:=fd) (o:=.lst []);generalize upd H fd (.lst [])=H0 at s0 h0;tm_up;refine⟨x,F,vw,ps,fs,n,th,rfl,B.same s0,hf,?_⟩;obtain⟨L,D,U,all,M,Ps,Fs,es,us,b,_⟩:=B.ex;obtain⟨dx,hx⟩:=b.hx;tm_up;refine⟨x,dx,_,rfl,s0 _ _ hx,ko _ _ _,_,rfl,x,F,vw,ps,fs,n,rfl,B.same s0,?_⟩;rw[hf];intro l1 ys1 H1 nl1 s1 h1 g1;tm_up;refine⟨x,dx,_,rfl,s1 _ _ (s0 _ _ hx),yq _ _ _,_,rfl,x,F,vw,ps,fs,n,rfl,(B.same s0).same s1,?_⟩;rw[hf];intro k1 H2 nk1 s2 hk2;have h12:=s2 _ _ h1;have g12:=g1.same s2;have hf2:=s2 _ _ (s1 _ _ h0);have nl:l1≠fd:=fun e=>by rw[e,h0]at nl1;exact nomatch nl1
  have nk:k1≠fd:=fun e=>by rw[e,s1 _ _ h0]at nk1;exact nomatch nk1
  have sB:ao H (strip fd H2):=Cu ((s0.trans s1).trans s2) hfd;have el:ys1.length=((iu vw n).map V.int).length:=by rw[bh g1,J',kl]
  have g13:iq (strip fd H2) ys1 (ju vw n):=iq.strip hf2 g12;have h13:=eC nl h12;have hk3:=eC nk hk2;generalize hss:ju vw n=ss at g13 ll kl q;generalize hws:iu vw n=ws at hk3 el kb kl q;generalize hHs:strip fd H2=Hs at sB g13 h13 hk3;clear hss;have own:∀{H':Hp} {o:HO},ao Hs H'->ao Hs (upd H' fd o):=fun s=>by rw[<-hHs] at *;exact Ha s
  refine⟨_,_,rfl,rfl,⟨_,aO.of h12⟩,⟨_,aO.of hk2⟩,Kv (K:=K) (xs:=ys1) (ys:=ws.map V.int) (fun i σ H'=>∃(v1 v2:Option V)(zs:List V)(bt:Int)(ts:List (Int×Int×Int)),σ=[some (.ref x),some (.str n),some (.ref fd),some (.int bt),v1,v2]/\ao Hs H'/\H' fd=some (.lst zs)/\Paired (gZ H') zs ts/\ts.length<=i/\i<=ss.length/\ts++eI (ss.drop i) (ws.drop i) bt=eI ss ws (EV th)) el ⟨none,none,[],EV th,[],rfl,by rw[<-hHs];exact ze fd H2,hf2,.nil,R' _,Nat.zero_le _,rfl⟩ ?_ ?_ ?_⟩
  ·rintro i σ H' ⟨v1,v2,zs,bt,ts,rfl,s3,_⟩;exact⟨s3.seq (aO.of h13),s3.seq (aO.of hk3)⟩
  ·rintro i y1 y2 tt σ H' hx1 hy1 ⟨v1,v2,zs,bt,ts,rfl,s3,Ol,pt,tl,il,et⟩ hn;obtain⟨sg,e1,p,rfl,hp⟩:=j3 g13 hx1;obtain⟨wo,e2,rfl⟩:=yo hy1;have NX:i<ss.length:=(C'.mp e1).1;rw[JH e1 e2]at et;have s4:=s3.trans (ao.upd (o:=.tup [.ref p,.int wo]) hn);have hp4:=s4 _ _ hp;have Om:=ao.upd (o:=.tup [.ref p,.int wo]) hn _ _ Ol;have pt4:=aY (fun _ _ q=>gZ.same (ao.upd (o:=.tup [.ref p,.int wo]) hn) q) pt;refine⟨tt,_,rfl,ij.of af,rfl,_,_,rfl,_,_,rfl,rfl,?_⟩;generalize upd H' tt (.tup [.ref p,.int wo])=H4 at s4 hp4 Om pt4;refine⟨fun σ H'=>∃(zs:List V)(ts:List (Int×Int×Int)),σ=[some (.ref x),some (.str n),some (.ref fd),some (.int bt),some (.ref p),some (.int wo)]/\ao Hs H'/\H' fd=some (.lst zs)/\Paired (gZ H') zs ts/\ts.length<=i+1/\ts++eI (ss.drop (i+1)) (ws.drop (i+1)) (bt+wo)=eI ss ws (EV th),?_,?_⟩
   ·tm_up;refine⟨p,sg,rfl,hp4,_,rfl,?_⟩;refine aZ (fun hsd=>?_) (fun hsd=>?_)
    ·rw[if_pos hsd,<-List.append_assoc]at et;tm_up;refine⟨.inl ⟨rfl,_,aO.of Om⟩,?_⟩;tm_up;refine⟨big (by show 3<=1000;omega),fun pp hpp=>?_⟩;have st:=ao.upd (o:=.tup [.int bt,.int (bt+wo),.int sg.2]) hpp;refine⟨fd,zs,_,rfl,rfl,st _ _ Om,aQ (by have:=bh pt4;omega),?_⟩;refine⟨_,_,rfl,own (s4.trans st),af,?_,?_,et⟩
     ·exact aY (fun _ _ q=>gZ.write (st _ _ Om) q) (fL (aY (fun _ _ q=>gZ.same st q) pt4) ⟨pp,rfl,af⟩)
     ·rw[T'];show _+1<=_;omega
    ·rw[if_neg hsd]at et;exact⟨zs,ts,rfl,s4,Om,pt4,by omega,et⟩
   rintro _ H5 ⟨zs5,ts5,rfl,s5,hf5,pt5,tl5,et5⟩;tm_up;exact⟨_,_,zs5,bt+wo,ts5,rfl,s5,hf5,pt5,tl5,NX,et5⟩
  ·rintro σ H' ⟨v1,v2,zs,bt,ts,rfl,s3,Ol,pt,tl,il,et⟩;tm_up;rw[bh g13,List.drop_length]at et;exact q fd zs H' hfd (sB.trans s3) Ol (by rw[<-et];cases ws.drop ss.length <;> (rw[show eI [] _ bt=[] from rfl,append_nil];exact pt))
noncomputable abbrev PQ:=Int×Int×Int
noncomputable def mx (i j:Int):Int:=if j > i then j else i
noncomputable def mn (i j:Int):Int:=if j<i then j else i
noncomputable def near (a b:Int):Bool:=decide (a=b+1)||decide (b=a+1)
noncomputable def NY (o p:PQ):Bool:=near o.2.2 p.2.2&&decide (mx o.1 p.1<mn o.2.1 p.2.1)
noncomputable def Rq (o p:PQ):Int×Int:=(mx o.1 p.1,mn o.2.1 p.2.1)
noncomputable def Cv (os ps:List PQ):List (Int×Int):=os.flatMap fun o=>(ps.filter (NY o)).map (Rq o)
structure Ser (ts:List PQ):Prop where
 pw:ts.Pairwise fun a b=>a.2.1<=b.1
 lt:∀ t∈ts,t.1<t.2.1
theorem Ser.at {ts:List PQ}(h:Ser ts){i j:Nat}{a b:PQ}(ha:ts[i]? = some a)(hb:ts[j]? = some b)(hij:i<j):a.2.1<=b.1:=by
 obtain⟨h1,e1⟩:=C'.mp ha;obtain⟨h2,e2⟩:=C'.mp hb;have:=List.pairwise_iff_getElem.mp h.pw i j h1 h2 hij;rw[e1,e2]at this;exact this
theorem Ser.lt' {ts:List PQ}(h:Ser ts){i:Nat}{a:PQ}(ha:ts[i]? = some a):a.1<a.2.1:=h.lt a (X' ha)
theorem Rr {o p:PQ}(h:p.2.1<=o.1):NY o p=false:=by
 unfold NY mx mn;rw[Y' (by split <;> split <;> omega),Bool.and_false]
theorem Rt {o p:PQ}(h:o.2.1<=p.1):NY o p=false:=by
 unfold NY mx mn;rw[Y' (by split <;> split <;> omega),Bool.and_false]
theorem ai2 {o p:PQ}(h1:o.1<o.2.1)(h2:o.1<p.2.1)(h3:p.1<o.2.1)(h4:p.1<p.2.1):NY o p=near o.2.2 p.2.2:=by
 unfold NY mx mn;rw[N' (by split <;> split <;> omega),Bool.and_true]
theorem aeo (a b:Int):decide ((if b-a<0 then -(b-a) else b-a)=1)=near a b:=by
 unfold near
 by_cases h1:a=b+1
 ·rw[N' h1,Bool.true_or,N' (by split <;> omega)]
 ·by_cases h2:b=a+1
  ·rw[N' h2,Bool.or_true,N' (by split <;> omega)]
  ·rw[Y' h1,Y' h2,Y' (by split <;> omega)];rfl
theorem filter_none {α:Type}{p:α->Bool}{l:List α}(h:∀ x∈l,p x=false):l.filter p=[]:=List.filter_eq_nil_iff.mpr fun x hx=>by rw[h x hx];exact Z'
theorem JK {α:Type}{p:α->Bool}{l:List α}{i:Nat}{x:α}(h:l[i]? = some x):(l.take (i+1)).filter p=(l.take i).filter p++if p x=true then [x] else []:=by
 rw[take_succ,h,List.filter_append]
 congr 1
 show List.filter p [x]=_
 by_cases e:p x=true
 ·rw[if_pos e,List.filter_cons_of_pos e];rfl
 ·rw[if_neg e,List.filter_cons_of_neg e];rfl
theorem PR {os:List PQ}{i:Nat}{o:PQ}(h:os[i]? = some o)(ps:List PQ):Cv (os.take (i+1)) ps=Cv (os.take i) ps++(ps.filter (NY o)).map (Rq o):=by
 unfold Cv;rw[take_succ,h,List.flatMap_append]
 congr 1
 show List.flatMap _ [o]=_;rw[List.flatMap_cons,List.flatMap_nil,append_nil]
inductive o8 (K:Frag)(vs:List V)(H:Hp)(Q:VK)(E:XK):Prop
 |mk (a b:Addr) (xs ys:List V) (os ps:List PQ) (dE:vs=[.ref a,.ref b]) (dF:H a=some (.lst xs)) (eQ:H b=some (.lst ys)) (jv:Paired (gZ H) xs os) (pE:Paired (gZ H) ys ps) (Pa:Ser os) (h6_:Ser ps) (h7_:os.length<=200) (h8_:ps.length<=200) (h9_:∀(l:Addr)(zs:List V)(H':Hp),H l=none->ao H H'->H' l=some (.lst zs)->Paired (PrI H') zs (Cv os ps)->zs.length<=40000->Q (.ref l) H'):o8 K vs H Q E
theorem zh (T:Txt K w mg t):br P w K mg base fK (0+1) t.bV t.jz ["ones","others"] (o8 K):=by
 refine T.dH.ok bu (fun vs H Q E h=>?_) (fun cdv A outer s H vs Q E hr h=>?_)
 ·obtain⟨_,_,_,_,_,_,rfl,_⟩:=h;rfl
 ·obtain⟨a,b,xs,ys,os,ps,rfl,ha,hb,ga,gb,so,sp,lo,lp,q⟩:=h;refine aR (ag (aH (i:=2) bu.nd rfl (Or.inl rfl) (bq ae)) (ag (aH (i:=3) bu.nd rfl (Or.inl rfl) aj) (ag (cE PassesOwn.never rfl (cu (pv 0)) (dA rfl (aK (aB (i:=4) bu.nd rfl (Or.inl rfl)) (aK (aB (i:=5) bu.nd rfl (Or.inl rfl)) (aK (aB (i:=6) bu.nd rfl (Or.inl rfl)) cq)))) (ag (ye PassesOwn.never (bF (PW.pt (cU (aw mR (pv 3) (av (az.or aA) rfl T.bD bC (aa (pv 1) ae)) (aG _)) (dn (aw xM (aT aI (aT aI (pv 1) (pv 3) (fun _ _=>rfl)) aj (fun _ _=>rfl)) (pv 4) (aG _)))))) (ah (Qn (i:=3) bu.nd rfl (Or.inl rfl) aj Qo))) (ag (aH (i:=7) bu.nd rfl (Or.inl rfl) (pv 3)) (ah (ye PassesOwn.never (bF (PW.pt (cU (aw mR (pv 7) (av (az.or aA) rfl T.bD bC (aa (pv 1) ae)) (aG _)) (dn (aw mR (aT aI (aT aI (pv 1) (pv 7) (fun _ _=>rfl)) aj (fun _ _=>rfl)) (pv 5) (aG _)))))) (ag (jx (aU (aw (bQ.or (bo (aM hr))) (av ac8 rfl T.aiH aik (aa (aJ gT (aT aI (aT aI (pv 1) (pv 7) (fun _ _=>rfl)) aj (fun _ _=>rfl)) (pv 6)) ae)) aj (aG _)) (ah (aP (eE plainAttrs_list slot_list_append type_list_append a6 (pv 2) (aa (cV (aa (av (AV rfl) rfl T.Q6 Qy (aa (pv 4) (aa (aT aI (aT aI (pv 1) (pv 7) (fun _ _=>rfl)) aj (fun _ _=>rfl)) ae))) (aa (av (AW rfl) rfl T.Q7 Qx (aa (pv 5) (aa (aT aI (aT aI (pv 1) (pv 7) (fun _ _=>rfl)) aj (fun _ _=>rfl)) ae))) ae))) ae)))) aD)) (ah (Qn (i:=7) bu.nd rfl (Or.inl rfl) aj Qo)))))))) (ah (ax (pv 2)))))) ?_;have xl:=bh ga;have yl:=bh gb;refine⟨big (by show 0<=1000;omega),fun fd hfd=>?_⟩;have s0:=ao.upd (o:=.lst []) hfd;have h0:=af (H:=H) (a:=fd) (o:=.lst []);generalize upd H fd (.lst [])=H0 at s0 h0;have na:a≠fd:=fun e=>by rw[e,hfd]at ha;exact nomatch ha
  have nb:b≠fd:=fun e=>by rw[e,hfd]at hb;exact nomatch hb
  tm_up;refine⟨⟨_,aO.of (s0 _ _ ha)⟩,gJ (K:=K) (xs:=xs) (fun k σ H'=>∃(v1 v2 v3 v4:Option V)(zs:List V)(f:Nat),σ=[some (.ref a),some (.ref b),some (.ref fd),some (.int (f:Int)),v1,v2,v3,v4]/\ao H H'/\H' fd=some (.lst zs)/\Paired (PrI H') zs (Cv (os.take k) ps)/\zs.length<=200 * k/\k<=os.length/\f<=ps.length/\∀ i<f,∀ p,ps[i]? = some p->∀ k' o,k<=k'->os[k']? = some o->p.2.1<=o.1) ⟨none,none,none,none,[],0,rfl,s0,h0,.nil,R' _,Nat.zero_le _,Nat.zero_le _,fun i hi=>V' hi (Nat.not_lt_zero _)⟩ ?_ ?_ ?_⟩
  ·rintro k σ H' _ ⟨v1,v2,v3,v4,zs,f,rfl,s1,_⟩;exact aO.of (s1 _ _ ha)
  ·rintro k y σ H1 hy ⟨v1,v2,v3,v4,zs,f,rfl,s1,hf1,pz,zl,kl,fl,fb⟩;obtain⟨⟨st,en,tn⟩,ho,p,rfl,hp⟩:=j3 ga hy;have kl2:k<os.length:=(C'.mp ho).1;have olt:=so.lt' ho;have hb1:=s1 _ _ hb;rw[PR ho];refine⟨p,_,rfl,ij.of (s1 _ _ hp),rfl,_,_,rfl,_,_,rfl,_,_,rfl,rfl,?_⟩;refine yr fun N hN=>?_;refine⟨fun mm σ H'=>∃ f':Nat,mm=ps.length-f'/\σ=[some (.ref a),some (.ref b),some (.ref fd),some (.int (f':Int)),some (.int st),some (.int en),some (.int tn),v4]/\H'=H1/\f'<=ps.length/\∀ i<f',∀ p,ps[i]? = some p->p.2.1<=st,⟨ps.length-f,f,rfl,rfl,rfl,fl,fun i hi p hp=>fb i hi p hp k _ (R' _) ho⟩,?_⟩
   ·rintro mm σ H' ⟨f',rfl,rfl,e,fl',fb'⟩;rw[e];clear e H';refine iF (decide (f'<ps.length)&&decide (((ps[f']?.map (·.2.1)).getD 0)<=st)) ?_ ?_
    ·tm_up;refine .inl ⟨b,_,rfl,.inl (aO.of hb1),?_⟩;tm_up;refine aZ (fun c1=>?_) (fun c1=>?_)
     ·have hlt:f'<ps.length:=by have:=K' c1;omega
      obtain⟨w1,hw1⟩:∃ w1,ys[f']? = some w1:=⟨_,G' (by omega)⟩;obtain⟨⟨p1,p2,p3⟩,hp1,pp,rfl,hpp⟩:=j3 gb hw1;tm_up;refine QI (aO.of hb1) (n:=f') rfl hw1 ?_;tm_up;refine .inr (.inl ⟨pp,_,1,_,rfl,rfl,ij.of (s1 _ _ hpp),rfl,?_⟩);tm_up;exact cF (by rw[hp1,N' hlt];rfl)
     ·have hlt:¬ f'<ps.length:=fun z=>c1 (N' (by omega));exact cF (by rw[Y' hlt];rfl)
    refine aZ (fun c=>?_) (fun c=>?_)
    ·obtain⟨c1,c2⟩:=Bool.and_eq_true_iff.mp c;have hlt:=K' c1;refine⟨fun σ' H'=>∃ m',m'<ps.length-f'/\∃ f'':Nat,m'=ps.length-f''/\σ'=[some (.ref a),some (.ref b),some (.ref fd),some (.int (f'':Int)),some (.int st),some (.int en),some (.int tn),v4]/\H'=H1/\f''<=ps.length/\∀ i<f'',∀ p,ps[i]? = some p->p.2.1<=st,fun _ _ h=>h,?_⟩;tm_up;refine⟨ps.length-(f'+1),by omega,f'+1,rfl,rfl,rfl,hlt,fun i hi p hp=>?_⟩
     by_cases e:i=f'
     ·subst e;have:=K' c2;rw[hp]at this;exact this
     ·exact fb' i (by omega) p hp
    ·have stop:∀ p,ps[f']? = some p->st<p.2.1:=fun p hp=>by
      have hlt:f'<ps.length:=(C'.mp hp).1;have hc:¬(decide (f'<ps.length)&&decide (((ps[f']?.map (·.2.1)).getD 0)<=st))=true:=c;rw[N' hlt,Bool.true_and,hp]at hc;have:¬ p.2.1<=st:=fun z=>hc (N' z);omega
     refine hN _ _ ?_;generalize Cv (os.take k) ps=acc at pz ⊢;refine⟨_,rfl,?_⟩;refine⟨fun mm σ H'=>∃(g:Nat)(x9:List V),mm=ps.length-g/\σ=[some (.ref a),some (.ref b),some (.ref fd),some (.int (f':Int)),some (.int st),some (.int en),some (.int tn),some (.int (g:Int))]/\ao H H'/\H' fd=some (.lst x9)/\Paired (PrI H') x9 (acc++((ps.take g).filter (NY (st,en,tn))).map (Rq (st,en,tn)))/\x9.length<=200 * k+g/\f'<=g/\g<=ps.length,⟨ps.length-f',f',zs,rfl,rfl,s1,hf1,?_,by omega,R' _,fl'⟩,?_⟩
     ·rw[filter_none,List.map_nil,append_nil]
      ·exact pz
      ·intro p hp;obtain⟨i,hi⟩:=getElem?_of_mem hp;have hif:i<f':=by
        have:=(C'.mp hi).1;rw[length_take]at this;omega
       rw[List.getElem?_take_of_lt hif]at hi;exact Rr (fb' i hif p hi)
     ·rintro mm σ H' ⟨g,x9,rfl,rfl,s2,hf2,pz2,zl2,fg,gl⟩;have hb2:=s2 _ _ hb;refine iF (decide (g<ps.length)&&decide (((ps[g]?.map (·.1)).getD 0)<en)) ?_ ?_
      ·tm_up;refine .inl ⟨b,_,rfl,.inl (aO.of hb2),?_⟩;tm_up;refine aZ (fun c1=>?_) (fun c1=>?_)
       ·have hlt:g<ps.length:=by have:=K' c1;omega
        obtain⟨w1,hw1⟩:∃ w1,ys[g]? = some w1:=⟨_,G' (by omega)⟩;obtain⟨⟨p1,p2,p3⟩,hp1,pp,rfl,hpp⟩:=j3 gb hw1;tm_up;refine QI (aO.of hb2) (n:=g) rfl hw1 ?_;tm_up;refine .inr (.inl ⟨pp,_,0,_,rfl,rfl,ij.of (s2 _ _ hpp),rfl,?_⟩);tm_up;exact cF (by rw[hp1,N' hlt];rfl)
       ·have hlt:¬ g<ps.length:=fun z=>c1 (N' (by omega));exact cF (by rw[Y' hlt];rfl)
      refine aZ (fun c=>?_) (fun c=>?_)
      ·obtain⟨c1,c2⟩:=Bool.and_eq_true_iff.mp c;have hlt:=K' c1;obtain⟨w1,hw1⟩:∃ w1,ys[g]? = some w1:=⟨_,G' (by omega)⟩;obtain⟨⟨p1,p2,p3⟩,hp1,pp,rfl,hpp⟩:=j3 gb hw1;have ai3:=s2 _ _ hpp;have lt3:p1<en:=by
        have:=K' c2;rw[hp1]at this;exact this
       have plt:p1<p2:=sp.lt' hp1;have stp:st<p2:=by
        by_cases e:f'=g
        ·subst e;exact stop _ hp1
        ·obtain⟨p',hp'⟩:∃ p',ps[f']? = some p':=⟨_,G' (by omega)⟩;have:=stop _ hp';have h2:p'.2.1<=p1:=sp.at hp' hp1 (by omega);omega
       have eo:NY (st,en,tn) (p1,p2,p3)=near tn p3:=ai2 olt stp lt3 plt;refine⟨fun σ' H'=>∃ m',m'<ps.length-g/\∃(g':Nat)(x9:List V),m'=ps.length-g'/\σ'=[some (.ref a),some (.ref b),some (.ref fd),some (.int (f':Int)),some (.int st),some (.int en),some (.int tn),some (.int (g':Int))]/\ao H H'/\H' fd=some (.lst x9)/\Paired (PrI H') x9 (acc++((ps.take g').filter (NY (st,en,tn))).map (Rq (st,en,tn)))/\x9.length<=200 * k+g'/\f'<=g'/\g'<=ps.length,fun _ _ h=>h,?_⟩;refine⟨fun σ' H'=>∃ ai4:List V,σ'=[some (.ref a),some (.ref b),some (.ref fd),some (.int (f':Int)),some (.int st),some (.int en),some (.int tn),some (.int (g:Int))]/\ao H H'/\H' fd=some (.lst ai4)/\Paired (PrI H') ai4 (acc++((ps.take (g+1)).filter (NY (st,en,tn))).map (Rq (st,en,tn)))/\ai4.length<=200 * k+(g+1),?_,?_⟩
       ·rw[JK hp1,eo,map_append,<-List.append_assoc];generalize acc++((ps.take g).filter (NY (st,en,tn))).map (Rq (st,en,tn))=anC at pz2 ⊢;tm_up;refine QI (aO.of hb2) (n:=g) rfl hw1 ?_;tm_up;refine .inr (.inl ⟨pp,_,2,_,rfl,rfl,ij.of ai3,rfl,?_⟩);tm_up;rw[dG,show decide ((if(p1,p2,p3).snd.snd-tn<0 then -((p1,p2,p3).snd.snd-tn) else(p1,p2,p3).snd.snd-tn)=1)=near tn p3 from aeo tn p3];refine aZ (fun hn=>?_) (fun hn=>?_)
        ·rw[if_pos hn];refine⟨_,rfl,.inl ⟨rfl,_,aO.of hf2⟩,?_⟩;tm_up;refine QI (aO.of hb2) (n:=g) rfl hw1 ?_;tm_up;refine .inr (.inl ⟨pp,_,0,_,rfl,rfl,ij.of ai3,rfl,?_⟩);refine⟨_,_,rfl,?_⟩;tm_up;refine QI (aO.of hb2) (n:=g) rfl hw1 ?_;tm_up;refine .inr (.inl ⟨pp,_,1,_,rfl,rfl,ij.of ai3,rfl,?_⟩);refine⟨_,_,rfl,?_⟩;refine⟨big (by show 2<=1000;omega),fun tp htp=>?_⟩;have stt:=ao.upd (o:=.tup [.int (mx st p1),.int (mn en p2)]) htp;refine⟨fd,x9,_,rfl,rfl,stt _ _ hf2,Nat.lt_of_le_of_lt (show x9.length<=50000 by omega) (by decide),?_⟩;refine⟨_,rfl,cD (s2.trans stt) hfd,af,?_,by rw[T'];show _+1<=_;omega⟩;exact aY (fun _ _ q=>adY (stt _ _ hf2) q) (fL (Vg stt pz2) ⟨tp,rfl,af⟩)
        ·rw[if_neg hn,List.map_nil,append_nil];exact⟨x9,rfl,s2,hf2,pz2,by omega⟩
       rintro _ H3 ⟨zs3,rfl,s3,Ol,pz3,zl3⟩;tm_up;exact⟨ps.length-(g+1),by omega,g+1,zs3,rfl,rfl,s3,Ol,pz3,zl3,by omega,hlt⟩
      ·have done:∀ p,ps[g]? = some p->en<=p.1:=fun p hp=>by
        have hlt:g<ps.length:=(C'.mp hp).1;have hc:¬(decide (g<ps.length)&&decide (((ps[g]?.map (·.1)).getD 0)<en))=true:=c;rw[N' hlt,Bool.true_and,hp]at hc;have:¬ p.1<en:=fun z=>hc (N' z);omega
       have ef:(ps.take g).filter (NY (st,en,tn))=ps.filter (NY (st,en,tn)):=by
        conv=>rhs;rw[<-List.take_append_drop g ps]
        rw[List.filter_append,filter_none (l:=ps.drop g),append_nil];intro p hp;obtain⟨i,hi⟩:=getElem?_of_mem hp;rw[getElem?_drop]at hi;refine Rt ?_;show en<=p.1;cases i with
        |zero=>exact done p hi
        |succ i =>
         obtain⟨p',hp'⟩:∃ p',ps[g]? = some p':=⟨_,G' (by have:=(C'.mp hi).1;omega)⟩;have h1:=done p' hp';have h2:=sp.lt' hp';have h3:=sp.at hp' hi (by omega);omega
       rw[ef]at pz2;refine⟨_,_,_,_,x9,f',rfl,s2,hf2,pz2,by omega,kl2,fl',fun i hi p hp k' o hk' ho'=>?_⟩;have h1:=fb' i hi p hp;have h2:en<=o.1:=so.at ho ho' hk';have h3:st<en:=olt;omega
  ·rintro σ H1 ⟨v1,v2,v3,v4,zs,f,rfl,s1,hf1,pz,zl,kl,_⟩;tm_up;rw[xl,take_length]at pz;exact q fd zs H1 hfd s1 hf1 pz (by rw[xl]at zl;have:=Nat.mul_le_mul_left 200 lo;omega)
noncomputable def pos1 (ks:List Kd)(f:List Int):Prop:=∀(i:Nat) k w,ks[i]? = some k->f[i]? = some w->k.fk=true->1<=w
theorem bw1 (m:Int)(k:Kd)(n:Option Kd)(h:k.fk=true):1<=bw m k n:=by
 unfold bw;split
 ·omega
 ·cases k <;> unfold pw <;> first|omega|(split <;> omega)|exact V' h (by decide)
theorem ahF:∀(m:Int)(ks:List Kd),pos1 ks (gK m ks)
 |_,[]=>fun i k w h=>by simp at h
 |m,k::t=>fun i k' w h1 h2 hs=>by
  cases i with
  |zero =>
   have e1:k=k':=W' h1;have e2:bw (nm m k) k t.head? = w:=W' h2;rw[<-e2];exact bw1 _ _ _ (by rw[e1];exact hs)
  |succ i=>exact ahF (nm m k) t i k' w h1 h2 hs
theorem ai5 {ks:List Kd}{f:List Int}{j:Nat}(h:pos1 ks f):pos1 ks (f.set j 2):=fun i k w h1 h2 hs=>by
 by_cases e:j=i
 ·subst e;rw[List.getElem?_set]at h2;split at h2
  ·split at h2
   ·have:(2:Int)=w:=W' h2;omega
   ·cases h2
  ·exact h j k w h1 h2 hs
 ·rw[List.getElem?_set_ne e]at h2;exact h i k w h1 h2 hs
theorem aep {ks:List Kd}{f:List Int}{a z:Nat}(h:pos1 ks f):pos1 ks (settle ks f a z).2:=by
 unfold settle vI vJ
 repeat' split
 all_goals first|exact h|exact ai5 h|exact ai5 (ai5 h)
theorem ala (ks:List Kd)(rs:List (Nat×Nat))(c:RdS)(h:pos1 ks c.1):pos1 ks (rs.foldl (pI ks) c).1:=by
 induction rs generalizing c with
 |nil=>exact h
 |cons p t ih=>exact ih _ (aep h)
theorem read1 (m:Int)(ks:List Kd):pos1 ks (jt m ks).1:=ala _ _ _ (ahF m ks)
theorem alb {vw:Vw}(w:yt vw){n:Str}{th:Th}(hf:bp vw n=some th):pos1 (bE (ju vw n)) (iu vw n):=by
 cases th with
 |pl ss=>rw[yw hf,rf hf];exact read1 _ _
 |cn ld lt sl tn =>
  obtain⟨⟨ss,Bv⟩,lt0,lt1,sl0,sl1⟩:=w.ld n ld lt sl tn (cb hf);have hfl:=w.find Bv;rw[yx hf hfl,rg hf hfl];intro i k x h1 h2 hs;rw[getElem?_map]at h2;obtain⟨y,hy,rfl⟩:=Option.map_eq_some_iff.mp h2;have:=read1 _ _ i k y h1 hy hs;have h3:1 * 1<=sl * y:=Int.mul_le_mul sl0 this (by omega) (by omega);omega
theorem PU:∀(ss:List Sg)(ws:List Int)(b:Int),(∀ w∈ws,0<=w)->∀ t∈eI ss ws b,b<=t.1
 |s::ss,w::ws,b,h,t,ht=>by
  have ht':t∈(if s.1.fk=true then [(b,b+w,s.2)] else [])++eI ss ws (b+w):=ht;have hw:=h w (mem_cons_self ..);rcases mem_append.mp ht' with z|z
  ·split at z
   ·rw[mem_singleton.mp z];exact Int.le_refl _
   ·cases z
  ·have:=PU ss ws (b+w) (fun x hx=>h x (mem_cons_of_mem _ hx)) t z;omega
 |[],_,_,_,t,ht=>by cases ht
 |_::_,[],_,_,t,ht=>by cases ht
theorem L5:∀(ss:List Sg)(ws:List Int)(b:Int),(∀ w∈ws,0<=w)->pos1 (bE ss) ws->Ser (eI ss ws b)
 |s::ss,w::ws,b,h,p=>by
  have ih:=L5 ss ws (b+w) (fun x hx=>h x (mem_cons_of_mem _ hx)) fun i k x h1 h2=>p (i+1) k x h1 h2;have ge:=PU ss ws (b+w) (fun x hx=>h x (mem_cons_of_mem _ hx));show Ser ((if s.1.fk=true then [(b,b+w,s.2)] else [])++eI ss ws (b+w));split
  ·rename_i hs
   have hw:1<=w:=p 0 s.1 w rfl rfl hs;refine⟨List.Pairwise.cons (fun t ht=>ge t ht) ih.pw,fun t ht=>?_⟩;rcases List.mem_cons.mp ht with rfl|ht
   ·show b<b+w;omega
   ·exact ih.lt t ht
  ·exact ih
 |[],_,_,_,_=>⟨.nil,fun t ht=>by cases ht⟩
 |_::_,[],_,_,_=>⟨.nil,fun t ht=>by cases ht⟩
noncomputable def spV (vw:Vw)(q:Str×Th):List PQ:=eI (ju vw q.1) (iu vw q.1) (EV q.2)
theorem Ru {vw:Vw}(w:yt vw){q:Str×Th}(hq:q∈vw):Ser (spV vw q)/\(spV vw q).length<=200:=by
 have hf:=w.find (show(q.1,q.2)∈vw from hq);obtain⟨kb,kl,ll,_,_⟩:=Rm w hf;refine⟨L5 _ _ _ (fun x hx=>(kb x hx).1) (alb w hf),?_⟩;have:=Xy (ju vw q.1) (iu vw q.1) (EV q.2);exact Nat.le_trans this ll
noncomputable abbrev Rb:=Str×Str×Int×Int
noncomputable def VG (vw:Vw)(q p:Str×Th):List Rb:=(Cv (spV vw q) (spV vw p)).map fun z=>(q.1,p.1,z.1,z.2)
noncomputable def tL (vw:Vw):Vw->List Rb
 |[]=>[]
 |q::r=>(r.flatMap fun p=>VG vw q p)++tL vw r
noncomputable def kR (H:Hp)(y:V)(r:Rb):Prop:=∃ p,y=.ref p/\H p=some (.tup [.str r.1,.str r.2.1,.int r.2.2.1,.int r.2.2.2])
theorem kR.same {H H':Hp}(s:ao H H'){y:V}{t:Rb}(h:kR H y t):kR H' y t:=by
 obtain⟨p,e1,e2⟩:=h;exact⟨p,e1,s _ _ e2⟩
theorem kR.write {H:Hp}{l:Addr}{xs:List V}{o:HO}(hl:H l=some (.lst xs)){y:V}{t:Rb}(h:kR H y t):kR (upd H l o) y t:=by
 obtain⟨p,e1,e2⟩:=h;exact⟨p,e1,by rw[ak (fun e=>by rw[e,hl]at e2;exact nomatch e2)];exact e2⟩
theorem VH (os ps:List PQ)(h:os.length<=200)(h':ps.length<=200):(Cv os ps).length<=40000:=by
 have:∀ os:List PQ,(Cv os ps).length<=os.length * 200:=by
  intro os
  induction os with
  |nil=>exact R' _
  |cons o t ih =>
   show((ps.filter (NY o)).map (Rq o)++Cv t ps).length<=_;rw[T',J',length_cons];have:=List.length_filter_le (NY o) ps;omega
 have:=this os;omega
noncomputable def zi (H:Hp)(fd:Addr)(vw:Vw)(kv:Key×V)(q:Str×Th):Prop:=kv.1=Sum.inr q.1/\∃ l ys,kv.2=.ref l/\l≠fd/\H l=some (.lst ys)/\Paired (gZ H) ys (spV vw q)
theorem zi.same {H H':Hp}(s:ao H H'){fd:Addr}{vw:Vw}{kv:Key×V}{q:Str×Th}(h:zi H fd vw kv q):zi H' fd vw kv q:=by
 obtain⟨e,l,ys,e2,ne,h1,h2⟩:=h;exact⟨e,l,ys,e2,ne,s _ _ h1,aY (fun _ _ z=>gZ.same s z) h2⟩
theorem zi.write {H:Hp}{D fd:Addr}{kvs:List (Key×V)}{o:HO}(hD:H D=some (.dK kvs)){vw:Vw}{kv:Key×V}{q:Str×Th}(h:zi H fd vw kv q):zi (upd H D o) fd vw kv q:=by
 obtain⟨e,l,ys,e2,ne,h1,h2⟩:=h;refine⟨e,l,ys,e2,ne,by rw[ak (fun e=>by rw[e,hD]at h1;exact nomatch h1)];exact h1,aY (fun _ _ z=>?_) h2⟩;obtain⟨p,z1,z2⟩:=z;exact⟨p,z1,by rw[ak (fun e=>by rw[e,hD]at z2;exact nomatch z2)];exact z2⟩
theorem gZ.strip {H:Hp}{fd:Addr}{zs:List V}(hf:H fd=some (.lst zs)){y:V}{t:PQ}(h:gZ H y t):gZ (strip fd H) y t:=by
 obtain⟨p,e1,e2⟩:=h;exact⟨p,e1,eC (fun e=>by rw[e,hf]at e2;exact nomatch e2) e2⟩
theorem zi.strip {H:Hp}{fd:Addr}{zs:List V}(hf:H fd=some (.lst zs)){vw:Vw}{kv:Key×V}{q:Str×Th}(h:zi H fd vw kv q):zi (strip fd H) fd vw kv q:=by
 obtain⟨e,l,ys,e2,ne,h1,h2⟩:=h;exact⟨e,l,ys,e2,ne,eC ne h1,aY (fun _ _ z=>gZ.strip hf z) h2⟩
theorem agt {H:Hp}{fd:Addr}{vw:Vw}{kvs:List (Key×V)}{qs:Vw}(h:Paired (zi H fd vw) kvs qs):kvs.map (·.1)=qs.map fun q=>(Sum.inr q.1:Key):=by
 induction h with
 |nil=>rfl
 |cons r _ ih=>rw[map_cons,map_cons,ih,r.1]
theorem ai6 {H:Hp}{fd:Addr}{vw:Vw}{kvs:List (Key×V)}{qs:Vw}(h:Paired (zi H fd vw) kvs qs)(nd:(qs.map (·.1)).Nodup){q:Str×Th}(hq:q∈qs):∃ l ys,ua kvs (Sum.inr q.1)=some (.ref l)/\H l=some (.lst ys)/\Paired (gZ H) ys (spV vw q):=by
 induction h with
 |nil=>cases hq
 |cons r t ih =>
  rename_i kv q0 kvs qs
  rw[map_cons]at nd;obtain⟨nd1,nd2⟩:=List.nodup_cons.mp nd;rcases List.mem_cons.mp hq with rfl|hq'
  ·obtain⟨e,l,ys,e2,_,h1,h2⟩:=r;exact⟨l,ys,by rw[Ea e,e2],h1,h2⟩
  ·obtain⟨l,ys,e,h1,h2⟩:=ih nd2 hq';refine⟨l,ys,?_,h1,h2⟩;rw[Eb (fun z=>?_)]
   ·exact e
   ·have:q0.1=q.1:=Sum.inr.inj (r.1.symm.trans z);exact nd1 (by rw[this];exact mem_map.mpr ⟨q,hq',rfl⟩)
theorem ai7 {H:Hp}{fd:Addr}{vw:Vw}{kvs:List (Key×V)}{qs:Vw}(h:Paired (zi H fd vw) kvs qs){n:Str}(hn:∀ q∈qs,q.1≠n):ua kvs (Sum.inr n)=none:=by
 cases e:ua kvs (Sum.inr n) with
 |none=>rfl
 |some v =>
  have:=ZH e;rw[agt h]at this;obtain⟨q,hq,e2⟩:=mem_map.mp this;exact V' (Sum.inr.inj e2) (hn q hq)
theorem L6 {vw qs:Vw}{i:Nat}{q:Str×Th}(h:qs[i]? = some q):tL vw (qs.drop i)=((qs.drop (i+1)).flatMap fun p=>VG vw q p)++tL vw (qs.drop (i+1)):=by
 rw[i8 h];rfl
theorem PV {vw qs:Vw}{i:Nat}{q p:Str×Th}(h:qs[i]? = some p):((qs.drop i).flatMap fun p=>VG vw q p)=VG vw q p++((qs.drop (i+1)).flatMap fun p=>VG vw q p):=by
 rw[i8 h,List.flatMap_cons]
theorem aa7 {vw:Vw}(nd:(vw.map (·.1)).Nodup){i:Nat}{q:Str×Th}(h:vw[i]? = some q):∀ p∈vw.take i,p.1≠q.1:=fun p hp e=>by
 obtain⟨j,hj⟩:=getElem?_of_mem hp;have hji:j<i:=by
  have:=(C'.mp hj).1;rw[length_take]at this;omega
 rw[List.getElem?_take_of_lt hji]at hj;have e1:(vw.map (·.1))[j]? = some q.1:=by rw[getElem?_map,hj,<-e];rfl
 have e2:(vw.map (·.1))[i]? = some q.1:=by rw[getElem?_map,h];rfl
 have:=yv nd e1 e2;omega
inductive Z3 (c:Cs)(vs:List V)(H:Hp)(Q:VK)(E:XK):Prop
 |mk (x:Addr) (F:Addr->Prop) (vw:Vw) (ps fs:List Vw) (dE:vs=[.ref x]) (dF:BP c H x F vw ps fs) (eQ:∀(l:Addr)(ys:List V)(H':Hp),H l=none->ao H H'->H' l=some (.lst ys)->Paired (kR H') ys (tL vw vw)->Q (.ref l) H'):Z3 c vs H Q E
theorem agu (T:Txt K w mg t):br P w K mg base fK (0+9) t.Cd t.Xm ["book"] (Z3 (cs t)):=by
 have ff:=oH (P:=P) (base:=base) T;have agv:=aem (P:=P) (base:=base) T;have Bb:=zh (P:=P) (base:=base) T;refine T.G2.ok qx (fun vs H Q E h=>?_) (fun cdv A outer s H vs Q E hr h=>?_)
 ·obtain⟨_,_,_,_,_,rfl,_⟩:=h;rfl
 ·obtain⟨x,F,vw,ps,fs,rfl,B,q⟩:=h;refine aR (ag (aH (i:=1) qx.nd rfl (Or.inl rfl) (bq ae)) (ag (aH (i:=2) qx.nd rfl (Or.inl rfl) (d4 (pv 0) T.aN T.jN ff (hr.mono (by decide)) T.gD .nil au)) (ag (Va (i:=3) qx.nd rfl rfl (cn:=["name"]) rfl (bY.of rfl) (cu (pv 2)) (fun _=>(aB (i:=0) aaQ rfl (Or.inl rfl))) (fun _=>j0) (fun _=>(pv 0)) (fun _=>(aq agv (hr.mono (by decide)) rfl T.ad7 T.EA.kp T.Q1 .nil au (aa (pv 1) (aa (pv 0) ae))))) (ag (cE PassesOwn.never rfl (QA rfl T.qD (pv 2)) (dA rfl (aK (aB (i:=4) qx.nd rfl (Or.inl rfl)) (aK (aB (i:=5) qx.nd rfl (Or.inl rfl)) cq))) (ah (cE PassesOwn.never rfl (cu (iI (kX.or (qW.or qX)) (pv 2) (gh (aJ (a8.or (aE.or a9)) (pv 4) aj)) kW)) (aB (i:=6) qx.nd rfl (Or.inl rfl)) (ah (cE PassesOwn.never rfl (cu (aq Bb (hr.mono (by decide)) rfl T.yX T.dH.kp T.jA .nil au (aa (kZ (yi hr) (pv 3) (pv 5) (fun _ _=>rfl)) (aa (kZ (yi hr) (pv 3) (pv 6) (fun _ _=>rfl)) ae)))) (dA rfl (aK (aB (i:=7) qx.nd rfl (Or.inl rfl)) (aK (aB (i:=8) qx.nd rfl (Or.inl rfl)) cq))) (ah (aP (eE plainAttrs_list slot_list_append type_list_append a6 (pv 1) (aa (cV (aa (pv 5) (aa (pv 6) (aa (pv 7) (aa (pv 8) ae))))) ae))))))))) (ah (ax (pv 1))))))) ?_;have wv:=B.wv vw (.inr (.inl rfl));have wl:=wv.len;refine⟨big (by show 0<=1000;omega),fun fd hfd=>?_⟩;have s0:=ao.upd (o:=.lst []) hfd;have h0:=af (H:=H) (a:=fd) (o:=.lst []);generalize upd H fd (.lst [])=H0 at s0 h0;obtain⟨L,D0,U,all,M,Ps,Fs,es,us,bb,_⟩:=B.ex;obtain⟨dx,hx⟩:=bb.hx;refine⟨_,rfl,x,dx,_,rfl,s0 _ _ hx,k6 _ _ _,x,F,vw,ps,fs,rfl,B.same s0,fun l1 H1 n1 s1 h1=>?_⟩;refine⟨_,rfl,l1,rfl,⟨_,aO.of h1⟩,fun D b hD=>?_⟩;have n1f:l1≠fd:=fun e=>by rw[e,h0]at n1;exact nomatch n1
  refine W7 (K:=K) (xs:=vw.map fun q=>V.str q.1) (fun i σ H'=>∃(u:Option V)(kvs:List (Key×V)),σ=[u,some (.ref x),some (.ref fd),some (.ref l1),none,none,none,none,none,none]/\ao H1 H'/\H' D=some (.dK kvs)/\Paired (zi H' fd vw) kvs (vw.take i)/\i<=vw.length) ⟨none,[],rfl,ao.upd hD,af,.nil,Nat.zero_le _⟩ ?_ ?_ ?_
  ·rintro i σ H' ⟨u,kvs,rfl,s2,_⟩;exact aO.of (s2 _ _ h1)
  ·rintro i y σ H' hy ⟨u,kvs,rfl,s2,ui,pk,il⟩ N hN;obtain⟨⟨n,th⟩,hq,rfl⟩:∃ qn,vw[i]? = some qn/\y=.str qn.1:=by
    rw[getElem?_map]at hy;cases e:vw[i]? with
    |none=>rw[e]at hy;cases hy
    |some z=>rw[e]at hy;exact⟨z,rfl,(W' hy).symm⟩
   have NX:i<vw.length:=(C'.mp hq).1;have hf:=wv.find (X' hq);refine Vb ?_;refine⟨_,rfl,_,rfl,_,rfl,x,F,vw,ps,fs,n,th,rfl,B.same ((s0.trans s1).trans s2),hf,fun l3 ys3 H3 n3 s3 h3 g3=>?_⟩;have hD3:=s3 _ _ ui;have pk3:=aY (fun _ _ q=>zi.same s3 q) pk;have kl:=bh pk;rw[length_take]at kl;have nw:=ai7 pk3 (aa7 wv.nd hq);refine⟨kvs,Sum.inr n,rfl,hD3,aQ (by omega),hN _ _ ⟨_,kvs++[(Sum.inr n,.ref l3)],rfl,cD (s2.trans s3) hD,by rw[af,K3 _ nw],?_,NX⟩⟩;rw[K3 _ nw,take_succ,hq];exact fL (aY (fun _ _ q=>zi.write hD3 q) pk3) (zi.write hD3 ⟨rfl,l3,ys3,rfl,(fun e=>by rw[e,s2 _ _ (s1 _ _ h0)]at n3;exact nomatch n3),h3,g3⟩)
  ·rintro σ H2 ⟨u,kvs,rfl,s2,ui,pk,_⟩;rw[J',take_length]at pk;have hf2:=s2 _ _ (s1 _ _ h0);have sB:ao H (strip fd H2):=Cu ((s0.trans s1).trans s2) hfd;have h1s:=eC n1f (s2 _ _ h1);have hDs:=eC (b:=D) (t:=fd) (fun e=>by rw[e,hf2]at ui;exact nomatch ui) ui;have pks:=aY (fun _ _ q=>zi.strip hf2 q) pk;have sS:=ze fd H2;have own:∀{H':Hp} {o:HO},ao (strip fd H2) H'->ao (strip fd H2) (upd H' fd o):=fun s=>Ha s;generalize strip fd H2=Hs at sB h1s hDs pks sS own;have get:∀{p:Str×Th},p∈vw->∀{H':Hp},ao Hs H'->∃ l ys,Gz H' D (.str p.1) (some (.ref l))/\H' l=some (.lst ys)/\Paired (gZ H') ys (spV vw p):=fun {p} hp {H'} s=>by
    obtain⟨l,ys,e1,e2,e3⟩:=ai6 pks wv.nd hp;have:=Gz.k (k:=Sum.inr p.1) (s _ _ hDs);rw[e1]at this;exact⟨l,ys,this,s _ _ e2,aY (fun _ _ z=>gZ.same s z) e3⟩
   refine⟨_,rfl,l1,rfl,⟨_,aO.of (s2 _ _ h1)⟩,K0 (K:=K) (xs:=vw.map fun q=>V.str q.1) (fun i σ H'=>∃(v1 v2 v3 v4 v5:Option V)(zs:List V)(acc:List Rb),σ=[some (.ref x),some (.ref fd),some (.ref l1),some (.ref D),v1,v2,v3,v4,v5]/\ao Hs H'/\H' fd=some (.lst zs)/\Paired (kR H') zs acc/\acc++tL vw (vw.drop i)=tL vw vw/\zs.length<=480000 * i/\i<=vw.length) ⟨none,none,none,none,none,[],[],rfl,sS,hf2,.nil,rfl,R' _,Nat.zero_le _⟩ ?_ ?_ ?_⟩
   ·rintro i σ H' ⟨v1,v2,v3,v4,v5,zs,acc,rfl,s3,_⟩;exact aO.of (s3 _ _ h1s)
   ·rintro i y τ σ H' hy ⟨v1,v2,v3,v4,v5,zs,acc,rfl,s3,Ol,pz,ea,zl,il⟩ hτ;obtain⟨qq,hq,rfl⟩:∃ qn,vw[i]? = some qn/\y=.str qn.1:=by
     rw[getElem?_map]at hy;cases e:vw[i]? with
     |none=>rw[e]at hy;cases hy
     |some z=>rw[e]at hy;exact⟨z,rfl,(W' hy).symm⟩
    have NX:i<vw.length:=(C'.mp hq).1;rw[L6 hq]at ea;have st:=ao.upd (o:=.tup [.int (i:Int),.str qq.1]) hτ;have alc:=af (H:=H') (a:=τ) (o:=.tup [.int (i:Int),.str qq.1]);have s4:=s3.trans st;have Om:=st _ _ Ol;have pz4:=aY (fun _ _ q=>kR.same st q) pz;clear st;generalize upd H' τ (.tup [.int (i:Int),.str qq.1])=H4 at s4 Om pz4 alc;refine⟨τ,_,rfl,ij.of alc,rfl,_,_,rfl,_,_,rfl,rfl,?_⟩;tm_up;refine .inl ⟨l1,_,rfl,aO.of (s4 _ _ h1s),fun l5 hl5=>?_⟩;rw[show((i:Int)+1)=((i+1:Nat):Int) from rfl,Ed _ (i+1) (by rw[J'];exact NX)];have s5:=ao.upd (o:=.lst ((vw.map fun q=>V.str q.1).drop (i+1))) hl5;have h5:=af (H:=H4) (a:=l5) (o:=.lst ((vw.map fun q=>V.str q.1).drop (i+1)));have n5:l5≠fd:=fun e=>by rw[e,Om]at hl5;exact nomatch hl5
    generalize upd H4 l5 (.lst ((vw.map fun q=>V.str q.1).drop (i+1)))=H5 at s5 h5;refine⟨l5,rfl,⟨_,aO.of h5⟩,gJ (K:=K) (xs:=(vw.map fun q=>V.str q.1).drop (i+1)) (fun j σ H'=>∃(v3 v4 v5:Option V)(zs:List V)(acc:List Rb),σ=[some (.ref x),some (.ref fd),some (.ref l1),some (.ref D),some (.int (i:Int)),some (.str qq.1),v3,v4,v5]/\ao Hs H'/\H' l5=some (.lst ((vw.map fun q=>V.str q.1).drop (i+1)))/\H' fd=some (.lst zs)/\Paired (kR H') zs acc/\acc++(((vw.drop (i+1+j)).flatMap fun p=>VG vw qq p)++tL vw (vw.drop (i+1)))=tL vw vw/\zs.length<=480000 * i+40000 * j/\i+1+j<=vw.length) ⟨_,_,_,zs,acc,rfl,s4.trans s5,h5,s5 _ _ Om,aY (fun _ _ q=>kR.same s5 q) pz4,ea,by omega,NX⟩ ?_ ?_ ?_⟩
    ·rintro j σ H' _ ⟨v3,v4,v5,zs,acc,rfl,s6,hl6,_⟩;exact aO.of hl6
    ·rintro j y σ H6 hy ⟨v3,v4,v5,zs,acc,rfl,s6,hl6,hf6,pz6,ea6,zl6,jl⟩;obtain⟨pq,hpq,rfl⟩:∃ qn,vw[i+1+j]? = some qn/\y=.str qn.1:=by
      rw[getElem?_drop,getElem?_map]at hy;cases e:vw[i+1+j]? with
      |none=>rw[e]at hy;cases hy
      |some z=>rw[e]at hy;exact⟨z,rfl,(W' hy).symm⟩
     have jl2:i+1+j<vw.length:=(C'.mp hpq).1;rw[PV hpq,List.append_assoc]at ea6;obtain⟨la,ya,ga,ha,pa⟩:=get (X' hq) s6;obtain⟨lb,yb,gb,hb,pb⟩:=get (X' hpq) s6;obtain⟨sa,lla⟩:=Ru wv (X' hq);obtain⟨sb,llb⟩:=Ru wv (X' hpq);refine⟨_,rfl,_,rfl,D,_,rfl,ga,?_⟩;refine⟨_,rfl,_,rfl,D,_,rfl,gb,?_⟩;refine⟨la,lb,ya,yb,_,_,rfl,ha,hb,pa,pb,sa,sb,lla,llb,fun l7 zs7 H7 n7 s7 h7 g7 z7=>?_⟩;have y7:=bh g7;have n7f:l7≠fd:=fun e=>by rw[e,hf6]at n7;exact nomatch n7
     rw[show VG vw qq pq=(Cv (spV vw qq) (spV vw pq)).map (fun z=>(qq.1,pq.1,z.1,z.2)) from rfl]at ea6;generalize hrl:Cv (spV vw qq) (spV vw pq)=rl at g7 ea6 y7;refine⟨l7,rfl,⟨_,aO.of h7⟩,gJ (K:=K) (xs:=zs7) (fun k σ H'=>∃(v4 v5:Option V)(zs:List V),σ=[some (.ref x),some (.ref fd),some (.ref l1),some (.ref D),some (.int (i:Int)),some (.str qq.1),some (.str pq.1),v4,v5]/\ao Hs H'/\H' l5=some (.lst ((vw.map fun q=>V.str q.1).drop (i+1)))/\H' l7=some (.lst zs7)/\Paired (PrI H') zs7 rl/\H' fd=some (.lst zs)/\Paired (kR H') zs (acc++(rl.take k).map fun z=>(qq.1,pq.1,z.1,z.2))/\zs.length<=480000 * i+40000 * j+k/\k<=rl.length) ⟨_,_,zs,rfl,s6.trans s7,s7 _ _ hl6,h7,g7,s7 _ _ hf6,by rw[List.take_zero,List.map_nil,append_nil];exact aY (fun _ _ q=>kR.same s7 q) pz6,by omega,Nat.zero_le _⟩ ?_ ?_ ?_⟩
     ·rintro k σ H' _ ⟨v4,v5,x9,rfl,_,_,hl8,_⟩;exact aO.of hl8
     ·rintro k y σ H8 hy8 ⟨v4,v5,x9,rfl,s8,h58,hl8,g8,hf8,pz8,zl8,kl⟩;obtain⟨⟨z1,z2⟩,hz,p,rfl,hp⟩:=j3 g8 hy8;have kl2:k<rl.length:=(C'.mp hz).1;refine⟨p,_,rfl,ij.of hp,rfl,_,_,rfl,_,_,rfl,rfl,?_⟩;refine⟨_,rfl,.inl ⟨rfl,_,aO.of hf8⟩,?_⟩;tm_up;refine⟨big (by show 4<=1000;omega),fun tp htp=>?_⟩;have st:=ao.upd (o:=.tup [.str qq.1,.str pq.1,.int z1,.int z2]) htp;refine⟨fd,x9,_,rfl,rfl,st _ _ hf8,Nat.lt_of_le_of_lt (show x9.length<=10000000 by omega) (by decide),?_⟩;refine⟨_,_,_,rfl,own (s8.trans st),by rw[ak n5];exact st _ _ h58,by rw[ak n7f];exact st _ _ hl8,aY (fun _ _ q=>adY (st _ _ hf8) q) (Vg st g8),af,?_,by rw[T'];show _+1<=_;omega,kl2⟩;rw[take_succ,hz,map_append,<-List.append_assoc];exact aY (fun _ _ q=>kR.write (st _ _ hf8) q) (fL (aY (fun _ _ q=>kR.same st q) pz8) ⟨tp,rfl,af⟩)
     ·rintro σ H8 ⟨v4,v5,x9,rfl,s8,h58,hl8,g8,hf8,pz8,zl8,_⟩;rw[y7,take_length]at pz8;refine⟨_,_,_,x9,_,rfl,s8,h58,hf8,pz8,?_,?_,by omega⟩
      ·rw[List.append_assoc];exact ea6
      ·have:=VH _ _ lla llb;rw[hrl]at this;rw[y7]at zl8;omega
    ·rintro σ H6 ⟨v3,v4,v5,zs,acc,rfl,s6,hl6,hf6,pz6,ea6,zl6,jl⟩;rw[length_drop,J']at ea6 zl6 jl;rw[List.drop_eq_nil_of_le (show vw.length<=i+1+(vw.length-(i+1)) by omega),List.flatMap_nil,nil_append]at ea6;exact⟨_,_,_,_,_,zs,acc,rfl,s6,hf6,pz6,ea6,by omega,NX⟩
   ·rintro σ H' ⟨v1,v2,v3,v4,v5,zs,acc,rfl,s3,Ol,pz,ea,zl,il⟩;tm_up;rw[J',List.drop_length,show tL vw []=[] from rfl,append_nil]at ea;rw[ea]at pz;exact q fd zs H' hfd (sB.trans s3) Ol pz
inductive L8 (vs:List V)(H:Hp)(Q:VK)(E:XK):Prop
 |mk (n:Int) (dE:vs=[.int n]) (dF:Q (.bl true) H):L8 vs H Q E
theorem wD (T:Txt K w mg t):br P w K mg base fK (0+1) t.nh t.GR ["_law_found"] L8:=by
 refine T.ji.ok Xi (fun vs H Q E h=>?_) (fun cdv A outer s H vs Q E hr h=>?_)
 ·obtain⟨_,rfl,_⟩:=h;rfl
 ·obtain⟨n,rfl,q⟩:=h;refine aR (ah (ax (dJ (pB (av bT rfl T.aW aV (aa (pv 0) (aa (cW (v:=.ty "int") rfl T.Cm BH rfl) ae))) (pA (ahX (av bT rfl T.aW aV (aa (pv 0) (aa (cW (v:=.ty "bool") rfl T.ZY ZD rfl) ae))))))))) ?_;refine K1 (.bl true) ?_ q;exact⟨_,rfl,_,_,_,_,rfl,eG.int _,rfl,_,rfl,pG ⟨_,rfl,_,_,_,_,rfl,eG.int _,rfl,_,rfl,qv rfl⟩⟩
noncomputable def agw (H:Hp)(y:V)(r:List V):Prop:=∃ p,y=.ref p/\H p=some (.tup r)/\∀ v∈r,(∃ i,v=.int i)\/∃ z,v=.str z
theorem ahI {α β γ:Type}{F:α->β->Prop}{G:α->γ->Prop}{f:β->γ}(h:∀ x y,F x y->G x (f y)):∀{xs:List α} {ys:List β},Paired F xs ys->Paired G xs (ys.map f)
 |_,_,.nil=>.nil
 |_,_,.cons r t=>.cons (h _ _ r) (ahI h t)
inductive PX (K:Frag)(vs:List V)(H:Hp)(Q:VK)(E:XK):Prop
 |mk (l1 l2:Addr) (xs ys:List V) (rs:List (List V)) (dE:vs=[.ref l1,.ref l2]) (dF:H l1=some (.lst xs)) (eQ:H l2=some (.lst ys)) (jv:Paired (agw H) xs rs) (pE:Paired (agw H) ys rs) (Pa:∀ H',ao H H'->Q (.bl true) H'):PX K vs H Q E
theorem aa8 (T:Txt K w mg t):br P w K mg base fK (0+2) t.rF t.Lu ["_law_found","_law_due"] (PX K):=by
 have kQ:=wD (P:=P) (base:=base) T;refine T.vh.ok vb (fun vs H Q E h=>?_) (fun cdv A outer s H vs Q E hr h=>?_)
 ·obtain⟨_,_,_,_,_,rfl,_⟩:=h;rfl
 ·obtain⟨l1,l2,xs,ys,rs,rfl,h1,h2,g1,g2,q⟩:=h;have el:xs.length=ys.length:=(bh g1).trans (bh g2).symm;refine aR (ag (aU (bF (PW.pt (iG (bJ (aX (av bT rfl T.aW aV (aa (pv 0) (aa (cW (v:=.ty "list") rfl T.fG fB rfl) ae))))) (fJ (aw (xK.or (pH (aM hr))) (av (az.or aA) rfl T.bD bC (aa (pv 0) ae)) (av (az.or aA) rfl T.bD bC (aa (pv 1) ae)) (aG _)))))) (ah (ax de)) aD) (ag (cE PassesOwn.never rfl (QB rfl T.G6 (pv 0) (pv 1)) (dA rfl (aK (aB (i:=2) vb.nd rfl (Or.inl rfl)) (aK (aB (i:=3) vb.nd rfl (Or.inl rfl)) cq))) (ag (aU (bF (PW.pt (iG (bJ (aX (av bT rfl T.aW aV (aa (pv 2) (aa (cW (v:=.ty "tuple") rfl T.zd ym rfl) ae))))) (fJ (aw (xK.or (pH (aM hr))) (av (az.or aA) rfl T.bD bC (aa (pv 2) ae)) (av (az.or aA) rfl T.bD bC (aa (pv 3) ae)) (aG _)))))) (ah (ax de)) aD) (ah (cE PassesOwn.never rfl (af3 rfl T.G6 (pv 2) (pv 3)) (dA rfl (aK (aB (i:=4) vb.nd rfl (Or.inl rfl)) (aK (aB (i:=5) vb.nd rfl (Or.inl rfl)) cq))) (ag (aU (bF (PW.pt (iG (bF (PW.pt (cU (aX (av bT rfl T.aW aV (aa (pv 5) (aa (cW (v:=.ty "str") rfl T.Q8 Qz rfl) ae)))) (dn (bJ (aX (av bT rfl T.aW aV (aa (pv 4) (aa (cW (v:=.ty "str") rfl T.Q8 Qz rfl) ae))))))))) (fJ (bF (PW.pt (cU (bJ (aX (av bT rfl T.aW aV (aa (pv 5) (aa (cW (v:=.ty "str") rfl T.Q8 Qz rfl) ae))))) (dn (bJ (aX (aq kQ (hr.mono (by decide)) rfl T.rQ T.ji.kp T.nH .nil au (aa (pv 4) ae)))))))))))) (ah (ax de)) aD) (ah (aU (aw (xK.or (pH (aM hr))) (pv 4) (pv 5) (aG _)) (ah (ax de)) aD))))))) (ah (ax de)))) ?_;refine iF false ?_ ?_
  ·tm_up;refine⟨_,_,_,_,rfl,eG.lst h1,rfl,_,rfl,cv ?_⟩;tm_up;refine .inl ⟨_,_,rfl,.inl (aO.of h1),?_⟩;tm_up;refine .inl ⟨_,_,rfl,.inl (aO.of h2),?_⟩;tm_up;exact cF (by rw[el];simp)
  refine cv ?_;tm_up;refine⟨⟨_,aO.of h1⟩,⟨_,aO.of h2⟩,Kv (K:=K) (xs:=xs) (ys:=ys) (fun i σ H'=>∃ v1 v2 v3 v4,σ=[some (.ref l1),some (.ref l2),v1,v2,v3,v4]/\ao H H') el ⟨none,none,none,none,rfl,ao.refl _⟩ ?_ ?_ ?_⟩
  ·rintro i σ H' ⟨v1,v2,v3,v4,rfl,s2⟩;exact⟨s2.seq (aO.of h1),s2.seq (aO.of h2)⟩
  ·rintro i x y tt σ H' hx hy ⟨v1,v2,v3,v4,rfl,s2⟩ hn;obtain⟨r,e1,p,rfl,hp,hr⟩:=j3 g1 hx;obtain⟨r',e2,p2,rfl,hp2,_⟩:=j3 g2 hy;have es:r'=r:=W' (e2.symm.trans e1);subst es;have s3:ao H (upd H' tt (.tup [.ref p,.ref p2])):=s2.trans (ao.upd hn);have hp':=s3 _ _ hp;have hp2':=s3 _ _ hp2;refine⟨tt,_,rfl,ij.of af,rfl,_,_,rfl,_,_,rfl,rfl,?_⟩;generalize upd H' tt (.tup [.ref p,.ref p2])=H3 at s3 hp' hp2';refine iF false ?_ ?_
   ·tm_up;refine⟨_,_,_,_,rfl,eG.tup hp',rfl,_,rfl,cv ?_⟩;tm_up;refine .inl ⟨_,_,rfl,.inr (ij.of hp'),?_⟩;tm_up;refine .inl ⟨_,_,rfl,.inr (ij.of hp2'),?_⟩;tm_up;exact cF (by simp)
   refine cv ?_;refine⟨_,rfl,_,rfl,p,p2,r',r',rfl,rfl,hp',hp2',adT (xs:=r') (ys:=r') (fun j σ H'=>∃ v3 v4,σ=[some (.ref l1),some (.ref l2),some (.ref p),some (.ref p2),v3,v4]/\ao H H'/\H' p=some (.tup r')/\H' p2=some (.tup r')) rfl ⟨_,_,rfl,s3,hp',hp2'⟩ ?_ ?_ ?_⟩
   ·rintro j σ H4 ⟨v3,v4,rfl,s4,k1,k2⟩;exact⟨k1,k2⟩
   ·rintro j a b tt2 σ H4 ha hb ⟨v3,v4,rfl,s4,k1,k2⟩ hn2;have eab:b=a:=W' (hb.symm.trans ha);subst eab;have st:=ao.upd (o:=.tup [b,b]) hn2;have s5:=s4.trans st;have k15:=st _ _ k1;have k25:=st _ _ k2;refine⟨tt2,_,rfl,ij.of af,rfl,_,_,rfl,_,_,rfl,rfl,?_⟩;clear st;generalize upd H4 tt2 (.tup [b,b])=H5 at s5 k15 k25;rcases hr b (X' hb) with ⟨n,rfl⟩|⟨z,rfl⟩
    ·refine iF false ?_ ?_
     ·refine iF false ?_ ?_
      ·tm_up;refine⟨_,_,_,_,rfl,eG.int _,rfl,_,rfl,cv ?_⟩;exact cF rfl
      refine cv ?_;refine iF false ?_ ?_
      ·tm_up;refine⟨_,_,_,_,rfl,eG.int _,rfl,_,rfl,pG ?_⟩;exact⟨_,rfl,n,rfl,_,rfl,cF rfl⟩
      exact⟨rfl,rfl⟩
     refine cv ?_;tm_up;have e0:(!decide (V.int n=V.int n))=false:=by rw[N' rfl];rfl
     rw[e0];exact cv ⟨_,_,rfl,s5,k15,k25⟩
    ·refine iF false ?_ ?_
     ·refine iF false ?_ ?_
      ·tm_up;refine⟨_,_,_,_,rfl,eG.str _,rfl,_,rfl,pG ?_⟩;tm_up;exact⟨_,_,_,_,rfl,eG.str _,rfl,_,rfl,cF rfl⟩
      refine cv ?_;refine iF false ?_ ?_
      ·tm_up;exact⟨_,_,_,_,rfl,eG.str _,rfl,_,rfl,cv (cF rfl)⟩
      exact⟨rfl,rfl⟩
     refine cv ?_;tm_up;have e0:(!decide (V.str z=V.str z))=false:=by rw[N' rfl];rfl
     rw[e0];exact cv ⟨_,_,rfl,s5,k15,k25⟩
   ·rintro σ H4 ⟨v3,v4,rfl,s4,_,_⟩;exact⟨_,_,_,_,rfl,s4⟩
  ·rintro σ H' ⟨v1,v2,v3,v4,rfl,s2⟩;exact q _ s2
theorem _root_.L2.Gz.same {H H':Hp}{a:Addr}{y:V}{r:Option V}(s:ao H H')(h:Gz H a y r):Gz H' a y r:=by
 have rd:∀{u},Rd H a u->Rd H' a u:=fun z=>z.imp (fun e=>s _ _ e) fun⟨o,e⟩=>⟨o,s _ _ e⟩;rcases h with ⟨kvs,k,e,e2,e3⟩|⟨kvs,k,b,e,e2,e3,e4⟩
 ·exact .inl ⟨kvs,k,rd e,e2,e3⟩
 ·exact .inr ⟨kvs,k,b,rd e,e2,s _ _ e3,e4⟩
theorem Hb {K:Frag}{H:Hp}{p:Addr}{a b c d:V}{i:Nat}{v:V}{Q:VK}(h:H p=some (.tup [a,b,c,d]))(e:[a,b,c,d][i]? = some v)(q:Q v H):UT K (.ref p) (.int (i:Int)) H Q\/UU K (.ref p) (.int (i:Int)) H Q\/UW (.ref p) (.int (i:Int)) H Q:=.inr (.inl ⟨p,_,i,v,rfl,rfl,ij.of h,DX e,q⟩)
inductive E3 (K:Frag)(vs:List V)(H:Hp)(Q:VK)(E:XK):Prop
 |mk (d:Addr) (vw:Vw) (n:Str) (th:Th) (dE:vs=[.ref d,.str n]) (dF:Eh H d vw) (eQ:yt vw) (jv:bp vw n=some th) (pE:∀(l:Addr)(ys:List V)(H':Hp),ao H H'->H' l=some (.lst ys)->iq H' ys (ju vw n)->Q (.ref l) H'):E3 K vs H Q E
theorem wF (T:Txt K w mg t):br P w K mg base fK (0+1) t.iT t.yL ["_law_voices","_law_name"] (E3 K):=by
 refine T.i0.ok lr (fun vs H Q E h=>?_) (fun cdv A outer s H vs Q E hr h=>?_)
 ·obtain⟨_,_,_,_,rfl,_⟩:=h;rfl
 ·obtain⟨d,vw,n,th,rfl,hd,wv,hf,q⟩:=h;refine aR (ag (aH (i:=2) lr.nd rfl (Or.inl rfl) (kZ (yi hr) (pv 0) (pv 1) (fun _ _=>rfl))) (ag (aU (aX (av bT rfl T.aW aV (aa (pv 2) (aa (cW (v:=.ty "list") rfl T.fG fB rfl) ae)))) (ah (ax (pv 2))) aD) (ag (aU (bJ (aX (aT aI (pv 2) aj (fun _ _=>rfl)))) (ah (ax (kZ (yi hr) (pv 0) (aT aI (pv 2) aj (fun _ _=>rfl)) (fun _ _=>rfl)))) aD) (ag (aH (i:=3) lr.nd rfl (Or.inl rfl) (bq ae)) (ag (cE PassesOwn.never rfl (cu (kZ (yi hr) (pv 0) (aT aI (pv 2) aj (fun _ _=>rfl)) (fun _ _=>rfl))) (aB (i:=4) lr.nd rfl (Or.inl rfl)) (ag (aH (i:=5) lr.nd rfl (Or.inl rfl) (dJ (gI (aw (bQ.or (bo (aM hr))) (aT aI (pv 4) aj (fun _ _=>rfl)) bG (aG _)) bG (dJ (gI (aw (bQ.or (bo (aM hr))) (aT aI (pv 4) aj (fun _ _=>rfl)) bG (aG _)) bG (aT aI (pv 4) aj (fun _ _=>rfl))))))) (ah (aP (eE plainAttrs_list slot_list_append type_list_append a6 (pv 3) (aa (cV (aa (pv 5) (aa (aT aI (pv 4) aj (fun _ _=>rfl)) ae))) ae)))))) (ah (ax (pv 3)))))))) ?_;obtain⟨v,hg,hv⟩:=hd.get hf;refine⟨_,rfl,_,rfl,d,v,rfl,hg,?_⟩;cases th with
  |pl ss =>
   obtain⟨l,ys,rfl,h1,h2⟩:=hv;tm_up;refine⟨_,_,_,_,rfl,eG.lst h1,rfl,_,rfl,pG ?_⟩;exact⟨_,rfl,q l ys H (ao.refl _) h1 (by rw[rf hf];exact h2)⟩
  |cn ld lt sl tn =>
   obtain⟨p,rfl,hp⟩:=hv;obtain⟨⟨ss,Bv⟩,_⟩:=wv.ld n ld lt sl tn (cb hf);have hfl:=wv.find Bv;have gl:=(wv.gd _ _ Bv).1;rw[rg hf hfl]at q;obtain⟨v2,hg2,l,ys,rfl,h1,h2⟩:=hd.get hfl;tm_up;refine⟨_,_,_,_,rfl,eG.tup hp,rfl,_,rfl,cv ?_⟩;refine⟨_,rfl,Hb (i:=3) hp rfl ?_⟩;refine⟨_,rfl,?_⟩;cases tn with
   |false =>
    refine pG ?_;refine⟨_,rfl,_,rfl,Hb (i:=0) hp rfl ?_⟩;exact⟨d,_,rfl,hg2,q l ys H (ao.refl _) h1 h2⟩
   |true =>
    refine cv ?_;refine⟨big (by show 0<=1000;omega),fun told aeq=>?_⟩;have s1:=ao.upd (o:=.lst []) aeq;have ht1:=af (H:=H) (a:=told) (o:=.lst []);generalize upd H told (.lst [])=H1 at s1 ht1;have y3:=bh h2;refine⟨_,rfl,_,rfl,Hb (i:=0) (s1 _ _ hp) rfl ?_⟩;have nlt:l≠told:=ar h1 aeq;have hg3:Gz H1 d (.str ld) (some (.ref l)):=hg2.same s1;refine⟨d,_,rfl,hg3,l,rfl,⟨_,aO.of (s1 _ _ h1)⟩,gJ (K:=K) (xs:=ys) (fun i σ H'=>∃(u k:Option V)(zs:List V),σ=[some (.ref d),some (.str n),some (.ref p),some (.ref told),u,k]/\ao H H'/\H' told=some (.lst zs)/\iq H' zs ((ss.take i).map sP)) ⟨none,none,[],rfl,s1,ht1,.nil⟩ ?_ ?_ ?_⟩
    ·rintro i σ H' _ ⟨u,k,zs,rfl,s2,_⟩;exact aO.of (s2 _ _ h1)
    ·rintro i y σ H' hy ⟨u,k,zs,rfl,s2,ht2,gz⟩;obtain⟨sg,hsg,ps,rfl,hps⟩:=j3 h2 hy;have hi:i<ss.length:=(C'.mp hsg).1;have agx:=s2 _ _ hps;have zl:=bh gz;rw[J',length_take]at zl;refine⟨fun v Hx=>v=.str (Pr sg.1).str/\Hx=H',?_,?_⟩
     ·refine⟨_,rfl,ix0 agx ?_⟩;refine .inl ⟨rfl,_,rfl,?_⟩;rw[adU];refine aZ (fun h=>?_) (fun h=>?_)
      ·rw[K' h];exact⟨rfl,rfl⟩
      ·have h':sg.1≠.two:=fun z=>h (N' z);refine⟨fun v Hx=>v=.str (Pr sg.1).str/\Hx=H',?_,fun _ _ z=>z⟩;refine⟨_,rfl,ix0 agx ?_⟩;refine .inl ⟨rfl,_,rfl,?_⟩;rw[QH];refine aZ (fun h3=>?_) (fun h3=>?_)
       ·rw[K' h3];exact⟨rfl,rfl⟩
       ·have h3':sg.1≠.three:=fun z=>h3 (N' z);refine⟨_,rfl,ix0 agx ⟨?_,rfl⟩⟩;cases hk:sg.1 <;> first|rfl|exact V' hk h'|exact V' hk h3'
     intro v Hx ⟨e1,e2⟩;rw[e1,e2];refine⟨_,rfl,.inl ⟨rfl,_,aO.of ht2⟩,_,rfl,_,rfl,ix1 agx ?_⟩;refine⟨by show 2<=sizeLine;decide,fun tp htp=>?_⟩;have s3:=ao.upd (o:=.tup [V.str (Pr sg.1).str,V.int sg.2]) htp;refine⟨told,_,_,rfl,rfl,s3 _ _ ht2,aQ (by omega),?_⟩;refine⟨_,_,zs++[.ref tp],rfl,cD (s2.trans s3) aeq,af,?_⟩;rw[take_succ,hsg,map_append];exact fL (K6 (s3 _ _ ht2) (gz.same s3)) (Pl (s3 _ _ ht2) ⟨tp,rfl,af⟩)
    ·rintro σ H' ⟨u,k,zs,rfl,s2,ht2,gz⟩;rw[y3,take_length]at gz;exact⟨_,rfl,q told zs H' s2 ht2 gz⟩
theorem aja {k:Kd}(h:k.meas=true)(m:Int):intText? k.str=some (nm m k)/\k.str.length<=640:=by
 cases k <;> first|(cases h;done)|exact⟨by first|exact(show intText? Kd.three.str=some 3 by lk)|exact(show intText? Kd.two.str=some 2 by lk),by lk⟩
theorem alf {k:Kd}(h:¬ k.meas=true)(m:Int):nm m k=m:=by
 cases k <;> first|rfl|exact V' rfl h
theorem VI (k:Kd):k.meas=(decide (k=.three)||decide (k=.two)):=by cases k <;> rfl
theorem Z4 (k:Kd):inS k.str ".32" = k.parting:=by cases k <;> decide +kernel
theorem E4 (k:Kd):inS k.str "sdr"=k.small:=by cases k <;> decide +kernel
theorem agy {k:Kd}(h:k.parting=true)(m:Int)(n:Option Kd):bw m k n=0:=by cases k <;> first|(cases h;done)|(unfold bw;rw[if_neg (by rintro⟨_,z,_⟩;cases z)];rfl)
theorem aer {k:Kd}(h:k.small=true)(m:Int)(n:Option Kd):bw m k n=1:=by cases k <;> first|(cases h;done)|(unfold bw;rw[if_neg (by rintro⟨_,z,_⟩;cases z)];rfl)
theorem anL (m:Int)(n:Option Kd):bw m .D n=2:=by unfold bw;rw[if_neg (by rintro⟨_,z,_⟩;cases z)];rfl
theorem agz {k:Kd}{m:Int}{n:Option Kd}(hm:Ms m)(h1:k.parting=false)(h2:k.small=false)(h3:k≠.D)(h4:¬(m=2/\k=.G/\n=some .dot)):bw m k n=m:=by
 unfold bw;rw[if_neg h4];rcases hm with rfl|rfl <;> cases k <;> first|(cases h1;done)|(cases h2;done)|rfl|exact V' rfl h3
inductive PY (K:Frag)(vs:List V)(H:Hp)(Q:VK)(E:XK):Prop
 |mk (l:Addr) (b:Int) (xs:List V) (ss:List Sg) (dE:vs=[.ref l,.int b]) (dF:Ms b) (eQ:aO K H l xs) (jv:iq H xs ss) (pE:ss.length<=400) (Pa:∀(f:Addr)(H':Hp),ao H H'->H f=none->H' f=some (.lst ((gK b (bE ss)).map V.int))->Q (.ref f) H'):PY K vs H Q E
theorem aa9 (T:Txt K w mg t):br P w K mg base fK (0+1) t.rG t.Lv ["_law_line_here","_law_begin"] (PY K):=by
 refine T.yY.ok qT (fun vs H Q E h=>?_) (fun cdv A outer s H vs Q E hr h=>?_)
 ·obtain⟨_,_,_,_,rfl,_⟩:=h;rfl
 ·obtain⟨l,b,xs,ss,rfl,hMs,hS,hg,hn,q⟩:=h;have Of:(2:Int) ^ 62=4611686018427387904:=by decide
  refine aR (ag (aH (i:=2) qT.nd rfl (Or.inl rfl) (bq ae)) (ag (aH (i:=3) qT.nd rfl (Or.inl rfl) (pv 1)) (ag (cE PassesOwn.never rfl (kj rfl T.i4 (aa (av (az.or aA) rfl T.bD bC (aa (pv 0) ae)) ae)) (aB (i:=4) qT.nd rfl (Or.inl rfl)) (ag (aH (i:=5) qT.nd rfl (Or.inl rfl) (aT aI (aT aI (pv 0) (pv 4) (fun _ _=>rfl)) aj (fun _ _=>rfl))) (ag (jx (aU (bF (PW.pt (iG (aw (bQ.or (bo (aM hr))) (pv 5) bG (aG _)) (fJ (aw (bQ.or (bo (aM hr))) (pv 5) bG (aG _)))))) (ah (aH (i:=3) qT.nd rfl (Or.inl rfl) (bH (qH.or gM) rfl T.Cm BH (aa (pv 5) ae)))) aD)) (ah (aU (aw (c7.or c0) (pv 5) bG rfl) (ah (aP (eE plainAttrs_list slot_list_append type_list_append a6 (pv 2) (aa aj ae)))) (ah (aU (aw (c7.or c0) (pv 5) bG rfl) (ah (aP (eE plainAttrs_list slot_list_append type_list_append a6 (pv 2) (aa aj ae)))) (ah (aU (aw (bQ.or (bo (aM hr))) (pv 5) bG (aG _)) (ah (aP (eE plainAttrs_list slot_list_append type_list_append a6 (pv 2) (aa aj ae)))) (ah (aU (bF (PW.pt (cU (aw (bQ.or (bo (aM hr))) (pv 3) aj (aG _)) (cU (aw (bQ.or (bo (aM hr))) (pv 5) bG (aG _)) (cU (aw mR (aJ (a8.or (aE.or a9)) (pv 4) aj) (av (az.or aA) rfl T.bD bC (aa (pv 0) ae)) (aG _)) (dn (aw (bQ.or (bo (aM hr))) (aT aI (aT aI (pv 0) (aJ (a8.or (aE.or a9)) (pv 4) aj) (fun _ _=>rfl)) aj (fun _ _=>rfl)) bG (aG _)))))))) (ah (aP (eE plainAttrs_list slot_list_append type_list_append a6 (pv 2) (aa aj ae)))) (ah (aP (eE plainAttrs_list slot_list_append type_list_append a6 (pv 2) (aa (pv 3) ae))))))))))))))) (ah (ax (pv 2)))))) ?_;refine⟨big (by show 0<=1000;omega),fun f hf=>?_⟩;tm_up;refine .inl ⟨_,_,rfl,.inl (ip hS hf),?_⟩;rw[bh hg];refine⟨(ss.length:Int),rfl,by rw[Of];omega,by rw[Of];omega,?_⟩;refine km (n:=((ss.length:Int)).toNat) (fun i σ H'=>∃(m:Int)(v w:Option V)(fs:List Int),σ=[some (.ref l),some (.int b),some (.ref f),some (.int m),v,w]/\Ms m/\H'=upd H f (.lst (fs.map V.int))/\fs++gK m ((bE ss).drop i)=gK b (bE ss))
   ⟨b,none,none,[],rfl,hMs,rfl,rfl⟩ ?_ ?_
  ·rintro i σ H' hi ⟨m,v,w,fs,rfl,hm3,rfl,hm⟩;have hil:i<ss.length:=by omega
   have hd:=i8 (yp (f:=Prod.fst) (G' hil));rw[hd]at hm;have hS':aO K (upd H f (.lst (fs.map V.int))) l xs:=ip hS hf;have hg':iq (upd H f (.lst (fs.map V.int))) xs ss:=hg.same (ao.upd hf);have hl:=congrArg List.length hm;simp only [T',gK,length_cons,uL,J']at hl;simp only [gK,head_drop]at hm;tm_up;refine N3 hS' hg' (n:=i) (by omega) (G' hil) fun p hp=>?_;generalize hk:(ss[i]).1=k at hm hp;tm_up;refine adK [some (.ref l),some (.int b),some (.ref f),some (.int (nm m k)),some (.int (0+(i:Int))),some (.str k.str)] (upd H f (.lst (fs.map V.int))) ?_ ?_
   ·refine iF k.meas ?_ ?_
    ·tm_up;rw[QH];refine aZ (fun h=>?_) (fun h=>?_)
     ·exact cF (by rw[VI,h];rfl)
     ·tm_up;rw[adU];exact cF (by rw[VI,U'.mpr h];rfl)
    refine aZ (fun h=>?_) (fun h=>?_)
    ·obtain⟨e1,e2⟩:=aja h m;tm_up;exact .inr ⟨_,_,rfl,e1,e2,rfl,rfl⟩
    ·rw[alf h];exact⟨rfl,rfl⟩
   have hm4:=hm3.nm k;have fin:∀(z:Int),z=bw (nm m k) k (bE ss)[i+1]?->∃(m':Int)(v w:Option V)(fs':List Int),[some (V.ref l),some (V.int b),some (V.ref f),some (V.int (nm m k)),some (V.int (0+(i:Int))),some (V.str k.str)]=[some (.ref l),some (.int b),some (.ref f),some (.int m'),v,w]/\Ms m'/\upd (upd H f (.lst (fs.map V.int))) f (.lst (fs.map V.int++[V.int z]))=upd H f (.lst (fs'.map V.int))/\fs'++gK m' ((bE ss).drop (i+1))=gK b (bE ss):=by
    intro z hz;exact⟨nm m k,_,_,fs++[z],rfl,hm4,by rw[df,map_append];rfl,by rw[List.append_assoc,hz];exact hm⟩
   tm_up;refine aZ (fun h=>?_) (fun h=>?_)
   ·have h':k.parting=true:=by rw[<-Z4];exact h
    tm_up;refine⟨.inl ⟨rfl,_,aO.of af⟩,?_⟩;refine⟨_,_,_,rfl,rfl,af,by rw[J'];exact aQ (by omega),fin 0 (agy h' ..).symm⟩
   ·have h1:k.parting=false:=by rw[<-Z4];exact U'.mpr h
    tm_up;refine aZ (fun h=>?_) (fun h=>?_)
    ·have h':k.small=true:=by rw[<-E4];exact h
     tm_up;refine⟨.inl ⟨rfl,_,aO.of af⟩,?_⟩;refine⟨_,_,_,rfl,rfl,af,by rw[J'];exact aQ (by omega),fin 1 (aer h' ..).symm⟩
    ·have h2:k.small=false:=by rw[<-E4];exact U'.mpr h
     tm_up;rw[k_D];refine aZ (fun h=>?_) (fun h=>?_)
     ·have h':k=.D:=K' h;tm_up;refine⟨.inl ⟨rfl,_,aO.of af⟩,?_⟩;refine⟨_,_,_,rfl,rfl,af,by rw[J'];exact aQ (by omega),fin 2 (by rw[h'];exact(anL ..).symm)⟩
     ·have h3:k≠.D:=fun z=>h (N' z);refine iF (decide (nm m k=2/\k=.G/\(bE ss)[i+1]? = some .dot)) ?_ ?_
      ·tm_up;rw[dG];refine aZ (fun h=>?_) (fun h=>?_)
       ·have e1:=K' h;tm_up;rw[k_G];refine aZ (fun h=>?_) (fun h=>?_)
        ·have e2:=K' h;tm_up;refine .inl ⟨_,_,rfl,.inl hS',?_⟩;rw[bh hg];tm_up;refine aZ (fun h=>?_) (fun h=>?_)
         ·have hlt:i+1<ss.length:=by have:=K' h;omega
          tm_up;refine N3 hS' hg' (n:=i+1) (by omega) (G' hlt) fun p2 hp2=>?_;tm_up;rw[akH];refine cF ?_;have e3:(bE ss)[i+1]? = some (ss[i+1]).1:=yp (G' hlt);rw[e3];subst e2;simp[e1]
         ·refine cF ?_;have e3:(bE ss)[i+1]? = none:=List.getElem?_eq_none (by rw[J'];have:¬(0+(i:Int)+1<ss.length):=fun z=>h (N' z);omega);rw[e3];simp
        ·refine cF ?_;have e2:k≠.G:=fun z=>h (N' z);simp[e2]
       ·refine cF ?_;have e1:nm m k≠2:=fun z=>h (N' z);simp[e1]
      ·refine aZ (fun h=>?_) (fun h=>?_)
       ·have h':=K' h;tm_up;refine⟨.inl ⟨rfl,_,aO.of af⟩,?_⟩;refine⟨_,_,_,rfl,rfl,af,by rw[J'];exact aQ (by omega),fin 3 (by unfold bw;rw[if_pos h'])⟩
       ·have h':¬(nm m k=2/\k=.G/\(bE ss)[i+1]? = some .dot):=fun z=>h (N' z);tm_up;refine⟨.inl ⟨rfl,_,aO.of af⟩,?_⟩;tm_up;refine⟨_,_,_,rfl,rfl,af,by rw[J'];exact aQ (by omega),fin _ (agz hm4 h1 h2 h3 h').symm⟩
  ·rintro σ H' ⟨m,v,w,fs,rfl,_,rfl,hm⟩;have e0:((ss.length:Int)).toNat=ss.length:=by omega
   rw[e0,List.drop_eq_nil_of_le (by rw[J'];exact R' _)]at hm;tm_up;have e:fs=gK b (bE ss):=by rw[<-hm];simp[gK]
   subst e;exact q f _ (ao.upd hf) hf af
inductive L9 (K:Frag)(vs:List V)(H:Hp)(Q:VK)(E:XK):Prop
 |mk (l:Addr) (b:Int) (xs:List V) (ss:List Sg) (dE:vs=[.ref l,.int b]) (dF:aO K H l xs) (eQ:iq H xs ss) (jv:ss.length<=400) (pE:∀(f:Addr)(H':Hp),ao H H'->H f=none->H' f=some (.lst ((j4 b (bE ss)).map V.bl))->Q (.ref f) H'):L9 K vs H Q E
theorem alg {k:Kd}(h:k.meas=true)(m:Int):intText? k.str=some (nm m k)/\k.str.length<=640:=by
 cases k <;> first|(cases h;done)|exact⟨by first|exact(show intText? Kd.three.str=some 3 by lk)|exact(show intText? Kd.two.str=some 2 by lk),by lk⟩
theorem anM {k:Kd}(h:¬ k.meas=true)(m:Int):nm m k=m:=by
 cases k <;> first|rfl|exact V' rfl h
theorem Z5 (k:Kd):k.meas=(decide (k=.three)||decide (k=.two)):=by cases k <;> rfl
theorem XB (T:Txt K w mg t):br P w K mg base fK (0+1) t.nj t.GS ["_law_line_here","_law_begin"] (L9 K):=by
 refine T.vi.ok rj (fun vs H Q E h=>?_) (fun cdv A outer s H vs Q E hr h=>?_)
 ·obtain⟨_,_,_,_,rfl,_⟩:=h;rfl
 ·obtain⟨l,b,xs,ss,rfl,hS,hg,hn,q⟩:=h;refine aR (ag (aH (i:=2) rj.nd rfl (Or.inl rfl) (bq ae)) (ag (aH (i:=3) rj.nd rfl (Or.inl rfl) (pv 1)) (ag (cE PassesOwn.never rfl (cu (pv 0)) (aB (i:=4) rj.nd rfl (Or.inl rfl)) (ag (jx (aU (bF (PW.pt (iG (aw (bQ.or (bo (aM hr))) (aT aI (pv 4) aj (fun _ _=>rfl)) bG (aG _)) (fJ (aw (bQ.or (bo (aM hr))) (aT aI (pv 4) aj (fun _ _=>rfl)) bG (aG _)))))) (ah (aH (i:=3) rj.nd rfl (Or.inl rfl) (bH (qH.or gM) rfl T.Cm BH (aa (aT aI (pv 4) aj (fun _ _=>rfl)) ae)))) aD)) (ah (aP (eE plainAttrs_list slot_list_append type_list_append a6 (pv 2) (aa (cC (bQ.or (bo (aM hr))) (pv 3) aj (aG _)) ae)))))) (ah (ax (pv 2)))))) ?_;refine⟨big (by show 0<=1000;omega),fun f hf=>?_⟩;tm_up;refine⟨⟨xs,ip hS hf⟩,gJ (K:=K) (xs:=xs) (fun i σ H'=>∃(m:Int)(v:Option V)(fs:List Bool),σ=[some (.ref l),some (.int b),some (.ref f),some (.int m),v]/\H'=upd H f (.lst (fs.map V.bl))/\fs++j4 m ((bE ss).drop i)=j4 b (bE ss))
   ⟨b,none,[],rfl,rfl,rfl⟩ ?_ ?_ ?_⟩
  ·rintro i σ H' _ ⟨m,v,fs,rfl,rfl,_⟩;exact ip hS hf
  ·rintro i x σ H' hx ⟨m,v,fs,rfl,rfl,hm⟩;obtain⟨s,hs,p,rfl,hp⟩:=j3 hg hx;have hd:=i8 (yp (f:=Prod.fst) hs);rw[hd]at hm;have hp':upd H f (.lst (fs.map V.bl)) p=some (.tup [.str s.1.str,.int s.2]):=by rw[ak (ar hp hf)];exact hp
   have hl:=congrArg List.length hm;simp only [T',j4,length_cons,Xb,J']at hl;refine adK [some (.ref l),some (.int b),some (.ref f),some (.int (nm m s.1)),some (.ref p)] (upd H f (.lst (fs.map V.bl))) ?_ ?_
   ·refine iF s.1.meas ?_ ?_
    ·tm_up;rw[QH];refine aZ (fun h=>?_) (fun h=>?_)
     ·exact cF (by rw[Z5,h];rfl)
     ·tm_up;rw[adU];exact cF (by rw[Z5,U'.mpr h];rfl)
    refine aZ (fun h=>?_) (fun h=>?_)
    ·obtain⟨e1,e2⟩:=alg h m;tm_up;exact .inr ⟨_,_,rfl,e1,e2,rfl,rfl⟩
    ·rw[anM h];exact⟨rfl,rfl⟩
   ·tm_up;refine⟨.inl ⟨rfl,_,aO.of af⟩,?_⟩;tm_up;rw[dG];refine⟨_,_,_,rfl,rfl,af,by rw[J'];exact aQ (by omega),?_⟩;exact⟨_,_,fs++[decide (nm m s.1=3)],rfl,by rw[df,map_append];rfl,by rw[List.append_assoc];exact hm⟩
  ·rintro σ H' ⟨m,v,fs,rfl,rfl,hm⟩;rw[List.drop_eq_nil_of_le (by rw[J',bh hg];exact R' _)]at hm;tm_up;have e:fs=j4 b (bE ss):=by rw[<-hm];simp[j4]
   subst e;exact q f _ (ao.upd hf) hf af
noncomputable def anN (K:Frag)(g:List Kd->List Int->Nat->Nat->Bool×List Int):Sp:=fun vs H Q _=>∃(l f:Addr)(a z:Nat)(xs:List V)(ss:List Sg)(fs:List Int),vs=[.ref l,.ref f,.int (a:Int),.int (z:Int)]/\aO K H l xs/\iq H xs ss/\l≠f/\H f=some (.lst (fs.map V.int))/\fs.length=ss.length/\a<z/\z<=ss.length /\
 Q (.bl (g (bE ss) fs a z).1) (upd H f (.lst ((g (bE ss) fs a z).2.map V.int)))
theorem Ma (k:Kd):inS k.str "GDR"=k.great:=by cases k <;> decide +kernel
theorem Hc (o:Option Kd):(o.getD .dot).great=ub o:=by cases o <;> rfl
theorem anO (o:Option Kd):decide (o.getD .dot=.G)=decide (o=some .G):=by
 cases o with
 |none=>decide
 |some k=>simp
theorem aba {ks:List Kd}{f:List Int}{a z:Nat}{r:Nat}(hr:(z-a) % 3=r)(hr3:r<3) :
  settle ks f a z=if decide (r=2)&&(ub ks[z]? && decide (ks[z-1]? = some .s)) then(true,f.set (z-1) 2) else
   (decide (r=0)||((decide (r=1)&&(jK ks f a||gm ks z))||(decide (r=2)&&(jK ks f a&&gm ks z))),
    let g:=if(decide (r=1)&&jK ks f a)||(decide (r=2)&&(jK ks f a&&gm ks z)) then f.set (a-1) 2 else f
    if(decide (r=1)&&(gm ks z && !jK ks f a))||(decide (r=2)&&(jK ks f a&&gm ks z)) then g.set z 2 else g):=by
 unfold settle vI vJ;rw[hr];have:r=0\/r=1\/r=2:=by omega
 rcases this with rfl|rfl|rfl <;> cases jK ks f a <;> cases gm ks z <;> cases ub ks[z]? <;> cases decide (ks[z-1]? = some .s) <;> rfl
theorem aes (T:Txt K w mg t):br P w K mg base fK (0+1) t.v8 t.QV ["_law_line_here","_law_told","_law_low","_law_high"] (anN K settle):=by
 refine T.EC.ok vc (fun vs H Q E h=>?_) (fun cdv A outer s H vs Q E hr h=>?_)
 ·obtain⟨_,_,_,_,_,_,_,rfl,_⟩:=h;rfl
 ·obtain⟨l,f,a,z,xs,ss,fs,rfl,hS,hg,hlf,hf,hl,haz,hz,q⟩:=h;obtain⟨r,hrr⟩:∃ r:Nat,(z-a) % 3=r:=⟨_,rfl⟩;have hr3:r<3:=by omega
  rw[aba hrr hr3]at q;have hri:((z:Int)-(a:Int)) % 3=(r:Int):=by omega
  have dI:∀ n:Nat,decide (V.int (((z:Int)-(a:Int)) % 3)=V.int (n:Int))=decide (r=n):=fun n=>by
   rw[hri,dG]
   by_cases e:r=n
   ·simp[e]
   ·have:¬((r:Int)=(n:Int)):=by omega
    simp[e,this]
  have d0:decide (V.int (((z:Int)-(a:Int)) % 3)=V.int 0)=decide (r=0):=dI 0;have d1:decide (V.int (((z:Int)-(a:Int)) % 3)=V.int 1)=decide (r=1):=dI 1;have d2:decide (V.int (((z:Int)-(a:Int)) % 3)=V.int 2)=decide (r=2):=dI 2;refine aR (ag (aH (i:=4) vc.nd rfl (Or.inl rfl) (aJ cG (aJ gT (pv 3) (pv 2)) aj)) (ag (aH (i:=5) vc.nd rfl (Or.inl rfl) (dJ (gI (aw mR (pv 3) (av (az.or aA) rfl T.bD bC (aa (pv 0) ae)) (aG _)) (aT aI (aT aI (pv 0) (pv 3) (fun _ _=>rfl)) aj (fun _ _=>rfl)) bG))) (ag (aH (i:=6) vc.nd rfl (Or.inl rfl) (dJ (gI (aw mR (aJ (a8.or (aE.or a9)) (pv 3) aj) (av (az.or aA) rfl T.bD bC (aa (pv 0) ae)) (aG _)) (aT aI (aT aI (pv 0) (aJ (a8.or (aE.or a9)) (pv 3) aj) (fun _ _=>rfl)) aj (fun _ _=>rfl)) bG))) (ag (aH (i:=7) vc.nd rfl (Or.inl rfl) (dJ (pB (cC UP (pv 2) aj (aG _)) (pB (cC (bQ.or (bo (aM hr))) (aT aI (aT aI (pv 0) (aJ gT (pv 2) aj) (fun _ _=>rfl)) aj (fun _ _=>rfl)) bG (aG _)) (pA (cC (bQ.or (bo (aM hr))) (aT aI (pv 1) (aJ gT (pv 2) aj) (fun _ _=>rfl)) aj (aG _))))))) (ag (aH (i:=8) vc.nd rfl (Or.inl rfl) (dJ (pB (cC (bQ.or (bo (aM hr))) (pv 5) bG (aG _)) (pA (cC (DZ.or D3) (pv 6) bG rfl))))) (ag (aU (bF (PW.pt (cU (aw (bQ.or (bo (aM hr))) (pv 4) aj (aG _)) (cU (aw (c7.or c0) (pv 5) bG rfl) (dn (aw (bQ.or (bo (aM hr))) (aT aI (aT aI (pv 0) (aJ gT (pv 3) aj) (fun _ _=>rfl)) aj (fun _ _=>rfl)) bG (aG _))))))) (ag (kS aj (yd (pv 1) (aJ gT (pv 3) aj) set_list)) (ah (ax de))) aD) (ag (jx (aU (bF (PW.pt (iG (bF (PW.pt (cU (aw (bQ.or (bo (aM hr))) (pv 4) aj (aG _)) (dn (aX (pv 7)))))) (fJ (bF (PW.pt (cU (aw (bQ.or (bo (aM hr))) (pv 4) aj (aG _)) (cU (aX (pv 7)) (dn (aX (pv 8))))))))))) (ah (kS aj (yd (pv 1) (aJ gT (pv 2) aj) set_list))) aD)) (ag (jx (aU (bF (PW.pt (iG (bF (PW.pt (cU (aw (bQ.or (bo (aM hr))) (pv 4) aj (aG _)) (cU (aX (pv 8)) (dn (bJ (aX (pv 7)))))))) (fJ (bF (PW.pt (cU (aw (bQ.or (bo (aM hr))) (pv 4) aj (aG _)) (cU (aX (pv 7)) (dn (aX (pv 8))))))))))) (ah (kS aj (yd (pv 1) (pv 3) set_list))) aD)) (ah (ax (dJ (acX (cC (bQ.or (bo (aM hr))) (pv 4) aj (aG _)) (acX (dJ (pB (cC (bQ.or (bo (aM hr))) (pv 4) aj (aG _)) (pA (dJ (acX (pv 7) (pA (pv 8))))))) (pA (dJ (pB (cC (bQ.or (bo (aM hr))) (pv 4) aj (aG _)) (pB (pv 7) (pA (pv 8))))))))))))))))))) ?_;tm_up;refine K1 (.str ((bE ss)[z]?.getD .dot).str) ?_ ?_
  ·tm_up;refine .inl ⟨_,_,rfl,.inl hS,?_⟩;rw[bh hg];tm_up;refine aZ (fun h=>?_) (fun h=>?_)
   ·have hlt:z<ss.length:=by have:=K' h;omega
    tm_up;refine N3 hS hg (n:=z) rfl (G' hlt) fun p hp=>?_;tm_up;refine qv ?_;rw[getElem?_map,G' hlt];rfl
   ·refine qv ?_;have hge:¬ z<ss.length:=fun c=>h (N' (by omega));rw[List.getElem?_eq_none (by rw[J'];omega)];rfl
  refine K1 (.str ((bE ss)[z+1]?.getD .dot).str) ?_ ?_
  ·tm_up;refine .inl ⟨_,_,rfl,.inl hS,?_⟩;rw[bh hg];tm_up;refine aZ (fun h=>?_) (fun h=>?_)
   ·have hlt:z+1<ss.length:=by have:=K' h;omega
    tm_up;refine N3 hS hg (n:=z+1) (by omega) (G' hlt) fun p hp=>?_;tm_up;refine qv ?_;rw[getElem?_map,G' hlt];rfl
   ·refine qv ?_;have hge:¬ z+1<ss.length:=fun c=>h (N' (by omega));rw[List.getElem?_eq_none (by rw[J'];omega)];rfl
  refine K1 (.bl (jK (bE ss) fs a)) ?_ ?_
  ·tm_up;refine aZ (fun h=>?_) (fun h=>?_)
   ·have hp:0<a:=by have:=K' h;omega
    have hlt:a-1<ss.length:=by omega
    have ek:QJ (bE ss) ((a:Int)-1)=some (ss[a-1]).1:=by
     have:(a:Int)-1=((a-1:Nat):Int):=by omega
     rw[this,sJ,getElem?_map,G' hlt];rfl
    tm_up;refine N3 hS hg (n:=a-1) (by omega) (G' hlt) fun p hp=>?_;tm_up;rw[k_G];refine aZ (fun h2=>?_) (fun h2=>?_)
    ·tm_up;refine adV (aO.of hf) (n:=a-1) (by omega) (G' (by omega)) ?_;tm_up;rw[dG];refine qv ?_;unfold jK;rw[ek,K' h2,List.getD_eq_getElem?_getD,G' (by omega)];simp
    ·refine qv ?_;unfold jK;rw[ek];have:(ss[a-1]).1≠.G:=fun c=>h2 (N' c);simp[this]
   ·refine qv ?_;have hp:a=0:=by
     have:¬ 0<a:=fun c=>h (N' (by omega));omega
    subst hp;unfold jK QJ;simp
  refine K1 (.bl (gm (bE ss) z)) ?_ ?_
  ·tm_up;rw[k_G,anO];refine aZ (fun h=>?_) (fun h=>?_)
   ·tm_up;refine qv ?_;unfold gm;rw[h];show V.bl (!inS _ _)=_;rw[Ma,Hc];rfl
   ·refine qv ?_;unfold gm;rw[U'.mpr h];rfl
  generalize hL:jK (bE ss) fs a=L at q;generalize hR:gm (bE ss) z=R at q;refine iF (decide (r=2)&&(ub (bE ss)[z]? && decide ((bE ss)[z-1]? = some .s))) ?_ ?_
  ·tm_up;rw[d2];refine aZ (fun h=>?_) (fun h=>?_)
   ·rw[h];tm_up;refine aZ (fun h2=>?_) (fun h2=>?_)
    ·have h2':ub (bE ss)[z]? = true:=by
      have:inS ((bE ss)[z]?.getD .dot).str "GDR"=true:=h2
      rwa [Ma,Hc]at this
     rw[h2'];tm_up;have hlt:z-1<ss.length:=by omega
     refine N3 hS hg (n:=z-1) (by omega) (G' hlt) fun p hp=>?_;tm_up;rw[k_s];refine cF ?_;rw[getElem?_map,G' hlt];simp
    ·have h2':ub (bE ss)[z]? = false:=by
      have:inS ((bE ss)[z]?.getD .dot).str "GDR"=false:=U'.mpr h2
      rwa [Ma,Hc]at this
     rw[h2'];exact cF rfl
   ·exact cF (by rw[U'.mpr h];rfl)
  refine aZ (fun h=>?_) (fun h=>?_)
  ·rw[if_pos h]at q;tm_up;refine⟨_,_,_,_,rfl,rfl,hf,sM (j:=z-1) (by omega) (by rw[J'];omega),?_⟩;rw[oB];exact q
  ·rw[if_neg h]at q;dsimp only at q;have hLp:L=true->1<=a/\a-1<ss.length:=fun e=>by
    have:=GB (hL.trans e)
    rwa [J']at this
   have hRp:R=true->z<ss.length:=fun e=>by
    have:=BN (hR.trans e)
    rwa [J']at this
   generalize hg1:(if(decide (r=1)&&L||decide (r=2)&&(L&&R))=true then fs.set (a-1) 2 else fs)=g1 at q;have g1l:g1.length=ss.length:=by rw[<-hg1];split <;> simp[hl]
   refine adK [some (.ref l),some (.ref f),some (.int (a:Int)),some (.int (z:Int)),some (.int (((z:Int)-(a:Int)) % 3)),some (.str ((bE ss)[z]?.getD .dot).str),some (.str ((bE ss)[z+1]?.getD .dot).str),some (.bl L),some (.bl R)] (upd H f (.lst (g1.map V.int))) ?_ ?_
   ·refine iF (decide (r=1)&&L||decide (r=2)&&(L&&R)) ?_ ?_
    ·refine iF (decide (r=1)&&L) ?_ ?_
     ·tm_up;rw[d1];refine aZ (fun h=>?_) (fun h=>?_)
      ·tm_up;exact cF (by rw[h];rfl)
      ·exact cF (by rw[U'.mpr h];rfl)
     ·refine aZ (fun h=>cF (by rw[h];rfl)) (fun h=>?_);rw[U'.mpr h,Bool.false_or];refine iF (decide (r=2)&&(L&&R)) ?_ (cF rfl);tm_up;rw[d2];refine aZ (fun h=>?_) (fun h=>?_)
      ·tm_up;refine aZ (fun h2=>?_) (fun h2=>?_)
       ·tm_up;exact cF (by rw[h,h2];rfl)
       ·exact cF (by rw[h,U'.mpr h2];rfl)
      ·exact cF (by rw[U'.mpr h];rfl)
    ·refine aZ (fun h=>?_) (fun h=>?_)
     ·rw[if_pos h]at hg1;have hp:=hLp (by cases L <;> simp_all);tm_up;refine⟨_,_,_,_,rfl,rfl,hf,sM (j:=a-1) (by omega) (by rw[J'];omega),?_⟩;rw[oB,hg1];exact⟨rfl,rfl⟩
     ·rw[if_neg h]at hg1;subst hg1;rw[Ec hf];exact⟨rfl,rfl⟩
   generalize hg2:(if(decide (r=1)&&(R && !L)||decide (r=2)&&(L&&R))=true then g1.set z 2 else g1)=g2 at q;refine adK [some (.ref l),some (.ref f),some (.int (a:Int)),some (.int (z:Int)),some (.int (((z:Int)-(a:Int)) % 3)),some (.str ((bE ss)[z]?.getD .dot).str),some (.str ((bE ss)[z+1]?.getD .dot).str),some (.bl L),some (.bl R)] (upd H f (.lst (g2.map V.int))) ?_ ?_
   ·refine iF (decide (r=1)&&(R && !L)||decide (r=2)&&(L&&R)) ?_ ?_
    ·refine iF (decide (r=1)&&(R && !L)) ?_ ?_
     ·tm_up;rw[d1];refine aZ (fun h=>?_) (fun h=>?_)
      ·tm_up;refine aZ (fun h2=>?_) (fun h2=>?_)
       ·tm_up;exact cF (by rw[h,h2];rfl)
       ·exact cF (by rw[h,U'.mpr h2];rfl)
      ·exact cF (by rw[U'.mpr h];rfl)
     ·refine aZ (fun h=>cF (by rw[h];rfl)) (fun h=>?_);rw[U'.mpr h,Bool.false_or];refine iF (decide (r=2)&&(L&&R)) ?_ (cF rfl);tm_up;rw[d2];refine aZ (fun h=>?_) (fun h=>?_)
      ·tm_up;refine aZ (fun h2=>?_) (fun h2=>?_)
       ·tm_up;exact cF (by rw[h,h2];rfl)
       ·exact cF (by rw[h,U'.mpr h2];rfl)
      ·exact cF (by rw[U'.mpr h];rfl)
    ·refine aZ (fun h=>?_) (fun h=>?_)
     ·rw[if_pos h]at hg2;have hp:=hRp (by cases R <;> simp_all);tm_up;refine⟨_,_,_,_,rfl,rfl,af,sM (j:=z) rfl (by rw[J'];omega),?_⟩;rw[oB,hg2,df];exact⟨rfl,rfl⟩
     ·rw[if_neg h]at hg2;subst hg2;exact⟨rfl,rfl⟩
   refine K1 (.bl (decide (r=0)||(decide (r=1)&&(L||R)||decide (r=2)&&(L&&R)))) ?_ q;tm_up;rw[d0];refine aZ (fun h=>qv (by rw[h];rfl)) (fun h=>?_);rw[U'.mpr h,Bool.false_or];refine K1 (.bl (decide (r=1)&&(L||R))) ?_ ?_
   ·tm_up;rw[d1];refine aZ (fun h=>?_) (fun h=>qv (by rw[U'.mpr h];rfl));refine K1 (.bl (L||R)) ?_ (qv (by rw[h];rfl));tm_up;refine aZ (fun h=>qv (by rw[h];rfl)) (fun h=>?_);tm_up;exact qv (by rw[U'.mpr h];rfl)
   ·refine⟨_,rfl,?_⟩;refine aZ (fun h=>qv (by rw[h];rfl)) (fun h=>?_);rw[U'.mpr h,Bool.false_or];refine K1 (.bl (decide (r=2)&&(L&&R))) ?_ (qv rfl);tm_up;rw[d2];refine aZ (fun h=>?_) (fun h=>qv (by rw[U'.mpr h];rfl));tm_up;refine aZ (fun h2=>?_) (fun h2=>?_)
    ·tm_up;exact qv (by rw[h,h2];rfl)
    ·exact qv (by rw[h,U'.mpr h2];rfl)
inductive PZ (K:Frag)(vs:List V)(H:Hp)(Q:VK)(E:XK):Prop
 |mk (l:Addr) (b:Int) (xs:List V) (ss:List Sg) (dE:vs=[.ref l,.int b]) (dF:Ms b) (eQ:H l=some (.lst xs)) (jv:iq H xs ss) (pE:ss.length<=400) (Pa:∀(p f lo:Addr)(ys:List V)(H':Hp),ao H H'->H f=none->H lo=none->f≠lo->H' p=some (.tup [.ref f,.ref lo])->H' f=some (.lst ((jt b (bE ss)).1.map V.int))->H' lo=some (.lst ys)->Xa H' ys (jt b (bE ss)).2->Q (.ref p) H'):PZ K vs H Q E
theorem abb (T:Txt K w mg t):br P w K mg base fK (0+2) t.rH t.Lw ["_law_line_here","_law_begin"] (PZ K):=by
 have aet:=aa9 (P:=P) (base:=base) T;have abc:=XB (P:=P) (base:=base) T;have agA:=aes (P:=P) (base:=base) T;refine T.vj.ok kL (fun vs H Q E h=>?_) (fun cdv A outer s H vs Q E hr h=>?_)
 ·obtain⟨_,_,_,_,rfl,_⟩:=h;rfl
 ·obtain⟨l,b,xs,ss,rfl,hMs,hS,hg,hn,q⟩:=h;refine aR (ag (aH (i:=2) kL.nd rfl (Or.inl rfl) (aq aet (hr.mono (by decide)) rfl T.aaT T.yY.kp T.LI .nil au (aa (pv 0) (aa (pv 1) ae)))) (ag (aH (i:=3) kL.nd rfl (Or.inl rfl) (aq abc (hr.mono (by decide)) rfl T.Xr T.vi.kp T.G3 .nil au (aa (pv 0) (aa (pv 1) ae)))) (ag (aH (i:=4) kL.nd rfl (Or.inl rfl) (bq ae)) (ag (aH (i:=5) kL.nd rfl (Or.inl rfl) aj) (ag (ye PassesOwn.never (aw mR (pv 5) (av (az.or aA) rfl T.bD bC (aa (pv 0) ae)) (aG _)) (ag (aH (i:=6) kL.nd rfl (Or.inl rfl) (pv 5)) (ag (ye PassesOwn.never (bF (PW.pt (cU (aw mR (pv 6) (av (az.or aA) rfl T.bD bC (aa (pv 0) ae)) (aG _)) (cU (aw (c7.or c0) (aT aI (aT aI (pv 0) (pv 6) (fun _ _=>rfl)) aj (fun _ _=>rfl)) bG rfl) (dn (aX (aT aI (pv 3) (pv 6) (fun _ _=>rfl)))))))) (ah (aH (i:=6) kL.nd rfl (Or.inl rfl) (aJ (a8.or (aE.or a9)) (pv 6) aj)))) (ag (jx (aU (bF (PW.pt (cU (aw UP (pv 6) (pv 5) (aG _)) (dn (bJ (aX (aq agA (hr.mono (by decide)) rfl T.ad8 T.EC.kp T.Q3 .nil au (aa (pv 0) (aa (pv 2) (aa (pv 5) (aa (pv 6) ae))))))))))) (ah (aP (eE plainAttrs_list slot_list_append type_list_append a6 (pv 4) (aa (cV (aa (pv 5) (aa (pv 6) ae))) ae)))) aD)) (ah (aH (i:=5) kL.nd rfl (Or.inl rfl) (av (AV rfl) rfl T.Q6 Qy (aa (pv 6) (aa (aJ (a8.or (aE.or a9)) (pv 5) aj) ae))))))))) (ah (ax (cV (aa (pv 2) (aa (pv 4) ae)))))))))) ?_;tm_up;refine⟨l,b,xs,ss,rfl,hMs,aO.of hS,hg,hn,fun f H1 s1 n1 h1=>?_⟩;tm_up;refine⟨l,b,xs,ss,rfl,aO.of (s1 _ _ hS),hg.same s1,hn,fun th H2 s2 n2 h2=>?_⟩;refine⟨big (by show 0<=1000;omega),fun lo hlo=>?_⟩;have s3:=s2.trans (ao.upd (o:=.lst []) hlo);have ael:H lo=none:=s1.free (s2.free hlo);have nfl:f≠lo:=ar (s2 _ _ h1) hlo;have ntl:th≠lo:=ar h2 hlo;have ntf:th≠f:=fun e=>by rw[e,h1]at n2;cases n2
  have nlf:l≠f:=ar hS n1;have bl:(gK b (bE ss)).length=ss.length:=by rw[uL,J']
  have cnt:(xP b (bE ss)).length<=401:=by
   have:=oJ (jJ b (bE ss)) 0 0;rw[qY,J']at this;exact Nat.le_trans this (by omega)
  tm_up;refine⟨fun mm σ H'=>∃(low:Nat)(v:Option V)(c:RdS)(ys:List V),mm=ss.length-low/\low<=ss.length/\σ=[some (.ref l),some (.int b),some (.ref f),some (.ref th),some (.ref lo),some (.int (low:Int)),v]/\ao H H'/\H' f=some (.lst (c.1.map V.int))/\H' lo=some (.lst ys)/\Xa H' ys c.2/\H' th=some (.lst ((j4 b (bE ss)).map V.bl))/\c.1.length=ss.length/\c.2.length+(eF low low ((jJ b (bE ss)).drop low)).length<=401/\(eF low low ((jJ b (bE ss)).drop low)).foldl (pI (bE ss)) c=jt b (bE ss),
   ⟨_,0,none,(gK b (bE ss),[]),[],rfl,Nat.zero_le _,rfl,s1.trans s3,s3 _ _ h1,af,.nil,by rw[ak ntl];exact h2,bl,by show 0+(xP b (bE ss)).length<=401;omega,rfl⟩,?_⟩
  rintro mm σ H' ⟨low,v,c,ys,rfl,hlow,rfl,s4,Om,XA,hys,hth,hcl,alh,tJ⟩;have hl4:=s4 _ _ hS;have hg4:=hg.same s4;tm_up;refine .inl ⟨_,_,rfl,.inl (aO.of hl4),?_⟩;rw[bh hg];tm_up;refine aZ (fun h=>?_) (fun h=>?_)
  ·have hlt:low<ss.length:=by have:=K' h;omega
   refine⟨fun σ' Ri=>∃ m',m'<ss.length-low/\∃(low:Nat)(v:Option V)(c:RdS)(ys:List V),m'=ss.length-low/\low<=ss.length/\σ'=[some (.ref l),some (.int b),some (.ref f),some (.ref th),some (.ref lo),some (.int (low:Int)),v]/\ao H Ri/\Ri f=some (.lst (c.1.map V.int))/\Ri lo=some (.lst ys)/\Xa Ri ys c.2/\Ri th=some (.lst ((j4 b (bE ss)).map V.bl))/\c.1.length=ss.length/\c.2.length+(eF low low ((jJ b (bE ss)).drop low)).length<=401/\(eF low low ((jJ b (bE ss)).drop low)).foldl (pI (bE ss)) c=jt b (bE ss),fun _ _ h=>h,?_⟩;generalize hn':lead ((jJ b (bE ss)).drop low)=n;have hnle:n<=ss.length-low:=by
    have:=ZK ((jJ b (bE ss)).drop low);rw[length_drop,qY,J',hn']at this;exact this
   tm_up;refine⟨fun mm σ Ri=>∃ j:Nat,mm=n-j/\j<=n/\σ=[some (.ref l),some (.int b),some (.ref f),some (.ref th),some (.ref lo),some (.int (low:Int)),some (.int ((low+j:Nat):Int))]/\Ri=H',⟨n,0,rfl,Nat.zero_le _,rfl,rfl⟩,?_⟩;rintro mm σ Ri ⟨j,rfl,hj,rfl,rfl⟩;have hla:=ZM ((jJ b (bE ss)).drop low) j (by rw[hn'];exact hj);rw[hn',aiB]at hla;refine iF (decide (j<n)) ?_ ?_
   ·tm_up;refine .inl ⟨_,_,rfl,.inl (aO.of hl4),?_⟩;rw[bh hg];tm_up;refine aZ (fun h=>?_) (fun h=>?_)
    ·have hjl:low+j<ss.length:=by have:=K' h;omega
     have hk:(bE ss)[low+j]? = some (ss[low+j]).1:=yp (G' hjl);obtain⟨tb,ht1,ht2⟩:=ZL hMs (bE ss) (low+j) _ hk;rw[ht2]at hla;tm_up;refine N3 (aO.of hl4) hg4 (n:=low+j) rfl (G' hjl) fun p hp=>?_;tm_up;refine aZ (fun h=>?_) (fun h=>?_)
     ·have h':(ss[low+j]).1.small=true:=by rw[<-E4];exact h
      rw[h',Bool.true_and]at hla;tm_up;refine QI (aO.of hth) (n:=low+j) rfl (yp ht1) ?_;tm_up;refine cF ?_;cases tb with
      |true=>exact(N' (hla.mpr rfl)).symm
      |false=>exact(Y' (fun z=>by have:=hla.mp z;cases this)).symm
     ·have h':(ss[low+j]).1.small=false:=by rw[<-E4];exact U'.mpr h
      rw[h',Bool.false_and]at hla;exact cF (Y' (fun z=>by have:=hla.mp z;cases this)).symm
    ·have hjl:¬ low+j<ss.length:=fun z=>h (N' (by omega));exact cF (Y' (by omega)).symm
   refine aZ (fun h=>?_) (fun h=>?_)
   ·have hjn:=K' h;refine⟨fun σ' Hx=>∃ m',m'<n-j/\∃ j:Nat,m'=n-j/\j<=n/\σ'=[some (.ref l),some (.int b),some (.ref f),some (.ref th),some (.ref lo),some (.int (low:Int)),some (.int ((low+j:Nat):Int))]/\Hx=Ri,fun _ _ h=>h,?_⟩;tm_up;exact⟨n-(j+1),by omega,j+1,rfl,by omega,rfl,rfl⟩
   ·have hjn:j=n:=by
     have:¬ j<n:=fun z=>h (N' z);omega
    subst hjn;have hrf:=K8 ((jJ b (bE ss)).drop low) low low (by rw[hn'];omega) (R' _);rw[hn',List.drop_drop]at hrf;refine⟨fun σ1 H1=>σ1=[some (.ref l),some (.int b),some (.ref f),some (.ref th),some (.ref lo),some (.int (low:Int)),some (.int ((low+j:Nat):Int))]/\∃(c:RdS)(ys:List V),ao H H1/\H1 f=some (.lst (c.1.map V.int))/\H1 lo=some (.lst ys)/\Xa H1 ys c.2/\H1 th=some (.lst ((j4 b (bE ss)).map V.bl))/\c.1.length=ss.length/\c.2.length+(eF (low+j) (low+j) ((jJ b (bE ss)).drop (low+j))).length<=401/\(eF (low+j) (low+j) ((jJ b (bE ss)).drop (low+j))).foldl (pI (bE ss)) c=jt b (bE ss),?_,?_⟩
    ·by_cases hj0:j=0
     ·subst hj0;refine iF false ?_ ?_
      ·tm_up;rw[Y' (show ¬((low:Int)<((low+0:Nat):Int)) by omega)];exact cF rfl
      ·exact cv ⟨rfl,c,ys,s4,Om,XA,hys,hth,hcl,alh,tJ⟩
     ·have hlt2:low<low+j:=by omega
      rw[if_pos hlt2,List.singleton_append]at hrf;rw[hrf,List.foldl_cons]at tJ;rw[hrf,length_cons]at alh;have s5:ao H (upd Ri f (.lst ((settle (bE ss) c.1 low (low+j)).2.map V.int))):=cD s4 n1;have VC:upd Ri f (.lst ((settle (bE ss) c.1 low (low+j)).2.map V.int)) lo=some (.lst ys):=by rw[ak nfl.symm];exact XA
      have ali:upd Ri f (.lst ((settle (bE ss) c.1 low (low+j)).2.map V.int)) th=some (.lst ((j4 b (bE ss)).map V.bl)):=by rw[ak ntf];exact hth
      have aee:(settle (bE ss) c.1 low (low+j)).2.length=ss.length:=by rw[BM];exact hcl
      refine⟨fun bb H3=>bb = !(settle (bE ss) c.1 low (low+j)).1/\H3=upd Ri f (.lst ((settle (bE ss) c.1 low (low+j)).2.map V.int)),?_,?_⟩
      ·tm_up;rw[N' (show((low:Int)<((low+j:Nat):Int)) by omega)];refine pG ?_;tm_up;refine⟨l,f,low,low+j,xs,ss,c.1,rfl,aO.of hl4,hg4,nlf,Om,hcl,hlt2,by omega,?_⟩;tm_up;exact⟨rfl,rfl⟩
      ·rintro bb H3 ⟨rfl,rfl⟩;refine aZ (fun h=>?_) (fun h=>?_)
       ·have hst:(settle (bE ss) c.1 low (low+j)).1=false:=by
         cases e:(settle (bE ss) c.1 low (low+j)).1
         ·rfl
         ·rw[e]at h;cases h
        tm_up;refine⟨.inl ⟨rfl,_,aO.of VC⟩,?_⟩;tm_up;refine⟨by show 2<=sizeLine;decide,fun z hz=>?_⟩;have sz:=ao.upd (o:=.tup [.int (low:Int),.int ((low+j:Nat):Int)]) hz;have abd:=sz _ _ VC;refine⟨_,_,_,rfl,rfl,abd,by rw[bh hys];exact aQ (by omega),?_⟩;refine⟨rfl,((settle (bE ss) c.1 low (low+j)).2,c.2++[(low,low+j)]),_,cD (s5.trans sz) ael,by rw[ak nfl];exact sz _ _ af,af,fL (qZ abd (sL sz (qZ Om hys))) (Vf abd ⟨z,rfl,af⟩),
         by rw[ak ntl];exact sz _ _ ali,aee,by simp only [T',length_singleton];omega,?_⟩
        rw[<-tJ];unfold pI;rw[hst];rfl
       ·have hst:(settle (bE ss) c.1 low (low+j)).1=true:=by
         cases e:(settle (bE ss) c.1 low (low+j)).1
         ·rw[e]at h;exact V' rfl h
         ·rfl
        refine⟨rfl,((settle (bE ss) c.1 low (low+j)).2,c.2),ys,s5,af,VC,qZ Om hys,ali,aee,by show c.2.length+_<=401;omega,?_⟩;rw[<-tJ];unfold pI;rw[hst];rfl
    ·rintro σ1 H1 ⟨rfl,c',ys',s6,hf6,abd,alj,alk,alm,Z6,Rv⟩;tm_up;refine⟨_,_,rfl,?_⟩
     by_cases hj0:j=0
     ·subst hj0;have hbl:(jJ b (bE ss))[low]? = some false:=by
       have h1:low<(jJ b (bE ss)).length:=by rw[qY,J'];exact hlt
       have h2:¬(jJ b (bE ss))[low+0]? = some true:=fun z=>Nat.lt_irrefl _ (hla.mpr z);rw[Nat.add_zero,G' h1]at h2;rw[G' h1];cases e:(jJ b (bE ss))[low]
       ·rfl
       ·rw[e]at h2;exact V' rfl h2
      rw[Nat.add_zero,i8 hbl]at Rv Z6;have er:eF low low (false::(jJ b (bE ss)).drop (low+1))=eF (low+1) (low+1) ((jJ b (bE ss)).drop (low+1)):=by
       show(if low<low then [(low,low)] else [])++eF (low+1) (low+1) ((jJ b (bE ss)).drop (low+1))=_;rw[if_neg (Nat.lt_irrefl _),nil_append]
      rw[er]at Rv Z6;have em:(if(low:Int)+1 > ((low+0:Nat):Int) then(low:Int)+1 else((low+0:Nat):Int))=((low+1:Nat):Int):=by rw[if_pos (by omega)];rfl
      rw[em];exact⟨ss.length-(low+1),by omega,low+1,_,c',ys',rfl,by omega,rfl,s6,hf6,abd,alj,alk,alm,Z6,Rv⟩
     ·have em:(if(low:Int)+1 > ((low+j:Nat):Int) then(low:Int)+1 else((low+j:Nat):Int))=((low+j:Nat):Int):=by
       split <;> omega
      rw[em];exact⟨ss.length-(low+j),by omega,low+j,_,c',ys',rfl,by omega,rfl,s6,hf6,abd,alj,alk,alm,Z6,Rv⟩
  ·have hlt:low=ss.length:=by
    have:¬ low<ss.length:=fun z=>h (N' (by omega));omega
   subst hlt;rw[List.drop_eq_nil_of_le (by rw[qY,J'];exact R' _)]at tJ;have e:c=jt b (bE ss):=by
    have:eF ss.length ss.length []=[]:=by unfold eF;rw[if_neg (Nat.lt_irrefl _)]
    rw[this]at tJ;exact tJ
   subst e;tm_up;refine⟨by show 2<=sizeLine;decide,fun z hz=>?_⟩;have sz:=ao.upd (o:=.tup [.ref f,.ref lo]) hz;exact q z f lo ys _ (s4.trans sz) n1 ael nfl af (sz _ _ Om) (sz _ _ XA) (sL sz hys)
inductive E5 (K:Frag)(vs:List V)(H:Hp)(Q:VK)(E:XK):Prop
 |mk (d:Addr) (vw:Vw) (n:Str) (th:Th) (dE:vs=[.ref d,.str n]) (dF:Eh H d vw) (eQ:yt vw) (jv:bp vw n=some th) (pE:∀(l:Addr)(H':Hp),ao H H'->H' l=some (.lst ((iu vw n).map V.int))->Q (.ref l) H'):E5 K vs H Q E
theorem E6 (T:Txt K w mg t):br P w K mg base fK (0+3) t.iU t.yM ["_law_voices","_law_name"] (E5 K):=by
 have o9:=wF (P:=P) (base:=base) T;have VJ:=abb (P:=P) (base:=base) T;refine T.kO.ok vT (fun vs H Q E h=>?_) (fun cdv A outer s H vs Q E hr h=>?_)
 ·obtain⟨_,_,_,_,rfl,_⟩:=h;rfl
 ·obtain⟨d,vw,n,th,rfl,hd,wv,hf,q⟩:=h;refine aR (ag (aH (i:=2) vT.nd rfl (Or.inr rfl) (kZ (yi hr) (pv 0) (pv 1) (fun _ _=>rfl))) (ag (aH (i:=3) vT.nd rfl (Or.inl rfl) (aq o9 (hr.mono (by decide)) rfl T.wt T.i0.kp T.oU .nil au (aa (pv 0) (aa (pv 1) ae)))) (ag (aU (aX (av bT rfl T.aW aV (aa (pv 2) (aa (cW (v:=.ty "list") rfl T.fG fB rfl) ae)))) (ah (ax (aT aI (aq VJ (hr.mono (by decide)) rfl T.PD T.vj.kp T.ED .nil au (aa (pv 3) (aa aj ae))) aj (fun _ _=>rfl)))) aD) (ah (ax (kY (cn:=["_law_worth"]) rfl (bY.of rfl) (cu (aT aI (aq VJ (hr.mono (by decide)) rfl T.PD T.vj.kp T.ED .nil au (aa (pv 3) (aa (dJ (gI (aX (aT aI (pv 2) aj (fun _ _=>rfl))) aj aj)) ae))) aj (fun _ _=>rfl))) (fun _=>(aB (i:=0) Lo rfl (Or.inl rfl))) (fun _=>j0) (fun _=>(aJ (pC.or pF) (aT aI (pv 3) aj (fun _ _=>rfl)) (pv 0))))))))) ?_;obtain⟨v,hg,hv⟩:=hd.get hf;refine⟨_,rfl,_,rfl,d,v,rfl,hg,?_⟩;refine⟨_,rfl,_,rfl,d,vw,n,th,rfl,hd,wv,hf,fun l ys H1 s1 h1 g1=>?_⟩;cases th with
  |pl ss =>
   obtain⟨l0,VL,rfl,h0,_⟩:=hv;have gl:=(wv.gd _ _ (cb hf)).1;rw[rf hf]at g1;tm_up;refine⟨_,_,_,_,rfl,eG.lst (s1 _ _ h0),rfl,_,rfl,pG ?_⟩;refine⟨_,rfl,l,3,ys,ss,rfl,.inl rfl,h1,g1,by omega,fun p f lo zs H2 s2 _ _ _ hp hf2 _ _=>ix0 hp ?_⟩;exact q f H2 (s1.trans s2) (by rw[yw hf];exact hf2)
  |cn ld lt sl tn =>
   obtain⟨p,rfl,hp⟩:=hv;obtain⟨⟨ss,Bv⟩,lt0,lt1,sl0,sl1⟩:=wv.ld n ld lt sl tn (cb hf);have hfl:=wv.find Bv;have gl:=(wv.gd _ _ Bv).1;rw[rg hf hfl]at g1;rw[yx hf hfl]at q;have gl2:(if tn=true then ss.map sP else ss).length<=400:=by
    split
    ·rw[J'];omega
    ·omega
   tm_up;refine⟨_,_,_,_,rfl,eG.tup (s1 _ _ hp),rfl,_,rfl,cv ?_⟩;refine⟨_,rfl,?_⟩;refine⟨fun v H'=>v=.int (if tn=true then 2 else 3)/\H'=H1,?_,?_⟩
   ·refine⟨_,rfl,Hb (i:=3) (s1 _ _ hp) rfl ⟨_,rfl,?_⟩⟩;cases tn with
    |true=>exact pG ⟨rfl,rfl⟩
    |false=>exact cv ⟨rfl,rfl⟩
   intro v0 H0 ⟨e1,e2⟩;rw[e1,e2];have hMs:Ms (if tn=true then 2 else 3):=by cases tn;exact .inl rfl;exact .inr rfl
   refine⟨l,_,ys,_,rfl,hMs,h1,g1,gl2,fun p2 f lo zs H2 s2 _ _ _ hp2 hf2 _ _=>ix0 hp2 ?_⟩;generalize hW:(jt (if tn=true then 2 else 3) (bE (if tn=true then ss.map sP else ss))).1=W at q hf2;have hWl:W.length<=400:=by rw[<-hW,qI,J'];exact gl2
   refine⟨f,rfl,⟨_,aO.of hf2⟩,fun D' b' hD'=>?_⟩;have hpD:=s2 _ _ (s1 _ _ hp);refine eJ (K:=K) (xs:=W.map V.int) (fun i ys' σ H'=>∃ v,σ=[v,some (.ref d),some (.str n),some (.ref p),some (.ref l)]/\H'=upd H2 D' (.lst ys')/\ys'=((W.take i).map fun w=>sl * w).map V.int) ⟨none,rfl,rfl,by simp⟩ ?_ ?_ ?_
   ·rintro i ys σ H' ⟨v,rfl,rfl,_⟩;exact ip (aO.of hf2) hD'
   ·rintro i ys' y σ H' hy ⟨v,rfl,rfl,rfl⟩ N hN;obtain⟨z,hz,rfl⟩:=yo hy;have hi:i<W.length:=(C'.mp hz).1;refine fi ?_;refine⟨_,rfl,Hb (i:=2) (by rw[ak (ar hpD hD')];exact hpD) rfl ?_⟩;refine⟨_,rfl,.inl ⟨_,_,rfl,rfl,.inl ⟨by omega,by omega⟩,af,?_,?_⟩⟩
    ·rw[J',J',length_take];exact aQ (by omega)
    ·refine hN _ _ _ ⟨_,rfl,df,?_⟩;rw[take_succ,hz,map_append,map_append];rfl
   ·rintro ys' σ H' ⟨v,rfl,rfl,rfl⟩;rw[J',take_length];exact q D' _ ((s1.trans s2).trans (ao.upd hD')) af
inductive By (K:Frag)(vs:List V)(H:Hp)(Q:VK)(E:XK):Prop
 |mk (d:Addr) (vw:Vw) (n:Str) (th:Th) (dE:vs=[.ref d,.str n]) (dF:Eh H d vw) (eQ:yt vw) (jv:bp vw n=some th) (pE:∀(l:Addr)(ys:List V)(H':Hp),H l=none->ao H H'->H' l=some (.lst ys)->Paired (gZ H') ys (eI (ju vw n) (iu vw n) (EV th))->Q (.ref l) H'):By K vs H Q E
theorem Oo (T:Txt K w mg t):br P w K mg base fK (0+4) t.gA t.v9 ["_law_voices","_law_name"] (By K):=by
 have o9:=wF (P:=P) (base:=base) T;have zj:=E6 (P:=P) (base:=base) T;refine T.lO.ok gQ (fun vs H Q E h=>?_) (fun cdv A outer s H vs Q E hr h=>?_)
 ·obtain⟨_,_,_,_,rfl,_⟩:=h;rfl
 ·obtain⟨d,vw,n,th,rfl,hd,wv,hf,q⟩:=h;refine aR (ag (aH (i:=2) gQ.nd rfl (Or.inl rfl) (dJ (gI (aX (av bT rfl T.aW aV (aa (kZ (yi hr) (pv 0) (pv 1) (fun _ _=>rfl)) (aa (cW (v:=.ty "list") rfl T.fG fB rfl) ae)))) aj (aT aI (kZ (yi hr) (pv 0) (pv 1) (fun _ _=>rfl)) aj (fun _ _=>rfl))))) (ag (aH (i:=3) gQ.nd rfl (Or.inl rfl) (bq ae)) (ag (cE PassesOwn.never rfl (QB rfl T.G6 (aq o9 (hr.mono (by decide)) rfl T.wt T.i0.kp T.oU .nil au (aa (pv 0) (aa (pv 1) ae))) (aq zj (hr.mono (by decide)) rfl T.EF T.kO.kp T.tq .nil au (aa (pv 0) (aa (pv 1) ae)))) (dA rfl (aK (aB (i:=4) gQ.nd rfl (Or.inl rfl)) (aK (aB (i:=5) gQ.nd rfl (Or.inl rfl)) cq))) (ag (jx (aU (aw (c7.or c0) (aT aI (pv 4) aj (fun _ _=>rfl)) bG rfl) (ah (aP (eE plainAttrs_list slot_list_append type_list_append a6 (pv 3) (aa (cV (aa (pv 2) (aa (aJ (a8.or (aE.or a9)) (pv 2) (pv 5)) (aa (aT aI (pv 4) aj (fun _ _=>rfl)) ae)))) ae)))) aD)) (ah (aH (i:=2) gQ.nd rfl (Or.inl rfl) (aJ (a8.or (aE.or a9)) (pv 2) (pv 5)))))) (ah (ax (pv 3)))))) ?_;obtain⟨kb,kl,ll,b0,b9⟩:=Rm wv hf;obtain⟨v,hg,hv⟩:=hd.get hf;refine⟨fun x H'=>x=.int (EV th)/\H'=H,?_,?_⟩
  ·tm_up;refine⟨d,v,rfl,hg,?_⟩;cases th with
   |pl ss =>
    obtain⟨l0,VL,rfl,h0,_⟩:=hv;tm_up;refine⟨_,_,_,_,rfl,eG.lst h0,rfl,_,rfl,pG ?_⟩;exact⟨rfl,rfl⟩
   |cn ld lt sl tn =>
    obtain⟨p,rfl,hp⟩:=hv;tm_up;refine⟨_,_,_,_,rfl,eG.tup hp,rfl,_,rfl,cv ?_⟩;tm_up;refine⟨d,_,rfl,hg,?_⟩;exact Hb (i:=1) hp rfl ⟨rfl,rfl⟩
  intro x0 H0 ⟨e1,e2⟩;rw[e1,e2];clear e1 e2 x0 H0;refine⟨big (by show 0<=1000;omega),fun fd hfd=>?_⟩;have s0:=ao.upd (o:=.lst []) hfd;have h0:=af (H:=H) (a:=fd) (o:=.lst []);generalize upd H fd (.lst [])=H0 at s0 h0;tm_up;refine⟨d,vw,n,th,rfl,hd.same s0,wv,hf,fun l1 ys1 H1 s1 h1 g1=>?_⟩;tm_up;refine⟨d,vw,n,th,rfl,(hd.same s0).same s1,wv,hf,fun k1 H2 s2 hk2=>?_⟩;have h12:=s2 _ _ h1;have g12:=g1.same s2;have hf2:=s2 _ _ (s1 _ _ h0);have sB:ao H (strip fd H2):=Cu ((s0.trans s1).trans s2) hfd;have yl:=bh g1;have el:ys1.length=((iu vw n).map V.int).length:=by rw[bh g1,J',kl]
  have g13:iq (strip fd H2) ys1 (ju vw n):=iq.strip hf2 g12;have nl:0<(ju vw n).length->l1≠fd:=fun hp e=>by
   rw[e,hf2]at h12;cases h12;rw[<-yl]at hp;exact V' hp (by decide)
  have nk:0<(ju vw n).length->k1≠fd:=fun hp e=>by
   rw[e,hf2]at hk2;have:(iu vw n).map V.int=[]:=by injection (W' hk2) with e;exact e.symm
   rw[<-kl,<-J' (f:=V.int),this]at hp;exact V' hp (by decide)
  generalize hss:ju vw n=ss at g13 ll kl q nl nk yl;generalize hws:iu vw n=ws at hk2 el kb kl q;generalize hHs:strip fd H2=Hs at sB g13;clear hss;have own:∀{H':Hp} {o:HO},ao Hs H'->ao Hs (upd H' fd o):=fun s=>by rw[<-hHs] at *;exact Ha s
  refine⟨_,_,rfl,rfl,⟨_,aO.of h12⟩,⟨_,aO.of hk2⟩,Kv (K:=K) (xs:=ys1) (ys:=ws.map V.int) (fun i σ H'=>∃(v1 v2:Option V)(zs:List V)(bt:Int)(ts:List (Int×Int×Int)),σ=[some (.ref d),some (.str n),some (.int bt),some (.ref fd),v1,v2]/\ao Hs H'/\H' l1=some (.lst ys1)/\H' k1=some (.lst (ws.map V.int))/\H' fd=some (.lst zs)/\Paired (gZ H') zs ts/\ts.length<=i/\i<=ss.length/\ts++eI (ss.drop i) (ws.drop i) bt=eI ss ws (EV th)) el ⟨none,none,[],EV th,[],rfl,by rw[<-hHs];exact ze fd H2,h12,hk2,hf2,.nil,R' _,Nat.zero_le _,rfl⟩ ?_ ?_ ?_⟩
  ·rintro i σ H' ⟨v1,v2,zs,bt,ts,rfl,s3,j1,j2,_⟩;exact⟨aO.of j1,aO.of j2⟩
  ·rintro i y1 y2 tt σ H' hx1 hy1 ⟨v1,v2,zs,bt,ts,rfl,s3,j1,j2,Ol,pt,tl,il,et⟩ hn;obtain⟨sg,e1,p,rfl,hp⟩:=j3 g13 hx1;obtain⟨wo,e2,rfl⟩:=yo hy1;have NX:i<ss.length:=(C'.mp e1).1;rw[JH e1 e2]at et;have st0:=ao.upd (o:=.tup [.ref p,.int wo]) hn;have s4:=s3.trans st0;have hp4:=s4 _ _ hp;have Om:=st0 _ _ Ol;have j14:=st0 _ _ j1;have j24:=st0 _ _ j2;have pt4:=aY (fun _ _ q=>gZ.same st0 q) pt;refine⟨tt,_,rfl,ij.of af,rfl,_,_,rfl,_,_,rfl,rfl,?_⟩;clear st0;generalize upd H' tt (.tup [.ref p,.int wo])=H4 at s4 hp4 Om pt4 j14 j24;refine⟨fun σ H'=>∃(zs:List V)(ts:List (Int×Int×Int)),σ=[some (.ref d),some (.str n),some (.int bt),some (.ref fd),some (.ref p),some (.int wo)]/\ao Hs H'/\H' l1=some (.lst ys1)/\H' k1=some (.lst (ws.map V.int))/\H' fd=some (.lst zs)/\Paired (gZ H') zs ts/\ts.length<=i+1/\ts++eI (ss.drop (i+1)) (ws.drop (i+1)) (bt+wo)=eI ss ws (EV th),?_,?_⟩
   ·tm_up;refine aZ (fun hsd=>?_) (fun hsd=>?_)
    ·have hsd':sg.1.fk=true:=by rw[<-oX];exact hsd
     rw[if_pos hsd',<-List.append_assoc]at et;tm_up;refine⟨.inl ⟨rfl,_,aO.of Om⟩,?_⟩;tm_up;refine⟨big (by show 3<=1000;omega),fun pp hpp=>?_⟩;have st:=ao.upd (o:=.tup [.int bt,.int (bt+wo),.int sg.2]) hpp;refine⟨fd,zs,_,rfl,rfl,st _ _ Om,aQ (by have:=bh pt4;omega),?_⟩;refine⟨_,_,rfl,own (s4.trans st),?_,?_,af,?_,?_,et⟩
     ·rw[ak (nl (by omega))];exact st _ _ j14
     ·rw[ak (nk (by omega))];exact st _ _ j24
     ·exact aY (fun _ _ q=>gZ.write (st _ _ Om) q) (fL (aY (fun _ _ q=>gZ.same st q) pt4) ⟨pp,rfl,af⟩)
     ·rw[T'];show _+1<=_;omega
    ·have hsd':¬ sg.1.fk=true:=by rw[<-oX];exact hsd
     rw[if_neg hsd']at et;exact⟨zs,ts,rfl,s4,j14,j24,Om,pt4,by omega,et⟩
   rintro _ H5 ⟨zs5,ts5,rfl,s5,j15,j25,hf5,pt5,tl5,et5⟩;tm_up;exact⟨_,_,zs5,bt+wo,ts5,rfl,s5,j15,j25,hf5,pt5,tl5,NX,et5⟩
  ·rintro σ H' ⟨v1,v2,zs,bt,ts,rfl,s3,_,_,Ol,pt,tl,il,et⟩;tm_up;rw[yl,List.drop_length]at et;exact q fd zs H' hfd (sB.trans s3) Ol (by rw[<-et];cases ws.drop ss.length <;> (rw[show eI [] _ bt=[] from rfl,append_nil];exact pt))
inductive E7 (K:Frag)(vs:List V)(H:Hp)(Q:VK)(E:XK):Prop
 |mk (n1 n2:Str) (a b:Addr) (xs ys:List V) (os ps:List PQ) (dE:vs=[.str n1,.str n2,.ref a,.ref b]) (dF:H a=some (.lst xs)) (eQ:H b=some (.lst ys)) (jv:Paired (gZ H) xs os) (pE:Paired (gZ H) ys ps) (Pa:os.length<=200) (h6_:ps.length<=200) (h7_:∀(l:Addr)(zs:List V)(H':Hp),H l=none->ao H H'->H' l=some (.lst zs)->Paired (kR H') zs ((Cv os ps).map fun z=>(n1,n2,z.1,z.2))->Q (.ref l) H'):E7 K vs H Q E
theorem Rw (T:Txt K w mg t):br P w K mg base fK (0+1) t.iV t.yN ["_law_one","_law_other","_law_ones","_law_others"] (E7 K):=by
 refine T.oV.ok eR (fun vs H Q E h=>?_) (fun cdv A outer s H vs Q E hr h=>?_)
 ·obtain⟨_,_,_,_,_,_,_,_,rfl,_⟩:=h;rfl
 ·obtain⟨n1,n2,a,b,xs,ys,os,ps,rfl,ha,hb,ga,gb,lo,lp,q⟩:=h;refine aR (ag (aH (i:=4) eR.nd rfl (Or.inl rfl) (bq ae)) (ag (cE PassesOwn.never rfl (cu (pv 2)) (dA rfl (aK (aB (i:=5) eR.nd rfl (Or.inl rfl)) (aK (aB (i:=6) eR.nd rfl (Or.inl rfl)) (aK (aB (i:=7) eR.nd rfl (Or.inl rfl)) cq)))) (ah (cE PassesOwn.never rfl (cu (pv 3)) (dA rfl (aK (aB (i:=8) eR.nd rfl (Or.inl rfl)) (aK (aB (i:=9) eR.nd rfl (Or.inl rfl)) (aK (aB (i:=10) eR.nd rfl (Or.inl rfl)) cq)))) (ah (aU (bF (PW.pt (cU (bF (PW.pt (iG (aw (bQ.or (bo (aM hr))) (pv 7) (aJ (a8.or (aE.or a9)) (pv 10) aj) (aG _)) (fJ (aw (bQ.or (bo (aM hr))) (pv 10) (aJ (a8.or (aE.or a9)) (pv 7) aj) (aG _)))))) (dn (aw mR (av (AV rfl) rfl T.Q6 Qy (aa (pv 5) (aa (pv 8) ae))) (av (AW rfl) rfl T.Q7 Qx (aa (pv 6) (aa (pv 9) ae))) (aG _)))))) (ah (aP (eE plainAttrs_list slot_list_append type_list_append a6 (pv 4) (aa (cV (aa (pv 0) (aa (pv 1) (aa (av (AV rfl) rfl T.Q6 Qy (aa (pv 5) (aa (pv 8) ae))) (aa (av (AW rfl) rfl T.Q7 Qx (aa (pv 6) (aa (pv 9) ae))) ae))))) ae)))) aD))))) (ah (ax (pv 4))))) ?_;have xl:=bh ga;have yl:=bh gb;refine⟨big (by show 0<=1000;omega),fun fd hfd=>?_⟩;have s0:=ao.upd (o:=.lst []) hfd;have h0:=af (H:=H) (a:=fd) (o:=.lst []);generalize upd H fd (.lst [])=H0 at s0 h0;tm_up;refine⟨⟨_,aO.of (s0 _ _ ha)⟩,gJ (K:=K) (xs:=xs) (fun k σ H'=>∃(v1 v2 v3 v4 v5 v6:Option V)(zs:List V),σ=[some (.str n1),some (.str n2),some (.ref a),some (.ref b),some (.ref fd),v1,v2,v3,v4,v5,v6]/\ao H H'/\H' fd=some (.lst zs)/\Paired (kR H') zs ((Cv (os.take k) ps).map fun z=>(n1,n2,z.1,z.2))/\zs.length<=200 * k/\k<=os.length) ⟨none,none,none,none,none,none,[],rfl,s0,h0,.nil,R' _,Nat.zero_le _⟩ ?_ ?_ ?_⟩
  ·rintro k σ H' _ ⟨v1,v2,v3,v4,v5,v6,zs,rfl,s1,_⟩;exact aO.of (s1 _ _ ha)
  ·rintro k y σ H1 hy ⟨v1,v2,v3,v4,v5,v6,zs,rfl,s1,hf1,pz,zl,kl⟩;obtain⟨⟨st,en,tn⟩,ho,p,rfl,hp⟩:=j3 ga hy;have kl2:k<os.length:=(C'.mp ho).1;rw[PR ho,map_append];generalize (Cv (os.take k) ps).map (fun z=>(n1,n2,z.1,z.2))=acc at pz;refine⟨p,_,rfl,ij.of (s1 _ _ hp),rfl,_,_,rfl,_,_,rfl,_,_,rfl,rfl,?_⟩;refine⟨_,rfl,b,rfl,⟨_,aO.of (s1 _ _ hb)⟩,gJ (K:=K) (xs:=ys) (fun j σ H'=>∃(v4 v5 v6:Option V)(zs:List V),σ=[some (.str n1),some (.str n2),some (.ref a),some (.ref b),some (.ref fd),some (.int st),some (.int en),some (.int tn),v4,v5,v6]/\ao H H'/\H' fd=some (.lst zs)/\Paired (kR H') zs (acc++(((ps.take j).filter (NY (st,en,tn))).map (Rq (st,en,tn))).map fun z=>(n1,n2,z.1,z.2))/\zs.length<=200 * k+j/\j<=ps.length) ⟨_,_,_,zs,rfl,s1,hf1,by rw[List.take_zero,List.filter_nil,List.map_nil,List.map_nil,append_nil];exact pz,by omega,Nat.zero_le _⟩ ?_ ?_ ?_⟩
   ·rintro j σ H' _ ⟨v4,v5,v6,zs,rfl,s2,_⟩;exact aO.of (s2 _ _ hb)
   ·rintro j y σ H2 hy2 ⟨v4,v5,v6,zs,rfl,s2,hf2,pz2,zl2,jl⟩;obtain⟨⟨p1,p2,p3⟩,hp1,pp,rfl,hpp⟩:=j3 gb hy2;have jl2:j<ps.length:=(C'.mp hp1).1;rw[JK hp1,map_append,map_append,<-List.append_assoc];generalize acc++(((ps.take j).filter (NY (st,en,tn))).map (Rq (st,en,tn))).map (fun z=>(n1,n2,z.1,z.2))=anC at pz2;refine⟨pp,_,rfl,ij.of (s2 _ _ hpp),rfl,_,_,rfl,_,_,rfl,_,_,rfl,rfl,?_⟩;refine iF (NY (st,en,tn) (p1,p2,p3)) ?_ ?_
    ·refine iF (near tn p3) ?_ ?_
     ·tm_up;rw[dG];refine aZ (fun c1=>?_) (fun c1=>?_)
      ·exact cF (by unfold near;rw[show decide (tn=p3+1)=true from c1];rfl)
      ·tm_up;exact cF (by unfold near;rw[show decide (tn=p3+1)=false from U'.mpr c1,Bool.false_or];exact dG _ _)
     ·refine aZ (fun c1=>?_) (fun c1=>?_)
      ·tm_up;refine⟨_,_,rfl,?_⟩;tm_up;refine⟨_,_,rfl,?_⟩;tm_up;exact cF (by unfold NY;rw[show near (st,en,tn).2.2 (p1,p2,p3).2.2=true from c1,Bool.true_and];rfl)
      ·exact cF (by unfold NY;rw[show near (st,en,tn).2.2 (p1,p2,p3).2.2=false from U'.mpr c1];rfl)
    refine aZ (fun hn=>?_) (fun hn=>?_)
    ·rw[if_pos hn];refine⟨_,rfl,.inl ⟨rfl,_,aO.of hf2⟩,?_⟩;tm_up;refine⟨_,_,rfl,?_⟩;tm_up;refine⟨_,_,rfl,?_⟩;refine⟨big (by show 4<=1000;omega),fun tp htp=>?_⟩;have stt:=ao.upd (o:=.tup [.str n1,.str n2,.int (mx st p1),.int (mn en p2)]) htp;refine⟨fd,zs,_,rfl,rfl,stt _ _ hf2,Nat.lt_of_le_of_lt (show zs.length<=50000 by omega) (by decide),?_⟩;refine⟨_,_,_,_,rfl,cD (s2.trans stt) hfd,af,?_,by rw[T'];show _+1<=_;omega,jl2⟩;exact aY (fun _ _ q=>kR.write (stt _ _ hf2) q) (fL (aY (fun _ _ q=>kR.same stt q) pz2) ⟨tp,rfl,af⟩)
    ·rw[if_neg hn,List.map_nil,List.map_nil,append_nil];exact⟨_,_,_,zs,rfl,s2,hf2,pz2,by omega,jl2⟩
   ·rintro σ H2 ⟨v4,v5,v6,zs,rfl,s2,hf2,pz2,zl2,jl⟩;rw[yl,take_length]at pz2;exact⟨_,_,_,_,_,_,zs,rfl,s2,hf2,pz2,by rw[yl]at zl2;omega,kl2⟩
  ·rintro σ H1 ⟨v1,v2,v3,v4,v5,v6,zs,rfl,s1,hf1,pz,zl,kl⟩;tm_up;rw[xl,take_length]at pz;exact q fd zs H1 hfd s1 hf1 pz
inductive Mb (K:Frag)(c:Cs)(vs:List V)(H:Hp)(Q:VK)(E:XK):Prop
 |mk (a x d:Addr) (ns:List Int) (F:Addr->Prop) (vw:Vw) (ps fs:List Vw) (dE:vs=[.ref a,.ref x,.ref d]) (dF:aO K H a (ns.map V.int)) (eQ:ns.length<=63) (jv:BP c H x F vw ps fs) (pE:Eh H d vw) (Pa:∀ H',ao H H'->Q (.bl true) H'):Mb K c vs H Q E
theorem kR.row {H:Hp}{y:V}{t:Rb}(h:kR H y t):agw H y [.str t.1,.str t.2.1,.int t.2.2.1,.int t.2.2.2]:=by
 obtain⟨p,e1,e2⟩:=h;refine⟨p,e1,e2,fun v hv=>?_⟩;rcases List.mem_cons.mp hv with rfl|hv
 ·exact .inr ⟨_,rfl⟩
 rcases List.mem_cons.mp hv with rfl|hv
 ·exact .inr ⟨_,rfl⟩
 rcases List.mem_cons.mp hv with rfl|hv
 ·exact .inl ⟨_,rfl⟩
 rw[mem_singleton.mp hv];exact .inl ⟨_,rfl⟩
theorem KJ {H:Hp}{ys:List V}{ts:List Rb}(h:Paired (kR H) ys ts):Paired (agw H) ys (ts.map fun t=>[.str t.1,.str t.2.1,.int t.2.2.1,.int t.2.2.2]):=ahI (fun _ _ q=>q.row) h
noncomputable def SpL (H:Hp)(D:Addr)(vw:Vw)(y:V)(q:Str×Th):Prop:=∃ l ys,y=.ref l/\l≠D/\H l=some (.lst ys)/\Paired (gZ H) ys (spV vw q)
theorem SpL.same {H H':Hp}(s:ao H H'){D:Addr}{vw:Vw}{y:V}{q:Str×Th}(h:SpL H D vw y q):SpL H' D vw y q:=by
 obtain⟨l,ys,e,ne,h1,h2⟩:=h;exact⟨l,ys,e,ne,s _ _ h1,aY (fun _ _ z=>gZ.same s z) h2⟩
theorem SpL.write {H:Hp}{D:Addr}{xs:List V}{o:HO}(hD:H D=some (.lst xs)){vw:Vw}{y:V}{q:Str×Th}(h:SpL H D vw y q):SpL (upd H D o) D vw y q:=by
 obtain⟨l,ys,e,ne,h1,h2⟩:=h;exact⟨l,ys,e,ne,by rw[ak ne];exact h1,aY (fun _ _ z=>gZ.write hD z) h2⟩
theorem ajb {α β:Type}{F:α->β->Prop}{xs:List α}{ys:List β}{i:Nat}{x:α}{y:β}(h:Paired F xs (ys.take i))(e:ys[i]? = some y)(r:F x y):Paired F (xs++[x]) (ys.take (i+1)):=by
 rw[take_succ,e];exact fL h r
theorem ahJ {α β:Type}{F:α->β->Prop}:∀{xs:List α} {ys:List β} {xs':List α} {ys':List β},Paired F xs ys->Paired F xs' ys'->Paired F (xs++xs') (ys++ys')
 |_,_,_,_,.nil,h=>h
 |_,_,_,_,.cons r t,h=>.cons r (ahJ t h)
theorem Mc (T:Txt K w mg t):br P w K mg base fK (0+10) t.nr t.GU ["_law_script","_law_book","_law_voices"] (Mb K (cs t)):=by
 have aeu:=agu (P:=P) (base:=base) T;have VM:=aa8 (P:=P) (base:=base) T;have Rx:=Oo (P:=P) (base:=base) T;have VN:=Rw (P:=P) (base:=base) T;refine T.gS.ok iK (fun vs H Q E h=>?_) (fun cdv A outer s H vs Q E hr h=>?_)
 ·obtain⟨_,_,_,_,_,_,_,_,rfl,_⟩:=h;rfl
 ·obtain⟨a,x,d,ns,F,vw,ps,fs,rfl,hS,hl,B,hd,q⟩:=h;refine aR (ag (aH (i:=3) iK.nd rfl (Or.inl rfl) (bq ae)) (ag (aH (i:=4) iK.nd rfl (Or.inl rfl) (bH vH rfl T.fG fB (aa (pv 2) ae))) (ag (vG (i:=5) iK.nd rfl rfl (cn:=["_law_name"]) rfl (bY.of rfl) (cu (pv 4)) (fun _=>(aB (i:=0) N7 rfl (Or.inl rfl))) (fun _=>j0) (fun _=>(aq Rx (hr.mono (by decide)) rfl T.Ob T.lO.kp T.wu .nil au (aa (pv 3) (aa (pv 0) ae))))) (ag (cE PassesOwn.never rfl (kj rfl T.i4 (aa (av (az.or aA) rfl T.bD bC (aa (pv 4) ae)) ae)) (aB (i:=6) iK.nd rfl (Or.inl rfl)) (ah (cE PassesOwn.never rfl (O9 rfl T.i4 (aa (aJ (a8.or (aE.or a9)) (pv 6) aj) (aa (av (az.or aA) rfl T.bD bC (aa (pv 4) ae)) ae))) (aB (i:=7) iK.nd rfl (Or.inl rfl)) (ah (aH (i:=3) iK.nd rfl (Or.inl rfl) (aJ (a8.or (aE.or a9)) (pv 3) (aq VN (hr.mono (by decide)) rfl T.Q4 T.oV.kp T.yZ .nil au (aa (aT aI (pv 4) (pv 6) (fun _ _=>rfl)) (aa (aT aI (pv 4) (pv 7) (fun _ _=>rfl)) (aa (aT aI (pv 5) (pv 6) (fun _ _=>rfl)) (aa (aT aI (pv 5) (pv 7) (fun _ _=>rfl)) ae))))))))))) (ag (aH (i:=8) iK.nd rfl (Or.inl rfl) (aq aeu (hr.mono (by decide)) rfl T.ZW T.G2.kp T.Q2 .nil au (aa (pv 1) ae))) (ag (aU (bJ (aX (aq VM (hr.mono (by decide)) rfl T.PC T.vh.kp T.EB .nil au (aa (pv 8) (aa (pv 3) ae))))) (ah (ax de)) aD) (ag (aP (eE plainAttrs_list slot_list_append type_list_append a6 (pv 8) (aa (cV (aa bG (aa bG (aa aj (aa aj ae))))) ae))) (ah (ax (aq VM (hr.mono (by decide)) rfl T.PC T.vh.kp T.EB .nil au (aa (aq aeu (hr.mono (by decide)) rfl T.ZW T.G2.kp T.Q2 .nil au (aa (pv 1) ae)) (aa (pv 3) ae)))))))))))) ?_;have wv:=B.wv vw (.inr (.inl rfl));have wl:=wv.len;obtain⟨kvs,hk,ek⟩:=hd.keys;have agB:∀{i:Nat} {y:V},(vw.map fun q=>V.str q.1)[i]? = some y->∃ q,vw[i]? = some q/\y=.str q.1:=fun {i y} hy=>by
   rw[getElem?_map]at hy;cases e:vw[i]? with
   |none=>rw[e]at hy;cases hy
   |some z=>rw[e]at hy;exact⟨z,rfl,(W' hy).symm⟩
  refine⟨big (by show 0<=1000;omega),fun e0 ZZ=>?_⟩;have s0:=ao.upd (o:=.lst []) ZZ;have h0:=af (H:=H) (a:=e0) (o:=.lst []);generalize upd H e0 (.lst [])=H0 at s0 h0;refine⟨_,rfl,rfl,d,kvs,rfl,.inl (s0 _ _ hk),fun l7 hl7=>?_⟩;have s7:=ao.upd (o:=.lst (kvs.map fun kv=>kV kv.1)) hl7;have h7:=af (H:=H0) (a:=l7) (o:=.lst (kvs.map fun kv=>kV kv.1));rw[ek]at s7 h7 ⊢;generalize upd H0 l7 (.lst (vw.map fun q=>V.str q.1))=H7 at s7 h7;have S7:=s0.trans s7;have h07:=s7 _ _ h0;refine⟨_,rfl,l7,rfl,⟨_,aO.of h7⟩,fun D b hD=>?_⟩;refine eJ (K:=K) (xs:=vw.map fun q=>V.str q.1) (fun i zs σ H'=>∃ u,σ=[u,some (.ref a),some (.ref x),some (.ref d),some (.ref e0),some (.ref l7),none,none,none,none]/\ao H7 H'/\H' D=some (.lst zs)/\Paired (SpL H' D vw) zs (vw.take i)/\i<=vw.length) ⟨none,rfl,ao.upd hD,af,.nil,Nat.zero_le _⟩ ?_ ?_ ?_
  ·rintro i zs σ H' ⟨u,rfl,s2,_⟩;exact aO.of (s2 _ _ h7)
  ·rintro i zs y σ H' hy ⟨u,rfl,s2,ui,pz,il⟩ N hN;obtain⟨⟨n,th⟩,hq,rfl⟩:=agB hy;have NX:i<vw.length:=(C'.mp hq).1;have hf:=wv.find (X' hq);have zl:=bh pz;rw[length_take]at zl;refine fi ?_;refine⟨_,rfl,_,rfl,d,vw,n,th,rfl,hd.same (S7.trans s2),wv,hf,fun l3 ys3 H3 n3 s3 h3 g3=>?_⟩;have hD3:=s3 _ _ ui;refine⟨hD3,aQ (by omega),hN _ _ _ ⟨_,rfl,cD (s2.trans s3) hD,af,ajb (aY (fun _ _ q=>SpL.write hD3 (SpL.same s3 q)) pz) hq ?_,NX⟩⟩;exact SpL.write hD3 ⟨l3,ys3,rfl,(fun e=>by rw[e,ui]at n3;exact nomatch n3),h3,g3⟩
  ·rintro zs σ H2 ⟨u,rfl,s2,ui,pz,_⟩;rw[J',take_length]at pz;have zl:=bh pz;have S2:=S7.trans s2;have h72:=s2 _ _ h7;have h02:=s2 _ _ h07;tm_up;refine .inl ⟨l7,_,rfl,.inl (aO.of h72),?_⟩;rw[J'];have Of:(2:Int) ^ 62=4611686018427387904:=by decide
   have rowAt:∀{i:Nat} {p:Str×Th},vw[i]? = some p->∃ l ys,zs[i]? = some (.ref l)/\H2 l=some (.lst ys)/\Paired (gZ H2) ys (spV vw p):=fun {i p} hp=>by
    have hi:i<zs.length:=by rw[zl];exact(C'.mp hp).1
    obtain⟨p',hp',l,ys,e,_,h1,h2⟩:=j3 pz (G' hi);rw[hp]at hp';cases hp';exact⟨l,ys,by rw[G' hi,e],h1,h2⟩
   refine⟨(vw.length:Int),rfl,by rw[Of];omega,by rw[Of];omega,?_⟩;refine km (n:=((vw.length:Int)).toNat) (fun k σ H'=>∃(v1 v2:Option V)(ld:Addr)(x9:List V)(acc:List Rb),σ=[some (.ref a),some (.ref x),some (.ref d),some (.ref ld),some (.ref l7),some (.ref D),v1,v2,none]/\ao H2 H'/\H' ld=some (.lst x9)/\Paired (kR H') x9 acc/\acc++tL vw (vw.drop k)=tL vw vw/\x9.length<=480000 * k/\k<=vw.length) ⟨none,none,e0,[],[],rfl,ao.refl _,h02,.nil,rfl,R' _,Nat.zero_le _⟩ ?_ ?_
   ·rintro k σ H3 hk3 ⟨v1,v2,ld,x9,acc,rfl,s3,Bv,pd,ea,dl,kl⟩;have kl2:k<vw.length:=by omega
    obtain⟨qk,hqk⟩:∃ q,vw[k]? = some q:=⟨_,G' kl2⟩;rw[L6 hqk]at ea;have h73:=s3 _ _ h72;have hD3:=s3 _ _ ui;tm_up;refine .inl ⟨l7,_,rfl,.inl (aO.of h73),?_⟩;rw[J'];refine⟨_,_,rfl,⟨by rw[Of];omega,by rw[Of];omega,by rw[Of];omega,by rw[Of];omega⟩,?_⟩;refine km (lo:=0+(k:Int)+1) (n:=((vw.length:Int)-(0+(k:Int)+1)).toNat) (fun m σ H'=>∃(v2:Option V)(ld:Addr)(x9:List V)(acc:List Rb),σ=[some (.ref a),some (.ref x),some (.ref d),some (.ref ld),some (.ref l7),some (.ref D),some (.int (0+(k:Int))),v2,none]/\ao H2 H'/\H' ld=some (.lst x9)/\Paired (kR H') x9 acc/\acc++(((vw.drop (k+1+m)).flatMap fun p=>VG vw qk p)++tL vw (vw.drop (k+1)))=tL vw vw/\x9.length<=480000 * k+40000 * m/\k+1+m<=vw.length) ⟨_,ld,x9,acc,rfl,s3,Bv,pd,ea,by omega,kl2⟩ ?_ ?_
    ·rintro m σ H4 hm ⟨v2,ld,x9,acc,rfl,s4,Bv,pd,ea,dl,ml⟩;have ml2:k+1+m<vw.length:=by omega
     obtain⟨qm,hqm⟩:∃ q,vw[k+1+m]? = some q:=⟨_,G' ml2⟩;rw[PV hqm,List.append_assoc]at ea;obtain⟨la,ya,ia,ha,pa⟩:=rowAt hqk;obtain⟨lb,yb,ib,hb,pb⟩:=rowAt hqm;obtain⟨_,lla⟩:=Ru wv (X' hqk);obtain⟨_,llb⟩:=Ru wv (X' hqm);have h74:=s4 _ _ h72;have hD4:=s4 _ _ ui;refine⟨_,rfl,_,rfl,_,rfl,QI (aO.of h74) (n:=k) (by omega) (by rw[getElem?_map,hqk];rfl) ?_⟩;refine⟨_,rfl,_,rfl,QI (aO.of h74) (n:=k+1+m) (by omega) (by rw[getElem?_map,hqm];rfl) ?_⟩;refine⟨_,rfl,_,rfl,QI (aO.of hD4) (n:=k) (by omega) ia ?_⟩;refine⟨_,rfl,_,rfl,QI (aO.of hD4) (n:=k+1+m) (by omega) ib ?_⟩;refine⟨qk.1,qm.1,la,lb,ya,yb,_,_,rfl,s4 _ _ ha,s4 _ _ hb,aY (fun _ _ q=>gZ.same s4 q) pa,aY (fun _ _ q=>gZ.same s4 q) pb,lla,llb,fun l9 zs9 H9 n9 s9 h9 g9=>?_⟩;have y9:=bh g9;rw[J']at y9;have rl:=VH _ _ lla llb;refine .inr (.inr ⟨ld,l9,_,_,rfl,rfl,s9 _ _ Bv,h9,Nat.le_trans (show _<=10000000 by omega) (by decide),fun c hc=>?_⟩);have P0:=ao.upd (o:=.lst (x9++zs9)) hc;refine⟨_,c,_,_,rfl,(s4.trans s9).trans P0,af,ahJ (aY (fun _ _ q=>kR.same (s9.trans P0) q) pd) (aY (fun _ _ q=>kR.same P0 q) g9),?_,by rw[T'];omega,by omega⟩;rw[List.append_assoc];exact ea
    ·rintro σ H4 ⟨v2,ld,x9,acc,rfl,s4,Bv,pd,ea,dl,ml⟩;rw[show((vw.length:Int)-(0+(k:Int)+1)).toNat=vw.length-(k+1) by omega]at ea dl;rw[List.drop_eq_nil_of_le (show vw.length<=k+1+(vw.length-(k+1)) by omega),List.flatMap_nil,nil_append]at ea;exact⟨_,_,ld,x9,acc,rfl,s4,Bv,pd,ea,by omega,kl2⟩
   ·rintro σ H3 ⟨v1,v2,ld,x9,acc,rfl,s3,Bv,pd,ea,dl,_⟩;rw[show((vw.length:Int)).toNat=vw.length by omega,List.drop_length,show tL vw []=[] from rfl,append_nil]at ea;subst ea;have S3:=S2.trans s3;tm_up;refine⟨x,F,vw,ps,fs,rfl,B.same S3,fun l9 ys9 H9 n9 s9 h9 g9=>?_⟩;have y9:=bh g9;have y3:=bh pd;tm_up;refine⟨l9,ld,ys9,x9,_,rfl,h9,s9 _ _ Bv,KJ g9,KJ (aY (fun _ _ q=>kR.same s9 q) pd),fun UI s11=>?_⟩;refine⟨_,rfl,cv ?_⟩;have h11:=s11 _ _ h9;have d11:=s11 _ _ (s9 _ _ Bv);have nld:ld≠l9:=fun e=>by rw[<-e,Bv]at n9;exact nomatch n9
    refine⟨_,rfl,.inl ⟨rfl,_,aO.of h11⟩,?_⟩;tm_up;refine⟨big (by show 4<=1000;omega),fun tp htp=>?_⟩;have st:=ao.upd (o:=.tup [V.str "x",V.str "y",V.int 0,V.int 1]) htp;refine⟨l9,_,_,rfl,rfl,st _ _ h11,Nat.lt_of_le_of_lt (show ys9.length<=10000000 by rw[show((vw.length:Int)).toNat=vw.length by omega]at dl;omega) (by decide),?_⟩;have s12:ao H3 (upd (upd UI tp (.tup [V.str "x",V.str "y",V.int 0,V.int 1])) l9 (.lst (ys9++[.ref tp]))):=cD ((s9.trans s11).trans st) n9;have d12:upd (upd UI tp (.tup [V.str "x",V.str "y",V.int 0,V.int 1])) l9 (.lst (ys9++[.ref tp])) ld=some (.lst x9):=by rw[ak nld];exact st _ _ d11
    have p12:=aY (fun _ _ q=>kR.same s12 q) pd;generalize upd (upd UI tp (.tup [V.str "x",V.str "y",V.int 0,V.int 1])) l9 (.lst (ys9++[.ref tp]))=H12 at s12 d12 p12;tm_up;refine⟨x,F,vw,ps,fs,rfl,B.same (S3.trans s12),fun l13 ajc H13 n13 s13 h13 g13=>?_⟩;tm_up;exact⟨l13,ld,ajc,x9,_,rfl,h13,s13 _ _ d12,KJ g13,KJ (aY (fun _ _ q=>kR.same s13 q) p12),fun H14 s14=>q _ (((S3.trans s12).trans s13).trans s14)⟩
inductive Md (K:Frag)(vs:List V)(H:Hp)(Q:VK)(E:XK):Prop
 |mk (l1 l2:Addr) (xs ys:List V) (ss:List Sg) (dE:vs=[.ref l1,.ref l2]) (dF:H l1=some (.lst xs)) (eQ:aO K H l2 ys) (jv:iq H xs ss) (pE:iq H ys ss) (Pa:∀ H',ao H H'->Q (.bl true) H'):Md K vs H Q E
theorem XC (T:Txt K w mg t):br P w K mg base fK (0+2) t.nu t.GW ["_law_found","_law_due"] (Md K):=by
 have kQ:=wD (P:=P) (base:=base) T;refine T.vk.ok BW (fun vs H Q E h=>?_) (fun cdv A outer s H vs Q E hr h=>?_)
 ·obtain⟨_,_,_,_,_,rfl,_⟩:=h;rfl
 ·obtain⟨l1,l2,xs,ys,ss,rfl,h1,h2,g1,g2,q⟩:=h;have el:xs.length=ys.length:=(bh g1).trans (bh g2).symm;refine aR (ag (aU (bF (PW.pt (iG (bJ (aX (av bT rfl T.aW aV (aa (pv 0) (aa (cW (v:=.ty "list") rfl T.fG fB rfl) ae))))) (fJ (aw (xK.or (pH (aM hr))) (av (az.or aA) rfl T.bD bC (aa (pv 0) ae)) (av (az.or aA) rfl T.bD bC (aa (pv 1) ae)) (aG _)))))) (ah (ax de)) aD) (ag (cE PassesOwn.never rfl (QB rfl T.G6 (pv 0) (pv 1)) (dA rfl (aK (aB (i:=2) BW.nd rfl (Or.inl rfl)) (aK (aB (i:=3) BW.nd rfl (Or.inl rfl)) cq))) (ag (aU (bF (PW.pt (iG (bJ (aX (av bT rfl T.aW aV (aa (pv 2) (aa (cW (v:=.ty "tuple") rfl T.zd ym rfl) ae))))) (fJ (aw (xK.or (pH (aM hr))) (av (az.or aA) rfl T.bD bC (aa (pv 2) ae)) aj (aG _)))))) (ah (ax de)) aD) (ah (aU (bF (PW.pt (iG (bJ (aX (av bT rfl T.aW aV (aa (aT aI (pv 2) aj (fun _ _=>rfl)) (aa (cW (v:=.ty "str") rfl T.Q8 Qz rfl) ae))))) (iG (bJ (aX (aq kQ (hr.mono (by decide)) rfl T.rQ T.ji.kp T.nH .nil au (aa (aT aI (pv 2) aj (fun _ _=>rfl)) ae)))) (fJ (aw (xK.or (pH (aM hr))) (pv 2) (pv 3) (aG _))))))) (ah (ax de)) aD)))) (ah (ax de)))) ?_;refine iF false ?_ ?_
  ·tm_up;refine⟨_,_,_,_,rfl,eG.lst h1,rfl,_,rfl,cv ?_⟩;tm_up;refine .inl ⟨_,_,rfl,.inl (aO.of h1),?_⟩;tm_up;refine .inl ⟨_,_,rfl,.inl h2,?_⟩;tm_up;exact cF (by rw[el];simp)
  refine cv ?_;tm_up;refine⟨⟨_,aO.of h1⟩,⟨_,h2⟩,Kv (K:=K) (xs:=xs) (ys:=ys) (fun i σ H'=>∃ v1 v2,σ=[some (.ref l1),some (.ref l2),v1,v2]/\ao H H') el ⟨none,none,rfl,ao.refl _⟩ ?_ ?_ ?_⟩
  ·rintro i σ H' ⟨v1,v2,rfl,s2⟩;exact⟨s2.seq (aO.of h1),s2.seq h2⟩
  ·rintro i x y tt σ H' hx hy ⟨v1,v2,rfl,s2⟩ hn;obtain⟨sg,e1,p,rfl,hp⟩:=j3 g1 hx;obtain⟨sg',e2,p2,rfl,hp2⟩:=j3 g2 hy;have es:sg'=sg:=W' (e2.symm.trans e1);subst es;have s3:ao H (upd H' tt (.tup [.ref p,.ref p2])):=s2.trans (ao.upd hn);have hp':=s3 _ _ hp;have hp2':=s3 _ _ hp2;refine⟨tt,_,rfl,ij.of af,rfl,_,_,rfl,_,_,rfl,rfl,?_⟩;generalize upd H' tt (.tup [.ref p,.ref p2])=H3 at s3 hp' hp2';refine iF false ?_ ?_
   ·tm_up;refine⟨_,_,_,_,rfl,eG.tup hp',rfl,_,rfl,cv ?_⟩;tm_up;refine .inl ⟨_,_,rfl,.inr (ij.of hp'),?_⟩;tm_up;exact cF rfl
   refine cv ?_;refine iF false ?_ ?_
   ·tm_up;refine⟨_,_,_,_,rfl,eG.str _,rfl,_,rfl,cv ?_⟩;tm_up;refine⟨akI 59 hp' hp2',?_⟩;tm_up;exact cF rfl
   refine cv ?_;exact⟨_,_,rfl,s3⟩
  ·rintro σ H' ⟨v1,v2,rfl,s2⟩;exact q _ s2
inductive P4 (K:Frag)(vs:List V)(H:Hp)(Q:VK)(E:XK):Prop
 |mk (f d:Addr) (fs ds:List Int) (dE:vs=[.ref f,.ref d]) (dF:H f=some (.lst (fs.map V.int))) (eQ:aO K H d (ds.map V.int)) (jv:ds.length<=1000) (pE:Q (.bl (decide (fs=ds))) H):P4 K vs H Q E
theorem abe (T:Txt K w mg t):br P w K mg base fK (0+2) t.rJ t.Lx ["_law_found","_law_due"] (P4 K):=by
 have kQ:=wD (P:=P) (base:=base) T;refine T.y8.ok Pw (fun vs H Q E h=>?_) (fun cdv A outer s H vs Q E hr h=>?_)
 ·obtain⟨_,_,_,_,rfl,_⟩:=h;rfl
 ·obtain⟨f,d,fs,ds,rfl,hf,hd,hn,q⟩:=h;refine aR (ag (aU (bF (PW.pt (iG (bJ (aX (av bT rfl T.aW aV (aa (pv 0) (aa (cW (v:=.ty "list") rfl T.fG fB rfl) ae))))) (fJ (aw (xK.or (pH (aM hr))) (av (az.or aA) rfl T.bD bC (aa (pv 0) ae)) (av (az.or aA) rfl T.bD bC (aa (pv 1) ae)) (aG _)))))) (ah (ax de)) aD) (ag (cE PassesOwn.never rfl (kj rfl T.i4 (aa (av (az.or aA) rfl T.bD bC (aa (pv 1) ae)) ae)) (aB (i:=2) Pw.nd rfl (Or.inl rfl)) (ah (aU (bF (PW.pt (iG (bJ (aX (aq kQ (hr.mono (by decide)) rfl T.rQ T.ji.kp T.nH .nil au (aa (aT aI (pv 0) (pv 2) (fun _ _=>rfl)) ae)))) (fJ (aw (xK.or (pH (aM hr))) (aT aI (pv 0) (pv 2) (fun _ _=>rfl)) (aT aI (pv 1) (pv 2) (fun _ _=>rfl)) (aG _)))))) (ah (ax de)) aD))) (ah (ax de)))) ?_;refine iF (decide (fs.length≠ds.length)) ?_ ?_
  ·tm_up;refine⟨_,_,_,_,rfl,eG.lst hf,rfl,_,rfl,?_⟩;refine cv ?_;tm_up;refine .inl ⟨_,_,rfl,.inl (aO.of hf),?_⟩;tm_up;refine .inl ⟨_,_,rfl,.inl hd,?_⟩;tm_up;rw[J',J'];refine cF ?_;rw[dG]
   by_cases e:fs.length=ds.length
   ·simp[e]
   ·have:¬((fs.length:Int)=(ds.length:Int)):=by omega
    simp[e,this]
  ·refine aZ (fun h=>?_) (fun h=>?_)
   ·have e:fs≠ds:=fun z=>by
     have:=K' h;rw[z]at this;exact this rfl
    rw[Y' e]at q;exact q
   ·have el:fs.length=ds.length:=by
     by_cases e:fs.length=ds.length
     ·exact e
     ·exact V' (N' e) h
    tm_up;refine .inl ⟨_,_,rfl,.inl hd,?_⟩;rw[J'];have Of:(2:Int) ^ 62=4611686018427387904:=by decide
    refine⟨(ds.length:Int),rfl,by rw[Of];omega,by rw[Of];omega,?_⟩;refine km (n:=((ds.length:Int)).toNat) (fun i σ H'=>∃ v,σ=[some (.ref f),some (.ref d),v]/\H'=H/\fs.take i=ds.take i) ⟨none,rfl,rfl,rfl⟩ ?_ ?_
    ·rintro i σ H' hi ⟨v,rfl,rfl,ht⟩;have hid:i<ds.length:=by omega
     have hif:i<fs.length:=by omega
     refine iF (decide (fs[i]≠ds[i])) ?_ ?_
     ·tm_up;refine adV (aO.of hf) (n:=i) (by omega) (G' hif) ?_;tm_up;refine adV (aO.of hf) (n:=i) (by omega) (G' hif) ?_;tm_up;refine adV hd (n:=i) (by omega) (G' hid) ?_;tm_up;refine cF ?_;rw[dG];simp
     ·refine aZ (fun h=>?_) (fun h=>?_)
      ·have e:fs≠ds:=fun z=>by
        subst z;exact(K' h) rfl
       rw[Y' e]at q;exact q
      ·have e:fs[i]=ds[i]:=by
        by_cases z:fs[i]=ds[i]
        ·exact z
        ·exact V' (N' z) h
       refine⟨_,rfl,rfl,?_⟩;rw[List.take_succ_eq_append_getElem hif,List.take_succ_eq_append_getElem hid,ht,e]
    ·rintro σ H' ⟨v,rfl,rfl,ht⟩;have e:fs=ds:=by
      have h1:((ds.length:Int)).toNat=ds.length:=by omega
      rw[h1,take_length,<-el,take_length]at ht;exact ht
     rw[N' e]at q;exact q
theorem Z7 {K:Frag}{H:Hp}{a b:Addr}{ys:List V}(ha:aO K H a ys)(hb:aO K H b ys)(hf:∀ v∈ys,∃ x,v=.str x):Deq K H 60 (.ref a) (.ref b):=by
 refine .lst ha hb rfl fun i x y e1 e2=>?_;have e:x=y:=W' (e1.symm.trans e2);subst e;obtain⟨z,rfl⟩:=hf x (X' e1);exact .flat rfl
theorem alo {K:Frag}{H:Hp}{p p2:Addr}{ld:Str}{lt sl:Int}{tn:Bool}(n:Nat)(h1:H p=some (.tup [.str ld,.int lt,.int sl,.bl tn]))(h2:H p2=some (.tup [.str ld,.int lt,.int sl,.bl tn])):Deq K H (n+1) (.ref p) (.ref p2):=by
 refine .tup (ij.of h1) (ij.of h2) rfl fun i x y e1 e2=>?_;have e:x=y:=W' (e1.symm.trans e2);subst e
 match i,e1 with
 |0,e1=>cases e1;exact .flat rfl
 |1,e1=>cases e1;exact .flat rfl
 |2,e1=>cases e1;exact .flat rfl
 |3,e1=>cases e1;exact .flat rfl
 |n+4,e1=>simp at e1
theorem aev {vw:Vw}(w:yt vw)(n:Str):(iu vw n).length<=400:=by
 cases hf:bp vw n with
 |none=>unfold iu;rw[hf];exact Nat.zero_le _
 |some th =>
  cases th with
  |pl ss =>
   rw[yw hf,qI,J'];have:=(w.gd _ _ (cb hf)).1;omega
  |cn ld lt sl tn =>
   obtain⟨⟨ss,Bv⟩,_⟩:=w.ld n ld lt sl tn (cb hf);rw[yx hf (w.find Bv),J',qI,J'];have:=(w.gd _ _ Bv).1;split
   ·rw[J'];omega
   ·omega
theorem aew {vw:Vw}(w:yt vw)(n:Str):(ju vw n).length<=200:=by
 cases hf:bp vw n with
 |none=>unfold ju;rw[hf];exact Nat.zero_le _
 |some th =>
  cases th with
  |pl ss =>
   rw[rf hf];exact(w.gd _ _ (cb hf)).1
  |cn ld lt sl tn =>
   obtain⟨⟨ss,Bv⟩,_⟩:=w.ld n ld lt sl tn (cb hf);rw[rg hf (w.find Bv)];have:=(w.gd _ _ Bv).1;split
   ·rw[J'];exact this
   ·exact this
inductive JL (K:Frag)(c:Cs)(vs:List V)(H:Hp)(Q:VK)(E:XK):Prop
 |mk (x d:Addr) (F:Addr->Prop) (vw:Vw) (ps fs:List Vw) (dE:vs=[.ref x,.ref d]) (dF:BP c H x F vw ps fs) (eQ:Eh H d vw) (jv:∀ H',ao H H'->Q (.bl true) H'):JL K c vs H Q E
theorem JM (T:Txt K w mg t):br P w K mg base fK (0+8) t.j8 t.Ce ["_law_book","_law_voices"] (JL K (cs t)):=by
 have ff:=oH (P:=P) (base:=base) T;have dO:=jR (P:=P) (base:=base) T;have abf:=XC (P:=P) (base:=base) T;have aex:=abe (P:=P) (base:=base) T;have tK:=E2 (P:=P) (base:=base) T;have i5:=wA (P:=P) (base:=base) T;have o9:=wF (P:=P) (base:=base) T;have zj:=E6 (P:=P) (base:=base) T;have kQ:=wD (P:=P) (base:=base) T;refine T.i3.ok sQ (fun vs H Q E h=>?_) (fun cdv A outer s H vs Q E hr h=>?_)
 ·obtain⟨_,_,_,_,_,_,rfl,_⟩:=h;rfl
 ·obtain⟨x,d,F,vw,ps,fs,rfl,B,hd,q⟩:=h;refine aR (ag (aH (i:=2) sQ.nd rfl (Or.inl rfl) (d4 (pv 0) T.aN T.jN ff (hr.mono (by decide)) T.gD .nil au)) (ag (aU (bF (PW.pt (iG (bJ (aX (av bT rfl T.aW aV (aa (pv 2) (aa (cW (v:=.ty "list") rfl T.fG fB rfl) ae))))) (fJ (aw (xK.or (pH (aM hr))) (pv 2) (bH vH rfl T.fG fB (aa (pv 1) ae)) (aG _)))))) (ah (ax de)) aD) (ag (aP (Qs plainAttrs_list PySem.F.slot_list_reverse PySem.F.type_list_reverse WX (pv 2))) (ag (aP (eE plainAttrs_list slot_list_append type_list_append a6 (pv 2) (aa bG ae))) (ag (aU (aw (xK.or (pH (aM hr))) (d4 (pv 0) T.aN T.jN ff (hr.mono (by decide)) T.gD .nil au) (bH vH rfl T.fG fB (aa (pv 1) ae)) (aG _)) (ah (ax de)) aD) (ag (cE PassesOwn.never rfl (cu (bH vH rfl T.fG fB (aa (pv 1) ae))) (aB (i:=3) sQ.nd rfl (Or.inl rfl)) (ag (aP (eE plainAttrs_list slot_list_append type_list_append a6 (bj (pv 0) T.aN T.wq tK (hr.mono (by decide)) T.oT .nil au (aa (pv 3) ae)) (aa aj ae))) (ag (aP (eE plainAttrs_list slot_list_append type_list_append a6 (bj (pv 0) T.aN T.jg i5 (hr.mono (by decide)) T.fZ .nil au (aa (pv 3) ae)) (aa (cV (aa bG (aa aj ae))) ae))) (ag (aU (bJ (aX (aq abf (hr.mono (by decide)) rfl T.Xs T.vk.kp T.G4 .nil au (aa (bj (pv 0) T.aN T.jg i5 (hr.mono (by decide)) T.fZ .nil au (aa (pv 3) ae)) (aa (aq o9 (hr.mono (by decide)) rfl T.wt T.i0.kp T.oU .nil au (aa (pv 1) (aa (pv 3) ae))) ae))))) (ah (ax de)) aD) (ag (aU (bJ (aX (aq aex (hr.mono (by decide)) rfl T.aaU T.y8.kp T.LJ .nil au (aa (bj (pv 0) T.aN T.wq tK (hr.mono (by decide)) T.oT .nil au (aa (pv 3) ae)) (aa (aq zj (hr.mono (by decide)) rfl T.EF T.kO.kp T.tq .nil au (aa (pv 1) (aa (pv 3) ae))) ae))))) (ah (ax de)) aD) (ag (aH (i:=4) sQ.nd rfl (Or.inl rfl) (bj (pv 0) T.aN T.jO dO (hr.mono (by decide)) T.gE .nil au (aa (pv 3) ae))) (ah (aU (aX (av bT rfl T.aW aV (aa (kZ (yi hr) (pv 1) (pv 3) (fun _ _=>rfl)) (aa (cW (v:=.ty "list") rfl T.fG fB rfl) ae)))) (ah (aU (aw Zu (pv 4) BF (aG _)) (ah (ax de)) aD)) (ah (aU (bF (PW.pt (iG (bJ (aX (av bT rfl T.aW aV (aa (pv 4) (aa (cW (v:=.ty "tuple") rfl T.zd ym rfl) ae))))) (iG (aw (xK.or (pH (aM hr))) (av (az.or aA) rfl T.bD bC (aa (pv 4) ae)) aj (aG _)) (fJ (aw (xK.or (pH (aM hr))) (pv 4) (kZ (yi hr) (pv 1) (pv 3) (fun _ _=>rfl)) (aG _))))))) (ah (ax de)) (ah (aU (bF (PW.pt (iG (bJ (aX (aq kQ (hr.mono (by decide)) rfl T.rQ T.ji.kp T.nH .nil au (aa (aT aI (pv 4) aj (fun _ _=>rfl)) ae)))) (iG (bJ (aX (aq kQ (hr.mono (by decide)) rfl T.rQ T.ji.kp T.nH .nil au (aa (aT aI (pv 4) aj (fun _ _=>rfl)) ae)))) (fJ (bJ (aX (av bT rfl T.aW aV (aa (aT aI (pv 4) aj (fun _ _=>rfl)) (aa (cW (v:=.ty "bool") rfl T.ZY ZD rfl) ae)))))))))) (ah (ax de)) aD)))))))))))) (ah (ax de)))))))) ?_;have wv:=B.wv vw (.inr (.inl rfl));have hx:∃ dx L D U,H x=some (.ins t.a7 dx (Ee L D U)):=by
   obtain⟨L,D,U,all,M,Ps,Fs,es,us,b,_⟩:=B.ex;obtain⟨dx,e⟩:=b.hx;exact⟨dx,L,D,U,e⟩
  obtain⟨dx,L,D,U,hx⟩:=hx;have wl:=wv.len;have hstr:∀ v∈vw.map (fun q=>V.str q.1),∃ z,v=.str z:=fun v hv=>by
   obtain⟨q,_,e⟩:=mem_map.mp hv;exact⟨_,e.symm⟩
  refine⟨_,rfl,x,dx,_,rfl,hx,k6 _ _ _,x,F,vw,ps,fs,rfl,B,fun l1 H1 nl1 s1 h1=>?_⟩;obtain⟨kvs,hk,ek⟩:=hd.keys;refine⟨fun b H'=>b=false/\ao H1 H',?_,?_⟩
  ·tm_up;refine⟨_,_,_,_,rfl,eG.lst h1,rfl,_,rfl,cv ?_⟩;refine⟨_,rfl,_,rfl,rfl,d,kvs,rfl,.inl (s1 _ _ hk),fun l2 hl2=>?_⟩;have s2:=ao.upd (o:=.lst (kvs.map fun kv=>kV kv.1)) hl2;have h2:=af (H:=H1) (a:=l2) (o:=.lst (kvs.map fun kv=>kV kv.1));rw[ek]at s2 h2 ⊢;refine .inr ⟨l1,l2,rfl,rfl,Z7 (aO.of (s2 _ _ h1)) (aO.of h2) hstr,?_⟩;exact⟨_,rfl,rfl,s2⟩
  rintro b H2 ⟨rfl,s2⟩;refine cv ?_;have h12:=s2 _ _ h1;refine⟨_,rfl,.inl ⟨rfl,_,aO.of h12⟩,l1,_,rfl,rfl,h12,?_⟩;have s3:ao H (upd H2 l1 (.lst (vw.map fun a=>V.str a.1).reverse)):=cD (s1.trans s2) nl1;have h3:=af (H:=H2) (a:=l1) (o:=.lst (vw.map fun a=>V.str a.1).reverse);generalize upd H2 l1 (.lst (vw.map fun a=>V.str a.1).reverse)=H3 at s3 h3;refine⟨_,rfl,.inl ⟨rfl,_,aO.of h3⟩,l1,_,_,rfl,rfl,h3,aQ (by rw[List.length_reverse,J'];omega),?_⟩;have s4:ao H (upd H3 l1 (.lst ((vw.map fun a=>V.str a.1).reverse++[V.str "x"]))):=cD s3 nl1;generalize upd H3 l1 (.lst ((vw.map fun a=>V.str a.1).reverse++[V.str "x"]))=H4 at s4;refine⟨_,rfl,x,dx,_,rfl,s4 _ _ hx,k6 _ _ _,x,F,vw,ps,fs,rfl,B.same s4,fun l5 H5 nl5 s5 h5=>?_⟩;refine⟨_,rfl,rfl,d,kvs,rfl,.inl (s5 _ _ (s4 _ _ hk)),fun l6 hl6=>?_⟩;have s6:=ao.upd (o:=.lst (kvs.map fun kv=>kV kv.1)) hl6;have h6:=af (H:=H5) (a:=l6) (o:=.lst (kvs.map fun kv=>kV kv.1));rw[ek]at s6 h6 ⊢;refine .inr ⟨l5,l6,rfl,rfl,Z7 (aO.of (s6 _ _ h5)) (aO.of h6) hstr,?_⟩;refine⟨_,rfl,cv ?_⟩;have S6:=(s4.trans s5).trans s6;generalize upd H5 l6 (.lst (vw.map fun q=>V.str q.1))=H6 at S6;refine⟨_,rfl,rfl,d,kvs,rfl,.inl (S6 _ _ hk),fun l7 hl7=>?_⟩;have s7:=ao.upd (o:=.lst (kvs.map fun kv=>kV kv.1)) hl7;have h7:=af (H:=H6) (a:=l7) (o:=.lst (kvs.map fun kv=>kV kv.1));rw[ek]at s7 h7 ⊢;have S7:=S6.trans s7;generalize upd H6 l7 (.lst (vw.map fun q=>V.str q.1))=H7 at S7 h7;refine⟨l7,rfl,⟨_,aO.of h7⟩,gJ (K:=K) (xs:=vw.map fun q=>V.str q.1) (fun i σ H'=>∃(u v:Option V),σ=[some (.ref x),some (.ref d),some (.ref l1),u,v]/\ao H7 H') ⟨none,none,rfl,ao.refl _⟩ ?_ ?_ ?_⟩
  ·rintro i σ H' _ ⟨u,v,rfl,s8⟩;exact aO.of (s8 _ _ h7)
  ·rintro i y σ H8 hy ⟨u,v,rfl,s8⟩;obtain⟨qn,hq,rfl⟩:∃ qn,vw[i]? = some qn/\y=.str qn.1:=by
    rw[getElem?_map]at hy;cases e:vw[i]? with
    |none=>rw[e]at hy;cases hy
    |some z=>rw[e]at hy;exact⟨z,rfl,(W' hy).symm⟩
   obtain⟨n,th⟩:=qn;have hf:=wv.find (X' hq);have kl:=aev wv n;have ll:=aew wv n;have S8:=S7.trans s8;have B8:=B.same S8;have hd8:=hd.same S8;refine⟨_,rfl,x,dx,_,rfl,S8 _ _ hx,yq _ _ _,_,rfl,x,F,vw,ps,fs,n,rfl,B8,?_⟩;rw[hf];intro k1 H9 nk1 s9 hk1;refine⟨.inl ⟨rfl,_,aO.of hk1⟩,k1,_,_,rfl,rfl,hk1,aQ (by rw[J'];omega),?_⟩;have P0:ao H8 (upd H9 k1 (.lst ((iu vw n).map V.int++[V.int 7]))):=cD s9 nk1;generalize upd H9 k1 (.lst ((iu vw n).map V.int++[V.int 7]))=H10 at P0;have B10:=B8.same P0;refine⟨_,rfl,x,dx,_,rfl,P0 _ _ (S8 _ _ hx),ko _ _ _,_,rfl,x,F,vw,ps,fs,n,rfl,B10,?_⟩;rw[hf];intro l11 alr UI anT s11 h11 g11;have y11:=bh g11;refine⟨.inl ⟨rfl,_,aO.of h11⟩,(by show 2<=sizeLine;decide),fun tp htp=>?_⟩;have st:=ao.upd (o:=.tup [V.str "R",V.int 0]) htp;refine⟨l11,_,_,rfl,rfl,st _ _ h11,aQ (by omega),?_⟩;have s12:ao H10 (upd (upd UI tp (.tup [V.str "R",V.int 0])) l11 (.lst (alr++[.ref tp]))):=cD (s11.trans st) anT;generalize upd (upd UI tp (.tup [V.str "R",V.int 0])) l11 (.lst (alr++[.ref tp]))=H12 at s12;have S12:=P0.trans s12;have B12:=B8.same S12;have anU:=hd8.same S12;refine⟨_,rfl,x,dx,_,rfl,S12 _ _ (S8 _ _ hx),ko _ _ _,_,rfl,x,F,vw,ps,fs,n,rfl,B12,?_⟩;rw[hf];intro l13 ajc H13 aq4 s13 h13 g13;refine⟨_,rfl,_,rfl,d,vw,n,th,rfl,anU.same s13,wv,hf,fun l14 anV H14 s14 h14 g14=>?_⟩;refine⟨l13,l14,ajc,anV,ju vw n,rfl,s14 _ _ h13,aO.of h14,g13.same s14,g14,fun H15 s15=>?_⟩;refine⟨_,rfl,cv ?_⟩;have S15:=((S12.trans s13).trans s14).trans s15;have B15:=B8.same S15;refine⟨_,rfl,x,dx,_,rfl,S15 _ _ (S8 _ _ hx),yq _ _ _,_,rfl,x,F,vw,ps,fs,n,rfl,B15,?_⟩;rw[hf];intro k16 H16 aq8 s16 h16;refine⟨_,rfl,_,rfl,d,vw,n,th,rfl,(hd8.same S15).same s16,wv,hf,fun l17 H17 s17 h17=>?_⟩;refine⟨k16,l17,iu vw n,iu vw n,rfl,s17 _ _ h16,aO.of h17,by omega,?_⟩;rw[N' rfl];refine⟨_,rfl,cv ?_⟩;have S17:=(S15.trans s16).trans s17;have B17:=B8.same S17;have anW:=hd8.same S17;have fin:∀{u v:Option V},∃(u' v':Option V),[some (V.ref x),some (V.ref d),some (V.ref l1),u,v]=[some (V.ref x),some (V.ref d),some (V.ref l1),u',v']/\ao H7 H17:=⟨_,_,rfl,s8.trans S17⟩;obtain⟨v18,ajd,als⟩:=anW.get hf;refine⟨_,rfl,x,dx,_,rfl,S17 _ _ (S8 _ _ hx),k8 _ _ _,_,rfl,x,F,vw,ps,fs,n,rfl,B17,?_⟩;rw[hf];cases th with
   |pl ss =>
    obtain⟨l0,VL,rfl,h0,_⟩:=als;refine⟨_,rfl,_,rfl,d,_,rfl,ajd,?_⟩;refine⟨_,_,_,_,rfl,eG.lst h0,rfl,_,rfl,pG ?_⟩;refine⟨_,rfl,rfl,_,rfl,?_⟩;exact aZ (fun h=>V' h (by decide)) (fun _=>fin)
   |cn ld lt sl tn =>
    intro p hp;obtain⟨p2,rfl,hp2⟩:=als;refine⟨_,rfl,_,rfl,d,_,rfl,ajd,?_⟩;refine⟨_,_,_,_,rfl,eG.tup hp2,rfl,_,rfl,cv ?_⟩;refine⟨fun b H'=>b=false/\H'=H17,?_,?_⟩
    ·tm_up;refine⟨_,_,_,_,rfl,eG.tup hp,rfl,_,rfl,cv ?_⟩;refine⟨_,rfl,.inl ⟨p,_,rfl,.inr (ij.of hp),?_⟩⟩;refine .inl ⟨rfl,_,rfl,cv ?_⟩;refine⟨_,rfl,_,rfl,_,rfl,d,_,rfl,ajd,.inr ⟨p,p2,rfl,rfl,alo 59 hp hp2,?_⟩⟩;exact⟨_,rfl,rfl,rfl⟩
    intro b H18 ⟨e1,e2⟩;rw[e1,e2];refine cv ?_;refine⟨fun b H'=>b=false/\H'=H17,?_,?_⟩
    ·refine⟨_,rfl,Hb (i:=1) hp rfl ⟨lt,rfl,_,rfl,cv ?_⟩⟩;refine⟨_,rfl,Hb (i:=2) hp rfl ⟨sl,rfl,_,rfl,cv ?_⟩⟩;refine⟨_,rfl,Hb (i:=3) hp rfl ?_⟩;exact⟨_,_,_,_,rfl,eG.bl _,rfl,_,rfl,rfl,rfl⟩
    intro b H18 ⟨e1,e2⟩;rw[e1,e2];refine cv ?_;exact fin
  ·rintro σ H' ⟨u,v,rfl,s8⟩;exact q _ (S7.trans s8)
theorem Bw.fresh {c:Cs}{H0 H H':Hp}{x:Addr}{vw:Vw}{ps fs:List Vw}(h:Bw c H0 H x [] vw ps fs)(s:ao H H'):∃ H1,Bw c H1 H' x [] vw ps fs/\ao H0 H1/\(∀ y o,H' y=some o->H y=none->H1 y=some o)/\(∀ y o,H' y=some o->(∀ xs,o≠.lst xs)->H1 y=some o):=by
 obtain⟨F,b,hF,h0,ho⟩:=h.ex
 classical
 refine⟨fun y=>if F y then none else H' y,⟨⟨F,b.same s,fun y z=>let ⟨xs,e⟩:=hF y z;⟨xs,s _ _ e⟩,fun y hy=>if_pos hy,fun a ha=>nomatch ha⟩,fun y o e=>?_⟩,fun y o e=>?_,fun y o e n=>?_,fun y o e k=>?_⟩
 ·have e:(if F y then none else H' y)=some o:=e
  by_cases hy:F y
  ·rw[if_pos hy]at e;exact nomatch e
  ·rwa [if_neg hy]at e
 ·show(if F y then none else H' y)=some o;rw[if_neg (fun hy=>by rw[h0 y hy]at e;exact nomatch e)];exact s _ _ (h.sm _ _ e)
 ·show(if F y then none else H' y)=some o;rw[if_neg ?_,e];intro hy;obtain⟨xs,q⟩:=hF y hy;rw[n]at q;exact nomatch q
 ·show(if F y then none else H' y)=some o;rw[if_neg ?_,e];intro hy;obtain⟨xs,q⟩:=hF y hy;rw[s _ _ q]at e;exact k xs (W' e).symm
noncomputable def TvB (B H:Hp)(y:V)(q:Str×Th):Prop:=∃ p v,y=.ref p/\H p=some (.tup [.str q.1,v])/\ThV B v q.2
theorem TvB.same {B H H':Hp}(s:ao H H'){y:V}{q:Str×Th}(h:TvB B H y q):TvB B H' y q:=by
 obtain⟨p,v,e1,e2,e3⟩:=h;exact⟨p,v,e1,s _ _ e2,e3⟩
theorem TvB.write {B H:Hp}{l:Addr}{xs:List V}{o:HO}(hl:H l=some (.lst xs)){y:V}{q:Str×Th}(h:TvB B H y q):TvB B (upd H l o) y q:=by
 obtain⟨p,v,e1,e2,e3⟩:=h;exact⟨p,v,e1,by rw[ak (fun e=>by rw[e,hl]at e2;exact nomatch e2)];exact e2,e3⟩
theorem P5 {B H:Hp}:∀{ys:List V} {vw:Vw},Paired (TvB B H) ys vw->∃ kvs:List (Key×V),Paired (fun y kv=>∃ q,y=.ref q/\H q=some (.tup [kV kv.1,kv.2])) ys kvs/\Paired (Vl B) kvs vw
 |_,_,.nil=>⟨[],.nil,.nil⟩
 |_,_,.cons ⟨p,v,e1,e2,e3⟩ t=>by
  obtain⟨kvs,h1,h2⟩:=P5 t;exact⟨(Sum.inr _,v)::kvs,.cons ⟨p,e1,e2⟩ h1,.cons ⟨rfl,e3⟩ h2⟩
inductive rW (K:Frag)(c:Cs)(vs:List V)(H:Hp)(Q:VK)(E:XK):Prop
 |mk (a x tl:Addr) (ns:List Int) (H0:Hp) (vw:Vw) (ps fs:List Vw) (dE:vs=[.ref a,.ref x,.ref tl]) (dF:aO K H0 a (ns.map V.int)) (eQ:ns.length<=63) (jv:Bw c H0 H x [] vw ps fs) (pE:lj H0 tl vw) (Pa:Ej vw) (h6_:ps.length<=800) (h7_:∀(H':Hp)(fs':List Vw),Bw c H0 H' x [] vw ps fs'->fs'.length<=fs.length+1->Q (.bl true) H'):rW K c vs H Q E
theorem Cw (T:Txt K w mg t):br P w K mg base fK (0+11) t.cL t.lC ["_law_script","_law_book","_law_told"] (rW K (cs t)):=by
 have Ry:=Og (P:=P) (base:=base) T;have tG:=qE (P:=P) (base:=base) T;have i6:=wz (P:=P) (base:=base) T;have zk:=ER (P:=P) (base:=base) T;have nP:=Mc (P:=P) (base:=base) T;have bc:=lQ (P:=P) (base:=base) T;have rX:=JM (P:=P) (base:=base) T;refine T.eZ.ok gw (fun vs H Q E h=>?_) (fun cdv A outer s H vs Q E hr h=>?_)
 ·obtain⟨_,_,_,_,_,_,_,_,rfl,_⟩:=h;rfl
 ·obtain⟨a,x,tl,ns,H0,vw,ps,fs,rfl,hS,hl,B,⟨ys,ht,Rz⟩,ek,pl,q⟩:=h;refine aR (ag (afU 4 ["_law_script","_law_book","_law_told","_law_plain","","_law_line_here","_law_voices"] (vG (i:=3) x6 rfl rfl (cn:=["_law_name","_law_thing"]) rfl (bY.of rfl) (cu (pv 2)) (fun _=>(dA rfl (aK (aB (i:=0) mS rfl (Or.inl rfl)) (aK (aB (i:=1) mS rfl (Or.inl rfl)) cq)))) (fun _=>(aid (aX (av bT rfl T.aW aV (aa (pv 1) (aa (cW (v:=.ty "list") rfl T.fG fB rfl) ae)))))) (fun _=>(pv 0)))) (ag (aU (aw (Gy (aM hr)) (pv 3) (bq ae) (aG _)) (ah (ax de)) aD) (ag (aH (i:=4) gw.nd rfl (Or.inr rfl) (aT aI (pv 3) (aJ cG (aq bc (hr.mono (by decide)) rfl T.bB T.ba.kp T.bA .nil au (aa (pv 0) (aa aj ae))) (av (az.or aA) rfl T.bD bC (aa (pv 3) ae))) (fun _ _=>rfl))) (ag (aH (i:=5) gw.nd rfl (Or.inr rfl) (aq Ry (hr.mono (by decide)) rfl T.N9 T.lK.kp T.we .nil au (aa (pv 0) (aa (pv 1) (aa (pv 4) (aa (kZ (yi hr) (bH gk rfl T.qC qu (aa (pv 2) ae)) (pv 4) (fun _ _=>rfl)) ae)))))) (ag (aH (i:=6) gw.nd rfl (Or.inl rfl) (bH gk rfl T.qC qu (aa (kY (cn:=["_law_one","_law_thing"]) rfl (bY.of rfl) (cu (pv 2)) (fun _=>(dA rfl (aK (aB (i:=0) mT rfl (Or.inl rfl)) (aK (aB (i:=1) mT rfl (Or.inl rfl)) cq)))) (fun _=>j0) (fun _=>(cV (aa (pv 0) (aa (dJ (gI (aw (bQ.or (bo (aM hr))) (pv 0) (pv 6) (aG _)) (pv 7) (pv 1))) ae))))) ae))) (ag (aU (bF (PW.pt (iG (bJ (aX (aq nP (hr.mono (by decide)) rfl T.nI T.gS.kp T.kP .nil au (aa (pv 0) (aa (pv 1) (aa (pv 6) ae)))))) (fJ (bJ (aX (aq rX (hr.mono (by decide)) rfl T.tw T.i3.kp T.nJ .nil au (aa (pv 1) (aa (pv 6) ae))))))))) (ah (ax de)) aD) (ag (aP (d4 (pv 1) T.aN T.lH i6 (hr.mono (by decide)) T.iY .nil au)) (ag (aU (bJ (aX (aq nP (hr.mono (by decide)) rfl T.nI T.gS.kp T.kP .nil au (aa (pv 0) (aa (pv 1) (aa (bH gk rfl T.qC qu (aa (pv 2) ae)) ae)))))) (ah (ax de)) aD) (ag (aP (d4 (pv 1) T.aN T.Ex zk (hr.mono (by decide)) T.sY .nil au)) (ag (aU (bJ (aX (aq nP (hr.mono (by decide)) rfl T.nI T.gS.kp T.kP .nil au (aa (pv 0) (aa (pv 1) (aa (pv 6) ae)))))) (ah (ax de)) aD) (ag (aP (d4 (pv 1) T.aN T.lH i6 (hr.mono (by decide)) T.iY .nil au)) (ah (ax (aq nP (hr.mono (by decide)) rfl T.nI T.gS.kp T.kP .nil au (aa (pv 0) (aa (pv 1) (aa (bH gk rfl T.qC qu (aa (pv 2) ae)) ae))))))))))))))))) ?_;have yl:=bh Rz;have wl:=ek.w.len;refine⟨rfl,_,rfl,tl,rfl,⟨_,aO.of (B.sm _ _ ht)⟩,fun D b hD=>?_⟩;refine eJ (K:=K) (xs:=ys) (fun i zs σ H'=>∃(u v:Option V)(Z8:List Str),σ=[u,v,some (.ref a),some (.ref x),some (.ref tl),none,none,none,none]/\ao H H'/\H' D=some (.lst zs)/\zs=Z8.map V.str/\Z8.length<=i/\i<=vw.length/\∀ m∈Z8,∃ ss,(m,Th.pl ss)∈vw)
   ⟨none,none,[],rfl,ao.upd hD,af,rfl,R' _,Nat.zero_le _,fun _ h=>nomatch h⟩ ?_ ?_ ?_
  ·rintro i zs σ H' ⟨u,v,Z8,rfl,s2,_⟩;exact aO.of (s2 _ _ (B.sm _ _ ht))
  ·rintro i zs y σ H' hy ⟨u,v,Z8,rfl,s2,ui,rfl,pl2,il,hpn⟩ N hN;obtain⟨⟨n,th⟩,hq,p,w0,rfl,hp,hv⟩:=j3 Rz hy;have NX:i<vw.length:=(C'.mp hq).1;unfold D9;refine⟨p,_,rfl,ij.of (s2 _ _ (B.sm _ _ hp)),rfl,_,_,rfl,_,_,rfl,rfl,?_⟩;cases th with
   |pl ss =>
    obtain⟨l,ls,rfl,hl1,_⟩:=hv;tm_up;refine⟨_,_,_,_,rfl,eG.lst (s2 _ _ (B.sm _ _ hl1)),rfl,_,rfl,pG ?_⟩;refine⟨_,rfl,ui,aQ (by rw[J'];omega),hN _ _ _ ⟨_,_,Z8++[n],rfl,cD s2 hD,af,by rw[map_append];rfl,by rw[T'];show _+1<=_;omega,NX,fun m hm=>?_⟩⟩;rcases mem_append.mp hm with hm|hm
    ·exact hpn m hm
    ·rw[mem_singleton.mp hm];exact⟨ss,X' hq⟩
   |cn ld lt sl tn =>
    obtain⟨tp,rfl,hl1⟩:=hv;tm_up;refine⟨_,_,_,_,rfl,eG.tup (s2 _ _ (B.sm _ _ hl1)),rfl,_,rfl,cv ?_⟩;exact hN _ _ _ ⟨_,_,Z8,rfl,s2,ui,rfl,by omega,NX,hpn⟩
  ·rintro zs σ H1 ⟨u,v,Z8,rfl,s1,ui,rfl,pl2,il,hpn⟩;have B1:=B.same s1;refine⟨rfl,?_⟩;refine⟨_,rfl,big (by show 0<=1000;omega),fun e0 ZZ=>?_⟩;have s2:=ao.upd (o:=.lst []) ZZ;have h2:=af (H:=H1) (a:=e0) (o:=.lst []);generalize upd H1 e0 (.lst [])=H2 at s2 h2;have hD2:=s2 _ _ ui;have B2:=B1.same s2;refine⟨D,e0,Z8.map V.str,rfl,rfl,aO.of hD2,aO.of h2,_,rfl,?_⟩;refine aZ (fun hem=>?_) (fun hem=>?_)
   ·exact q _ fs B2 (Nat.le_succ _)
   have pn0:0<Z8.length:=by
    cases Z8 with
    |nil=>exact V' rfl hem
    |cons _ _=>exact Nat.succ_pos _
   tm_up;refine⟨a,ns,7,rfl,B2.sm.seq hS,hl,?_⟩;refine⟨_,rfl,.inl ⟨D,_,rfl,.inl (aO.of hD2),?_⟩⟩;obtain⟨k,hkI,hk⟩:=N4 (gf ns 7) (k:=(Z8.length:Int)) (by omega);refine⟨_,_,rfl,rfl,by rw[J'];show(0:Int)<Z8.length;omega,?_⟩;obtain⟨n,hn⟩:∃ n,Z8[k]? = some n:=⟨_,G' (by omega)⟩;obtain⟨ss,hss⟩:=hpn n (X' hn);have hf:=ek.w.find hss;refine QI (aO.of hD2) (n:=k) (by rw[J'];exact hkI) (by rw[getElem?_map,hn];rfl) ?_;tm_up;obtain⟨kvs,k1,k2⟩:=BQ Rz;have kl:=bh k2;have knd:=Lh k2 ek.w.nd;obtain⟨v,hval,hv⟩:=ad4 k2 hf;obtain⟨l,ls,rfl,hl0,gl0⟩:=hv;refine⟨rfl,tl,ys,kvs,rfl,aO.of (B2.sm _ _ ht),aY (fun _ _ ⟨q,e1,e2⟩=>⟨q,e1,B2.sm _ _ e2⟩) k1,by omega,fun d hd=>?_⟩;rw[vO kvs [] (by simpa using knd)];have s3:=ao.upd (o:=.dK kvs) hd;have h3:=af (H:=H2) (a:=d) (o:=.dK kvs);rw[nil_append];generalize upd H2 d (.dK kvs)=H3 at s3 h3;have B3:=B2.same s3;refine⟨_,rfl,d,.ref l,rfl,.inl ⟨kvs,Sum.inr n,.inl h3,rfl,hval.symm⟩,?_⟩;have ssl:=ek.sh n ss hss;refine⟨a,x,l,n,ns,ls,ss,H0,vw,ps,fs,rfl,hS,hl,B3,hl0,gl0,hf,ssl,by omega,fun l4 ys4 ss4 H4 B4 h4 g4 agh gd4=>?_⟩;obtain⟨H0',B4',s00,kp4⟩:=B4.rebase;have h40:=kp4 _ _ h4 (.inr (List.mem_singleton_self _));have g40:iq H0' ys4 ss4:=kp4.sgs g4;have alu:=s00 _ _ ht;tm_up;refine⟨⟨_,aO.of (B4'.sm _ _ alu)⟩,fun D2 b2 hD2=>?_⟩;refine eJ (K:=K) (xs:=ys) (fun i zs σ H'=>∃(u v:Option V),σ=[u,v,some (.ref a),some (.ref x),some (.ref tl),some (.ref D),some (.str n),some (.ref l4),none]/\ao H4 H'/\H' D2=some (.lst zs)/\Paired (TvB H0' H') zs ((uO vw n (.pl ss4)).take i)/\i<=vw.length)
    ⟨none,none,rfl,ao.upd hD2,af,.nil,Nat.zero_le _⟩ ?_ ?_ ?_
   ·rintro i zs σ H' ⟨u,v,rfl,s5,_⟩;exact aO.of (s5 _ _ (B4'.sm _ _ alu))
   ·rintro i zs y σ H5 hy ⟨u,v,rfl,s5,hD5,pv5,il5⟩ N hN;obtain⟨⟨m,th⟩,hq,p,w0,rfl,hp,hv⟩:=j3 Rz hy;have il6:i<vw.length:=(C'.mp hq).1;have hp5:=s5 _ _ (B4'.sm _ _ (s00 _ _ hp));have zl5:=bh pv5;rw[length_take]at zl5;have eq6:(uO vw n (.pl ss4))[i]? = some (m,if m=n then Th.pl ss4 else th):=by
     unfold uO;rw[getElem?_map,hq];show some (if m=n then(n,Th.pl ss4) else(m,th))=_
     by_cases e:m=n
     ·rw[if_pos e,if_pos e,e]
     ·rw[if_neg e,if_neg e]
    unfold D9;refine⟨p,_,rfl,ij.of hp5,rfl,_,_,rfl,_,_,rfl,rfl,?_⟩;tm_up;refine⟨fun vv H'=>H'=H5/\ThV H0' vv (if m=n then Th.pl ss4 else th),?_,?_⟩
    ·tm_up;refine aZ (fun he=>?_) (fun he=>?_)
     ·have e:m=n:=by injection (K' he)
      refine⟨_,rfl,rfl,?_⟩;rw[if_pos e];exact⟨l4,ys4,rfl,h40,g40⟩
     ·have e:m≠n:=fun e=>he (N' (by rw[e]));refine⟨_,rfl,rfl,?_⟩;rw[if_neg e];exact hv.same s00
    rintro vv H6 ⟨e6,hvv⟩;rw[e6];clear e6 H6;refine⟨big (by show 2<=1000;omega),fun p7 hp7=>?_⟩;have st:=ao.upd (o:=.tup [V.str m,vv]) hp7;refine⟨st _ _ hD5,aQ (by omega),hN _ _ _ ⟨_,_,rfl,cD (s5.trans st) hD2,af,?_,il6⟩⟩;rw[take_succ,eq6];exact aY (fun _ _ q=>TvB.write (st _ _ hD5) q) (fL (aY (fun _ _ q=>TvB.same st q) pv5) ⟨p7,vv,rfl,af,hvv⟩)
   ·rintro zs σ H5 ⟨u,v,rfl,s5,hD5,pv5,_⟩;have vl5:(uO vw n (.pl ss4)).length=vw.length:=by unfold uO;rw[J']
    rw[yl,<-vl5,take_length]at pv5;obtain⟨abg,j1,j2⟩:=P5 pv5;have kl5:=bh j2;have an0:=Lh j2 (by rw[BO];exact ek.w.nd);refine⟨rfl,D2,zs,abg,rfl,aO.of hD5,j1,by omega,fun d5 hd5=>?_⟩;rw[vO abg [] (by simpa using an0),nil_append];have s6:=ao.upd (o:=.dK abg) hd5;have h6:=af (H:=H5) (a:=d5) (o:=.dK abg);generalize upd H5 d5 (.dK abg)=H6 at s6 h6;obtain⟨H1,B6,WG,fr1,fr2⟩:=B4'.fresh (s5.trans s6);have dv:Eh H1 d5 (uO vw n (.pl ss4)):=⟨abg,fr2 _ _ h6 (fun _ z=>nomatch z),aY (fun _ _ q=>q.same WG) j2⟩;have tld:lj H1 tl vw:=lj.same (s00.trans WG) ⟨ys,ht,Rz⟩;have hS1:=(s00.trans WG).seq hS;refine⟨fun b H'=>b=false/\ao H6 H',?_,?_⟩
    ·obtain⟨F6,b6,_⟩:=B6.ex;tm_up;refine⟨a,x,d5,ns,F6,_,_,_,rfl,B6.sm.seq hS1,hl,b6,dv.same B6.sm,fun H7 s7=>⟨_,rfl,cv ?_⟩⟩;have B7:=B6.same s7;obtain⟨F7,b7,_⟩:=B7.ex;tm_up;exact⟨x,d5,F7,_,_,_,rfl,b7,dv.same B7.sm,fun H8 s8=>⟨_,rfl,rfl,s7.trans s8⟩⟩
    rintro _ H7 ⟨rfl,s7⟩;refine cv ?_;have B7:=B6.same s7;obtain⟨dx7,L7,D7,U7,hx7⟩:=B7.hx;obtain⟨F7,b7,f7,z7,o7⟩:=B7.ex;refine⟨_,rfl,x,dx7,_,rfl,hx7,oK _ _ _,?_⟩;refine⟨x,F7,_,_,[],rfl,b7,by rw[T'];show ps.length+1+0<=900;omega,(fun z=>by simp at z),fun Jw v0 e0 H8 fr8 b8=>?_⟩;obtain⟨e01,e02⟩:=lh e0;subst e01 e02;obtain⟨B8,_⟩:=Bw.mk' b8 B7.sm f7 z7 o7 (Gr.refl _ _) fr8;obtain⟨zs8,alv,hz8,pk8,kl8,dk8⟩:=(tld.same B8.sm).dict ek.w.nd;tm_up;refine⟨rfl,tl,zs8,alv,rfl,aO.of hz8,pk8,by omega,fun d8 hd8=>?_⟩;obtain⟨s9,d9⟩:=dk8 d8 hd8;generalize upd H8 d8 (.dK (iJ [] alv))=H9 at s9 d9;have B9:=B8.same s9;obtain⟨F9,b9,_⟩:=B9.ex;refine⟨a,x,d8,ns,F9,_,_,_,rfl,B9.sm.seq hS1,hl,b9,d9,fun H10 P0=>⟨_,rfl,cv ?_⟩⟩;have B10:=B9.same P0;obtain⟨an1,L10,D10,U10,an2⟩:=B10.hx;obtain⟨F10,b10,f10,z10,o10⟩:=B10.ex;refine⟨_,rfl,x,an1,_,rfl,an2,Jv _ _ _,?_⟩;refine⟨x,F10,_,_,_,rfl,b10,by show _+1<=900;omega,(fun z=>by simp at z),fun fs0 v0 e0 UI Rl b11=>?_⟩;obtain⟨e01,e02⟩:=lh e0;subst e01 e02;obtain⟨B11,_⟩:=Bw.mk' b11 B10.sm f10 z10 o10 (Gr.refl _ _) Rl;obtain⟨F11,an3,_⟩:=B11.ex;tm_up;refine⟨a,x,d5,ns,F11,_,_,_,rfl,B11.sm.seq hS1,hl,an3,dv.same B11.sm,fun H12 s12=>⟨_,rfl,cv ?_⟩⟩;have B12:=B11.same s12;obtain⟨an4,L12,D12,U12,an5⟩:=B12.hx;obtain⟨F12,b12,f12,z12,o12⟩:=B12.ex;refine⟨_,rfl,x,an4,_,rfl,an5,oK _ _ _,?_⟩;refine⟨x,F12,_,_,_,rfl,b12,by rw[T'];show _+1+0<=900;omega,(fun z=>by simp at z),fun ps1 v1 e1 H13 an6 b13=>?_⟩;obtain⟨e11,e12⟩:=lh e1;subst e11 e12;obtain⟨B13,_⟩:=Bw.mk' b13 B12.sm f12 z12 o12 (Gr.refl _ _) an6;obtain⟨an7,ahM,an8,an9,arF,aoa⟩:=(tld.same B13.sm).dict ek.w.nd;tm_up;refine⟨rfl,tl,an7,ahM,rfl,aO.of an8,an9,by omega,fun d13 aoc=>?_⟩;obtain⟨s14,d14⟩:=aoa d13 aoc;generalize upd H13 d13 (.dK (iJ [] ahM))=H14 at s14 d14;have B14:=B13.same s14;obtain⟨F14,b14,f14,z14,o14⟩:=B14.ex;refine⟨a,x,d13,ns,F14,_,_,_,rfl,B14.sm.seq hS1,hl,b14,d14,fun H15 s15=>?_⟩;have B15:=B14.same s15;obtain⟨F15,b15,f15,z15,o15⟩:=B15.ex;have s0H:ao H0 H1:=s00.trans WG;exact q H15 _ ⟨⟨F15,b15,f15,fun y hy=>s0H.free (z15 y hy),o15⟩,s0H.trans B15.sm⟩ (by show 1<=fs.length+1;omega)
theorem Me (vw:Vw)(n:Str):gq (vw++[(n,.pl [])])=vw:=by
 unfold gq;rw[List.getLast?_concat];show(if([]:List Sg)=[] then _ else _)=_;rw[if_pos rfl,List.dropLast_concat]
theorem P6 (vw:Vw)(n ld:Str)(lt sl:Int)(tn:Bool):gq (vw++[(n,.cn ld lt sl tn)])=vw:=by
 unfold gq;rw[List.getLast?_concat];exact List.dropLast_concat
theorem abh (vw:Vw)(n:Str){ss:List Sg}{j:Nat}{s:Sg}(h:ss[j]? = some s):gq (vw++[(n,.pl (ss.take (j+1)))])=vw++[(n,.pl (ss.take j))]:=by
 have e:ss.take (j+1)=ss.take j++[s]:=by rw[take_succ,h];rfl
 unfold gq;rw[List.getLast?_concat,e];show(if ss.take j++[s]=[] then _ else _)=_;rw[if_neg (by simp),List.dropLast_concat,List.dropLast_concat]
theorem XD (vw:Vw)(n:Str){ss:List Sg}(h:ss≠[]):gq (vw++[(n,.pl ss)])=vw++[(n,.pl ss.dropLast)]:=by
 unfold gq;rw[List.getLast?_concat];show(if ss=[] then _ else _)=_;rw[if_neg h,List.dropLast_concat]
theorem RA {α β:Type}{F:α->β->Prop}:∀{ys:List α} {vs:List β} {q:β},Paired F ys (vs++[q])->∃ VL y,ys=VL++[y]/\Paired F VL vs/\F y q
 |_,[],_,.cons r .nil=>⟨[],_,rfl,.nil,r⟩
 |_,_::vs,_,.cons r t=>by
  obtain⟨VL,y,rfl,h1,h2⟩:=RA t;exact⟨_::VL,y,rfl,.cons r h1,h2⟩
theorem Z9 (xs:List V)(v:V):BG (xs++[v]) none (some (-1))=xs:=by
 unfold BG;have e:HT.mN (xs++[v]).length (xs++[v]).length (some (-1))=xs.length:=by
  rw[T'];show HT.mN (xs.length+1) (xs.length+1) (some (-1))=xs.length;unfold HT.mN
  first|omega|(simp;omega)|(split <;> omega)
 rw[HT.KR,e,Nat.sub_zero,List.drop_zero,List.take_left'];rfl
inductive zm (K:Frag)(c:Cs)(vs:List V)(H:Hp)(Q:VK)(E:XK):Prop
 |mk (a x tl:Addr) (ns:List Int) (H0:Hp) (vw:Vw) (ps:List Vw) (dE:vs=[.ref a,.ref x,.ref tl]) (dF:aO K H0 a (ns.map V.int)) (eQ:ns.length<=63) (jv:Bw c H0 H x [] vw ps (if vw.length<12 then [Rk vw] else [])) (pE:lj H0 tl vw) (Pa:Ej vw) (h6_:ps.length<=400) (h7_:(vw≠[]->∃ Jw,ps=Jw++[gq vw])) (h8_:∀ H',Q (.bl true) H'):zm K c vs H Q E
theorem Mf (T:Txt K w mg t):br P w K mg base fK (0+12) t.fo t.ue ["_law_script","_law_book","_law_told"] (zm K (cs t)):=by
 have tG:=qE (P:=P) (base:=base) T;have i6:=wz (P:=P) (base:=base) T;have zk:=ER (P:=P) (base:=base) T;have E8:=Cw (P:=P) (base:=base) T;have nP:=Mc (P:=P) (base:=base) T;have rX:=JM (P:=P) (base:=base) T;have ff:=oH (P:=P) (base:=base) T;refine T.jQ.ok rk (fun vs H Q E h=>?_) (fun cdv A outer s H vs Q E hr h=>?_)
 ·obtain⟨_,_,_,_,_,_,_,rfl,_⟩:=h;rfl
 ·obtain⟨a,x,tl,ns,H0,vw,ps,rfl,hS,hl,B,tld,ek,pl,bf,q⟩:=h;refine aR (ag (aU (bF (PW.pt (iG (bJ (aX (aq nP (hr.mono (by decide)) rfl T.nI T.gS.kp T.kP .nil au (aa (pv 0) (aa (pv 1) (aa (bH gk rfl T.qC qu (aa (pv 2) ae)) ae)))))) (fJ (bJ (aX (aq rX (hr.mono (by decide)) rfl T.tw T.i3.kp T.nJ .nil au (aa (pv 1) (aa (bH gk rfl T.qC qu (aa (pv 2) ae)) ae))))))))) (ah (ax de)) aD) (ag (jx (aU (aw mR (av (az.or aA) rfl T.bD bC (aa (pv 2) ae)) aj (aG _)) (ag (aP (d4 (pv 1) T.aN T.Ex zk (hr.mono (by decide)) T.sY .nil au)) (ag (aU (bJ (aX (aq rX (hr.mono (by decide)) rfl T.tw T.i3.kp T.nJ .nil au (aa (pv 1) (aa (bH gk rfl T.qC qu (aa (aJ (a8.or (aE.or a9)) (pv 2) (bq (aa (cV (aa bG (aa (bq ae) ae))) ae))) ae)) ae))))) (ah (ax de)) aD) (ah (aP (d4 (pv 1) T.aN T.lH i6 (hr.mono (by decide)) T.iY .nil au))))) aD)) (ag (aU (bJ (aX (aq E8 (hr.mono (by decide)) rfl T.Ck T.eZ.kp T.lP .nil au (aa (pv 0) (aa (pv 1) (aa (pv 2) ae)))))) (ah (ax de)) aD) (ag (aU (aw (Gy (aM hr)) (pv 2) (bq ae) (aG _)) (ah (ax (cC (Gy (aM hr)) (d4 (pv 1) T.aN T.jN ff (hr.mono (by decide)) T.gD .nil au) (bq ae) (aG _)))) aD) (ag (aH (i:=3) rk.nd rfl (Or.inl rfl) (iI (kX.or (qW.or qX)) (pv 2) kW (gh (Jo yf aj)))) (ag (jx (aU (bF (PW.pt (cU (aX (av bT rfl T.aW aV (aa (aT aI (aT aI (pv 2) (Jo yf aj) (fun _ _=>rfl)) aj (fun _ _=>rfl)) (aa (cW (v:=.ty "list") rfl T.fG fB rfl) ae)))) (dn (aw (ais (aM hr)) (aT aI (aT aI (pv 2) (Jo yf aj) (fun _ _=>rfl)) aj (fun _ _=>rfl)) (bq ae) (aG _)))))) (ah (aH (i:=3) rk.nd rfl (Or.inl rfl) (aJ (a8.or (aE.or a9)) (pv 3) (bq (aa (cV (aa (aT aI (aT aI (pv 2) (Jo yf aj) (fun _ _=>rfl)) aj (fun _ _=>rfl)) (aa (iI (kX.or (qW.or qX)) (aT aI (aT aI (pv 2) (Jo yf aj) (fun _ _=>rfl)) aj (fun _ _=>rfl)) kW (gh (Jo yf aj))) ae))) ae))))) aD)) (ag (aP (d4 (pv 1) T.aN T.lH i6 (hr.mono (by decide)) T.iY .nil au)) (ah (ax (dJ (pB (aq nP (hr.mono (by decide)) rfl T.nI T.gS.kp T.kP .nil au (aa (pv 0) (aa (pv 1) (aa (bH gk rfl T.qC qu (aa (pv 3) ae)) ae)))) (pA (aq rX (hr.mono (by decide)) rfl T.tw T.i3.kp T.nJ .nil au (aa (pv 1) (aa (bH gk rfl T.qC qu (aa (pv 3) ae)) ae))))))))))))))) ?_;have wl:=ek.w.len;refine⟨fun b H'=>b=false/\ao H H',?_,?_⟩
  ·tm_up;obtain⟨ys,kvs,ht,pk,kl,dk⟩:=(tld.same B.sm).dict ek.w.nd;refine⟨rfl,tl,ys,kvs,rfl,aO.of ht,pk,by omega,fun d hd=>?_⟩;obtain⟨s1,d1⟩:=dk d hd;generalize upd H d (.dK (iJ [] kvs))=H1 at s1 d1;have B1:=B.same s1;obtain⟨F1,b1,_⟩:=B1.ex;refine⟨a,x,d,ns,F1,vw,ps,_,rfl,B1.sm.seq hS,hl,b1,d1,fun H2 s2=>⟨_,rfl,cv ?_⟩⟩;have s12:=s1.trans s2;have B2:=B.same s12;clear pk dk ht hd;obtain⟨ys,kvs,ht,pk,kl,dk⟩:=(tld.same B2.sm).dict ek.w.nd;tm_up;refine⟨rfl,tl,ys,kvs,rfl,aO.of ht,pk,by omega,fun d hd=>?_⟩;obtain⟨s3,d3⟩:=dk d hd;generalize upd H2 d (.dK (iJ [] kvs))=H3 at s3 d3;have B3:=B2.same s3;obtain⟨F3,b3,_⟩:=B3.ex;exact⟨x,d,F3,vw,ps,_,rfl,b3,d3,fun H4 s4=>⟨_,rfl,rfl,s12.trans (s3.trans s4)⟩⟩
  rintro _ H1 ⟨rfl,s1⟩;refine cv ?_;have B1:=B.same s1;clear B s1;refine⟨fun σ H'=>σ=[some (.ref a),some (.ref x),some (.ref tl),none]/\Bw (cs t) H0 H' x [] vw ps (if vw.length<12 then [Rk vw] else []),?_,?_⟩
  ·obtain⟨ys,ht,Rz⟩:=tld;have yl:=bh Rz;tm_up;refine .inl ⟨tl,ys,rfl,.inl (aO.of (B1.sm _ _ ht)),?_⟩;tm_up;refine aZ (fun hlt=>?_) (fun hlt=>?_)
   ·have hlt':vw.length<12:=by have:=K' hlt;omega
    rw[if_pos hlt']at B1;obtain⟨dx,L,D,U,hx⟩:=B1.hx;obtain⟨F1,b1,f1,z1,o1⟩:=B1.ex;refine⟨_,rfl,x,dx,_,rfl,hx,Jv _ _ _,?_⟩;refine⟨x,F1,_,ps,_,rfl,b1,by show ps.length+1<=900;omega,(fun z=>nomatch z),fun fs0 v0 e0 H4 fr4 b4=>?_⟩;obtain⟨e01,e02⟩:=lh (show []++[Rk vw]=fs0++[v0] from e0);subst e01 e02;obtain⟨B4,k4⟩:=Bw.mk' b4 B1.sm f1 z1 o1 (Gr.refl _ _) fr4;clear b1 f1 z1 o1 fr4 b4 k4;refine⟨_,rfl,_,rfl,big (by show 0<=1000;omega),fun e0 ZZ=>?_⟩;have s5:=ao.upd (o:=.lst []) ZZ;have h5:=af (H:=H4) (a:=e0) (o:=.lst []);generalize upd H4 e0 (.lst [])=H5 at s5 h5;refine⟨big (by show 2<=1000;omega),fun p0 hp0=>?_⟩;have s6:=ao.upd (o:=.tup [V.str "zed",V.ref e0]) hp0;have h6:=af (H:=H5) (a:=p0) (o:=.tup [V.str "zed",V.ref e0]);generalize upd H5 p0 (.tup [V.str "zed",V.ref e0])=H6 at s6 h6;refine⟨big (by show 1<=1000;omega),fun l0 hl0=>?_⟩;have s7:=ao.upd (o:=.lst [V.ref p0]) hl0;have h7:=af (H:=H6) (a:=l0) (o:=.lst [V.ref p0]);generalize upd H6 l0 (.lst [V.ref p0])=H7 at s7 h7;have s47:=(s5.trans s6).trans s7;refine .inr (.inr ⟨tl,l0,ys,_,rfl,rfl,s47 _ _ (B4.sm _ _ ht),h7,big (by show _+1<=1000;omega),fun c hc=>?_⟩);have s8:=ao.upd (o:=.lst (ys++[V.ref p0])) hc;have h8:=af (H:=H7) (a:=c) (o:=.lst (ys++[V.ref p0]));generalize upd H7 c (.lst (ys++[V.ref p0]))=H8 at s8 h8;have s48:=s47.trans s8;have B8:=B4.same s48;have tz:lj H8 c (Rk vw):=⟨_,h8,BK (aY (fun _ _ q=>q.same B8.sm) Rz) (.cons ⟨p0,.ref e0,rfl,s8 _ _ (s7 _ _ h6),e0,[],rfl,s8 _ _ (s7 _ _ (s6 _ _ h5)),.nil⟩ .nil)⟩;obtain⟨zs,kvs,hz,pk,kl,dk⟩:=tz.dict B8.wv.nd;have zl:(Rk vw).length=vw.length+1:=by unfold Rk;rw[T'];rfl
    tm_up;refine⟨rfl,c,zs,kvs,rfl,aO.of hz,pk,by omega,fun d hd=>?_⟩;obtain⟨s9,d9⟩:=dk d hd;generalize upd H8 d (.dK (iJ [] kvs))=H9 at s9 d9;have B9:=B8.same s9;obtain⟨F9,b9,_⟩:=B9.ex;refine⟨x,d,F9,Rk vw,_,_,rfl,b9,d9,fun H10 P0=>⟨_,rfl,cv ?_⟩⟩;have B10:=B9.same P0;obtain⟨dx2,L2,D2,U2,hx2⟩:=B10.hx;obtain⟨F3,b3,f3,z3,o3⟩:=B10.ex;refine⟨_,rfl,x,dx2,_,rfl,hx2,oK _ _ _,?_⟩;refine⟨x,F3,_,_,[],rfl,b3,by rw[T'];show ps.length+1+0<=900;omega,(fun z=>by simp at z),fun Jw v0 e0 UI Rl b11=>?_⟩;obtain⟨e01,e02⟩:=lh e0;subst e01 e02;obtain⟨B11,k11⟩:=Bw.mk' b11 B10.sm f3 z3 o3 (Gr.refl _ _) Rl;exact⟨rfl,by rw[if_pos hlt'];exact B11⟩
   ·exact⟨rfl,B1⟩
  rintro _ H2 ⟨rfl,B2⟩;tm_up;refine⟨a,x,tl,ns,H0,vw,ps,_,rfl,hS,hl,B2,tld,ek,by omega,fun H3 fs3 B3 l3=>⟨_,rfl,cv ?_⟩⟩;have l3':fs3.length<=2:=by
   refine Nat.le_trans l3 ?_;split
   ·exact R' _
   ·exact Nat.le_succ _
  obtain⟨ys,ht,Rz⟩:=tld;have yl:=bh Rz;refine⟨_,rfl,big (by show 0<=1000;omega),fun e0 ZZ=>?_⟩;have s4:=ao.upd (o:=.lst []) ZZ;have h4:=af (H:=H3) (a:=e0) (o:=.lst []);generalize upd H3 e0 (.lst [])=H4 at s4 h4;have B4:=B3.same s4;refine⟨tl,e0,ys,rfl,rfl,aO.of (B4.sm _ _ ht),aO.of h4,_,rfl,?_⟩;refine aZ (fun hem=>?_) (fun hem=>?_)
  ·have vn:vw=[]:=by
    cases vw with
    |nil=>rfl
    |cons q r=>cases Rz;exact nomatch hem
   subst vn;obtain⟨dx,L,D,U,hx⟩:=B4.hx;obtain⟨F4,b4,_⟩:=B4.ex;refine⟨_,rfl,x,dx,_,rfl,hx,k6 _ _ _,x,F4,[],ps,fs3,rfl,b4,fun l5 H5 nl5 s5 h5=>?_⟩;refine⟨big (by show 0<=1000;omega),fun e6 he6=>?_⟩;exact⟨l5,e6,[],rfl,rfl,aO.of (ao.upd he6 _ _ h5),aO.of af,q _⟩
  ·obtain⟨vw0,n,th,rfl⟩:∃ vw0 n th,vw=vw0++[(n,th)]:=by
    rcases List.eq_nil_or_concat vw with rfl|⟨v0,⟨n,th⟩,e⟩
    ·cases Rz;exact V' rfl hem
    ·exact⟨v0,n,th,by rw[e,List.concat_eq_append]⟩
   obtain⟨Jw,rfl⟩:=bf (by simp);obtain⟨VL,y,rfl,p0,p,v,rfl,hp,hv⟩:=RA Rz;have w24:=ek.sh;refine⟨_,rfl,_,rfl,-1,rfl,.inl ⟨tl,_,rfl,aO.of (B4.sm _ _ ht),fun l5 hl5=>?_⟩⟩;rw[Z9];have s5:=ao.upd (o:=.lst VL) hl5;have h5:=af (H:=H4) (a:=l5) (o:=.lst VL);generalize upd H4 l5 (.lst VL)=H5 at s5 h5;have ht5:=s5 _ _ (B4.sm _ _ ht);have hp5:=s5 _ _ (B4.sm _ _ hp);refine⟨fun σ H'=>∃(l':Addr)(H1:Hp),σ=[some (.ref a),some (.ref x),some (.ref tl),some (.ref l')]/\Bw (cs t) H1 H' x [] (vw0++[(n,th)]) (Jw++[gq (vw0++[(n,th)])]) fs3/\ao H0 H1/\lj H1 l' (gq (vw0++[(n,th)])),?_,?_⟩
   ·cases th with
    |cn ld lt sl tn =>
     obtain⟨tp,rfl,htp⟩:=hv;obtain⟨H1',B5',WG,fr1,fr2⟩:=B4.fresh s5;refine iF false ?_ ?_
     ·tm_up;refine .inl ⟨tl,_,-1,_,rfl,rfl,aO.of ht5,yg _ _,?_⟩;tm_up;exact⟨_,_,_,_,rfl,eG.tup (s5 _ _ (B4.sm _ _ htp)),rfl,_,rfl,cv (cF rfl)⟩
     refine cv ?_;exact⟨l5,H1',rfl,B5',WG,by rw[P6];exact⟨VL,fr1 _ _ h5 hl5,aY (fun _ _ q=>q.same WG) p0⟩⟩
    |pl ss =>
     obtain⟨l,zs,rfl,hl6,g6⟩:=hv;have ajg:=s5 _ _ (B4.sm _ _ hl6);refine⟨fun b H'=>ao H5 H'/\b = !zs.isEmpty,?_,?_⟩
     ·tm_up;refine .inl ⟨tl,_,-1,_,rfl,rfl,aO.of ht5,yg _ _,?_⟩;tm_up;refine⟨_,_,_,_,rfl,eG.lst ajg,rfl,_,rfl,pG ?_⟩;tm_up;refine .inl ⟨tl,_,-1,_,rfl,rfl,aO.of ht5,yg _ _,?_⟩;refine .inr (.inl ⟨p,_,1,_,rfl,rfl,ij.of hp5,rfl,?_⟩);refine⟨big (by show 0<=1000;omega),fun e6 he6=>?_⟩;exact⟨l,e6,zs,rfl,rfl,aO.of (ao.upd he6 _ _ ajg),aO.of af,_,rfl,ao.upd he6,rfl⟩
     rintro b H6 ⟨s6,rfl⟩;refine aZ (fun hne=>?_) (fun hne=>?_)
     ·obtain⟨ss0,sl0,rfl⟩:∃ ss0 sl0,ss=ss0++[sl0]:=by
       rcases List.eq_nil_or_concat ss with rfl|⟨v0,s0,e⟩
       ·cases g6;exact nomatch hne
       ·exact⟨v0,s0,by rw[e,List.concat_eq_append]⟩
      obtain⟨zs0,z0,rfl,g60,_⟩:=RA g6;have ht6:=s6 _ _ ht5;have hp6:=s6 _ _ hp5;have aoe:=s6 _ _ ajg;tm_up;refine .inl ⟨tl,_,-1,_,rfl,rfl,aO.of ht6,yg _ _,?_⟩;refine .inr (.inl ⟨p,_,0,_,rfl,rfl,ij.of hp6,rfl,?_⟩);tm_up;refine .inl ⟨tl,_,-1,_,rfl,rfl,aO.of ht6,yg _ _,?_⟩;refine .inr (.inl ⟨p,_,1,_,rfl,rfl,ij.of hp6,rfl,?_⟩);refine⟨_,rfl,-1,rfl,.inl ⟨l,_,rfl,aO.of aoe,fun l7 hl7=>?_⟩⟩;rw[Z9];have s7:=ao.upd (o:=.lst zs0) hl7;have h7:=af (H:=H6) (a:=l7) (o:=.lst zs0);generalize upd H6 l7 (.lst zs0)=H7 at s7 h7;refine⟨big (by show 2<=1000;omega),fun p7 hp7=>?_⟩;have s8:=ao.upd (o:=.tup [V.str n,V.ref l7]) hp7;have h8:=af (H:=H7) (a:=p7) (o:=.tup [V.str n,V.ref l7]);generalize upd H7 p7 (.tup [V.str n,V.ref l7])=H8 at s8 h8;refine⟨big (by show 1<=1000;omega),fun l9 hl9=>?_⟩;have s9:=ao.upd (o:=.lst [V.ref p7]) hl9;have h9:=af (H:=H8) (a:=l9) (o:=.lst [V.ref p7]);generalize upd H8 l9 (.lst [V.ref p7])=H9 at s9 h9;have yl0:=bh p0;have wl0:vw0.length<=12:=by rw[T']at wl;omega
      refine .inr (.inr ⟨l5,l9,VL,_,rfl,rfl,s9 _ _ (s8 _ _ (s7 _ _ (s6 _ _ h5))),h9,big (by show _+1<=1000;omega),fun c hc=>?_⟩);have P0:=ao.upd (o:=.lst (VL++[V.ref p7])) hc;have h10:=af (H:=H9) (a:=c) (o:=.lst (VL++[V.ref p7]));generalize upd H9 c (.lst (VL++[V.ref p7]))=H10 at P0 h10;have S10:=((((s5.trans s6).trans s7).trans s8).trans s9).trans P0;have nc:H4 c=none:=((((s5.trans s6).trans s7).trans s8).trans s9).free hc;have n7:H4 l7=none:=(s5.trans s6).free hl7;obtain⟨H1',B5',WG,fr1,fr2⟩:=B4.fresh S10;refine⟨c,H1',rfl,B5',WG,?_⟩;rw[XD _ _ (by simp),List.dropLast_concat];exact⟨_,fr1 _ _ h10 nc,BK (aY (fun _ _ q=>q.same WG) p0) (.cons ⟨p7,.ref l7,rfl,fr2 _ _ (P0 _ _ (s9 _ _ h8)) (fun _ z=>nomatch z),l7,zs0,rfl,fr1 _ _ (P0 _ _ (s9 _ _ (s8 _ _ h7))) n7,iq.same WG g60⟩ .nil)⟩
     ·obtain⟨H1',B5',WG,fr1,fr2⟩:=B4.fresh (s5.trans s6);have sn:ss=[]:=by
       cases g6 with
       |nil=>rfl
       |cons _ _=>exact V' rfl hne
      subst sn;exact⟨l5,H1',rfl,B5',WG,by rw[Me];exact⟨VL,fr1 _ _ (s6 _ _ h5) hl5,aY (fun _ _ q=>q.same WG) p0⟩⟩
   rintro _ H6 ⟨l',H1',rfl,B6,WG,alx⟩;obtain⟨dx,L,D,U,hx⟩:=B6.hx;obtain⟨F6,b6,f6,z6,o6⟩:=B6.ex;tm_up;refine⟨x,dx,_,rfl,hx,oK _ _ _,?_⟩;refine⟨x,F6,_,_,fs3,rfl,b6,by omega,(fun z=>by simp at z),fun ps1 v1 e1 H7 fr7 b7=>?_⟩;obtain⟨e01,e02⟩:=lh e1;subst e01 e02;obtain⟨B7,k7⟩:=Bw.mk' b7 B6.sm f6 z6 o6 (Gr.refl _ _) fr7;have wl7:=B7.wv.len;refine⟨fun v H'=>v=.bl true,?_,?_⟩
   ·obtain⟨zs,kvs,hz,pk,kl,dk⟩:=(alx.same B7.sm).dict B7.wv.nd;tm_up;refine⟨rfl,l',zs,kvs,rfl,aO.of hz,pk,by omega,fun d hd=>?_⟩;obtain⟨s8,d8⟩:=dk d hd;generalize upd H7 d (.dK (iJ [] kvs))=H8 at s8 d8;have B8:=B7.same s8;obtain⟨F8,b8,_⟩:=B8.ex;refine⟨a,x,d,ns,F8,_,_,_,rfl,B8.sm.seq (WG.seq hS),hl,b8,d8,fun H9 s9=>⟨true,rfl,pG ?_⟩⟩;have B9:=B8.same s9;clear pk dk hz hd;obtain⟨zs,kvs,hz,pk,kl,dk⟩:=(alx.same B9.sm).dict B9.wv.nd;tm_up;refine⟨rfl,l',zs,kvs,rfl,aO.of hz,pk,by omega,fun d hd=>?_⟩;obtain⟨P0,d10⟩:=dk d hd;generalize upd H9 d (.dK (iJ [] kvs))=H10 at P0 d10;have B10:=B9.same P0;obtain⟨F10,b10,_⟩:=B10.ex;exact⟨x,d,F10,_,_,_,rfl,b10,d10,fun UI s11=>rfl⟩
   rintro _ H9 rfl;exact q _
inductive Mg (vs:List V)(H:Hp)(Q:VK)(E:XK):Prop
 |mk (x:Str) (dE:vs=[.str x]) (dF:x.length<=1000) (eQ:∀ H',ao H H'->Q (.bl (nameB x)) H'):Mg vs H Q E
theorem XE (T:Txt K w mg t):br P w K mg base fK (0+1) t.nC t.GX ["name"] Mg:=by
 refine T.vm.ok Xj (fun vs H Q E h=>?_) (fun cdv A outer s H vs Q E hr h=>?_)
 ·obtain⟨_,rfl,_⟩:=h;rfl
 ·obtain⟨x,rfl,hx,q⟩:=h;refine aR (ah (ax (dJ (pB (UQ xM xM aj (av (az.or aA) rfl T.bD bC (aa (pv 0) ae)) (bR (v:=.int 8) rfl T.LS ⟨_,rfl⟩)) (pA (av adM rfl T.aiI ail (aa (kY (cn:=["letter"]) rfl (bY.of rfl) (aih (pv 0)) (fun _=>(aB (i:=0) N8 rfl (Or.inl rfl))) (fun _=>j0) (fun _=>(cC (c7.or c0) (pv 0) (bR (v:=.str "abcdefghijklmnopqrstuvwxyz") rfl T.aaW ⟨_,rfl⟩) rfl))) ae))))))) ?_;have xb:x.length<=sizeLine:=Nat.le_trans hx (by decide);refine⟨fun v H'=>v=.bl (nameB x)/\ao H H',?_,fun _ _ ⟨e1,e2⟩=>by rw[e1];exact q _ e2⟩;unfold nameB;refine⟨_,rfl,.inr ⟨_,rfl,xb,_,_,rfl,rfl,_,rfl,?_⟩⟩;refine aZ (fun h1=>?_) (fun h1=>?_)
  rotate_left
  ·have e1:decide (1<=x.length)=false:=Y' fun z=>h1 (N' (by omega));rw[e1];exact⟨_,rfl,cv ⟨rfl,ao.refl _⟩⟩
  have e1:decide (1<=x.length)=true:=N' (by have:=K' h1;omega);rw[e1,Bool.true_and];refine⟨_,_,rfl,rfl,_,rfl,?_⟩;refine aZ (fun h2=>?_) (fun h2=>?_)
  rotate_left
  ·have e2:decide (x.length<=8)=false:=Y' fun z=>h2 (N' (by omega));rw[e2];exact⟨rfl,ao.refl _⟩
  have n2:x.length<=8:=by have:=K' h2;omega
  have e2:decide (x.length<=8)=true:=N' n2;rw[e2,Bool.true_and];refine⟨_,rfl,_,rfl,fun D b hD=>?_⟩;refine adE (fun i ys σ H'=>∃ v,σ=[v,some (.str x)]/\H'=upd H D (.lst ys)/\ys=((x.cps.toList.take i).map fun c=>inS ⟨#[c]⟩ "abcdefghijklmnopqrstuvwxyz").map V.bl/\i<=x.cps.size) ⟨none,rfl,rfl,rfl,Nat.zero_le _⟩ ?_ ?_
  ·rintro i ys c σ H' hc ⟨v,rfl,rfl,rfl,hi⟩ N hN;have hi2:i<x.cps.size:=(Array.getElem?_eq_some_iff.mp hc).1;have hcm:x.cps.toList[i]? = some c:=by simpa using hc
   have sz:x.cps.size<=8:=n2;refine fi ?_;refine⟨_,rfl,.inr ⟨_,_,rfl,rfl,af,?_,?_⟩⟩
   ·rw[J',J',length_take];exact aQ (by omega)
   ·refine hN _ _ _ ⟨_,rfl,df,?_,hi2⟩;rw[take_succ,hcm,map_append,map_append];rfl
  ·rintro ys σ H' ⟨v,rfl,rfl,rfl,hi⟩;refine⟨rfl,D,_,rfl,aO.of af,?_,ao.upd hD⟩;rw[show x.cps.size=x.cps.toList.length from rfl,take_length];refine congrArg V.bl ?_;rw[List.all_map];rfl
theorem aeA {x:Str}{l:List V}(h:inV (.str x) l=true):V.str x∈l:=by
 unfold inV at h;obtain⟨y,hy,e⟩:=any_eq_true.mp h;cases y with
 |str z =>
  have:z=x:=by simpa [Zz] using e
  rw[<-this];exact hy
 |_=>simp[Zz]at e
theorem XF {x:Str}{l:List V}(h:V.str x∈l):inV (.str x) l=true:=by
 unfold inV;exact any_eq_true.mpr ⟨_,h,by simp[Zz]⟩
noncomputable def uj (vw:Vw)(n:Str):Option Rf:=if nameB n=false then some .ZR else if(bp vw n).isSome then some .Pq else if 12<=vw.length then some .Full else none
theorem JN {vw:Vw}{n:Str}(h:uj vw n=none):nameB n=true/\bp vw n=none/\vw.length<12:=by
 unfold uj at h;split at h
 ·cases h
 ·next h1 =>
  split at h
  ·cases h
  ·next h2 =>
   split at h
   ·cases h
   ·next h3=>exact⟨by simpa using h1,by cases e:bp vw n with|none=>rfl|some _=>rw[e]at h2;exact V' rfl h2,by omega⟩
inductive rY (c:Cs)(vs:List V)(H:Hp)(Q:VK)(E:XK):Prop
 |mk (x:Addr) (F:Addr->Prop) (vw:Vw) (ps fs:List Vw) (n:Str) (dE:vs=[.ref x,.str n]) (dF:BP c H x F vw ps fs) (eQ:n.length<=1000) (jv:match uj vw n with
 |some r=>∀ H',ao H H'->RX E c r H'
 |none=>∀ H',ao H H'->Q .non H'):rY c vs H Q E
theorem rZ (T:Txt K w mg t):br P w K mg base fK (0+2) t.bZ t.lD ["self","name"] (rY (cs t)):=by
 have abi:=XE (P:=P) (base:=base) T;have ff:=oH (P:=P) (base:=base) T;refine T.iA.ok BX (fun vs H Q E h=>?_) (fun cdv A outer s H vs Q E hr h=>?_)
 ·obtain⟨_,_,_,_,_,_,rfl,_⟩:=h;rfl
 ·obtain⟨x,F,vw,ps,fs,n,rfl,B,hlen,q⟩:=h;refine aR (ag (aU (bJ (aX (aq abi (hr.mono (by decide)) rfl T.Xt T.vm.kp T.G5 .nil au (aa (pv 1) ae)))) (ah iH) aD) (ag (aU (aw (c7.or c0) (pv 1) (d4 (pv 0) T.aN T.jN ff (hr.mono (by decide)) T.gD .nil au) rfl) (ah iH) aD) (ah (aU (aw ag7 (av (az.or aA) rfl T.bD bC (aa (cj (pv 0) rfl) ae)) (bR (v:=.int 12) rfl T.Oe ⟨_,rfl⟩) (aG _)) (ah iH) aD)))) ?_;refine⟨_,rfl,n,rfl,hlen,fun H1 s1=>?_⟩;unfold uj at q;refine⟨_,rfl,?_⟩;cases hnb:nameB n with
  |false =>
   rw[if_pos hnb]at q;have q:=q H1 s1;exact pG (Bool.noConfusion (show false=true from q.1))
  |true =>
   rw[if_neg (by rw[hnb];decide)]at q;refine cv ?_;have B1:=B.same s1;obtain⟨L,D,U,all,M,Ps,Fs,es,us,b,i,pp,pf,f⟩:=B1.ex;obtain⟨dx,hx⟩:=b.hx;refine⟨_,rfl,_,rfl,x,dx,_,rfl,hx,k6 _ _ _,?_⟩;refine⟨x,F,vw,ps,fs,rfl,B1,fun l H2 hl s2 hl2=>?_⟩;refine .inl ⟨l,_,rfl,.inl (aO.of hl2),rfl,?_,_,rfl,?_⟩
   ·rw[List.all_map];exact all_eq_true.mpr fun _ _=>rfl
   have mem:inV (.str n) (vw.map fun a=>V.str a.1)=true ↔ (bp vw n).isSome=true:=by
    constructor
    ·intro h;obtain⟨a,ha,e⟩:=mem_map.mp (aeA h);cases e2:bp vw n with
     |some _=>rfl
     |none=>exact V' (V.str.inj e) (vM e2 a ha)
    ·intro h;cases e2:bp vw n with
     |none=>rw[e2]at h;cases h
     |some th=>exact XF (mem_map.mpr ⟨_,cb e2,rfl⟩)
   refine aZ (fun h=>?_) (fun h=>?_)
   ·rw[if_pos (mem.mp h)]at q;have q:=q H2 (s1.trans s2);exact(Bool.noConfusion (show false=true from q.1))
   rw[if_neg (fun z=>h (mem.mpr z))]at q;refine⟨_,rfl,x,_,dx,_,_,rfl,s2 _ _ hx,T.aN,T.cm,q9 _ _ _,?_⟩;refine .inl ⟨L,M L,rfl,.inl (aO.of (s2 _ _ b.hL)),?_⟩;refine⟨_,_,rfl,rfl,_,rfl,?_⟩;have ll:=bh i;refine aZ (fun h=>?_) (fun h=>?_)
   ·have h':=K' h;rw[if_pos (by omega)]at q;have q:=q H2 (s1.trans s2);exact(Bool.noConfusion (show false=true from q.1))
   ·rw[if_neg (fun z=>h (N' (by omega)))]at q;exact q _ (s1.trans s2)
inductive zo (c:Cs)(vs:List V)(H:Hp)(Q:VK)(E:XK):Prop
 |mk (x dx L D U v:Addr) (xs ds us:List V) (dE:vs=[.ref x,.ref v]) (dF:H x=some (.ins c.B dx (Ee L D U))) (eQ:H L=some (.lst xs)) (jv:H D=some (.lst ds)) (pE:H U=some (.lst us)) (Pa:L≠D) (h6_:L≠U) (h7_:D≠U) (h8_:xs.length<=12) (h9_:ds.length<=900) (anm:∀(e:Dd)(H1 H':Hp),e.T=L->e.i=xs.length->e.bs=[]->e.as=[.ref v]->ao H H1->H e.B=none->H e.A=none->qw c.D H1 (.ref e.o) e->(∀ y o,H1 y=some o->y≠L->y≠D->y≠U->H' y=some o)->H' L=some (.lst (xs++[.ref v]))->H' D=some (.lst (ds++[.ref e.o]))->H' U=some (.lst [])->Q .non H'):zo c vs H Q E
theorem zp (T:Txt K w mg t):br P w K mg base fK (0+3) t.dQ t.uf ["self","voice"] (zo (cs t)):=by
 have eD:=jY (P:=P) (base:=base) T;have dD:=jq (P:=P) (base:=base) T;refine T.oF.ok Lj (fun vs H Q E h=>?_) (fun cdv A outer s H vs Q E hr h=>?_)
 ·obtain⟨_,_,_,_,_,_,_,_,_,rfl,_⟩:=h;rfl
 ·obtain⟨x,dx,L,D,U,v,xs,ds,us,rfl,hx,hL,hD,hU,n1,n2,n3,hxs,hds,q⟩:=h;refine aR (ah (aP (bj (pv 0) T.aN T.jU eD (hr.mono (by decide)) T.fO .nil au (aa (AX T.KH dD (hr.mono (by decide)) rfl T.KG T.eN .nil au (aa (cj (pv 0) rfl) (aa (av (az.or aA) rfl T.bD bC (aa (cj (pv 0) rfl) ae)) (aa (bq ae) (aa (bq (aa (pv 1) ae)) ae))))) ae)))) ?_;refine⟨_,rfl,x,dx,_,rfl,hx,lg _ _ _,?_⟩;refine⟨_,rfl,x,_,dx,_,_,rfl,hx,T.aN,T.cm,q9 _ _ _,?_⟩;refine⟨_,rfl,x,_,dx,_,_,rfl,hx,T.aN,T.cm,q9 _ _ _,?_⟩;refine .inl ⟨L,xs,rfl,.inl (aO.of hL),?_⟩;refine⟨big (by show 0<=1000;omega),fun B hB=>?_⟩;refine⟨_,rfl,big (by show 1<=1000;omega),fun A_ hA=>?_⟩;have hA0:=Kz hA;have LA:L≠A_:=ar (ao.upd (o:=.lst []) hB _ _ hL) hA;have sB:=(ao.upd (o:=.lst []) hB).trans (ao.upd (o:=.lst [V.ref v]) hA);have hB2:=ao.upd (o:=.lst [V.ref v]) hA _ _ (af (H:=H) (a:=B) (o:=.lst []));have Xw:=af (H:=upd H B (.lst [])) (a:=A_) (o:=.lst [V.ref v]);generalize upd (upd H B (.lst [])) A_ (.lst [V.ref v])=H2 at sB hB2 Xw;intro d dd nd ndd ne;refine⟨d,dd,L,(xs.length:Int),B,A_,rfl,af,rfl,?_⟩;rw[df];have s3:ao H2 (upd (upd H2 dd (.own d)) d (.ins t.bx dd (La L (xs.length:Int) B A_))):=fun y o hy=>by
   rw[ak (ar hy nd),ak (ar hy ndd)];exact hy
  have U8:=af (H:=upd H2 dd (.own d)) (a:=d) (o:=.ins t.bx dd (La L (xs.length:Int) B A_));generalize upd (upd H2 dd (.own d)) d (.ins t.bx dd (La L (xs.length:Int) B A_))=H3 at s3 U8;have s4:=sB.trans s3;refine⟨x,dx,L,D,U,d,dd,L,B,A_,xs.length,ds,us,xs,[],[.ref v],rfl,s4 _ _ hx,s4 _ _ hD,s4 _ _ hU,U8,s4 _ _ hL,s3 _ _ hB2,s3 _ _ Xw,LA,n1,n2,n3,by simp,by simp;omega,hds,?_⟩;refine q ⟨d,dd,L,xs.length,B,A_,[],[.ref v]⟩ H3 _ rfl rfl rfl rfl s4 hB hA0 ⟨rfl,U8,s3 _ _ hB2,s3 _ _ Xw⟩ (fun y o hy y1 y2 y3=>?_) ?_ ?_ af
  ·rw[ak y3,ak y2,ak y1];exact hy
  ·rw[ak n2,ak n1,af];simp
  ·rw[ak n3,af]
inductive Bz (C:Addr)(vs:List V)(H:Hp)(Q:VK)(E:XK):Prop
 |mk (x dx:Addr) (n:Str) (tm:V) (dE:vs=[.ref x,.str n,tm]) (dF:H x=some (.ins C dx [])) (eQ:∀(L:Addr)(H':Hp),(∀ y o,H y=some o->y≠x->H' y=some o)->H L=none->L≠x->H' x=some (.ins C dx (voF n tm L))->H' L=some (.lst [])->Q .non H'):Bz C vs H Q E
theorem tM (T:Txt K w mg t):br P w K mg base fK (0+1) t.cy t.nE ["self","name","terms"] (Bz t.dg):=by
 refine T.jj.ok Ep (fun vs H Q E h=>?_) (fun cdv A outer s H vs Q E hr h=>?_)
 ·obtain⟨_,_,_,_,rfl,_⟩:=h;rfl
 ·obtain⟨x,dx,n,tm,rfl,hx,q⟩:=h;refine aR (ag (t5 (pv 0) (pv 1) rfl) (ag (t5 (pv 0) (pv 2) rfl) (ah (t5 (pv 0) (bq ae) rfl)))) ?_;refine⟨_,rfl,_,rfl,x,_,dx,_,rfl,hx,T.gL,T.fu,by show 0<1000;decide,?_⟩;refine⟨_,rfl,_,rfl,x,_,dx,_,rfl,af,T.gL,T.eh,by rw[QK];show 1<1000;decide,?_⟩;refine⟨big (by show 0<=1000;omega),fun L hL=>?_⟩;rw[df]at hL;have nx:x≠L:=fun e=>by rw[<-e,af]at hL;cases hL
  have hL0:H L=none:=by rw[ak (Ne.symm nx)]at hL;exact hL
  refine⟨_,rfl,x,_,dx,_,rfl,by rw[ak nx,df];exact af,T.gL,T.ck,by rw[QK,ZO];show 2<1000;decide,?_⟩;rw[QK,ZO,af7];simp only [df];refine q L _ (fun y o hy ny=>?_) hL0 (Ne.symm nx) af ?_
  ·rw[ak ny,ak (ar hy hL0),ak ny];exact hy
  ·rw[ak (Ne.symm nx)];exact af
inductive tN (c:Cs)(vs:List V)(H:Hp)(Q:VK)(E:XK):Prop
 |mk (x:Addr) (F:Addr->Prop) (vw:Vw) (ps fs:List Vw) (n:Str) (dE:vs=[.ref x,.str n]) (dF:BP c H x F vw ps fs) (eQ:n.length<=1000) (jv:ps.length<=900) (pE:match uj vw n with
 |some r=>∀ H',ao H H'->RX E c r H'
 |none=>∀ F' H',Gr F F' H->Fr F H H'->BP c H' x F' (vw++[(n,.pl [])]) (ps++[vw]) []->Q .non H'):tN c vs H Q E
theorem E9 (T:Txt K w mg t):br P w K mg base fK (0+4) t.cz t.nF ["self","name"] (tN (cs t)):=by
 have lU:=rZ (P:=P) (base:=base) T;have uk:=zp (P:=P) (base:=base) T;have nQ:=tM (P:=P) (base:=base) T;refine T.jm.ok Er (fun vs H Q E h=>?_) (fun cdv A outer s H vs Q E hr h=>?_)
 ·obtain⟨_,_,_,_,_,_,rfl,_⟩:=h;rfl
 ·obtain⟨x,F,vw,ps,fs,n,rfl,B,hlen,hps,q⟩:=h;refine aR (ag (aP (bj (pv 0) T.aN T.rR lU (hr.mono (by decide)) T.iB .nil au (aa (pv 1) ae))) (ah (aP (bj (pv 0) T.aN T.za uk (hr.mono (by decide)) T.oG .nil au (aa (AX T.Vs nQ (hr.mono (by decide)) rfl T.Vr T.jk .nil au (aa (pv 1) (aa BF ae))) ae))))) ?_;obtain⟨L,D,U,all,M,Ps,Fs,es,us,b,i,pp,pf,f⟩:=B.ex;obtain⟨dx,hx⟩:=b.hx;refine⟨_,rfl,x,dx,_,rfl,hx,sN _ _ _,_,rfl,x,F,vw,ps,fs,n,rfl,B,hlen,?_⟩;cases ho:uj vw n with
  |some r =>
   rw[ho]at q;intro H' s';have q:=q H' s';exact(Bool.noConfusion (show false=true from q.1))
  |none =>
   rw[ho]at q;obtain⟨_,hf,ajh⟩:=JN ho;intro H1 s1;have b1:=b.kept f (.same s1);obtain⟨ds,hD,pD⟩:=b1.hD;obtain⟨ux,hU,pU⟩:=b1.hU;have ll:=bh i;have dl:=bh pD;have pl:=bh pp;have pe:=b.past.len;refine⟨_,rfl,x,dx,_,rfl,s1 _ _ hx,Bn _ _ _,_,rfl,?_⟩;intro v dv nv ndv ne;refine⟨v,dv,n,.non,rfl,af,fun l H2 kp hl hlv hv2 hl2=>⟨rfl,?_⟩⟩;have s2:ao H1 H2:=fun y o hy=>kp y o (by rw[ak (ar hy nv),ak (ar hy ndv)];exact hy) (ar hy nv);have hl1:H1 l=none:=Lf hl;refine⟨x,dx,L,D,U,v,M L,ds,ux,rfl,s2 _ _ (s1 _ _ hx),s2 _ _ b1.hL,s2 _ _ hD,s2 _ _ hU,b.LD,b.LU,b.DU,by omega,by omega,fun e H3 H' eT ei eb ea s3 nB nA hd fr hL' hD' hU'=>?_⟩;obtain⟨F',g,fr',B'⟩:=Bk.added b1 (Is.kept (F:=F) (.same s1) i) (aY (fun _ _ q=>Is.kept (F:=F) (.same s1) q) pp) f B.wv (a:=⟨v,dv,n,.non,l⟩) (th:=.pl []) s2 nv hl1 hv2 hl2 (fun M' h0=>⟨rfl,by rw[h0];exact .nil⟩) ((B.wv vw (.inr (.inl rfl))).akO (vM hf) ajh) eT ei eb ea s3 nB nA hd hD pD fr hL' hD' hU';exact q F' H' (g.old s1) (fun y o hy hn=>fr' y o (s1 y o hy) hn) B'
noncomputable def um (lt sl:Int):Prop:=0<=lt/\lt<=999/\1<=sl/\sl<=9
instance (lt sl:Int):Decidable (um lt sl):=by unfold um;exact inferInstance
inductive tO (c:Cs)(vs:List V)(H:Hp)(Q:VK)(E:XK):Prop
 |mk (x:Addr) (F:Addr->Prop) (vw:Vw) (ps fs:List Vw) (n ld:Str) (lt sl:Int) (tn:Bool) (dE:vs=[.ref x,.str n,.str ld,.int lt,.int sl,.bl tn]) (dF:BP c H x F vw ps fs) (eQ:n.length<=1000) (jv:ps.length<=900) (pE:match uj vw n with
 |some r=>∀ H',ao H H'->RX E c r H'
 |none=>match bp vw ld with
  |none=>∀ H',ao H H'->RX E c .oC H'
  |some (.cn _ _ _ _)=>∀ H',ao H H'->RX E c .uP H'
  |some (.pl _)=>(¬ um lt sl->∀ H',ao H H'->RX E c .ZS H')/\(um lt sl->∀ F' H',Gr F F' H->Fr F H H'->BP c H' x F' (vw++[(n,.cn ld lt sl tn)]) (ps++[vw]) []->Q .non H')):tO c vs H Q E
theorem Fb (T:Txt K w mg t):br P w K mg base fK (0+4) t.cA t.je ["self","name","leader","later","slow","is_turned"] (tO (cs t)):=by
 have lU:=rZ (P:=P) (base:=base) T;have cw:=fH (P:=P) (base:=base) T;have uk:=zp (P:=P) (base:=base) T;have nQ:=tM (P:=P) (base:=base) T;refine T.fQ.ok Es (fun vs H Q E h=>?_) (fun cdv A outer s H vs Q E hr h=>?_)
 ·obtain⟨_,_,_,_,_,_,_,_,_,_,rfl,_⟩:=h;rfl
 ·obtain⟨x,F,vw,ps,fs,n,ld,lt,sl,tn,rfl,B,hlen,hps,q⟩:=h;refine aR (ag (aP (bj (pv 0) T.aN T.rR lU (hr.mono (by decide)) T.iB .nil au (aa (pv 1) ae))) (ag (aP (bj (pv 0) T.aN T.fF cw (hr.mono (by decide)) T.dc .nil au (aa (pv 2) ae))) (ag (aU (bJ (bF (PW.pt (cU (DV xM xM aj (pv 3) (bR (v:=.int 999) rfl T.ad9 ⟨_,rfl⟩)) (dn (DV xM xM aj (pv 4) (bR (v:=.int 9) rfl T.aaX ⟨_,rfl⟩))))))) (ah iH) aD) (ah (aP (bj (pv 0) T.aN T.za uk (hr.mono (by decide)) T.oG .nil au (aa (AX T.Vs nQ (hr.mono (by decide)) rfl T.Vr T.jk .nil au (aa (pv 1) (aa (cV (aa (pv 2) (aa (pv 3) (aa (pv 4) (aa (pv 5) ae))))) ae))) ae))))))) ?_;obtain⟨L,D,U,all,M,Ps,Fs,es,us,b,i,pp,pf,f⟩:=B.ex;obtain⟨dx,hx⟩:=b.hx;have wv:=B.wv vw (.inr (.inl rfl));refine⟨_,rfl,x,dx,_,rfl,hx,sN _ _ _,_,rfl,x,F,vw,ps,fs,n,rfl,B,hlen,?_⟩;cases ho:uj vw n with
  |some r =>
   rw[ho]at q;intro H' s';have q:=q H' s';exact(Bool.noConfusion (show false=true from q.1))
  |none =>
   rw[ho]at q;obtain⟨_,hf,ajh⟩:=JN ho;intro H1 s1;have b1:=b.kept f (.same s1);have i1:Is H1 L all M vw:=Is.kept (F:=F) (.same s1) i;obtain⟨vx,g,gv⟩:=b1.yu i1;have hx1:=s1 _ _ hx;refine⟨_,rfl,x,dx,_,rfl,hx1,gn _ _ _,_,rfl,x,dx,L,D,U,M L,vx,ld,rfl,hx1,b1.hL,g,?_⟩;rcases Lg gv (fun _ _ r=>r.2.1) ld with ⟨f1,f2⟩|⟨a,th,j,f1,f2,r,an,fj,fw⟩
   ·rw[f1];rw[f2]at q;have q:=q H1 s1;exact(Bool.noConfusion (show false=true from q.1))
   rw[f1];rw[f2]at q;cases th with
   |cn ld2 lt2 sl2 tn2 =>
    obtain⟨pt,hpt,_⟩:=r.2.2;have q:=q H1 s1;refine⟨(fun z=>by rw[hpt]at z;cases z),(fun _ _=>(Bool.noConfusion (show false=true from q.1))),.inr ⟨pt,hpt⟩⟩
   |pl ss =>
    obtain⟨UH,hg⟩:=r.2.2;obtain⟨q1,q2⟩:=q;refine⟨fun _=>?_,(fun pz z=>by rw[UH]at z;cases z),.inl UH⟩;refine⟨fun bb H'=>bb=decide (um lt sl)/\H'=H1,?_,?_⟩
    ·refine⟨_,rfl,_,_,rfl,rfl,_,rfl,?_⟩;refine aZ (fun h1=>?_) (fun h1=>?_)
     rotate_left
     ·have e:decide (um lt sl)=false:=Y' fun z=>h1 (N' z.1);rw[e];exact⟨_,rfl,cv ⟨rfl,rfl⟩⟩
     refine⟨_,_,rfl,rfl,_,rfl,?_⟩;refine aZ (fun h2=>?_) (fun h2=>?_)
     rotate_left
     ·have e:decide (um lt sl)=false:=Y' fun z=>h2 (N' z.2.1);rw[e];exact⟨rfl,rfl⟩
     refine⟨_,rfl,_,_,rfl,rfl,_,rfl,?_⟩;refine aZ (fun h3=>?_) (fun h3=>?_)
     rotate_left
     ·have e:decide (um lt sl)=false:=Y' fun z=>h3 (N' z.2.2.1);rw[e];exact⟨_,rfl,rfl,rfl⟩
     refine⟨_,_,rfl,rfl,_,rfl,?_,rfl⟩;refine decide_eq_decide.mpr ⟨fun z=>⟨K' h1,K' h2,K' h3,z⟩,fun z=>z.2.2.2⟩
    intro bb H1' ⟨e1,e2⟩;rw[e1,e2]
    by_cases hok:um lt sl
    rotate_left
    ·rw[Y' hok];have q:=q1 hok H1 s1;exact pG (Bool.noConfusion (show false=true from q.1))
    rw[N' hok];refine cv ?_;obtain⟨ds,hD,pD⟩:=b1.hD;obtain⟨ux,hU,pU⟩:=b1.hU;have ll:=bh i;have dl:=bh pD;have pl:=bh pp;have pe:=b.past.len;refine⟨_,rfl,x,dx,_,rfl,hx1,Bn _ _ _,_,rfl,_,rfl,_,rfl,_,rfl,_,rfl,(by show 4<=sizeLine;decide),fun tp htp=>?_⟩;have st:=ao.upd (o:=.tup [V.str ld,V.int lt,V.int sl,V.bl tn]) htp;have aly:=af (H:=H1) (a:=tp) (o:=.tup [V.str ld,V.int lt,V.int sl,V.bl tn]);generalize upd H1 tp (.tup [V.str ld,V.int lt,V.int sl,V.bl tn])=H1t at st aly;intro v dv nv ndv ne;refine⟨v,dv,n,.ref tp,rfl,af,fun l H2 kp hl hlv hv2 hl2=>⟨rfl,?_⟩⟩;have s2t:ao H1t H2:=fun y o hy=>kp y o (by rw[ak (ar hy nv),ak (ar hy ndv)];exact hy) (ar hy nv);have s2:=st.trans s2t;have hl1:H1 l=none:=st.free (Lf hl);refine⟨x,dx,L,D,U,v,M L,ds,ux,rfl,s2 _ _ hx1,s2 _ _ b1.hL,s2 _ _ hD,s2 _ _ hU,b.LD,b.LU,b.DU,by omega,by omega,fun e H3 H' eT ei eb ea s3 nB nA hd fr hL' hD' hU'=>?_⟩;obtain⟨F',gr,fr',B'⟩:=Bk.added b1 i1 (aY (fun _ _ q=>Is.kept (F:=F) (.same s1) q) pp) f B.wv (a:=⟨v,dv,n,.ref tp,l⟩) (th:=.cn ld lt sl tn) s2 (st.free nv) hl1 hv2 hl2 (fun M' h0=>⟨tp,rfl,s2t _ _ aly⟩) (wv.akP (vM hf) ajh (cb f2) hok.1 hok.2.1 hok.2.2.1 hok.2.2.2) eT ei eb ea s3 nB nA hd hD pD fr hL' hD' hU';exact q2 hok F' H' (gr.old s1) (fun y o hy hn=>fr' y o (s1 y o hy) hn) B'
theorem abj {vw:Vw}{n:Str}{a b:Th}(h:∀ q∈vw,q.1≠n):uO (vw++[(n,a)]) n b=vw++[(n,b)]:=by
 unfold uO;rw[map_append];have e1:vw.map (fun q=>if q.1=n then(n,b) else q)=vw:=by
  conv=>rhs;rw[<-List.map_id vw]
  exact List.map_congr_left fun q hq=>if_neg (h q hq)
 have e2:[(n,a)].map (fun q:Str×Th=>if q.1=n then(n,b) else q)=[(n,b)]:=by
  show [if n=n then(n,b) else(n,a)]=_;rw[if_pos rfl]
 rw[e2];exact congrArg (· ++ [(n,b)]) e1
theorem P7 {vw:Vw}{n:Str}(h:nameB n=true)(hn:∀ q∈vw,q.1≠n)(hl:vw.length<12):uj vw n=none:=by
 have hf:bp vw n=none:=by
  cases e:bp vw n with
  |none=>rfl
  |some th=>exact V' rfl (hn _ (cb e))
 unfold uj;rw[if_neg (by rw[h];decide),hf,if_neg (by simp),if_neg (by omega)]
theorem abk {vw:Vw}{n:Str}{a:Th}(h:∀ q∈vw,q.1≠n):bp (vw++[(n,a)]) n=some a:=by
 unfold bp;rw[List.find?_append,List.find?_eq_none.mpr (fun q hq e=>h q hq (K' e))];rw[Option.none_or,List.find?_cons_of_pos (p:=fun q:Str×Th=>decide (q.1=n)) (N' rfl)];rfl
theorem aeB {ss:List Sg}{i:Nat}{s:Sg}(h:ss[i]? = some s):(ss.take i).take i++[s]++(ss.take i).drop i=ss.take (i+1):=by
 rw[List.take_take,Nat.min_self,List.drop_eq_nil_of_le (by rw[length_take];omega),append_nil,take_succ,h];rfl
theorem abl {vw:Vw}{i:Nat}{q:Str×Th}(h:vw[i]? = some q):vw.take (i+1)=vw.take i++[q]:=by
 rw[take_succ,h];rfl
theorem aeC {vw:Vw}(nd:(vw.map (·.1)).Nodup){i:Nat}{q:Str×Th}(h:vw[i]? = some q):∀ p∈vw.take i,p.1≠q.1:=fun p hp e=>by
 obtain⟨j,hj⟩:=getElem?_of_mem hp;have hji:j<i:=by
  have:=(C'.mp hj).1;rw[length_take]at this;omega
 rw[List.getElem?_take_of_lt hji]at hj;have e1:(vw.map (·.1))[j]? = some q.1:=by rw[getElem?_map,hj,<-e];rfl
 have e2:(vw.map (·.1))[i]? = some q.1:=by rw[getElem?_map,h];rfl
 have:=yv nd e1 e2;omega
inductive Fc (K:Frag)(c:Cs)(vs:List V)(H:Hp)(Q:VK)(E:XK):Prop
 |mk (x tl:Addr) (H0:Hp) (vw:Vw) (dE:vs=[.ref x,.ref tl]) (dF:Bw c H0 H x [] [] [] []) (eQ:lj H0 tl vw) (jv:Ej vw) (pE:∀(H':Hp)(ps:List Vw),Bw c H0 H' x [] vw ps (if vw.length<12 then [Rk vw] else [])->ps.length<=400->(vw≠[]->∃ Jw,ps=Jw++[gq vw])->Q (.ref x) H'):Fc K c vs H Q E
theorem RB (T:Txt K w mg t):br P w K mg base fK (0+5) t.iW t.yO ["_law_book","_law_told"] (Fc K (cs t)):=by
 have vA:=E9 (P:=P) (base:=base) T;have tG:=qE (P:=P) (base:=base) T;have i6:=wz (P:=P) (base:=base) T;have Hd:=Fb (P:=P) (base:=base) T;have Cp:=JF (P:=P) (base:=base) T;refine T.oW.ok lu (fun vs H Q E h=>?_) (fun cdv A outer s H vs Q E hr h=>?_)
 ·obtain⟨_,_,_,_,rfl,_⟩:=h;rfl
 ·obtain⟨x,tl,H0,vw,rfl,B,⟨ys,ht,Rz⟩,ek,q⟩:=h;refine aR (ag (cE PassesOwn.never rfl (cu (pv 1)) (dA rfl (aK (aB (i:=2) lu.nd rfl (Or.inl rfl)) (aK (aB (i:=3) lu.nd rfl (Or.inl rfl)) cq))) (ah (aU (aX (av bT rfl T.aW aV (aa (pv 3) (aa (cW (v:=.ty "tuple") rfl T.zd ym rfl) ae)))) (ah (aP (bj (pv 0) T.aN T.EG Hd (hr.mono (by decide)) T.nK .nil au (aa (pv 2) (aa (aT aI (pv 3) aj (fun _ _=>rfl)) (aa (aT aI (pv 3) aj (fun _ _=>rfl)) (aa (aT aI (pv 3) aj (fun _ _=>rfl)) (aa (aT aI (pv 3) aj (fun _ _=>rfl)) ae)))))))) (ag (aP (bj (pv 0) T.aN T.tD vA (hr.mono (by decide)) T.jo .nil au (aa (pv 2) ae))) (ah (cE PassesOwn.never rfl (QA rfl T.qD (pv 3)) (dA rfl (aK (aB (i:=4) lu.nd rfl (Or.inl rfl)) (aK (aB (i:=5) lu.nd rfl (Or.inl rfl)) cq))) (ah (aP (bj (pv 0) T.aN T.JA Cp (hr.mono (by decide)) T.wc .nil au (aa (pv 2) (aa (pv 4) (aa (pv 5) ae)))))))))))) (ag (jx (aU (aw mR (av (az.or aA) rfl T.bD bC (aa (pv 1) ae)) aj (aG _)) (ag (aP (bj (pv 0) T.aN T.tD vA (hr.mono (by decide)) T.jo .nil au (aa bG ae))) (ah (aP (d4 (pv 0) T.aN T.lH i6 (hr.mono (by decide)) T.iY .nil au)))) aD)) (ah (ax (pv 0))))) ?_;have yl:=bh Rz;have wl:=ek.w.len;tm_up;refine⟨⟨_,aO.of (B.sm _ _ ht)⟩,gJ (K:=K) (xs:=ys) (fun i σ H'=>∃(v2 v3 v4 v5:Option V)(ps:List Vw),σ=[some (.ref x),some (.ref tl),v2,v3,v4,v5]/\Bw (cs t) H0 H' x [] (vw.take i) ps []/\ps.length<=26 * i/\i<=vw.length/\(0<i->∃ Jw,ps=Jw++[gq (vw.take i)])) ⟨none,none,none,none,[],rfl,B,R' _,Nat.zero_le _,fun z=>V' z (by decide)⟩ ?_ ?_ ?_⟩
  ·rintro i σ H' _ ⟨v2,v3,v4,v5,ps,rfl,B1,_⟩;exact aO.of (B1.sm _ _ ht)
  ·rintro i y σ H1 hy ⟨v2,v3,v4,v5,ps,rfl,B1,pl1,il,_⟩;obtain⟨⟨n,th⟩,hq,p,v,rfl,hp,hv⟩:=j3 Rz hy;have NX:i<vw.length:=(C'.mp hq).1;have til:(vw.take i).length=i:=by rw[length_take];omega
   obtain⟨nb,_,ahN⟩:=ek.nm _ (X' hq);have nn:=aeC ek.w.nd hq;have no:=P7 nb nn (by omega);obtain⟨dx,L,D,U,hx⟩:=B1.hx;obtain⟨F1,b1,f1,z1,o1⟩:=B1.ex;have hp1:=B1.sm _ _ hp;rw[abl hq];refine⟨p,_,rfl,ij.of hp1,rfl,_,_,rfl,_,_,rfl,rfl,?_⟩;cases th with
   |cn ld lt sl tn =>
    obtain⟨tp,rfl,htp⟩:=hv;have ht1:=B1.sm _ _ htp;obtain⟨ss,hss⟩:=ek.ld i n ld lt sl tn hq;have hfl:=(yt.take ek i).find hss;have tk:um lt sl:=(ek.w.ld _ _ _ _ _ (X' hq)).2;tm_up;refine⟨_,_,_,_,rfl,eG.tup ht1,rfl,_,rfl,pG ?_⟩;refine⟨_,rfl,x,dx,_,rfl,hx,GC _ _ _,_,rfl,_,rfl,Hb (i:=0) ht1 rfl ?_⟩;refine⟨_,rfl,Hb (i:=1) ht1 rfl ?_⟩;refine⟨_,rfl,Hb (i:=2) ht1 rfl ?_⟩;refine⟨_,rfl,Hb (i:=3) ht1 rfl ?_⟩;refine⟨x,F1,_,ps,[],n,ld,lt,sl,tn,rfl,b1,ahN,by omega,?_⟩;rw[no,hfl];refine⟨fun z=>V' tk z,fun _ F7 H7 gr7 fr7 b7=>?_⟩;obtain⟨B7,k7⟩:=Bw.mk' b7 B1.sm f1 z1 o1 gr7 fr7;exact⟨_,_,_,_,_,rfl,B7,by rw[T'];show ps.length+1<=_;omega,NX,fun _=>⟨ps,by rw[P6]⟩⟩
   |pl ss =>
    obtain⟨l,zs,rfl,hl,g⟩:=hv;have hl1:=B1.sm _ _ hl;tm_up;refine⟨_,_,_,_,rfl,eG.lst hl1,rfl,_,rfl,cv ?_⟩;have s24:=ek.sh n ss (X' hq);have gdS:=(ek.w.gd n ss (X' hq)).2;have zl:=bh g;refine⟨_,rfl,x,dx,_,rfl,hx,uN _ _ _,_,rfl,?_⟩;refine⟨x,F1,_,ps,[],n,rfl,b1,ahN,by omega,?_⟩;rw[no];intro F2 H2 gr2 fr2 b2;obtain⟨B2,k2⟩:=Bw.mk' b2 B1.sm f1 z1 o1 gr2 fr2;clear b1 f1 z1 o1 gr2 fr2 b2 k2 hx;refine⟨_,rfl,l,rfl,⟨_,aO.of (B2.sm _ _ hl)⟩,K0 (K:=K) (xs:=zs) (fun j σ H'=>∃(v4 v5:Option V)(ps':List Vw),σ=[some (.ref x),some (.ref tl),some (.str n),some (.ref l),v4,v5]/\Bw (cs t) H0 H' x [] (vw.take i++[(n,.pl (ss.take j))]) ps' []/\ps'.length=ps.length+1+j/\j<=ss.length/\∃ Jw,ps'=Jw++[gq (vw.take i++[(n,.pl (ss.take j))])]) ⟨_,_,ps++[vw.take i],rfl,B2,by simp,Nat.zero_le _,ps,by rw[show ss.take 0=[] from rfl,Me]⟩ ?_ ?_ ?_⟩
    ·rintro j σ H3 ⟨_,_,ps',rfl,B3,_⟩;exact aO.of (B3.sm _ _ hl)
    ·rintro j y τ σ H3 hy3 ⟨_,_,ps',rfl,B3,pl3,jl,_⟩ hτ;obtain⟨sg,hsg,pp,rfl,hpp⟩:=j3 g hy3;have hj:j<ss.length:=(C'.mp hsg).1;have s4:=ao.upd (o:=.tup [.int (j:Int),.ref pp]) hτ;have alc:=af (H:=H3) (a:=τ) (o:=.tup [.int (j:Int),.ref pp]);generalize upd H3 τ (.tup [.int (j:Int),.ref pp])=H4 at s4 alc;have B4:=B3.same s4;obtain⟨dx4,L4,D4,U4,hx4⟩:=B4.hx;obtain⟨F4,b4,f4,z4,o4⟩:=B4.ex;have tjl:(ss.take j).length=j:=by rw[length_take];omega
     refine⟨τ,_,rfl,ij.of alc,rfl,_,_,rfl,_,_,rfl,rfl,?_⟩;refine⟨_,rfl,x,dx4,_,rfl,hx4,Ld _ _ _,_,rfl,_,rfl,_,rfl,?_⟩;refine⟨x,F4,_,ps',[],n,(j:Int),pp,(sg.1.str,sg.2),rfl,b4,B4.sm _ _ hpp,by omega,?_⟩;rw[abk nn];have gd:=ZU (gdS sg (X' hsg));refine⟨(fun z=>V' ⟨by omega,by rw[tjl];omega⟩ z),(fun _ z=>by rw[gd]at z;cases z),(fun _ _ z=>by rw[tjl]at z;omega),fun _ _ _ s9 w F9 H9 e1 e2 gr9 fr9 b9=>?_⟩;have es:s9=sg:=Prod.ext (str_inj.mp e1) e2;subst es;rw[Int.toNat_natCast,aeB hsg,abj nn]at b9;obtain⟨B9,k9⟩:=Bw.mk' b9 B4.sm f4 z4 o4 gr9 fr9;exact⟨_,_,_,rfl,B9,by rw[T'];show ps'.length+1=_;omega,hj,ps',by rw[abh _ _ hsg]⟩
    ·rintro σ H3 ⟨_,_,ps',rfl,B3,pl3,jl,Jw,e0⟩;rw[zl,take_length]at B3 e0;exact⟨_,_,_,_,ps',rfl,B3,by rw[zl]at pl3;omega,NX,fun _=>⟨Jw,e0⟩⟩
  ·rintro σ H1 ⟨v2,v3,v4,v5,ps,rfl,B1,pl1,_,bf⟩;rw[yl,take_length]at B1 bf;have bf':vw≠[]->∃ Jw,ps=Jw++[gq vw]:=fun hne=>bf (by
    cases vw with
    |nil=>exact V' rfl hne
    |cons _ _=>exact Nat.succ_pos _)
   have zn:∀ q∈vw,q.1 ≠ "zed":=fun q hq=>(ek.nm q hq).2.1;refine⟨fun σ H'=>σ=[some (.ref x),some (.ref tl),v2,v3,v4,v5]/\Bw (cs t) H0 H' x [] vw ps (if vw.length<12 then [Rk vw] else []),?_,?_⟩
   ·tm_up;refine .inl ⟨tl,ys,rfl,.inl (aO.of (B1.sm _ _ ht)),?_⟩;tm_up;refine aZ (fun hlt=>?_) (fun hlt=>?_)
    ·have hlt':vw.length<12:=by have:=K' hlt;omega
     obtain⟨dx,L,D,U,hx⟩:=B1.hx;obtain⟨F1,b1,f1,z1,o1⟩:=B1.ex;refine⟨_,rfl,x,dx,_,rfl,hx,uN _ _ _,?_⟩;refine⟨x,F1,_,ps,[],"zed",rfl,b1,by lk,by omega,?_⟩;rw[P7 (by lk) zn hlt'];intro F2 H2 gr2 fr2 b2;obtain⟨B2,k2⟩:=Bw.mk' b2 B1.sm f1 z1 o1 gr2 fr2;obtain⟨dx2,L2,D2,U2,hx2⟩:=B2.hx;obtain⟨F3,b3,f3,z3,o3⟩:=B2.ex;refine⟨_,rfl,x,dx2,_,rfl,hx2,oK _ _ _,?_⟩;refine⟨x,F3,_,_,[],rfl,b3,by rw[T'];show ps.length+1+0<=900;omega,(fun z=>by simp at z),fun Jw v0 e0 H4 fr4 b4=>?_⟩;obtain⟨e01,e02⟩:=lh e0;subst e01 e02;obtain⟨B4,k4⟩:=Bw.mk' b4 B2.sm f3 z3 o3 (Gr.refl _ _) fr4;exact⟨rfl,by rw[if_pos hlt'];exact B4⟩
    ·have hlt':¬ vw.length<12:=fun z=>hlt (N' (by omega));exact⟨rfl,by rw[if_neg hlt'];exact B1⟩
   rintro _ H2 ⟨rfl,B2⟩;tm_up;exact q H2 ps B2 (by omega) bf'
inductive Fd (C:Addr)(vs:List V)(H:Hp)(Q:VK)(E:XK):Prop
 |mk (x dx:Addr) (dE:vs=[.ref x]) (dF:H x=some (.ins C dx [])) (eQ:∀(L D U:Addr)(H':Hp),(∀ y o,H y=some o->y≠x->H' y=some o)->H L=none->H D=none->H U=none->L≠D->L≠U->D≠U->H' x=some (.ins C dx (Ee L D U))->H' L=some (.lst [])->H' D=some (.lst [])->H' U=some (.lst [])->Q .non H'):Fd C vs H Q E
theorem He (T:Txt K w mg t):br P w K mg base fK (0+1) t.cS t.pL ["self"] (Fd t.a7):=by
 refine T.jX.ok GK (fun vs H Q E h=>?_) (fun cdv A outer s H vs Q E hr h=>?_)
 ·obtain⟨_,_,rfl,_⟩:=h;rfl
 ·obtain⟨x,dx,rfl,hx,q⟩:=h;refine aR (ag (t5 (pv 0) (bq ae) rfl) (ag (t5 (pv 0) (bq ae) rfl) (ah (t5 (pv 0) (bq ae) rfl)))) ?_;refine⟨big (by show 0<=1000;omega),fun L hL=>?_⟩;have xL:x≠L:=ar hx hL;refine⟨_,rfl,x,_,dx,_,rfl,by rw[ak xL];exact hx,T.aN,T.cm,by show 0<1000;decide,?_⟩;refine⟨big (by show 0<=1000;omega),fun D hD=>?_⟩;have xD:x≠D:=ar af hD;have DL:L≠D:=ar (show upd (upd H L (.lst [])) x _ L=some (.lst []) by rw[ak (Ne.symm xL)];exact af) hD;have hD0:H D=none:=by rw[ak (Ne.symm xD),ak (Ne.symm DL)]at hD;exact hD
  refine⟨_,rfl,x,_,dx,_,rfl,by rw[ak xD];exact af,T.aN,T.dN,by rw[QN];show 1<1000;decide,?_⟩;refine⟨big (by show 0<=1000;omega),fun U hU=>?_⟩;have xU:x≠U:=ar af hU;have DU:D≠U:=by
   rintro rfl;rw[ak (Ne.symm xU),af]at hU;cases hU
  have LU:L≠U:=by
   rintro rfl;rw[ak (Ne.symm xU),ak DL,ak (Ne.symm xU),af]at hU;cases hU
  have WE:H U=none:=by rw[ak (Ne.symm xU),ak (Ne.symm DU),ak (Ne.symm xU),ak (Ne.symm LU)]at hU;exact hU
  refine⟨_,rfl,x,_,dx,_,rfl,by rw[ak xU];exact af,T.aN,T.cM,by rw[QN,ZQ];show 2<1000;decide,?_⟩;rw[QN,ZQ,af9];refine q L D U _ (fun y o hy ny=>?_) hL hD0 WE DL LU DU af ?_ ?_ ?_
  ·rw[ak ny,ak (ar hy WE),ak ny,ak (ar hy hD0),ak ny,ak (ar hy hL)];exact hy
  ·rw[ak (Ne.symm xL),ak LU,ak (Ne.symm xL),ak DL,ak (Ne.symm xL)];exact af
  ·rw[ak (Ne.symm xD),ak DU,ak (Ne.symm xD)];exact af
  ·rw[ak (Ne.symm xU)];exact af
noncomputable def qr (ss:List Sg):List Sg:=ss.map fun s=>(s.1,s.2 % 4)
noncomputable def aeD:Th->Th
 |.pl ss=>.pl (qr ss)
 |.cn ld lt sl tn=>.cn ld lt sl tn
inductive P8 (K:Frag)(vs:List V)(H:Hp)(Q:VK)(E:XK):Prop
 |mk (v:V) (th:Th) (dE:vs=[v]) (dF:ThV H v th) (eQ:match th with
 |.cn _ _ _ _=>Q v H
 |.pl ss=>ss.length<=24/\∀(l:Addr)(zs:List V)(H':Hp),H l=none->ao H H'->H' l=some (.lst zs)->iq H' zs (qr ss)->Q (.ref l) H'):P8 K vs H Q E
theorem abm (T:Txt K w mg t):br P w K mg base fK (0+1) t.rK t.Ly ["_law_thing"] (P8 K):=by
 refine T.zc.ok aaP (fun vs H Q E h=>?_) (fun cdv A outer s H vs Q E hr h=>?_)
 ·obtain⟨_,_,rfl,_⟩:=h;rfl
 ·obtain⟨v,th,rfl,hv,q⟩:=h;refine aR (ag (aU (aX (av bT rfl T.aW aV (aa (pv 0) (aa (cW (v:=.ty "tuple") rfl T.zd ym rfl) ae)))) (ah (ax (pv 0))) aD) (ah (ax (kY (cn:=["_law_kind","_law_tone"]) rfl (bY.of rfl) (cu (pv 0)) (fun _=>(dA rfl (aK (aB (i:=0) Et rfl (Or.inl rfl)) (aK (aB (i:=1) Et rfl (Or.inl rfl)) cq)))) (fun _=>j0) (fun _=>(cV (aa (pv 0) (aa (aJ cG (pv 1) aj) ae)))))))) ?_;cases th with
  |cn ld lt sl tn =>
   obtain⟨tp,rfl,htp⟩:=hv;tm_up;refine⟨_,_,_,_,rfl,eG.tup htp,rfl,_,rfl,pG ?_⟩;tm_up;exact q
  |pl ss =>
   obtain⟨l,zs,rfl,hl,g⟩:=hv;obtain⟨sl,q⟩:=q;have zl:=bh g;tm_up;refine⟨_,_,_,_,rfl,eG.lst hl,rfl,_,rfl,cv ?_⟩;refine⟨_,rfl,l,rfl,⟨_,aO.of hl⟩,fun D b hD=>?_⟩;refine eJ (K:=K) (xs:=zs) (fun i ws σ H'=>∃ u v,σ=[u,v,some (.ref l)]/\ao H H'/\H' D=some (.lst ws)/\iq H' ws ((qr ss).take i)/\i<=ss.length) ⟨none,none,rfl,ao.upd hD,af,.nil,Nat.zero_le _⟩ ?_ ?_ ?_
   ·rintro i ws σ H' ⟨u,v,rfl,s2,_⟩;exact aO.of (s2 _ _ hl)
   ·rintro i ws y σ H' hy ⟨u,v,rfl,s2,ui,pz,il⟩ N hN;obtain⟨sg,hsg,p,rfl,hp⟩:=j3 g hy;have NX:i<ss.length:=(C'.mp hsg).1;have wl:=bh pz;rw[length_take]at wl;unfold D9;refine⟨p,_,rfl,ij.of (s2 _ _ hp),rfl,_,_,rfl,_,_,rfl,rfl,?_⟩;refine⟨_,rfl,?_⟩;tm_up;refine⟨big (by show 2<=1000;omega),fun pp hpp=>?_⟩;have st:=ao.upd (o:=.tup [.str sg.1.str,.int (sg.2 % 4)]) hpp;have hD5:=st _ _ ui;refine⟨hD5,aQ (by omega),hN _ _ _ ⟨_,_,rfl,cD (s2.trans st) hD,af,?_,NX⟩⟩;rw[take_succ,show(qr ss)[i]? = some (sg.1,sg.2 % 4) by unfold qr;rw[getElem?_map,hsg];rfl];exact fL (K6 hD5 (pz.same st)) (Pl hD5 ⟨pp,rfl,af⟩)
   ·rintro ws σ H' ⟨u,v,rfl,s2,ui,pz,_⟩;rw[zl,show ss.length=(qr ss).length by unfold qr;rw[J'],take_length]at pz;exact q D ws H' hD s2 ui pz
noncomputable def r6 (vw:Vw):Vw:=vw.map fun q=>(q.1,aeD q.2)
theorem VO (vw:Vw):(r6 vw).map (·.1)=vw.map (·.1):=by unfold r6;rw[List.map_map];rfl
theorem agC {vw:Vw}{n:Str}{ss:List Sg}(h:(n,Th.pl ss)∈vw):(n,Th.pl (qr ss))∈r6 vw:=mem_map.mpr ⟨_,h,rfl⟩
theorem VP {vw:Vw}{n:Str}{ss':List Sg}(h:(n,Th.pl ss')∈r6 vw):∃ ss,ss'=qr ss/\(n,Th.pl ss)∈vw:=by
 obtain⟨⟨m,th⟩,hm,e⟩:=mem_map.mp h;cases th with
 |pl ss =>
  have e1:m=n:=congrArg Prod.fst e;have e2:Th.pl (qr ss)=Th.pl ss':=congrArg Prod.snd e;cases e2;exact⟨ss,rfl,e1 ▸ hm⟩
 |cn ld lt sl tn=>have e2:Th.cn ld lt sl tn=Th.pl ss':=congrArg Prod.snd e;cases e2
theorem aeE {vw:Vw}{n ld:Str}{lt sl:Int}{tn:Bool}(h:(n,Th.cn ld lt sl tn)∈r6 vw):(n,Th.cn ld lt sl tn)∈vw:=by
 obtain⟨⟨m,th⟩,hm,e⟩:=mem_map.mp h;cases th with
 |pl ss=>have e2:Th.pl (qr ss)=Th.cn ld lt sl tn:=congrArg Prod.snd e;cases e2
 |cn ld' lt' sl' tn' =>
  have e1:m=n:=congrArg Prod.fst e;have e2:Th.cn ld' lt' sl' tn'=Th.cn ld lt sl tn:=congrArg Prod.snd e;cases e2;exact e1 ▸ hm
theorem XG {ss:List Sg}(h:∀ s∈ss,jL s):∀ s∈qr ss,jL s:=fun s hs=>by
 obtain⟨s0,h0,rfl⟩:=mem_map.mp hs;obtain⟨g1,g2⟩:=h s0 h0;refine⟨fun e=>?_,fun e=>?_⟩
 ·show 0<=s0.2 % 4/\s0.2 % 4<100;omega
 ·show s0.2 % 4=0;rw[g2 e];rfl
theorem aeF {vw:Vw}(e:Ej vw):Ej (r6 vw) where
 w :=
  {
   nd:=by rw[VO];exact e.w.nd
   ld:=fun n ld lt sl tn h=>by
    obtain⟨⟨ss,h1⟩,h2⟩:=e.w.ld n ld lt sl tn (aeE h);exact⟨⟨_,agC h1⟩,h2⟩
   gd:=fun n ss h=>by
    obtain⟨ss0,rfl,h0⟩:=VP h;obtain⟨g1,g2⟩:=e.w.gd n ss0 h0;exact⟨by unfold qr;rw[J'];exact g1,XG g2⟩
   len:=by unfold r6;rw[J'];exact e.w.len }
 nm:=fun q hq=>by
  obtain⟨q0,h0,rfl⟩:=mem_map.mp hq;exact e.nm q0 h0
 ld:=fun i n ld lt sl tn h=>by
  unfold r6 at h ⊢;rw[getElem?_map]at h;obtain⟨⟨m,th⟩,hm,e2⟩:=Option.map_eq_some_iff.mp h;cases th with
  |pl ss=>have z:Th.pl (qr ss)=Th.cn ld lt sl tn:=congrArg Prod.snd e2;cases z
  |cn ld' lt' sl' tn' =>
   have z1:m=n:=congrArg Prod.fst e2;have z:Th.cn ld' lt' sl' tn'=Th.cn ld lt sl tn:=congrArg Prod.snd e2;cases z;obtain⟨ss,hss⟩:=e.ld i m ld lt sl tn hm;refine⟨qr ss,?_⟩;rw[<-map_take];exact mem_map.mpr ⟨_,hss,rfl⟩
 sh:=fun n ss h=>by
  obtain⟨ss0,rfl,h0⟩:=VP h;unfold qr;rw[J'];exact e.sh n ss0 h0
theorem aji (T:Txt K w mg t):br P w K mg base fK (0+13) t.Lz t.ad6 ["_law_script"] (K9 K):=by
 have VQ:=Rg (P:=P) (base:=base) T;have Oq:=Mf (P:=P) (base:=base) T;have VR:=RB (P:=P) (base:=base) T;have J2:=He (P:=P) (base:=base) T;have bc:=lQ (P:=P) (base:=base) T;have aeG:=abm (P:=P) (base:=base) T;refine T.ZX.ok Xk (fun vs H Q E h=>?_) (fun cdv A outer s H vs Q E hr h=>?_)
 ·obtain⟨a,ns,rfl,_⟩:=h;rfl
 ·obtain⟨a,ns,rfl,hS,hl,q⟩:=h;refine aR (ag (aH (i:=1) Xk.nd rfl (Or.inl rfl) (aq VQ (hr.mono (by decide)) rfl T.QX T.oQ.kp T.yR .nil au (aa (pv 0) ae))) (ag (jx (aU (aw mR (aJ cG (aJ oy (aq bc (hr.mono (by decide)) rfl T.bB T.ba.kp T.bA .nil au (aa (pv 0) (aa aj ae))) aj) aj) aj (aG _)) (ah (vG (i:=1) Xk.nd rfl rfl (cn:=["_law_name","_law_thing"]) rfl (bY.of rfl) (cu (pv 1)) (fun _=>(dA rfl (aK (aB (i:=0) Px rfl (Or.inl rfl)) (aK (aB (i:=1) Px rfl (Or.inl rfl)) cq)))) (fun _=>j0) (fun _=>(cV (aa (pv 0) (aa (aq aeG (hr.mono (by decide)) rfl T.aaV T.zc.kp T.LL .nil au (aa (pv 1) ae)) ae)))))) aD)) (ah (ax (aq Oq (hr.mono (by decide)) rfl T.LK T.jQ.kp T.uh .nil au (aa (pv 0) (aa (aq VR (hr.mono (by decide)) rfl T.Q5 T.oW.kp T.zb .nil au (aa (adf T.agf J2 (hr.mono (by decide)) rfl T.age T.pM .nil au) (aa (pv 1) ae))) (aa (pv 1) ae)))))))) ?_;tm_up;refine⟨a,ns,rfl,hS,hl,fun tl vw H3 s3 nt tld ek=>?_⟩;refine⟨fun σ H'=>∃(tl:Addr)(vw:Vw),σ=[some (.ref a),some (.ref tl)]/\ao H H'/\lj H' tl vw/\Ej vw,?_,?_⟩
  ·tm_up;refine⟨a,ns,0,rfl,s3.seq hS,hl,?_⟩;tm_up;refine aZ (fun _=>?_) (fun _=>⟨tl,vw,rfl,s3,tld,ek⟩);obtain⟨ys,ht,Rz⟩:=tld;have yl:=bh Rz;have wl:=ek.w.len;refine⟨_,rfl,tl,rfl,⟨_,aO.of ht⟩,fun D b hD=>?_⟩;refine eJ (K:=K) (xs:=ys) (fun i zs σ H'=>∃ u v,σ=[u,v,some (.ref a),some (.ref tl)]/\ao H3 H'/\H' D=some (.lst zs)/\Paired (Ei (strip D H')) zs ((r6 vw).take i)/\i<=vw.length) ⟨none,none,rfl,ao.upd hD,af,.nil,Nat.zero_le _⟩ ?_ ?_ ?_
   ·rintro i zs σ H' ⟨u,v,rfl,s2,_⟩;exact aO.of (s2 _ _ ht)
   ·rintro i zs y σ H' hy ⟨u,v,rfl,s2,ui,pz,il⟩ N hN;obtain⟨⟨n,th⟩,hq,p,w0,rfl,hp,hv⟩:=j3 Rz hy;have NX:i<vw.length:=(C'.mp hq).1;have wl2:=bh pz;rw[length_take]at wl2;have nq:(r6 vw)[i]? = some (n,aeD th):=by unfold r6;rw[getElem?_map,hq];rfl
    unfold D9;refine⟨p,_,rfl,ij.of (s2 _ _ hp),rfl,_,_,rfl,_,_,rfl,rfl,?_⟩;have fin:∀(v':V)(H4:Hp),ao H' H4->ThV (strip D H4) v' (aeD th)->∀ pp,H4 pp=none->upd H4 pp (.tup [.str n,v']) D=some (.lst zs)/\ao H3 (upd (upd H4 pp (.tup [.str n,v'])) D (.lst (zs++[.ref pp])))/\Paired (Ei (strip D (upd (upd H4 pp (.tup [.str n,v'])) D (.lst (zs++[.ref pp]))))) (zs++[.ref pp]) ((r6 vw).take (i+1)):=by
     intro v' H4 s4 t4 pp hpp;have st:=ao.upd (o:=.tup [.str n,v']) hpp;have hD4:=st _ _ (s4 _ _ ui);have npD:pp≠D:=fun e=>by rw[e,s4 _ _ ui]at hpp;exact nomatch hpp
     have ss:ao (strip D H') (strip D (upd (upd H4 pp (.tup [.str n,v'])) D (.lst (zs++[.ref pp])))):=fun b o hb=>by
      have hb':=kc (t:=D) (s4.trans st) b o hb;unfold strip at hb' ⊢
      by_cases e:b=D
      ·rw[if_pos e]at hb';exact nomatch hb'
      ·rw[if_neg e]at hb' ⊢;rw[ak e];exact hb'
     have s4':ao (strip D H4) (strip D (upd (upd H4 pp (.tup [.str n,v'])) D (.lst (zs++[.ref pp])))):=fun b o hb=>by
      have hb':=kc (t:=D) st b o hb;unfold strip at hb' ⊢
      by_cases e:b=D
      ·rw[if_pos e]at hb';exact nomatch hb'
      ·rw[if_neg e]at hb' ⊢;rw[ak e];exact hb'
     refine⟨hD4,cD ((s2.trans s4).trans st) hD,?_⟩;rw[take_succ,nq];exact fL (aY (fun _ _ q=>q.same ss) pz) ⟨pp,v',rfl,eC npD (by rw[ak npD];exact af),t4.same s4'⟩
    cases th with
    |cn ld lt sl tn =>
     obtain⟨tp,rfl,htp⟩:=hv;refine⟨_,rfl,_,rfl,_,.cn ld lt sl tn,rfl,⟨tp,rfl,s2 _ _ htp⟩,?_⟩;refine⟨big (by show 2<=1000;omega),fun pp hpp=>?_⟩;obtain⟨f1,f2,f3⟩:=fin (.ref tp) H' (ao.refl _) ⟨tp,rfl,eC (fun e=>by rw[<-e,s2 _ _ htp]at ui;exact nomatch ui) (s2 _ _ htp)⟩ pp hpp;exact⟨f1,aQ (by omega),hN _ _ _ ⟨_,_,rfl,f2,af,f3,NX⟩⟩
    |pl ss =>
     obtain⟨l,ls,rfl,hl1,gl⟩:=hv;refine⟨_,rfl,_,rfl,_,.pl ss,rfl,⟨l,ls,rfl,s2 _ _ hl1,gl.same s2⟩,ek.sh n ss (X' hq),fun l4 zs4 H4 n4 s4 h4 g4=>?_⟩;refine⟨big (by show 2<=1000;omega),fun pp hpp=>?_⟩;have n4D:l4≠D:=fun e=>by rw[e,ui]at n4;exact nomatch n4
     obtain⟨f1,f2,f3⟩:=fin (.ref l4) H4 s4 ⟨l4,zs4,rfl,eC n4D h4,iq.strip (s4 _ _ ui) g4⟩ pp hpp;exact⟨f1,aQ (by omega),hN _ _ _ ⟨_,_,rfl,f2,af,f3,NX⟩⟩
   ·rintro zs σ H' ⟨u,v,rfl,s2,ui,pz,_⟩;rw[yl,show vw.length=(r6 vw).length by unfold r6;rw[J'],take_length]at pz;exact⟨D,r6 vw,rfl,s3.trans s2,⟨zs,ui,aY (fun _ _ q=>q.same (ze D H')) pz⟩,aeF ek⟩
  rintro _ H3' ⟨tl',vw',rfl,s3',alz,ek'⟩;clear tld ek;refine⟨_,rfl,?_⟩;intro x dx nx ndx _;refine⟨x,dx,rfl,af,fun L D U H4 kp4 nL nD nU LD LU DU hx4 hL4 hD4 hU4=>⟨rfl,?_⟩⟩;have s4:=aiF nx ndx kp4;have B4:Bw (cs t) H3' H4 x [] [] [] []:=Bw.new hx4 hL4 hD4 hU4 LD LU DU s4 (Lf nL) (Lf nD) (Lf nU);refine⟨_,rfl,x,tl',H3',vw',rfl,B4,alz,ek',fun H5 ps B5 l5 bf=>?_⟩;refine⟨_,rfl,?_⟩;exact⟨a,x,tl',ns,H3',vw',ps,rfl,s3'.seq hS,hl,B5,alz,ek',l5,bf,q⟩
theorem aaa {us:List Value}(h:us.length=1):∃ a0,us=[a0]:=match us,h with|[a0],_=>⟨a0,rfl⟩
theorem lV {p:List Value->Prop}(h:∀ a0,p [a0])(us:List Value)(e:us.length=1):p us:=by obtain⟨_,rfl⟩:=aaa e;exact h _
theorem ahO {us:List Value}(h:us.length=2):∃ a0 a1,us=[a0,a1]:=match us,h with|[a0,a1],_=>⟨a0,a1,rfl⟩
theorem dS {p:List Value->Prop}(h:∀ a0 a1,p [a0,a1])(us:List Value)(e:us.length=2):p us:=by obtain⟨_,_,rfl⟩:=ahO e;exact h _ _
theorem aeH {us:List Value}(h:(us++[]).length=2):∃ a0 a1,us=[a0,a1]:=ahO (by rw[append_nil]at h;exact h)
theorem ahP {us:List Value}(h:us.length=3):∃ a0 a1 a2,us=[a0,a1,a2]:=match us,h with|[a0,a1,a2],_=>⟨a0,a1,a2,rfl⟩
theorem Fe {p:List Value->Prop}(h:∀ a0 a1 a2,p [a0,a1,a2])(us:List Value)(e:us.length=3):p us:=by obtain⟨_,_,_,rfl⟩:=ahP e;exact h _ _ _
theorem alA {us:List Value}(h:us.length=4):∃ a0 a1 a2 a3,us=[a0,a1,a2,a3]:=match us,h with|[a0,a1,a2,a3],_=>⟨a0,a1,a2,a3,rfl⟩
theorem Ff {p:List Value->Prop}(h:∀ a0 a1 a2 a3,p [a0,a1,a2,a3])(us:List Value)(e:us.length=4):p us:=by obtain⟨_,_,_,_,rfl⟩:=alA e;exact h _ _ _ _
theorem alB {us:List Value}(h:us.length=5):∃ a0 a1 a2 a3 a4,us=[a0,a1,a2,a3,a4]:=match us,h with|[a0,a1,a2,a3,a4],_=>⟨a0,a1,a2,a3,a4,rfl⟩
theorem alC {p:List Value->Prop}(h:∀ a0 a1 a2 a3 a4,p [a0,a1,a2,a3,a4])(us:List Value)(e:us.length=5):p us:=by obtain⟨_,_,_,_,_,rfl⟩:=alB e;exact h _ _ _ _ _
theorem alD {us:List Value}(h:us.length=6):∃ a0 a1 a2 a3 a4 a5,us=[a0,a1,a2,a3,a4,a5]:=match us,h with|[a0,a1,a2,a3,a4,a5],_=>⟨a0,a1,a2,a3,a4,a5,rfl⟩
theorem alE {us:List Value}(h:(us++[]).length=6):∃ a0 a1 a2 a3 a4 a5,us=[a0,a1,a2,a3,a4,a5]:=alD (by rw[append_nil]at h;exact h)
set_option maxHeartbeats 0 in
theorem all_mk {l:OpenLaw}{w:World}{K:Frag}{h:Heap}{mg:Str->Option Value}{fa dg bx a7 iL m6 iN iO rm iP fU fV kM fW bK BY cI di vU m7 j5 d6 rA bI bP cR fX iQ iR gx eS eU iS rB eV j7 sU m8 fm bL Cc KA dB c9 cJ cK gy ng rC A2 fY rE v7 bV Cd nh rF iT rG nj v8 rH iU gA iV nr nu rJ j8 cL fo nC bZ dQ cy cz cA iw iW cS rK Lz dR fq dC cT cB ee dj dm bS:Addr}(X:K.In h)(G:h.Ns mainGlobals mg)(hfa:mg "law"=some (.ref fa)){RC RD XH XI RE RF RG RH abn abo RI RJ RK RL RM RN XJ XM RO RP wG wH agD agE Cy Cz J3 J4 aeI aeJ XN XO VS VT J5 J6 abp abq zq zr Bc Bd Hf Hg RQ RS VU VW VX VY Ot Ou Ov Ow Ox Oy RT RU abr abt RV RW VZ V0 RY XQ XR Mh Mi wI wJ agF agG aeK Hh Hi Fg Fh CA CC CF CG Oz OA XT XU abu abv XW RZ R0 abw abx aeL aeM zu zw agH agI XX XY aby abz R1 R3 abA abB XZ X0 aeN aeO abC abD R4 R5 OB OC R6 R7 X1 X2 X3 X4 abE abF V1 V2 CH CI Mj Ml X5 X6 CJ CK Mm Mn Fi Fj Fl Fm Fn Fo CL R8 R9 Hj Hk abG abH ajj ajk Mo Mp Hl Hm Fp J7:Option Addr}{Sa X7 Sb Sd abI Se Sf Sh X8 Si wK agJ CM J8 aeP X9 V3 J9 abJ zx Be Hn Sj V4 V5 OD OE OF Sk abK Sl V6 Sm Ya Mq wL agK aeQ Ho Fq CN CO OG Yb abL Yc So abM aeR zy agL Yd abN Sq abO Ye aeS abP Sr OH Ss Yf Yg abQ V7 CP Mr Yh CQ Mt Ft Fu Fv CS Su Hq abR ajl Mu Mv Hr Ht Fw Ka:Array (Option Value)}{Sv Sw Sx Sy Fx Sz Yi Yj Yk Yl Mw Ym SA SD SE SF Fy SG SH SI SJ SK Fz SM abS abT abU abV P9 abW SN SO SQ SR FA SU SV SW SX SY FC S0 S9 Ta Tb Tc FD Td Yn Yo Yp Yq Mx Yr Te Tf Tg Ti FE Tj wN wO wQ wR lW wU agM agN agO agP aab agQ CT CU CW CY sd CZ Kb Kc Ke Kf x3 Kg aeT aeU aeV aeW V8 aeX Ys Yt Yu Yv My Yw V9 Wa Wb Wc JO Wd Kh Ki Kj Kk x4 Kl abX abY abZ ab0 Qa ab1 zA zB zC zD ph zE Bf Bg Bh Bi qt Bj Hu Hv Hw Hy vB Hz Tn To Tp Tq FF Tr We Wf Wg Wh JP Wi Wj Wk Wl Wm JQ Wn OI OJ OK OL BA OM ON OO OP OQ BB OR OS OT OU OV BC OW Ts Tt Tu Tv FG Tw ab2 ab3 ab4 ab5 Qb ab6 Tx Tz TB TC FH TF Wo Wq Wr Ws JR Wt TJ Yx Yy Yz YA Mz YB MA MB MC MD zF ME wV wW wX wY lX wZ agR agS agT agU aac agV aeY HA HB HC HD vC HE FI FJ FK FL tP FN C0 C1 C2 C3 se C4 C5 C6 C7 C8 sf C9 OX OY OZ O0 BD O1 YC YD YE YF MF YG ab7 ab8 ab9 aca Qc acb YH TK TL TM TN FO TQ acd ace acf acg Qd ach aeZ ae0 ae1 ae2 Wu ae3 zG zH zI zJ pj zK agW agX agY agZ aad ag0 YI YJ YK YL MG YM aci acj ack acm Qe acn TR TV TX TY FP TZ aco acp acq acr Qf acs YN YO YQ YR MH YS ae4 ae5 ae6 ae7 Wv ae8 acu acv acw acx Qg acy T1 T2 T3 T4 FQ T5 O2 O3 O4 O5 BE O6 T6 T7 T8 T9 FR Ua YT YU YV YW MI YX YY YZ Y0 Y1 MJ Y2 acz acA acB acC Qh acD Ww Wx Wy Wz JS WA Dc De Df Dg si Dh MK ML MN MO zL MP Y3 Y4 Y5 Y6 MQ Y7 Di Dj Dk Dl sj Dm MR MS MT MU zM MV FT FU FV FW tQ FX FY FZ F5 Ga tR Gb Gd Ge Gf Gg tS Gh Dn Ub Uc Ud Ue Gi Ug HF HG HH HI vD HJ acE acF acG acH Qi acI ajm ajn ajo ajp ae9 ajq:Value}{ly yJ rD d7 ed MW MX MY MZ M0 M3 HK HL HM HN HP Gj Gk Gm Gn Km Kn Ko Kp Kq lE HQ HR HS HU HV HW HX HY HZ Ia Ib Ic Ie Ig Ih Ii Ij Ik Il Im Io Ip Dp Dq Dr Ds qy ix jT lF A3 lG oE qz Ew A4:Tok}{Uh afa Y8 Dt O7 O8 Kr Ks Iq M4 M5 M6 Ir:Nat}(M7:nsIn K mainGlobals "Voice"=some (some (.ref dg)))(Ui:nsIn K mainGlobals "Deed"=some (some (.ref bx)))(Uj:nsIn K mainGlobals "Book"=some (some (.ref a7)))(zN:nsIn K mainGlobals "_law_cell_at"=some (some (.ref iL)))(zO:K.lookup iL=some ⟨Sv,RC,.func (fnOf "_law_cell_at" "_law_cell_at" (aC kr) (ay kr) (ai kr) .none Sw Sx Sy RD Fx Sz),Sa⟩)(zP:codeIn K Fx "_law_cell_at"=true)(zQ:keepIn K (.ref iL)=true)(Iu:nsIn K mainGlobals "_law_mixed"=some (some (.ref m6)))(Iv:K.lookup m6=some ⟨Yi,XH,.func (fnOf "_law_mixed" "_law_mixed" (aC qJ) (ay qJ) (ai qJ) .none Yj Yk Yl XI Mw Ym),X7⟩)(Iw:codeIn K Mw "_law_mixed"=true)(Iy:keepIn K (.ref m6)=true)(zR:nsIn K mainGlobals "_law_sign_by"=some (some (.ref iN)))(zS:K.lookup iN=some ⟨SA,RE,.func (fnOf "_law_sign_by" "_law_sign_by" (aC ky) (ay ky) (ai ky) .none SD SE SF RF Fy SG),Sb⟩)(zT:codeIn K Fy "_law_sign_by"=true)(zU:keepIn K (.ref iN)=true)(zV:nsIn K mainGlobals "_law_numbers"=some (some (.ref iO)))(zW:K.lookup iO=some ⟨SH,RG,.func (fnOf "_law_numbers" "_law_numbers" (aC kz) (ay kz) (ai kz) .none SI SJ SK RH Fz SM),Sd⟩)(zX:codeIn K Fz "_law_numbers"=true)(zY:keepIn K (.ref iO)=true)(M8:nsIn K mainGlobals "_law_line"=some (some (.ref rm)))(M9:K.lookup rm=some ⟨abS,abn,.func (fnOf "_law_line" "_law_line" (aC uQ) (ay uQ) (ai uQ) .none abT abU abV abo P9 abW),abI⟩)(Na:codeIn K P9 "_law_line"=true)(Nb:keepIn K (.ref rm)=true)(zZ:nsIn K mainGlobals "_law_entries"=some (some (.ref iP)))(z9:K.lookup iP=some ⟨SN,RI,.func (fnOf "_law_entries" "_law_entries" (aC fS) (ay fS) (ai fS) .none SO SQ SR RJ FA SU),Se⟩)(Aa:codeIn K FA "_law_entries"=true)(Ab:keepIn K (.ref iP)=true)(Ac:findIn K (.ref bx) "undo"=some (some (.ref fU)))(Ad:K.lookup fU=some ⟨SV,RK,.func (fnOf "undo" "Deed.undo" (aC kA) (ay kA) (ai kA) .none SW SX SY RL FC S0),Sf⟩)(Ae:codeIn K FC "Deed.undo" = true)(tT:keepIn K (.ref fU)=true)(w6:isFn K (.ref fU)=true)(Af:findIn K (.ref a7) "undo"=some (some (.ref fV)))(Ag:K.lookup fV=some ⟨S9,RM,.func (fnOf "undo" "Book.undo" (aC kB) (ay kB) (ai kB) .none Ta Tb Tc RN FD Td),Sh⟩)(Ah:codeIn K FD "Book.undo" = true)(tU:keepIn K (.ref fV)=true)(xa:isFn K (.ref fV)=true)(Iz:findIn K (.ref bx) "do"=some (some (.ref kM)))(IA:K.lookup kM=some ⟨Yn,XJ,.func (fnOf "do" "Deed.do" (aC qK) (ay qK) (ai qK) .none Yo Yp Yq XM Mx Yr),X8⟩)(IB:codeIn K Mx "Deed.do" = true)(A8:keepIn K (.ref kM)=true)(Du:isFn K (.ref kM)=true)(Ai:findIn K (.ref a7) "redo"=some (some (.ref fW)))(Aj:K.lookup fW=some ⟨Te,RO,.func (fnOf "redo" "Book.redo" (aC kC) (ay kC) (ai kC) .none Tf Tg Ti RP FE Tj),Si⟩)(Ak:codeIn K FE "Book.redo" = true)(tV:keepIn K (.ref fW)=true)(xc:isFn K (.ref fW)=true)(hG:nsIn K mainGlobals "refuse_other_places"=some (some (.ref bK)))(hI:K.lookup bK=some ⟨wN,wG,.func (fnOf "refuse_other_places" "refuse_other_places" (aC cf) (ay cf) (ai cf) .none wO wQ wR wH lW wU),wK⟩)(hV:codeIn K lW "refuse_other_places"=true)(hX:keepIn K (.ref bK)=true)(Y9:nsIn K mainGlobals "good"=some (some (.ref BY)))(Za:K.lookup BY=some ⟨agM,agD,.func (fnOf "good" "good" (aC GF) (ay GF) (ai GF) .none agN agO agP agE aab agQ),agJ⟩)(Zb:codeIn K aab "good"=true)(Zc:keepIn K (.ref BY)=true)(lY:nsIn K mainGlobals "refuse_bad_sign"=some (some (.ref cI)))(lZ:K.lookup cI=some ⟨CT,Cy,.func (fnOf "refuse_bad_sign" "refuse_bad_sign" (aC dq) (ay dq) (ai dq) .none CU CW CY Cz sd CZ),CM⟩)(l8:codeIn K sd "refuse_bad_sign"=true)(ma:keepIn K (.ref cI)=true)(sk:findIn K (.ref a7) "perform"=some (some (.ref di)))(sq:K.lookup di=some ⟨Kb,J3,.func (fnOf "perform" "Book.perform" (aC fM) (ay fM) (ai fM) .none Kc Ke Kf J4 x3 Kg),J8⟩)(sr:codeIn K x3 "Book.perform" = true)(md:keepIn K (.ref di)=true)(pO:isFn K (.ref di)=true)(Uk:nsIn K mainGlobals "small"=some (some (.ref vU)))(Ul:K.lookup vU=some ⟨aeT,aeI,.func (fnOf "small" "small" (aC AZ) (ay AZ) (ai AZ) .none aeU aeV aeW aeJ V8 aeX),aeP⟩)(Um:codeIn K V8 "small"=true)(ES:keepIn K (.ref vU)=true)(IC:nsIn K mainGlobals "low_end"=some (some (.ref m7)))(ID:K.lookup m7=some ⟨Ys,XN,.func (fnOf "low_end" "low_end" (aC qL) (ay qL) (ai qL) .none Yt Yu Yv XO My Yw),X9⟩)(IE:codeIn K My "low_end"=true)(IF:keepIn K (.ref m7)=true)(Dv:nsIn K mainGlobals "high_end"=some (some (.ref j5)))(Dw:K.lookup j5=some ⟨V9,VS,.func (fnOf "high_end" "high_end" (aC mV) (ay mV) (ai mV) .none Wa Wb Wc VT JO Wd),V3⟩)(Dx:codeIn K JO "high_end"=true)(Dy:keepIn K (.ref j5)=true)(su:nsIn K mainGlobals "sets_measure"=some (some (.ref d6)))(sv:K.lookup d6=some ⟨Kh,J5,.func (fnOf "sets_measure" "sets_measure" (aC fN) (ay fN) (ai fN) .none Ki Kj Kk J6 x4 Kl),J9⟩)(sx:codeIn K x4 "sets_measure"=true)(sy:keepIn K (.ref d6)=true)(Nc:nsIn K mainGlobals "window"=some (some (.ref rA)))(Nd:K.lookup rA=some ⟨abX,abp,.func (fnOf "window" "window" (aC uR) (ay uR) (ai uR) .none abY abZ ab0 abq Qa ab1),abJ⟩)(Nf:codeIn K Qa "window"=true)(Ng:keepIn K (.ref rA)=true)(jB:findIn K (.ref a7) "voice_called"=some (some (.ref bI)))(jC:K.lookup bI=some ⟨zA,zq,.func (fnOf "voice_called" "Book.voice_called" (aC cN) (ay cN) (ai cN) .none zB zC zD zr ph zE),zx⟩)(jD:codeIn K ph "Book.voice_called" = true)(fI:keepIn K (.ref bI)=true)(i7:isFn K (.ref bI)=true)(kd:findIn K (.ref a7) "plain_voice"=some (some (.ref bP)))(ke:K.lookup bP=some ⟨Bf,Bc,.func (fnOf "plain_voice" "Book.plain_voice" (aC c8) (ay c8) (ai c8) .none Bg Bh Bi Bd qt Bj),Be⟩)(kf:codeIn K qt "Book.plain_voice" = true)(gH:keepIn K (.ref bP)=true)(jE:isFn K (.ref bP)=true)(pP:findIn K (.ref bx) "__init__"=some (some (.ref cR)))(pQ:K.lookup cR=some ⟨Hu,Hf,.func (fnOf "__init__" "Deed.__init__" (aC eK) (ay eK) (ai eK) .none Hv Hw Hy Hg vB Hz),Hn⟩)(pR:codeIn K vB "Deed.__init__" = true)(pS:keepIn K (.ref cR)=true)(nR:isFn K (.ref cR)=true)(Al:findIn K (.ref a7) "swap"=some (some (.ref fX)))(Am:K.lookup fX=some ⟨Tn,RQ,.func (fnOf "swap" "Book.swap" (aC kD) (ay kD) (ai kD) .none To Tp Tq RS FF Tr),Sj⟩)(An:codeIn K FF "Book.swap" = true)(tW:keepIn K (.ref fX)=true)(xf:isFn K (.ref fX)=true)(Dz:findIn K (.ref a7) "put"=some (some (.ref iQ)))(DA:K.lookup iQ=some ⟨We,VU,.func (fnOf "put" "Book.put" (aC mW) (ay mW) (ai mW) .none Wf Wg Wh VW JP Wi),V4⟩)(DB:codeIn K JP "Book.put" = true)(xg:keepIn K (.ref iQ)=true)(Ao:isFn K (.ref iQ)=true)(DC:findIn K (.ref a7) "cut"=some (some (.ref iR)))(DD:K.lookup iR=some ⟨Wj,VX,.func (fnOf "cut" "Book.cut" (aC mX) (ay mX) (ai mX) .none Wk Wl Wm VY JQ Wn),V5⟩)(DE:codeIn K JQ "Book.cut" = true)(xh:keepIn K (.ref iR)=true)(Ap:isFn K (.ref iR)=true)(xi:nsIn K mainGlobals "_law_one_deed"=some (some (.ref gx)))(xj:K.lookup gx=some ⟨OI,Ot,.func (fnOf "_law_one_deed" "_law_one_deed" (aC i9) (ay i9) (ai i9) .none OJ OK OL Ou BA OM),OD⟩)(xk:codeIn K BA "_law_one_deed"=true)(xm:keepIn K (.ref gx)=true)(xo:findIn K (.ref a7) "names"=some (some (.ref eS)))(xp:K.lookup eS=some ⟨ON,Ov,.func (fnOf "names" "Book.names" (aC ja) (ay ja) (ai ja) .none OO OP OQ Ow BB OR),OE⟩)(xq:codeIn K BB "Book.names" = true)(qF:keepIn K (.ref eS)=true)(uo:isFn K (.ref eS)=true)(xr:findIn K (.ref a7) "canon"=some (some (.ref eU)))(xt:K.lookup eU=some ⟨OS,Ox,.func (fnOf "canon" "Book.canon" (aC jb) (ay jb) (ai jb) .none OT OU OV Oy BC OW),OF⟩)(xu:codeIn K BC "Book.canon" = true)(qG:keepIn K (.ref eU)=true)(uq:isFn K (.ref eU)=true)(Aq:nsIn K mainGlobals "beginning"=some (some (.ref iS)))(Ar:K.lookup iS=some ⟨Ts,RT,.func (fnOf "beginning" "beginning" (aC kE) (ay kE) (ai kE) .none Tt Tu Tv RU FG Tw),Sk⟩)(As:codeIn K FG "beginning"=true)(Au:keepIn K (.ref iS)=true)(Nh:nsIn K mainGlobals "turned"=some (some (.ref rB)))(Ni:K.lookup rB=some ⟨ab2,abr,.func (fnOf "turned" "turned" (aC uS) (ay uS) (ai uS) .none ab3 ab4 ab5 abt Qb ab6),abK⟩)(Nj:codeIn K Qb "turned"=true)(Nk:keepIn K (.ref rB)=true)(Av:findIn K (.ref a7) "line"=some (some (.ref eV)))(Aw:K.lookup eV=some ⟨Tx,RV,.func (fnOf "line" "Book.line" (aC kF) (ay kF) (ai kF) .none Tz TB TC RW FH TF),Sl⟩)(Ax:codeIn K FH "Book.line" = true)(tX:keepIn K (.ref eV)=true)(xw:isFn K (.ref eV)=true)(DF:nsIn K mainGlobals "measures"=some (some (.ref j7)))(DG:K.lookup j7=some ⟨Wo,VZ,.func (fnOf "measures" "measures" (aC mY) (ay mY) (ai mY) (.ref sU) Wq Wr Ws V0 JR Wt),V6⟩)(DH:codeIn K JR "measures"=true)(DI:keepIn K (.ref j7)=true)(tY:K.lookup sU=some ⟨TJ,RY,.seq #[.int 3 ly] Uh,Sm⟩)(IG:nsIn K mainGlobals "kind_at"=some (some (.ref m8)))(IH:K.lookup m8=some ⟨Yx,XQ,.func (fnOf "kind_at" "kind_at" (aC qM) (ay qM) (ai qM) .none Yy Yz YA XR Mz YB),Ya⟩)(II:codeIn K Mz "kind_at"=true)(IJ:keepIn K (.ref m8)=true)(ur:nsIn K mainGlobals "plain_worth"=some (some (.ref fm)))(uv:K.lookup fm=some ⟨MA,Mh,.func (fnOf "plain_worth" "plain_worth" (aC gN) (ay gN) (ai gN) .none MB MC MD Mi zF ME),Mq⟩)(uw:codeIn K zF "plain_worth"=true)(uy:keepIn K (.ref fm)=true)(hZ:nsIn K mainGlobals "worths_without_runs"=some (some (.ref bL)))(ic:K.lookup bL=some ⟨wV,wI,.func (fnOf "worths_without_runs" "worths_without_runs" (aC cg) (ay cg) (ai cg) .none wW wX wY wJ lX wZ),wL⟩)(ie:codeIn K lX "worths_without_runs"=true)(ig:keepIn K (.ref bL)=true)(Zd:nsIn K mainGlobals "runs"=some (some (.ref Cc)))(Ze:K.lookup Cc=some ⟨agR,agF,.func (fnOf "runs" "runs" (aC GG) (ay GG) (ai GG) (.ref KA) agS agT agU agG aac agV),agK⟩)(Zf:codeIn K aac "runs"=true)(Zg:keepIn K (.ref Cc)=true)(KL:K.lookup KA=some ⟨aeY,aeK,.seq #[.int 3 yJ] afa,aeQ⟩)(pT:nsIn K mainGlobals "has_left_note"=some (some (.ref dB)))(pV:K.lookup dB=some ⟨HA,Hh,.func (fnOf "has_left_note" "has_left_note" (aC eL) (ay eL) (ai eL) .none HB HC HD Hi vC HE),Ho⟩)(pW:codeIn K vC "has_left_note"=true)(pX:keepIn K (.ref dB)=true)(nS:nsIn K mainGlobals "has_right_note"=some (some (.ref c9)))(nV:K.lookup c9=some ⟨FI,Fg,.func (fnOf "has_right_note" "has_right_note" (aC dU) (ay dU) (ai dU) .none FJ FK FL Fh tP FN),Fq⟩)(nW:codeIn K tP "has_right_note"=true)(nX:keepIn K (.ref c9)=true)(me:nsIn K mainGlobals "settle_one_over"=some (some (.ref cJ)))(mf:K.lookup cJ=some ⟨C0,CA,.func (fnOf "settle_one_over" "settle_one_over" (aC dr) (ay dr) (ai dr) .none C1 C2 C3 CC se C4),CN⟩)(mh:codeIn K se "settle_one_over"=true)(mi:keepIn K (.ref cJ)=true)(mj:nsIn K mainGlobals "settle_two_over"=some (some (.ref cK)))(mq:K.lookup cK=some ⟨C5,CF,.func (fnOf "settle_two_over" "settle_two_over" (aC du) (ay du) (ai du) .none C6 C7 C8 CG sf C9),CO⟩)(mr:codeIn K sf "settle_two_over"=true)(mv:keepIn K (.ref cK)=true)(xy:nsIn K mainGlobals "settle_run"=some (some (.ref gy)))(xA:K.lookup gy=some ⟨OX,Oz,.func (fnOf "settle_run" "settle_run" (aC jc) (ay jc) (ai jc) .none OY OZ O0 OA BD O1),OG⟩)(xB:codeIn K BD "settle_run"=true)(xC:keepIn K (.ref gy)=true)(IK:nsIn K mainGlobals "reading"=some (some (.ref ng)))(IL:K.lookup ng=some ⟨YC,XT,.func (fnOf "reading" "reading" (aC qN) (ay qN) (ai qN) .none YD YE YF XU MF YG),Yb⟩)(IM:codeIn K MF "reading"=true)(IP:keepIn K (.ref ng)=true)(Nl:nsIn K mainGlobals "worths"=some (some (.ref rC)))(Nm:K.lookup rC=some ⟨ab7,abu,.func (fnOf "worths" "worths" (aC uT) (ay uT) (ai uT) (.ref A2) ab8 ab9 aca abv Qc acb),abL⟩)(Nn:codeIn K Qc "worths"=true)(Np:keepIn K (.ref rC)=true)(A9:K.lookup A2=some ⟨YH,XW,.seq #[.int 3 rD] Y8,Yc⟩)(Ay:findIn K (.ref a7) "kept"=some (some (.ref fY)))(Az:K.lookup fY=some ⟨TK,RZ,.func (fnOf "kept" "Book.kept" (aC kG) (ay kG) (ai kG) .none TL TM TN R0 FO TQ),So⟩)(AA:codeIn K FO "Book.kept" = true)(tZ:keepIn K (.ref fY)=true)(xE:isFn K (.ref fY)=true)(Nq:nsIn K mainGlobals "sounds"=some (some (.ref rE)))(Nr:K.lookup rE=some ⟨acd,abw,.func (fnOf "sounds" "sounds" (aC uU) (ay uU) (ai uU) .none ace acf acg abx Qd ach),abM⟩)(Nt:codeIn K Qd "sounds"=true)(oX:keepIn K (.ref rE)=true)(Uo:nsIn K mainGlobals "spans"=some (some (.ref v7)))(Up:K.lookup v7=some ⟨aeZ,aeL,.func (fnOf "spans" "spans" (aC A0) (ay A0) (ai A0) .none ae0 ae1 ae2 aeM Wu ae3),aeR⟩)(Uq:codeIn K Wu "spans"=true)(Ur:keepIn K (.ref v7)=true)(jF:nsIn K mainGlobals "rubbing_stretches"=some (some (.ref bV)))(jG:K.lookup bV=some ⟨zG,zu,.func (fnOf "rubbing_stretches" "rubbing_stretches" (aC cO) (ay cO) (ai cO) .none zH zI zJ zw pj zK),zy⟩)(jH:codeIn K pj "rubbing_stretches"=true)(jI:keepIn K (.ref bV)=true)(Zh:nsIn K mainGlobals "rubs"=some (some (.ref Cd)))(Zi:K.lookup Cd=some ⟨agW,agH,.func (fnOf "rubs" "rubs" (aC GH) (ay GH) (ai GH) .none agX agY agZ agI aad ag0),agL⟩)(Zj:codeIn K aad "rubs"=true)(Zk:keepIn K (.ref Cd)=true)(IQ:nsIn K mainGlobals "_law_whole"=some (some (.ref nh)))(IS:K.lookup nh=some ⟨YI,XX,.func (fnOf "_law_whole" "_law_whole" (aC qO) (ay qO) (ai qO) .none YJ YK YL XY MG YM),Yd⟩)(IT:codeIn K MG "_law_whole"=true)(IU:keepIn K (.ref nh)=true)(Nu:nsIn K mainGlobals "_law_rows"=some (some (.ref rF)))(Nv:K.lookup rF=some ⟨aci,aby,.func (fnOf "_law_rows" "_law_rows" (aC uV) (ay uV) (ai uV) .none acj ack acm abz Qe acn),abN⟩)(Nw:codeIn K Qe "_law_rows"=true)(Nx:keepIn K (.ref rF)=true)(AB:nsIn K mainGlobals "_law_line_of"=some (some (.ref iT)))(AD:K.lookup iT=some ⟨TR,R1,.func (fnOf "_law_line_of" "_law_line_of" (aC kH) (ay kH) (ai kH) .none TV TX TY R3 FP TZ),Sq⟩)(AE:codeIn K FP "_law_line_of"=true)(AF:keepIn K (.ref iT)=true)(Ny:nsIn K mainGlobals "_law_base"=some (some (.ref rG)))(Nz:K.lookup rG=some ⟨aco,abA,.func (fnOf "_law_base" "_law_base" (aC uW) (ay uW) (ai uW) .none acp acq acr abB Qf acs),abO⟩)(NA:codeIn K Qf "_law_base"=true)(NB:keepIn K (.ref rG)=true)(IV:nsIn K mainGlobals "_law_three"=some (some (.ref nj)))(IW:K.lookup nj=some ⟨YN,XZ,.func (fnOf "_law_three" "_law_three" (aC qP) (ay qP) (ai qP) .none YO YQ YR X0 MH YS),Ye⟩)(IX:codeIn K MH "_law_three"=true)(IY:keepIn K (.ref nj)=true)(Us:nsIn K mainGlobals "_law_run"=some (some (.ref v8)))(Ut:K.lookup v8=some ⟨ae4,aeN,.func (fnOf "_law_run" "_law_run" (aC A1) (ay A1) (ai A1) .none ae5 ae6 ae7 aeO Wv ae8),aeS⟩)(Uu:codeIn K Wv "_law_run"=true)(Uv:keepIn K (.ref v8)=true)(NC:nsIn K mainGlobals "_law_read"=some (some (.ref rH)))(ND:K.lookup rH=some ⟨acu,abC,.func (fnOf "_law_read" "_law_read" (aC uX) (ay uX) (ai uX) .none acv acw acx abD Qg acy),abP⟩)(NF:codeIn K Qg "_law_read"=true)(NG:keepIn K (.ref rH)=true)(AG:nsIn K mainGlobals "_law_kept_of"=some (some (.ref iU)))(AH:K.lookup iU=some ⟨T1,R4,.func (fnOf "_law_kept_of" "_law_kept_of" (aC kI) (ay kI) (ai kI) .none T2 T3 T4 R5 FQ T5),Sr⟩)(AI:codeIn K FQ "_law_kept_of"=true)(AJ:keepIn K (.ref iU)=true)(xF:nsIn K mainGlobals "_law_spans_of"=some (some (.ref gA)))(xG:K.lookup gA=some ⟨O2,OB,.func (fnOf "_law_spans_of" "_law_spans_of" (aC jd) (ay jd) (ai jd) .none O3 O4 O5 OC BE O6),OH⟩)(xH:codeIn K BE "_law_spans_of"=true)(xI:keepIn K (.ref gA)=true)(AK:nsIn K mainGlobals "_law_rubs_of"=some (some (.ref iV)))(AL:K.lookup iV=some ⟨T6,R6,.func (fnOf "_law_rubs_of" "_law_rubs_of" (aC kJ) (ay kJ) (ai kJ) .none T7 T8 T9 R7 FR Ua),Ss⟩)(AM:codeIn K FR "_law_rubs_of"=true)(AN:keepIn K (.ref iV)=true)(IZ:nsIn K mainGlobals "_law_right"=some (some (.ref nr)))(Ja:K.lookup nr=some ⟨YT,X1,.func (fnOf "_law_right" "_law_right" (aC qQ) (ay qQ) (ai qQ) .none YU YV YW X2 MI YX),Yf⟩)(Jb:codeIn K MI "_law_right"=true)(Jc:keepIn K (.ref nr)=true)(Jd:nsIn K mainGlobals "_law_signs"=some (some (.ref nu)))(Je:K.lookup nu=some ⟨YY,X3,.func (fnOf "_law_signs" "_law_signs" (aC qR) (ay qR) (ai qR) .none YZ Y0 Y1 X4 MJ Y2),Yg⟩)(Jf:codeIn K MJ "_law_signs"=true)(Jg:keepIn K (.ref nu)=true)(NH:nsIn K mainGlobals "_law_nums"=some (some (.ref rJ)))(NI:K.lookup rJ=some ⟨acz,abE,.func (fnOf "_law_nums" "_law_nums" (aC uY) (ay uY) (ai uY) .none acA acB acC abF Qh acD),abQ⟩)(NJ:codeIn K Qh "_law_nums"=true)(NK:keepIn K (.ref rJ)=true)(DJ:nsIn K mainGlobals "_law_stands"=some (some (.ref j8)))(DK:K.lookup j8=some ⟨Ww,V1,.func (fnOf "_law_stands" "_law_stands" (aC mZ) (ay mZ) (ai mZ) .none Wx Wy Wz V2 JS WA),V7⟩)(DM:codeIn K JS "_law_stands"=true)(DN:keepIn K (.ref j8)=true)(mw:nsIn K mainGlobals "_law_changed_right"=some (some (.ref cL)))(my:K.lookup cL=some ⟨Dc,CH,.func (fnOf "_law_changed_right" "_law_changed_right" (aC dw) (ay dw) (ai dw) .none De Df Dg CI si Dh),CP⟩)(mz:codeIn K si "_law_changed_right"=true)(mB:keepIn K (.ref cL)=true)(uz:nsIn K mainGlobals "_law_all_round"=some (some (.ref fo)))(uA:K.lookup fo=some ⟨MK,Mj,.func (fnOf "_law_all_round" "_law_all_round" (aC gO) (ay gO) (ai gO) .none ML MN MO Ml zL MP),Mr⟩)(uB:codeIn K zL "_law_all_round"=true)(uC:keepIn K (.ref fo)=true)(Jh:nsIn K mainGlobals "is_name"=some (some (.ref nC)))(Ji:K.lookup nC=some ⟨Y3,X5,.func (fnOf "is_name" "is_name" (aC qS) (ay qS) (ai qS) .none Y4 Y5 Y6 X6 MQ Y7),Yh⟩)(Jj:codeIn K MQ "is_name"=true)(Jk:keepIn K (.ref nC)=true)(mC:findIn K (.ref a7) "refuse_new"=some (some (.ref bZ)))(mD:K.lookup bZ=some ⟨Di,CJ,.func (fnOf "refuse_new" "Book.refuse_new" (aC dy) (ay dy) (ai dy) .none Dj Dk Dl CK sj Dm),CQ⟩)(mE:codeIn K sj "Book.refuse_new" = true)(iD:keepIn K (.ref bZ)=true)(kg:isFn K (.ref bZ)=true)(uD:findIn K (.ref a7) "put_in"=some (some (.ref dQ)))(uE:K.lookup dQ=some ⟨MR,Mm,.func (fnOf "put_in" "Book.put_in" (aC gP) (ay gP) (ai gP) .none MS MT MU Mn zM MV),Mt⟩)(uF:codeIn K zM "Book.put_in" = true)(oI:keepIn K (.ref dQ)=true)(sA:isFn K (.ref dQ)=true)(nY:findIn K (.ref dg) "__init__"=some (some (.ref cy)))(nZ:K.lookup cy=some ⟨FT,Fi,.func (fnOf "__init__" "Voice.__init__" (aC dW) (ay dW) (ai dW) .none FU FV FW Fj tQ FX),Ft⟩)(n0:codeIn K tQ "Voice.__init__" = true)(n6:keepIn K (.ref cy)=true)(mF:isFn K (.ref cy)=true)(n8:findIn K (.ref a7) "add_voice"=some (some (.ref cz)))(oa:K.lookup cz=some ⟨FY,Fl,.func (fnOf "add_voice" "Book.add_voice" (aC dX) (ay dX) (ai dX) .none FZ F5 Ga Fm tR Gb),Fu⟩)(og:codeIn K tR "Book.add_voice" = true)(jr:keepIn K (.ref cz)=true)(mG:isFn K (.ref cz)=true)(oh:findIn K (.ref a7) "add_canon"=some (some (.ref cA)))(oi:K.lookup cA=some ⟨Gd,Fn,.func (fnOf "add_canon" "Book.add_canon" (aC dY) (ay dY) (ai dY) (.ref iw) Ge Gf Gg Fo tS Gh),Fv⟩)(oj:codeIn K tS "Book.add_canon" = true)(js:keepIn K (.ref cA)=true)(mH:isFn K (.ref cA)=true)(iE:K.lookup iw=some ⟨Dn,CL,.seq #[.int 0 d7,.int 1 ed,.bool false] Dt,CS⟩)(AO:nsIn K mainGlobals "_law_book_of"=some (some (.ref iW)))(AQ:K.lookup iW=some ⟨Ub,R8,.func (fnOf "_law_book_of" "_law_book_of" (aC kK) (ay kK) (ai kK) .none Uc Ud Ue R9 Gi Ug),Su⟩)(AR:codeIn K Gi "_law_book_of"=true)(AS:keepIn K (.ref iW)=true)(pY:findIn K (.ref a7) "__init__"=some (some (.ref cS)))(pZ:K.lookup cS=some ⟨HF,Hj,.func (fnOf "__init__" "Book.__init__" (aC eM) (ay eM) (ai eM) .none HG HH HI Hk vD HJ),Hq⟩)(p4:codeIn K vD "Book.__init__" = true)(p5:keepIn K (.ref cS)=true)(om:isFn K (.ref cS)=true)(NL:nsIn K mainGlobals "_law_near"=some (some (.ref rK)))(NM:K.lookup rK=some ⟨acE,abG,.func (fnOf "_law_near" "_law_near" (aC uZ) (ay uZ) (ai uZ) .none acF acG acH abH Qi acI),abR⟩)(NN:codeIn K Qi "_law_near"=true)(NO:keepIn K (.ref rK)=true)(aae:nsIn K mainGlobals "law"=some (some (.ref Lz)))(afb:K.lookup Lz=some ⟨ajm,ajj,.func (fnOf "law" "law" (aC Pt) (ay Pt) (ai Pt) .none ajn ajo ajp ajk ae9 ajq),ajl⟩)(afc:codeIn K ae9 "law"=true)(afd:keepIn K (.ref Lz)=true)(afe:nsIn K mainGlobals "abs"=some none)(aff:nsIn K mainGlobals "all"=some none)(afg:nsIn K mainGlobals "any"=some none)(Zl:nsIn K mainGlobals "bool"=some none)(Zm:nsIn K mainGlobals "dict"=some none)(AU:nsIn K mainGlobals "enumerate"=some none)(afh:nsIn K mainGlobals "int"=some none)(xJ:nsIn K mainGlobals "isinstance"=some none)(afi:nsIn K mainGlobals "len"=some none)(Zn:nsIn K mainGlobals "list"=some none)(afj:nsIn K mainGlobals "max"=some none)(afk:nsIn K mainGlobals "min"=some none)(Uw:nsIn K mainGlobals "range"=some none)(afl:nsIn K mainGlobals "str"=some none)(afm:nsIn K mainGlobals "sum"=some none)(Ux:nsIn K mainGlobals "tuple"=some none)(afn:nsIn K mainGlobals "zip"=some none)(sC:nsIn K mainGlobals "GREAT_KINDS"=some (some (.ref dR)))(sD:K.lookup dR=some ⟨.type "tuple",Mo,.seq #[.str (Str.ofString "G") MW,.str (Str.ofString "D") MX,.str (Str.ofString "R") MY] O7,Mu⟩)(sE:nsIn K mainGlobals "SMALL_KINDS"=some (some (.ref fq)))(sF:K.lookup fq=some ⟨.type "tuple",Mp,.seq #[.str (Str.ofString "s") MZ,.str (Str.ofString "d") M0,.str (Str.ofString "r") M3] O8,Mv⟩)(oq:nsIn K mainGlobals "PARTING_KINDS"=some (some (.ref dC)))(ot:K.lookup dC=some ⟨.type "tuple",Hl,.seq #[.str (Str.ofString ".") HK,.str (Str.ofString "3") HL,.str (Str.ofString "2") HM] Kr,Hr⟩)(ou:nsIn K mainGlobals "MEASURE_KINDS"=some (some (.ref cT)))(ow:K.lookup cT=some ⟨.type "tuple",Hm,.seq #[.str (Str.ofString "3") HN,.str (Str.ofString "2") HP] Ks,Ht⟩)(mI:nsIn K mainGlobals "SOUNDING_KINDS"=some (some (.ref cB)))(mJ:K.lookup cB=some ⟨.type "tuple",Fp,.seq #[.str (Str.ofString "G") Gj,.str (Str.ofString "D") Gk,.str (Str.ofString "s") Gm,.str (Str.ofString "d") Gn] Iq,Fw⟩)(p9:nsIn K mainGlobals "SILENT_KINDS"=some (some (.ref ee)))(qa:K.lookup ee=some ⟨.type "tuple",J7,.seq #[.str (Str.ofString "R") Km,.str (Str.ofString "r") Kn,.str (Str.ofString ".") Ko,.str (Str.ofString "3") Kp,.str (Str.ofString "2") Kq] M4,Ka⟩)(qb:nsIn K mainGlobals "HIGHEST_TONE"=some (some (.int 99 lE)))(qc:nsIn K mainGlobals "TURNED_KINDS"=some (some (.ref dj)))(qd:K.lookup dj=some ⟨.type "dict",none,.dict #[⟨PyData.keyHash w.params (Str.ofString "3"),.str (Str.ofString "3") HS,.str (Str.ofString "2") HQ⟩,⟨PyData.keyHash w.params (Str.ofString "2"),.str (Str.ofString "2") HU,.str (Str.ofString "3") HR⟩] M5,#[]⟩)(qe:(dj==sysModules)=false)(qf:nsIn K mainGlobals "PLAIN_WORTHS"=some (some (.ref dm)))(qg:K.lookup dm=some ⟨.type "dict",none,.dict #[⟨PyData.keyHash w.params (Str.ofString "G"),.str (Str.ofString "G") Ig,.int 3 HV⟩,⟨PyData.keyHash w.params (Str.ofString "D"),.str (Str.ofString "D") Ih,.int 2 HW⟩,⟨PyData.keyHash w.params (Str.ofString "R"),.str (Str.ofString "R") Ii,.int 3 HX⟩,⟨PyData.keyHash w.params (Str.ofString "s"),.str (Str.ofString "s") Ij,.int 1 HY⟩,⟨PyData.keyHash w.params (Str.ofString "d"),.str (Str.ofString "d") Ik,.int 1 HZ⟩,⟨PyData.keyHash w.params (Str.ofString "r"),.str (Str.ofString "r") Il,.int 1 Ia⟩,⟨PyData.keyHash w.params (Str.ofString "."),.str (Str.ofString ".") Im,.int 0 Ib⟩,⟨PyData.keyHash w.params (Str.ofString "3"),.str (Str.ofString "3") Io,.int 0 Ic⟩,⟨PyData.keyHash w.params (Str.ofString "2"),.str (Str.ofString "2") Ip,.int 0 Ie⟩] M6,#[]⟩)(qh:(dm==sysModules)=false)(mK:nsIn K mainGlobals "TWOFOLD_WORTHS"=some (some (.ref bS)))(mL:K.lookup bS=some ⟨.type "dict",none,.dict #[⟨PyData.keyHash w.params (Str.ofString "G"),.str (Str.ofString "G") Dr,.int 2 Dp⟩,⟨PyData.keyHash w.params (Str.ofString "R"),.str (Str.ofString "R") Ds,.int 2 Dq⟩] Ir,#[]⟩)(mM:(bS==sysModules)=false)(uG:nsIn K mainGlobals "FULL_WORTH"=some (some (.int 3 qy)))(kh:nsIn K mainGlobals "SHORTENED_WORTH"=some (some (.int 2 ix)))(ox:nsIn K mainGlobals "DOUBLED_WORTH"=some (some (.int 2 jT)))(qi:nsIn K mainGlobals "DOTTED_WORTH"=some (some (.int 3 lF)))(DO:nsIn K mainGlobals "LETTERS"=some (some (.str (Str.ofString "abcdefghijklmnopqrstuvwxyz") A3)))(qj:nsIn K mainGlobals "LONGEST_NAME"=some (some (.int 8 lG)))(sG:nsIn K mainGlobals "MOST_VOICES"=some (some (.int 12 oE)))(uH:nsIn K mainGlobals "MOST_SIGNS"=some (some (.int 200 qz)))(Jl:nsIn K mainGlobals "LATEST"=some (some (.int 999 Ew)))(DP:nsIn K mainGlobals "SLOWEST"=some (some (.int 9 A4)))(Jm:makesIn K dg=true)(Jn:keepIn K (.ref dg)=true)(NP:plainGet K dg Str.empty=true)(NQ:hasDictIn K dg=true)(NR:plainOver K dg=true)(NS:findIn K (.ref dg) "__setattr__"=some (some (.builtin "object.__setattr__")))(fu:findIn K (.ref dg) "name"=some none)(eh:findIn K (.ref dg) "terms"=some none)(ck:findIn K (.ref dg) "signs"=some none)(NT:makesIn K bx=true)(NU:keepIn K (.ref bx)=true)(Uy:plainGet K bx Str.empty=true)(Uz:hasDictIn K bx=true)(UA:plainOver K bx=true)(UB:findIn K (.ref bx) "__setattr__"=some (some (.builtin "object.__setattr__")))(eA:findIn K (.ref bx) "things"=some none)(gF:findIn K (.ref bx) "at"=some none)(eB:findIn K (.ref bx) "before"=some none)(fz:findIn K (.ref bx) "after"=some none)(NV:makesIn K a7=true)(NW:keepIn K (.ref a7)=true)(UC:plainGet K a7 Str.empty=true)(UD:hasDictIn K a7=true)(UE:plainOver K a7=true)(UG:findIn K (.ref a7) "__setattr__"=some (some (.builtin "object.__setattr__")))(cm:findIn K (.ref a7) "voices"=some none)(dN:findIn K (.ref a7) "done"=some none)(cM:findIn K (.ref a7) "undone"=some none) :
  ∃ fd:FuncData,(∀(s:Shared)(v:Value),BindsTo s fd ⟨[v],[]⟩ [("_law_script",v)])/\∀ base:Heap,K.In base->base.Ns mainGlobals mg->br l.prog w K mg base fK 13 fa fd ["_law_script"] (K9 K):=by
 have e:=hfa.symm.trans (mg_of X G aae);cases e;have ba:=aS (st:=kr) zO zP zQ;have bA:=ba.binds (ps:=["_law_script","_law_k"]) fun _ _ _ _ _ _=>dS fun _ _=>rfl;have jf:=aS (st:=qJ) Iv Iw Iy;have nG:=jf.binds (ps:=["_law_seed","_law_k"]) fun _ _ _ _ _ _=>dS fun _ _=>rfl;have iX:=aS (st:=ky) zS zT zU;have oO:=iX.binds (ps:=["_law_number"]) fun _ _ _ _ _ _=>lV fun _=>rfl;have oP:=aS (st:=kz) zW zX zY;have yP:=oP.binds (ps:=["_law_script","_law_at","_law_many"]) fun _ _ _ _ _ _=>Fe fun _ _ _=>rfl;have yQ:=aS (st:=uQ) M9 Na Nb;have LB:=yQ.binds (ps:=["_law_script","_law_at","_law_many"]) fun _ _ _ _ _ _=>Fe fun _ _ _=>rfl;have oQ:=aS (st:=fS) z9 Aa Ab;have yR:=oQ.binds (ps:=["_law_script"]) fun _ _ _ _ _ _=>lV fun _=>rfl;have sV:=aS (st:=kA) Ad Ae tT;have yS:=sV.binds (ps:=["self"]) fun _ _ _ _ _ _=>lV fun _=>rfl;have sW:=aS (st:=kB) Ag Ah tU;have iY:=sW.binds (ps:=["self"]) fun _ _ _ _ _ _=>lV fun _=>rfl;have A5:=aS (st:=qK) IA IB A8;have A6:=A5.binds (ps:=["self"]) fun _ _ _ _ _ _=>lV fun _=>rfl;have sX:=aS (st:=kC) Aj Ak tV;have sY:=sX.binds (ps:=["self"]) fun _ _ _ _ _ _=>lV fun _=>rfl;have bM:=aS (st:=cf) hI hV hX;have cX:=bM.binds (ps:=["at","last"]) fun _ _ _ _ _ _=>dS fun _ _=>rfl;have LF:=aS (st:=GF) Za Zb Zc;have Xn:=LF.binds (ps:=["sign"]) fun _ _ _ _ _ _=>lV fun _=>rfl;have dz:=aS (st:=dq) lZ l8 ma;have iy:=dz.binds (ps:=["sign"]) fun _ _ _ _ _ _=>lV fun _=>rfl;have lI:=aS (st:=fM) sq sr md;have fO:=lI.binds (ps:=["self","deed"]) fun _ _ _ _ _ _=>dS fun _ _=>rfl;have A7:=aS (st:=AZ) Ul Um ES;have KC:=A7.binds (ps:=["sign"]) fun _ _ _ _ _ _=>lV fun _=>rfl;have vd:=aS (st:=qL) ID IE IF;have GY:=vd.binds (ps:=["line","at"]) fun _ _ _ _ _ _=>dS fun _ _=>rfl;have rN:=aS (st:=mV) Dw Dx Dy;have Cf:=rN.binds (ps:=["line","first","kinds"]) fun _ _ _ _ _ _=>Fe fun _ _ _=>rfl;have fP:=aS (st:=fN) sv sx sy;have lJ:=fP.binds (ps:=["sign"]) fun _ _ _ _ _ _=>lV fun _=>rfl;have rO:=aS (st:=uR) Nd Nf Ng;have yT:=rO.binds (ps:=["line","at","behind","changed"]) fun _ _ _ _ _ _=>Ff fun _ _ _ _=>rfl;have fE:=aS (st:=cN) jC jD fI;have cP:=fE.binds (ps:=["self","name"]) fun _ _ _ _ _ _=>dS fun _ _=>rfl;have gC:=aS (st:=c8) ke kf gH;have dc:=gC.binds (ps:=["self","name"]) fun _ _ _ _ _ _=>dS fun _ _=>rfl;have jV:=aS (st:=eK) pQ pR pS;have eN:=jV.binds (ps:=["self","things","at","before","after"]) fun _ _ _ _ _ _=>alC fun _ _ _ _ _=>rfl;have sZ:=aS (st:=kD) Am An tW;have yU:=sZ.binds (ps:=["self","name","at","sign"]) fun _ _ _ _ _ _=>Ff fun _ _ _ _=>rfl;have wb:=aS (st:=mW) DA DB xg;have wc:=wb.binds (ps:=["self","name","at","sign"]) fun _ _ _ _ _ _=>Ff fun _ _ _ _=>rfl;have wd:=aS (st:=mX) DD DE xh;have Cg:=wd.binds (ps:=["self","name","at"]) fun _ _ _ _ _ _=>Fe fun _ _ _=>rfl;have lK:=aS (st:=i9) xj xk xm;have we:=lK.binds (ps:=["_law_script","_law_book","_law_name","_law_line_here"]) fun _ _ _ _ _ _=>Ff fun _ _ _ _=>rfl;have qA:=aS (st:=ja) xp xq qF;have gD:=qA.binds (ps:=["self"]) fun _ _ _ _ _ _=>lV fun _=>rfl;have qB:=aS (st:=jb) xt xu qG;have gE:=qB.binds (ps:=["self","name"]) fun _ _ _ _ _ _=>dS fun _ _=>rfl;have oR:=aS (st:=kE) Ar As Au;have yV:=oR.binds (ps:=["book","name"]) fun _ _ _ _ _ _=>dS fun _ _=>rfl;have ve:=aS (st:=uS) Ni Nj Nk;have Ey:=ve.binds (ps:=["line"]) fun _ _ _ _ _ _=>lV fun _=>rfl;have oS:=aS (st:=kF) Aw Ax tX;have fZ:=oS.binds (ps:=["self","name"]) fun _ _ _ _ _ _=>dS fun _ _=>rfl;have j9:=Kw (st:=mY) DG DH DI;have wj:Binds K _ ["line","begin"] []:=j9.binds (ds:=[]) tY rfl fun _ _ _ _ _ _ us hl=>by obtain⟨_,_,rfl⟩:=aeH hl;exact⟨_,rfl,rfl⟩
 have JB:Binds K _ ["line","begin"] [.int 3 ly]:=j9.binds tY rfl fun _ _ _ _ _ _ us hl=>by have hl:us.length=1:=(by simpa using hl);obtain⟨_,rfl⟩:=aaa hl;exact⟨_,rfl,rfl⟩
 have eO:=aS (st:=qM) IH II IJ;have gR:=eO.binds (ps:=["line","at"]) fun _ _ _ _ _ _=>dS fun _ _=>rfl;have jP:=aS (st:=gN) uv uw uy;have ug:=jP.binds (ps:=["kind","measure"]) fun _ _ _ _ _ _=>dS fun _ _=>rfl;have cY:=aS (st:=cg) ic ie ig;have gY:=cY.binds (ps:=["line","begin"]) fun _ _ _ _ _ _=>dS fun _ _=>rfl;have G0:=Kw (st:=GG) Ze Zf Zg;have Xp:Binds K _ ["line","begin"] []:=G0.binds (ds:=[]) KL rfl fun _ _ _ _ _ _ us hl=>by obtain⟨_,_,rfl⟩:=aeH hl;exact⟨_,rfl,rfl⟩
 have ZV:Binds K _ ["line","begin"] [.int 3 yJ]:=G0.binds KL rfl fun _ _ _ _ _ _ us hl=>by have hl:us.length=1:=(by simpa using hl);obtain⟨_,rfl⟩:=aaa hl;exact⟨_,rfl,rfl⟩
 have eP:=aS (st:=eL) pV pW pX;have jW:=eP.binds (ps:=["line","found","first"]) fun _ _ _ _ _ _=>Fe fun _ _ _=>rfl;have dZ:=aS (st:=dU) nV nW nX;have jh:=dZ.binds (ps:=["line","behind"]) fun _ _ _ _ _ _=>dS fun _ _=>rfl;have eX:=aS (st:=dr) mf mh mi;have lL:=eX.binds (ps:=["line","found","first","behind"]) fun _ _ _ _ _ _=>Ff fun _ _ _ _=>rfl;have eY:=aS (st:=du) mq mr mv;have lM:=eY.binds (ps:=["line","found","first","behind"]) fun _ _ _ _ _ _=>Ff fun _ _ _ _=>rfl;have lN:=aS (st:=jc) xA xB xC;have wm:=lN.binds (ps:=["line","found","first","behind"]) fun _ _ _ _ _ _=>Ff fun _ _ _ _=>rfl;have vg:=aS (st:=qN) IL IM IP;have G1:=vg.binds (ps:=["line","begin"]) fun _ _ _ _ _ _=>dS fun _ _=>rfl;have rP:=Kw (st:=uT) Nm Nn Np;have Ez:Binds K _ ["line","begin"] []:=rP.binds (ds:=[]) A9 rfl fun _ _ _ _ _ _ us hl=>by obtain⟨_,_,rfl⟩:=aeH hl;exact⟨_,rfl,rfl⟩
 have Pz:Binds K _ ["line","begin"] [.int 3 rD]:=rP.binds A9 rfl fun _ _ _ _ _ _ us hl=>by have hl:us.length=1:=(by simpa using hl);obtain⟨_,rfl⟩:=aaa hl;exact⟨_,rfl,rfl⟩
 have tj:=aS (st:=kG) Az AA tZ;have oT:=tj.binds (ps:=["self","name"]) fun _ _ _ _ _ _=>dS fun _ _=>rfl;have yW:=aS (st:=uU) Nr Nt oX;have LH:=yW.binds (ps:=["sign"]) fun _ _ _ _ _ _=>lV fun _=>rfl;have EA:=aS (st:=A0) Up Uq Ur;have Q1:=EA.binds (ps:=["book","name"]) fun _ _ _ _ _ _=>dS fun _ _=>rfl;have dH:=aS (st:=cO) jG jH jI;have jA:=dH.binds (ps:=["ones","others"]) fun _ _ _ _ _ _=>dS fun _ _=>rfl;have G2:=aS (st:=GH) Zi Zj Zk;have Q2:=G2.binds (ps:=["book"]) fun _ _ _ _ _ _=>lV fun _=>rfl;have ji:=aS (st:=qO) IS IT IU;have nH:=ji.binds (ps:=["_law_found"]) fun _ _ _ _ _ _=>lV fun _=>rfl;have vh:=aS (st:=uV) Nv Nw Nx;have EB:=vh.binds (ps:=["_law_found","_law_due"]) fun _ _ _ _ _ _=>dS fun _ _=>rfl;have i0:=aS (st:=kH) AD AE AF;have oU:=i0.binds (ps:=["_law_voices","_law_name"]) fun _ _ _ _ _ _=>dS fun _ _=>rfl;have yY:=aS (st:=uW) Nz NA NB;have LI:=yY.binds (ps:=["_law_line_here","_law_begin"]) fun _ _ _ _ _ _=>dS fun _ _=>rfl;have vi:=aS (st:=qP) IW IX IY;have G3:=vi.binds (ps:=["_law_line_here","_law_begin"]) fun _ _ _ _ _ _=>dS fun _ _=>rfl;have EC:=aS (st:=A1) Ut Uu Uv;have Q3:=EC.binds (ps:=["_law_line_here","_law_told","_law_low","_law_high"]) fun _ _ _ _ _ _=>Ff fun _ _ _ _=>rfl;have vj:=aS (st:=uX) ND NF NG;have ED:=vj.binds (ps:=["_law_line_here","_law_begin"]) fun _ _ _ _ _ _=>dS fun _ _=>rfl;have kO:=aS (st:=kI) AH AI AJ;have tq:=kO.binds (ps:=["_law_voices","_law_name"]) fun _ _ _ _ _ _=>dS fun _ _=>rfl;have lO:=aS (st:=jd) xG xH xI;have wu:=lO.binds (ps:=["_law_voices","_law_name"]) fun _ _ _ _ _ _=>dS fun _ _=>rfl;have oV:=aS (st:=kJ) AL AM AN;have yZ:=oV.binds (ps:=["_law_one","_law_other","_law_ones","_law_others"]) fun _ _ _ _ _ _=>Ff fun _ _ _ _=>rfl;have gS:=aS (st:=qQ) Ja Jb Jc;have kP:=gS.binds (ps:=["_law_script","_law_book","_law_voices"]) fun _ _ _ _ _ _=>Fe fun _ _ _=>rfl;have vk:=aS (st:=qR) Je Jf Jg;have G4:=vk.binds (ps:=["_law_found","_law_due"]) fun _ _ _ _ _ _=>dS fun _ _=>rfl;have y8:=aS (st:=uY) NI NJ NK;have LJ:=y8.binds (ps:=["_law_found","_law_due"]) fun _ _ _ _ _ _=>dS fun _ _=>rfl;have i3:=aS (st:=mZ) DK DM DN;have nJ:=i3.binds (ps:=["_law_book","_law_voices"]) fun _ _ _ _ _ _=>dS fun _ _=>rfl;have eZ:=aS (st:=dw) my mz mB;have lP:=eZ.binds (ps:=["_law_script","_law_book","_law_told"]) fun _ _ _ _ _ _=>Fe fun _ _ _=>rfl;have jQ:=aS (st:=gO) uA uB uC;have uh:=jQ.binds (ps:=["_law_script","_law_book","_law_told"]) fun _ _ _ _ _ _=>Fe fun _ _ _=>rfl;have vm:=aS (st:=qS) Ji Jj Jk;have G5:=vm.binds (ps:=["name"]) fun _ _ _ _ _ _=>lV fun _=>rfl;have iA:=aS (st:=dy) mD mE iD;have iB:=iA.binds (ps:=["self","name"]) fun _ _ _ _ _ _=>dS fun _ _=>rfl;have oF:=aS (st:=gP) uE uF oI;have oG:=oF.binds (ps:=["self","voice"]) fun _ _ _ _ _ _=>dS fun _ _=>rfl;have jj:=aS (st:=dW) nZ n0 n6;have jk:=jj.binds (ps:=["self","name","terms"]) fun _ _ _ _ _ _=>Fe fun _ _ _=>rfl;have jm:=aS (st:=dX) oa og jr;have jo:=jm.binds (ps:=["self","name"]) fun _ _ _ _ _ _=>dS fun _ _=>rfl;have fQ:=Kw (st:=dY) oi oj js;have nK:Binds K _ ["self","name","leader","later","slow","is_turned"] []:=fQ.binds (ds:=[]) iE rfl fun _ _ _ _ _ _ us hl=>by obtain⟨_,_,_,_,_,_,rfl⟩:=alE hl;exact⟨_,rfl,rfl⟩
 have tE:Binds K _ ["self","name","leader","later","slow","is_turned"] [.int 0 d7,.int 1 ed,.bool false]:=fQ.binds iE rfl fun _ _ _ _ _ _ us hl=>by have hl:us.length=3:=(by simpa using hl);obtain⟨_,_,_,rfl⟩:=ahP hl;exact⟨_,rfl,rfl⟩
 have oW:=aS (st:=kK) AQ AR AS;have zb:=oW.binds (ps:=["_law_book","_law_told"]) fun _ _ _ _ _ _=>dS fun _ _=>rfl;have jX:=aS (st:=eM) pZ p4 p5;have pM:=jX.binds (ps:=["self"]) fun _ _ _ _ _ _=>lV fun _=>rfl;have zc:=aS (st:=uZ) NM NN NO;have LL:=zc.binds (ps:=["_law_thing"]) fun _ _ _ _ _ _=>lV fun _=>rfl;have ZX:=aS (st:=Pt) afb afc afd;have ahB:=ZX.binds (ps:=["_law_script"]) fun _ _ _ _ _ _=>lV fun _=>rfl;have T:Txt K w mg ⟨_,_,_,_,_,_,_,_,_,_,_,_,_,_,_,_,_,_,_,_,_,_,_,_,_,_,_,_,_,_,_,_,_,_,_,_,_,_,_,_,_,_,_,_,_,_,_,_,_,_,_,_,_,_,_,_,_,_,_,_,_,_,_,_,_,ly,_,_,_,_,_,_,_,_,_,yJ,_,_,_,_,_,_,_,_,_,_,_,_,_,_,_,rD,_,_,_,_,_,_,_,_,_,_,_,_,_,_,_,_,_,_,_,_,_,_,_,_,_,_,_,_,_,_,_,_,_,_,_,_,_,_,_,_,_,_,_,_,_,_,_,_,_,_,_,_,_,_,_,d7,ed,_,_,_,_,_,_,_,_,dR,fq,dC,cT,cB,ee,lE,dj,dm,bS,qy,ix,jT,lF,A3,lG,oE,qz,Ew,A4,dg,bx,a7⟩:=⟨ba,bA,mg_of X G zN,jf,nG,mg_of X G Iu,iX,oO,mg_of X G zR,oP,yP,mg_of X G zV,yQ,LB,mg_of X G M8,oQ,yR,mg_of X G zZ,sV,yS,⟨Ac,w6,tT⟩,sW,iY,⟨Af,xa,tU⟩,A5,A6,⟨Iz,Du,A8⟩,sX,sY,⟨Ai,xc,tV⟩,bM,cX,mg_of X G hG,LF,Xn,mg_of X G Y9,dz,iy,mg_of X G lY,lI,fO,⟨sk,pO,md⟩,A7,KC,mg_of X G Uk,vd,GY,mg_of X G IC,rN,Cf,mg_of X G Dv,fP,lJ,mg_of X G su,rO,yT,mg_of X G Nc,fE,cP,⟨jB,i7,fI⟩,gC,dc,⟨kd,jE,gH⟩,jV,eN,sZ,yU,⟨Al,xf,tW⟩,wb,wc,⟨Dz,Ao,xg⟩,wd,Cg,⟨DC,Ap,xh⟩,lK,we,mg_of X G xi,qA,gD,⟨xo,uo,qF⟩,qB,gE,⟨xr,uq,qG⟩,oR,yV,mg_of X G Aq,ve,Ey,mg_of X G Nh,oS,fZ,⟨Av,xw,tX⟩,j9,JB,wj,mg_of X G DF,eO,gR,mg_of X G IG,jP,ug,mg_of X G ur,cY,gY,mg_of X G hZ,G0,ZV,Xp,mg_of X G Zd,eP,jW,mg_of X G pT,dZ,jh,mg_of X G nS,eX,lL,mg_of X G me,eY,lM,mg_of X G mj,lN,wm,mg_of X G xy,vg,G1,mg_of X G IK,rP,Pz,Ez,mg_of X G Nl,tj,oT,⟨Ay,xE,tZ⟩,yW,LH,mg_of X G Nq,EA,Q1,mg_of X G Uo,dH,jA,mg_of X G jF,G2,Q2,mg_of X G Zh,ji,nH,mg_of X G IQ,vh,EB,mg_of X G Nu,i0,oU,mg_of X G AB,yY,LI,mg_of X G Ny,vi,G3,mg_of X G IV,EC,Q3,mg_of X G Us,vj,ED,mg_of X G NC,kO,tq,mg_of X G AG,lO,wu,mg_of X G xF,oV,yZ,mg_of X G AK,gS,kP,mg_of X G IZ,vk,G4,mg_of X G Jd,y8,LJ,mg_of X G NH,i3,nJ,mg_of X G DJ,eZ,lP,mg_of X G mw,jQ,uh,mg_of X G uz,vm,G5,mg_of X G Jh,iA,iB,⟨mC,kg,iD⟩,oF,oG,⟨uD,sA,oI⟩,jj,jk,jm,jo,⟨n8,mG,jr⟩,fQ,tE,nK,⟨oh,mH,js⟩,oW,zb,mg_of X G AO,jX,pM,zc,LL,mg_of X G NL,ZX,ahB,mg_of X G aae,mg_none_of X G afe,mg_none_of X G aff,mg_none_of X G afg,mg_none_of X G Zl,mg_none_of X G Zm,mg_none_of X G AU,mg_none_of X G afh,mg_none_of X G xJ,mg_none_of X G afi,mg_none_of X G Zn,mg_none_of X G afj,mg_none_of X G afk,mg_none_of X G Uw,mg_none_of X G afl,mg_none_of X G afm,mg_none_of X G Ux,mg_none_of X G afn,mg_of X G sC,(fun H=>.inr ⟨_,_,_,sD,rfl,rfl,(by show 3<=sizeLine;decide),(.cons ⟨_,rfl⟩ (.cons ⟨_,rfl⟩ (.cons ⟨_,rfl⟩ .nil)))⟩),mg_of X G sE,(fun H=>.inr ⟨_,_,_,sF,rfl,rfl,(by show 3<=sizeLine;decide),(.cons ⟨_,rfl⟩ (.cons ⟨_,rfl⟩ (.cons ⟨_,rfl⟩ .nil)))⟩),mg_of X G oq,(fun H=>.inr ⟨_,_,_,ot,rfl,rfl,(by show 3<=sizeLine;decide),(.cons ⟨_,rfl⟩ (.cons ⟨_,rfl⟩ (.cons ⟨_,rfl⟩ .nil)))⟩),mg_of X G ou,(fun H=>.inr ⟨_,_,_,ow,rfl,rfl,(by show 2<=sizeLine;decide),(.cons ⟨_,rfl⟩ (.cons ⟨_,rfl⟩ .nil))⟩),mg_of X G mI,(fun H=>.inr ⟨_,_,_,mJ,rfl,rfl,(by show 4<=sizeLine;decide),(.cons ⟨_,rfl⟩ (.cons ⟨_,rfl⟩ (.cons ⟨_,rfl⟩ (.cons ⟨_,rfl⟩ .nil))))⟩),mg_of X G p9,(fun H=>.inr ⟨_,_,_,qa,rfl,rfl,(by show 5<=sizeLine;decide),(.cons ⟨_,rfl⟩ (.cons ⟨_,rfl⟩ (.cons ⟨_,rfl⟩ (.cons ⟨_,rfl⟩ (.cons ⟨_,rfl⟩ .nil)))))⟩),mg_of X G qb,mg_of X G qc,⟨qe,_,_,qd,(.cons ⟨_,rfl⟩ (.cons ⟨_,rfl⟩ .nil)),by lk⟩,mg_of X G qf,⟨qh,_,_,qg,(.cons ⟨_,rfl⟩ (.cons ⟨_,rfl⟩ (.cons ⟨_,rfl⟩ (.cons ⟨_,rfl⟩ (.cons ⟨_,rfl⟩ (.cons ⟨_,rfl⟩ (.cons ⟨_,rfl⟩ (.cons ⟨_,rfl⟩ (.cons ⟨_,rfl⟩ .nil))))))))),by lk⟩,mg_of X G mK,⟨mM,_,_,mL,(.cons ⟨_,rfl⟩ (.cons ⟨_,rfl⟩ .nil)),by lk⟩,mg_of X G uG,mg_of X G kh,mg_of X G ox,mg_of X G qi,mg_of X G DO,mg_of X G qj,mg_of X G sG,mg_of X G uH,mg_of X G Jl,mg_of X G DP,mg_of X G M7,⟨Jm,nY,mF,Jn⟩,⟨NP,NQ,NR,NS⟩,fu,eh,ck,mg_of X G Ui,⟨NT,pP,nR,NU⟩,⟨Uy,Uz,UA,UB⟩,eA,gF,eB,fz,mg_of X G Uj,⟨NV,pY,om,NW⟩,⟨UC,UD,UE,UG⟩,cm,dN,cM⟩;exact⟨_,fun s v=>.of_eq rfl,fun base _ _=>aji T⟩
theorem walk {l:OpenLaw}{q:Program}{loose:List Str}{XP:(Str->Option Value)->Heap->Prop}{YP:World->Heap->Prop}{d:DefRec}{K:Params->Frag}(hn:l.most=some 63)(hdf:d.params.defaults=[])
  (hY:∀(w:World)(h:Heap),YP w h->(K w.params).In h)
  (F:∀(w:World)(mg:Str->Option Value)(fa:Addr)(h:Heap),(K w.params).In h->h.Ns mainGlobals mg->mg d.name=some (.ref fa) ->
   ∃ fd:FuncData,(∀(s:Shared)(u:Value),BindsTo s fd ⟨[u],[]⟩ [("_law_script",u)])/\∀ base:Heap,(K w.params).In base->base.Ns mainGlobals mg->br l.prog w (K w.params) mg base fK 13 fa fd ["_law_script"] (K9 (K w.params))) :
  WalkO q loose XP YP l.row.toRowW d [] (fun f vs=>PySem.call f vs) :=
 L2.afN (n:=63) (k:=13) (x:="_law_script") (CX:=fun _=>fK) (sp:=fun w=>K9 (K w.params)) hn (by decide) hdf ⟨rfl,by decide,by decide⟩ hY F (fun _ H a ns hl hO hS=>aaH hl hO hS) fun _ _ _ _ _ z=>z
end QG
namespace PySem.W.Fast
theorem tw10041346459562634021:True:=⟨⟩
theorem tw10141395791753690841:True:=⟨⟩
theorem tw10161462477004330797:True:=⟨⟩
theorem tw10166299630879022669:True:=⟨⟩
theorem tw10324463793311390645:True:=⟨⟩
theorem tw10335465780196691245:True:=⟨⟩
theorem tw10342276485130619962:True:=⟨⟩
theorem tw10388509294708072068:True:=⟨⟩
theorem tw10438128959615563915:True:=⟨⟩
theorem tw10522444132136372538:True:=⟨⟩
theorem tw10569891406263165296:True:=⟨⟩
theorem tw10615773169051660427:True:=⟨⟩
theorem tw10670085679081875798:True:=⟨⟩
theorem tw10848214355925180004:True:=⟨⟩
theorem tw10918583650640849064:True:=⟨⟩
theorem tw10936775652049716653:True:=⟨⟩
theorem tw10957122703761709560:True:=⟨⟩
theorem tw10961182048772534039:True:=⟨⟩
theorem tw10996437802502200059:True:=⟨⟩
theorem tw11017235243913056555:True:=⟨⟩
theorem tw11103016922509164294:True:=⟨⟩
theorem tw11125854475730876761:True:=⟨⟩
theorem tw11127390237517484195:True:=⟨⟩
theorem tw11164314731553731436:True:=⟨⟩
theorem tw11250129912717477927:True:=⟨⟩
theorem tw11293738019456042223:True:=⟨⟩
theorem tw11302463713562068082:True:=⟨⟩
theorem tw11316743550982630139:True:=⟨⟩
theorem tw11373240316174629205:True:=⟨⟩
theorem tw11404556545025523328:True:=⟨⟩
theorem tw11459472333670640716:True:=⟨⟩
theorem tw11514831082089600396:True:=⟨⟩
theorem tw11545509391117361514:True:=⟨⟩
theorem tw11650158916066715720:True:=⟨⟩
theorem tw1171508941855329846:True:=⟨⟩
theorem tw11734503980981720117:True:=⟨⟩
theorem tw12069477176627748445:True:=⟨⟩
theorem tw12078295648505722134:True:=⟨⟩
theorem tw12119338726946049582:True:=⟨⟩
theorem tw12259443974921684203:True:=⟨⟩
theorem tw12292217451136866097:True:=⟨⟩
theorem tw12422180859005937230:True:=⟨⟩
theorem tw12425938769167492776:True:=⟨⟩
theorem tw12452764715924708643:True:=⟨⟩
theorem tw12469163314137942610:True:=⟨⟩
theorem tw1250660893569233789:True:=⟨⟩
theorem tw12510937304597527272:True:=⟨⟩
theorem tw12550385168991102830:True:=⟨⟩
theorem tw12562320140805384281:True:=⟨⟩
theorem tw12619381083315637320:True:=⟨⟩
theorem tw12629153117293762823:True:=⟨⟩
theorem tw12672973600085391734:True:=⟨⟩
theorem tw12711198262573188904:True:=⟨⟩
theorem tw12757618184569111106:True:=⟨⟩
theorem tw12760666089085644888:True:=⟨⟩
theorem tw12820879689928763838:True:=⟨⟩
theorem tw12821681046690073622:True:=⟨⟩
theorem tw12830730195317846414:True:=⟨⟩
theorem tw12834630826124469772:True:=⟨⟩
theorem tw12963776952193868359:True:=⟨⟩
theorem tw13034372074904209498:True:=⟨⟩
theorem tw13081001376953425653:True:=⟨⟩
theorem tw13115961362252132226:True:=⟨⟩
theorem tw13152197431394757261:True:=⟨⟩
theorem tw13177376302990124324:True:=⟨⟩
theorem tw13178126171679989525:True:=⟨⟩
theorem tw13192273773925079051:True:=⟨⟩
theorem tw13210052334967940535:True:=⟨⟩
theorem tw13234026522229441265:True:=⟨⟩
theorem tw13247350398474331365:True:=⟨⟩
theorem tw1332072700079854570:True:=⟨⟩
theorem tw13352646984957580831:True:=⟨⟩
theorem tw13396438860795991500:True:=⟨⟩
theorem tw13470419078862920189:True:=⟨⟩
theorem tw13504073970746098659:True:=⟨⟩
theorem tw13520127205306034383:True:=⟨⟩
theorem tw13524325720444170762:True:=⟨⟩
theorem tw13530323950345781210:True:=⟨⟩
theorem tw13532791093112249524:True:=⟨⟩
theorem tw1355606318280234138:True:=⟨⟩
theorem tw1357706095286465402:True:=⟨⟩
theorem tw13626957798339308782:True:=⟨⟩
theorem tw13675483065187242849:True:=⟨⟩
theorem tw13721523674517712703:True:=⟨⟩
theorem tw13773407766700228452:True:=⟨⟩
theorem tw13784973104798769718:True:=⟨⟩
theorem tw13796970023832762351:True:=⟨⟩
theorem tw13828985973721972213:True:=⟨⟩
theorem tw13862328220714360138:True:=⟨⟩
theorem tw13873183273475674809:True:=⟨⟩
theorem tw138947418768268930:True:=⟨⟩
theorem tw13935952112236272883:True:=⟨⟩
theorem tw13949236934748620324:True:=⟨⟩
theorem tw14002299075759545276:True:=⟨⟩
theorem tw14049704948847991009:True:=⟨⟩
theorem tw14055466418846234731:True:=⟨⟩
theorem tw14058701065400600039:True:=⟨⟩
theorem tw14133148761863052626:True:=⟨⟩
theorem tw14155292835559443711:True:=⟨⟩
theorem tw14164406924585933665:True:=⟨⟩
theorem tw14171183253985304314:True:=⟨⟩
theorem tw14247449005439486632:True:=⟨⟩
theorem tw14256596111978764876:True:=⟨⟩
theorem tw14304653578679782921:True:=⟨⟩
theorem tw1433664785509943770:True:=⟨⟩
theorem tw143559380459864361:True:=⟨⟩
theorem tw14363416609193499791:True:=⟨⟩
theorem tw14425169106136676740:True:=⟨⟩
theorem tw14437844031662751867:True:=⟨⟩
theorem tw14497968018043165679:True:=⟨⟩
theorem tw14508812142904212556:True:=⟨⟩
theorem tw14568821048915740542:True:=⟨⟩
theorem tw14611653675328919263:True:=⟨⟩
theorem tw14647011558096514902:True:=⟨⟩
theorem tw1468526283635367730:True:=⟨⟩
theorem tw14750114912154816339:True:=⟨⟩
theorem tw14767068942077962558:True:=⟨⟩
theorem tw14785775978970468680:True:=⟨⟩
theorem tw14858999180728872784:True:=⟨⟩
theorem tw14966571794933709471:True:=⟨⟩
theorem tw15011582494580725821:True:=⟨⟩
theorem tw15013463811279752658:True:=⟨⟩
theorem tw15026734892062478397:True:=⟨⟩
theorem tw15029862596951465427:True:=⟨⟩
theorem tw15041981211754961677:True:=⟨⟩
theorem tw15126435229898498082:True:=⟨⟩
theorem tw15138931994859837130:True:=⟨⟩
theorem tw15143537938273853443:True:=⟨⟩
theorem tw15157576835307924338:True:=⟨⟩
theorem tw15199618371621998477:True:=⟨⟩
theorem tw15210718758920591723:True:=⟨⟩
theorem tw1529603071848011834:True:=⟨⟩
theorem tw1532494727862072539:True:=⟨⟩
theorem tw1532516524962872856:True:=⟨⟩
theorem tw1532789386401450607:True:=⟨⟩
theorem tw15331026404518049784:True:=⟨⟩
theorem tw1541537751867850531:True:=⟨⟩
theorem tw15573640085478700757:True:=⟨⟩
theorem tw15584126695040576785:True:=⟨⟩
theorem tw15590177049480294570:True:=⟨⟩
theorem tw15633437692093942232:True:=⟨⟩
theorem tw15706647470290939986:True:=⟨⟩
theorem tw1574253738154828012:True:=⟨⟩
theorem tw15757163562125230562:True:=⟨⟩
theorem tw15771836859003141622:True:=⟨⟩
theorem tw15782187643059581649:True:=⟨⟩
theorem tw15784086790468777104:True:=⟨⟩
theorem tw158021230799888324:True:=⟨⟩
theorem tw15879100247511625757:True:=⟨⟩
theorem tw15913557225074588982:True:=⟨⟩
theorem tw15957675133103759936:True:=⟨⟩
theorem tw16021598384240097396:True:=⟨⟩
theorem tw16075084592601025262:True:=⟨⟩
theorem tw16102108644722627902:True:=⟨⟩
theorem tw16142143195260366297:True:=⟨⟩
theorem tw16145438894988399909:True:=⟨⟩
theorem tw16181318915771388218:True:=⟨⟩
theorem tw16187706499642862432:True:=⟨⟩
theorem tw16213354203562709535:True:=⟨⟩
theorem tw16225913844199551628:True:=⟨⟩
theorem tw16283837946391724747:True:=⟨⟩
theorem tw16313153536500355984:True:=⟨⟩
theorem tw16396062374506346133:True:=⟨⟩
theorem tw16420646420785293268:True:=⟨⟩
theorem tw16426511816434350634:True:=⟨⟩
theorem tw16463034915119690112:True:=⟨⟩
theorem tw16582056275896234632:True:=⟨⟩
theorem tw16582852944225626674:True:=⟨⟩
theorem tw16650861901861447640:True:=⟨⟩
theorem tw16654046988890901392:True:=⟨⟩
theorem tw16662994461792860122:True:=⟨⟩
theorem tw16679433860459241723:True:=⟨⟩
theorem tw16687406658656614043:True:=⟨⟩
theorem tw16745273030731449966:True:=⟨⟩
theorem tw16833770904071539056:True:=⟨⟩
theorem tw16857998153603547131:True:=⟨⟩
theorem tw16876259669979964374:True:=⟨⟩
theorem tw16924660093839183415:True:=⟨⟩
theorem tw1692803814101009134:True:=⟨⟩
theorem tw16990363109958885350:True:=⟨⟩
theorem tw1699229566697765876:True:=⟨⟩
theorem tw17004668548457559852:True:=⟨⟩
theorem tw17048075343553061159:True:=⟨⟩
theorem tw17048864665333375525:True:=⟨⟩
theorem tw17053640957037359892:True:=⟨⟩
theorem tw17233360762283062525:True:=⟨⟩
theorem tw17247747812889292506:True:=⟨⟩
theorem tw17286179809690262724:True:=⟨⟩
theorem tw17288437188970196057:True:=⟨⟩
theorem tw17320231077642304105:True:=⟨⟩
theorem tw1733874872823748323:True:=⟨⟩
theorem tw17342630783614540978:True:=⟨⟩
theorem tw17419039190892073432:True:=⟨⟩
theorem tw17443262317407608197:True:=⟨⟩
theorem tw17477770074779298680:True:=⟨⟩
theorem tw17481642744390501717:True:=⟨⟩
theorem tw17588180742889597105:True:=⟨⟩
theorem tw17638080834536014735:True:=⟨⟩
theorem tw17651354847176592081:True:=⟨⟩
theorem tw17685270962362523377:True:=⟨⟩
theorem tw17721947157817636605:True:=⟨⟩
theorem tw17737827938161612235:True:=⟨⟩
theorem tw17741174475709649634:True:=⟨⟩
theorem tw17821469718067929971:True:=⟨⟩
theorem tw17829608594258299617:True:=⟨⟩
theorem tw17838578815147121315:True:=⟨⟩
theorem tw17845342299746970676:True:=⟨⟩
theorem tw17880308303901422808:True:=⟨⟩
theorem tw17888649467668613239:True:=⟨⟩
theorem tw17946891749846583199:True:=⟨⟩
theorem tw17947262258847691025:True:=⟨⟩
theorem tw17951943365326131854:True:=⟨⟩
theorem tw17960696858595554095:True:=⟨⟩
theorem tw18030690866722325528:True:=⟨⟩
theorem tw18129588904476352414:True:=⟨⟩
theorem tw1814407629602138120:True:=⟨⟩
theorem tw18156390528537845820:True:=⟨⟩
theorem tw1818250116335763593:True:=⟨⟩
theorem tw18188641727959590889:True:=⟨⟩
theorem tw18199232014502211667:True:=⟨⟩
theorem tw18216007916839757461:True:=⟨⟩
theorem tw18290342648322973192:True:=⟨⟩
theorem tw18299025103514266373:True:=⟨⟩
theorem tw18313391733863077136:True:=⟨⟩
theorem tw18320803465268174431:True:=⟨⟩
theorem tw18370635682369234570:True:=⟨⟩
theorem tw18392429721700138546:True:=⟨⟩
theorem tw18420614350995310867:True:=⟨⟩
theorem tw1865737403159603272:True:=⟨⟩
theorem tw1869721936983572365:True:=⟨⟩
theorem tw1912284248675888672:True:=⟨⟩
theorem tw192400119303117491:True:=⟨⟩
theorem tw1933771586853220730:True:=⟨⟩
theorem tw1952867534232313865:True:=⟨⟩
theorem tw1959011157100399313:True:=⟨⟩
theorem tw2018774892741121091:True:=⟨⟩
theorem tw2121786170943059553:True:=⟨⟩
theorem tw2144788473601156638:True:=⟨⟩
theorem tw2196561302076153382:True:=⟨⟩
theorem tw2241296906343730389:True:=⟨⟩
theorem tw226203760403649738:True:=⟨⟩
theorem tw2264917459256741468:True:=⟨⟩
theorem tw231990327077297357:True:=⟨⟩
theorem tw2345247918809837005:True:=⟨⟩
theorem tw2357083302467755608:True:=⟨⟩
theorem tw2374560719355921640:True:=⟨⟩
theorem tw2377885984573301201:True:=⟨⟩
theorem tw2443508204204387498:True:=⟨⟩
theorem tw2477714970853264068:True:=⟨⟩
theorem tw2553497490485118758:True:=⟨⟩
theorem tw2620347883538260727:True:=⟨⟩
theorem tw2657756897912121841:True:=⟨⟩
theorem tw2681584595657768610:True:=⟨⟩
theorem tw268606076157903709:True:=⟨⟩
theorem tw2755954771027428975:True:=⟨⟩
theorem tw2884184569410189311:True:=⟨⟩
theorem tw2952384944385000543:True:=⟨⟩
theorem tw3001092637664364307:True:=⟨⟩
theorem tw3005601932774992691:True:=⟨⟩
theorem tw308046619978722319:True:=⟨⟩
theorem tw3282752617769586450:True:=⟨⟩
theorem tw3307293863220311645:True:=⟨⟩
theorem tw3309611744330792621:True:=⟨⟩
theorem tw3336304986138653454:True:=⟨⟩
theorem tw3343234432427967466:True:=⟨⟩
theorem tw3343236797187761671:True:=⟨⟩
theorem tw3364189691330416410:True:=⟨⟩
theorem tw3383205988123126455:True:=⟨⟩
theorem tw3424507457833366604:True:=⟨⟩
theorem tw3477303208294421106:True:=⟨⟩
theorem tw3505847596352569548:True:=⟨⟩
theorem tw3508928529630810967:True:=⟨⟩
theorem tw3721570215390131509:True:=⟨⟩
theorem tw374874924155609099:True:=⟨⟩
theorem tw3751778896204109794:True:=⟨⟩
theorem tw3763134612083005307:True:=⟨⟩
theorem tw3779985765892420687:True:=⟨⟩
theorem tw378020369040728505:True:=⟨⟩
theorem tw3782287955885776712:True:=⟨⟩
theorem tw3827779375193890226:True:=⟨⟩
theorem tw3869496905608968490:True:=⟨⟩
theorem tw3902246879541348337:True:=⟨⟩
theorem tw39361606825381086:True:=⟨⟩
theorem tw3940322562197138888:True:=⟨⟩
theorem tw3963099617094577490:True:=⟨⟩
theorem tw4075957320544827351:True:=⟨⟩
theorem tw4117841817166328039:True:=⟨⟩
theorem tw417978654544297505:True:=⟨⟩
theorem tw4200351599266926426:True:=⟨⟩
theorem tw4240640103532496007:True:=⟨⟩
theorem tw4267282695631198957:True:=⟨⟩
theorem tw4304676669104871749:True:=⟨⟩
theorem tw432945431144907738:True:=⟨⟩
theorem tw4338974564277077680:True:=⟨⟩
theorem tw4383329296830230889:True:=⟨⟩
theorem tw4396220840178544048:True:=⟨⟩
theorem tw4399721537051478649:True:=⟨⟩
theorem tw4408272254918863735:True:=⟨⟩
theorem tw4408278890990304986:True:=⟨⟩
theorem tw4426357943249746898:True:=⟨⟩
theorem tw4457941127305001891:True:=⟨⟩
theorem tw4477825372900318725:True:=⟨⟩
theorem tw4493963246022285825:True:=⟨⟩
theorem tw4500278053441617780:True:=⟨⟩
theorem tw4527157188200785316:True:=⟨⟩
theorem tw4573807387220732150:True:=⟨⟩
theorem tw4602341638229292417:True:=⟨⟩
theorem tw461844143570595733:True:=⟨⟩
theorem tw4632399643553120417:True:=⟨⟩
theorem tw4637893312705515913:True:=⟨⟩
theorem tw46882827342096780:True:=⟨⟩
theorem tw4706964751256353173:True:=⟨⟩
theorem tw4735689825756413051:True:=⟨⟩
theorem tw4766398733279451358:True:=⟨⟩
theorem tw4780441108370920695:True:=⟨⟩
theorem tw4835177504590189798:True:=⟨⟩
theorem tw48692626564297424:True:=⟨⟩
theorem tw4879325096349121273:True:=⟨⟩
theorem tw4896190385390321097:True:=⟨⟩
theorem tw4917074840047768096:True:=⟨⟩
theorem tw4940149234189176751:True:=⟨⟩
theorem tw5010256882246220596:True:=⟨⟩
theorem tw5078412895793368187:True:=⟨⟩
theorem tw5079145010517372488:True:=⟨⟩
theorem tw5102762999974891551:True:=⟨⟩
theorem tw5119285609194132471:True:=⟨⟩
theorem tw5265179345444799073:True:=⟨⟩
theorem tw5277401884694750749:True:=⟨⟩
theorem tw5380729487987305692:True:=⟨⟩
theorem tw5384172103619569489:True:=⟨⟩
theorem tw5388247913939447102:True:=⟨⟩
theorem tw5406737998209407487:True:=⟨⟩
theorem tw5477288038649663652:True:=⟨⟩
theorem tw5508079769302495824:True:=⟨⟩
theorem tw5512781258939364084:True:=⟨⟩
theorem tw5535034472045738297:True:=⟨⟩
theorem tw5581970131120187438:True:=⟨⟩
theorem tw5629598327065747116:True:=⟨⟩
theorem tw567019520078762290:True:=⟨⟩
theorem tw5686393934207011486:True:=⟨⟩
theorem tw5790142155644691649:True:=⟨⟩
theorem tw5802830351329869305:True:=⟨⟩
theorem tw5872411535959950031:True:=⟨⟩
theorem tw5905631749610368965:True:=⟨⟩
theorem tw5918957693854829776:True:=⟨⟩
theorem tw6026236247376515029:True:=⟨⟩
theorem tw6033707928335828421:True:=⟨⟩
theorem tw6068324693305103868:True:=⟨⟩
theorem tw611418467362871490:True:=⟨⟩
theorem tw6260707921295555016:True:=⟨⟩
theorem tw6337664676653976486:True:=⟨⟩
theorem tw6397082824419581571:True:=⟨⟩
theorem tw6418148220707103120:True:=⟨⟩
theorem tw6419985509430069390:True:=⟨⟩
theorem tw6445736706969542778:True:=⟨⟩
theorem tw6468408925833314154:True:=⟨⟩
theorem tw6634622015288236529:True:=⟨⟩
theorem tw6665549512544924632:True:=⟨⟩
theorem tw6771579315332770534:True:=⟨⟩
theorem tw6797298433084056353:True:=⟨⟩
theorem tw6849006899392051751:True:=⟨⟩
theorem tw6871806223012573284:True:=⟨⟩
theorem tw6877025306301729480:True:=⟨⟩
theorem tw6895174750397218713:True:=⟨⟩
theorem tw6899671349049561556:True:=⟨⟩
theorem tw6911533360060068074:True:=⟨⟩
theorem tw6918090653434160044:True:=⟨⟩
theorem tw6964775104402912435:True:=⟨⟩
theorem tw6975838646691272191:True:=⟨⟩
theorem tw6991607651081328266:True:=⟨⟩
theorem tw7029635895500454509:True:=⟨⟩
theorem tw705095481970234330:True:=⟨⟩
theorem tw7072598780739701454:True:=⟨⟩
theorem tw7084611405567222608:True:=⟨⟩
theorem tw7093583467652118870:True:=⟨⟩
theorem tw7096954748684874676:True:=⟨⟩
theorem tw7114299080149262670:True:=⟨⟩
theorem tw7130099539508337483:True:=⟨⟩
theorem tw7131864118834582532:True:=⟨⟩
theorem tw7135216284642923125:True:=⟨⟩
theorem tw7192634869458135792:True:=⟨⟩
theorem tw720923295144400049:True:=⟨⟩
theorem tw7251359809278856436:True:=⟨⟩
theorem tw7264055506758491627:True:=⟨⟩
theorem tw7314439892349285945:True:=⟨⟩
theorem tw7326122770384728878:True:=⟨⟩
theorem tw7329142870957720338:True:=⟨⟩
theorem tw7362062388715629778:True:=⟨⟩
theorem tw7369070903595297055:True:=⟨⟩
theorem tw7372456115283592934:True:=⟨⟩
theorem tw7378472609853065895:True:=⟨⟩
theorem tw7392557448192798139:True:=⟨⟩
theorem tw7404931881191574331:True:=⟨⟩
theorem tw7406095610009073127:True:=⟨⟩
theorem tw7413052917753509603:True:=⟨⟩
theorem tw7437375962863740382:True:=⟨⟩
theorem tw7440719295482988979:True:=⟨⟩
theorem tw7504111773529471433:True:=⟨⟩
theorem tw7575944791215158624:True:=⟨⟩
theorem tw7608156110421266227:True:=⟨⟩
theorem tw7632430194251712082:True:=⟨⟩
theorem tw7665166034528988160:True:=⟨⟩
theorem tw7665424652466975969:True:=⟨⟩
theorem tw7682796345371615931:True:=⟨⟩
theorem tw7719762617709289814:True:=⟨⟩
theorem tw7732456395509049392:True:=⟨⟩
theorem tw7751796364562574719:True:=⟨⟩
theorem tw7755490586526630320:True:=⟨⟩
theorem tw7756396164814318620:True:=⟨⟩
theorem tw7792086006267418368:True:=⟨⟩
theorem tw7794652432983781980:True:=⟨⟩
theorem tw7840256593267226495:True:=⟨⟩
theorem tw7852595378728909152:True:=⟨⟩
theorem tw7879719514257971736:True:=⟨⟩
theorem tw7894063173902413756:True:=⟨⟩
theorem tw8047874045323643974:True:=⟨⟩
theorem tw8075390319026403970:True:=⟨⟩
theorem tw8084994585137273385:True:=⟨⟩
theorem tw8113662512601123713:True:=⟨⟩
theorem tw8232896765317608678:True:=⟨⟩
theorem tw8244799956864969399:True:=⟨⟩
theorem tw825317824592625708:True:=⟨⟩
theorem tw8295846350419510922:True:=⟨⟩
theorem tw8338199768445832105:True:=⟨⟩
theorem tw8360204389839041285:True:=⟨⟩
theorem tw836110446472034248:True:=⟨⟩
theorem tw8379970681646177091:True:=⟨⟩
theorem tw838560414290000804:True:=⟨⟩
theorem tw8438757202005504575:True:=⟨⟩
theorem tw8442472906993595656:True:=⟨⟩
theorem tw8476509220918258897:True:=⟨⟩
theorem tw8493042795889666660:True:=⟨⟩
theorem tw8495279797791119859:True:=⟨⟩
theorem tw8533339126732992071:True:=⟨⟩
theorem tw8602467752186752383:True:=⟨⟩
theorem tw8613755030457399170:True:=⟨⟩
theorem tw8643432238568142140:True:=⟨⟩
theorem tw8663100047079161001:True:=⟨⟩
theorem tw870513718004571216:True:=⟨⟩
theorem tw8710907694993864365:True:=⟨⟩
theorem tw8733236962110300308:True:=⟨⟩
theorem tw877679564231091599:True:=⟨⟩
theorem tw8779115030447509598:True:=⟨⟩
theorem tw8825593611825399628:True:=⟨⟩
theorem tw8832221758971067948:True:=⟨⟩
theorem tw8844746567116020787:True:=⟨⟩
theorem tw889772574459214662:True:=⟨⟩
theorem tw8900571669832140445:True:=⟨⟩
theorem tw8901353117198048811:True:=⟨⟩
theorem tw8935511514436251373:True:=⟨⟩
theorem tw8938353205471855800:True:=⟨⟩
theorem tw8971766592808324095:True:=⟨⟩
theorem tw8985258613107455204:True:=⟨⟩
theorem tw899496042018963105:True:=⟨⟩
theorem tw9015450714396313481:True:=⟨⟩
theorem tw90413939107552014:True:=⟨⟩
theorem tw9116254077564927114:True:=⟨⟩
theorem tw9203618145586983658:True:=⟨⟩
theorem tw9295154737277536614:True:=⟨⟩
theorem tw935892428836445439:True:=⟨⟩
theorem tw937740286767628295:True:=⟨⟩
theorem tw938064366824791904:True:=⟨⟩
theorem tw9387681055236162780:True:=⟨⟩
theorem tw9463091448833562786:True:=⟨⟩
theorem tw9473936622216836176:True:=⟨⟩
theorem tw9492397757443395400:True:=⟨⟩
theorem tw9633356030702371076:True:=⟨⟩
theorem tw9658935316198046185:True:=⟨⟩
theorem tw9660026946314908090:True:=⟨⟩
theorem tw9710502570887201:True:=⟨⟩
theorem tw9730459029237856373:True:=⟨⟩
theorem tw975966504872038289:True:=⟨⟩
theorem tw9765872865919986579:True:=⟨⟩
theorem tw984961568937495323:True:=⟨⟩
theorem tw9867199278420881842:True:=⟨⟩
theorem tw990602899593118518:True:=⟨⟩
theorem tw9924089050810916486:True:=⟨⟩
theorem tw9950682862318787486:True:=⟨⟩
theorem tw997118365037964183:True:=⟨⟩
end PySem.W.Fast
open PySem PySem.W PyProof.Rows
set_option maxRecDepth 100000 in
set_option maxHeartbeats 0 in
theorem PySem.Challenge.cw_noteworth_k43_whole_rubs_holds : PySem.Challenge.rw_noteworth_k43_whole_rubs.Holds := by
 w_on;o_law;k_head;(case hw=>w_witness2)
 k_fill
 refine QG.walk (l:=PySem.Challenge.rw_noteworth_k43_whole_rubs) rfl rfl (fun w h Y=>PySem.W.kIn_of Y) ?F
 case F =>
  intro w mg fa h KX G hmg
  refine' QG.all_mk KX G hmg ?M7 ?Ui ?Uj ?zN ?zO ?zP ?zQ ?Iu ?Iv ?Iw ?Iy ?zR ?zS ?zT ?zU ?zV ?zW ?zX ?zY ?M8 ?M9 ?Na ?Nb ?zZ ?z9 ?Aa ?Ab ?Ac ?Ad ?Ae ?tT ?w6 ?Af ?Ag ?Ah ?tU ?xa ?Iz ?IA ?IB ?A8 ?Du ?Ai ?Aj ?Ak ?tV ?xc ?hG ?hI ?hV ?hX ?Y9 ?Za ?Zb ?Zc ?lY ?lZ ?l8 ?ma ?sk ?sq ?sr ?md ?pO ?Uk ?Ul ?Um ?ES ?IC ?ID ?IE ?IF ?Dv ?Dw ?Dx ?Dy ?su ?sv ?sx ?sy ?Nc ?Nd ?Nf ?Ng ?jB ?jC ?jD ?fI ?i7 ?kd ?ke ?kf ?gH ?jE ?pP ?pQ ?pR ?pS ?nR ?Al ?Am ?An ?tW ?xf ?Dz ?DA ?DB ?xg ?Ao ?DC ?DD ?DE ?xh ?Ap ?xi ?xj ?xk ?xm ?xo ?xp ?xq ?qF ?uo ?xr ?xt ?xu ?qG ?uq ?Aq ?Ar ?As ?Au ?Nh ?Ni ?Nj ?Nk ?Av ?Aw ?Ax ?tX ?xw ?DF ?DG ?DH ?DI ?tY ?IG ?IH ?II ?IJ ?ur ?uv ?uw ?uy ?hZ ?ic ?ie ?ig ?Zd ?Ze ?Zf ?Zg ?KL ?pT ?pV ?pW ?pX ?nS ?nV ?nW ?nX ?me ?mf ?mh ?mi ?mj ?mq ?mr ?mv ?xy ?xA ?xB ?xC ?IK ?IL ?IM ?IP ?Nl ?Nm ?Nn ?Np ?A9 ?Ay ?Az ?AA ?tZ ?xE ?Nq ?Nr ?Nt ?oX ?Uo ?Up ?Uq ?Ur ?jF ?jG ?jH ?jI ?Zh ?Zi ?Zj ?Zk ?IQ ?IS ?IT ?IU ?Nu ?Nv ?Nw ?Nx ?AB ?AD ?AE ?AF ?Ny ?Nz ?NA ?NB ?IV ?IW ?IX ?IY ?Us ?Ut ?Uu ?Uv ?NC ?ND ?NF ?NG ?AG ?AH ?AI ?AJ ?xF ?xG ?xH ?xI ?AK ?AL ?AM ?AN ?IZ ?Ja ?Jb ?Jc ?Jd ?Je ?Jf ?Jg ?NH ?NI ?NJ ?NK ?DJ ?DK ?DM ?DN ?mw ?my ?mz ?mB ?uz ?uA ?uB ?uC ?Jh ?Ji ?Jj ?Jk ?mC ?mD ?mE ?iD ?kg ?uD ?uE ?uF ?oI ?sA ?nY ?nZ ?n0 ?n6 ?mF ?n8 ?oa ?og ?jr ?mG ?oh ?oi ?oj ?js ?mH ?iE ?AO ?AQ ?AR ?AS ?pY ?pZ ?p4 ?p5 ?om ?NL ?NM ?NN ?NO ?aae ?afb ?afc ?afd ?afe ?aff ?afg ?Zl ?Zm ?AU ?afh ?xJ ?afi ?Zn ?afj ?afk ?Uw ?afl ?afm ?Ux ?afn ?sC ?sD ?sE ?sF ?oq ?ot ?ou ?ow ?mI ?mJ ?p9 ?qa ?qb ?qc ?qd ?qe ?qf ?qg ?qh ?mK ?mL ?mM ?uG ?kh ?ox ?qi ?DO ?qj ?sG ?uH ?Jl ?DP ?Jm ?Jn ?NP ?NQ ?NR ?NS ?fu ?eh ?ck ?NT ?NU ?Uy ?Uz ?UA ?UB ?eA ?gF ?eB ?fz ?NV ?NW ?UC ?UD ?UE ?UG ?cm ?dN ?cM
  (case M7|Ui|Uj|zN|zO|zP|zQ|Iu|Iv|Iw|Iy|zR|zS|zT|zU|zV|zW|zX|zY|M8|M9|Na|Nb|zZ|z9|Aa|Ab|Ac|Ad|Ae|tT|w6|Af|Ag|Ah|tU|xa|Iz|IA|IB|A8|Du|Ai|Aj|Ak|tV|xc|hG|hI|hV|hX|Y9|Za|Zb|Zc|lY|lZ|l8|ma|sk|sq|sr|md|pO|Uk|Ul|Um|ES|IC|ID|IE|IF|Dv|Dw|Dx|Dy|su|sv|sx|sy|Nc|Nd|Nf|Ng|jB|jC|jD|fI|i7|kd|ke|kf|gH|jE|pP|pQ|pR|pS|nR|Al|Am|An|tW|xf|Dz|DA|DB|xg|Ao|DC|DD|DE|xh|Ap|xi|xj|xk|xm|xo|xp|xq|qF|uo|xr|xt|xu|qG|uq|Aq|Ar|As|Au|Nh|Ni|Nj|Nk|Av|Aw|Ax|tX|xw|DF|DG|DH|DI|tY|IG|IH|II|IJ|ur|uv|uw|uy|hZ|ic|ie|ig|Zd|Ze|Zf|Zg|KL|pT|pV|pW|pX|nS|nV|nW|nX|me|mf|mh|mi|mj|mq|mr|mv|xy|xA|xB|xC|IK|IL|IM|IP|Nl|Nm|Nn|Np|A9|Ay|Az|AA|tZ|xE|Nq|Nr|Nt|oX|Uo|Up|Uq|Ur|jF|jG|jH|jI|Zh|Zi|Zj|Zk|IQ|IS|IT|IU|Nu|Nv|Nw|Nx|AB|AD|AE|AF|Ny|Nz|NA|NB|IV|IW|IX|IY|Us|Ut|Uu|Uv|NC|ND|NF|NG|AG|AH|AI|AJ|xF|xG|xH|xI|AK|AL|AM|AN|IZ|Ja|Jb|Jc|Jd|Je|Jf|Jg|NH|NI|NJ|NK|DJ|DK|DM|DN|mw|my|mz|mB|uz|uA|uB|uC|Jh|Ji|Jj|Jk|mC|mD|mE|iD|kg|uD|uE|uF|oI|sA|nY|nZ|n0|n6|mF|n8|oa|og|jr|mG|oh|oi|oj|js|mH|iE|AO|AQ|AR|AS|pY|pZ|p4|p5|om|NL|NM|NN|NO|aae|afb|afc|afd|afe|aff|afg|Zl|Zm|AU|afh|xJ|afi|Zn|afj|afk|Uw|afl|afm|Ux|afn|sC|sD|sE|sF|oq|ot|ou|ow|mI|mJ|p9|qa|qb|qc|qd=>k_is)
  (case qe=>rfl)
  (case qf|qg=>k_is)
  (case qh=>rfl)
  (case mK|mL=>k_is)
  (case mM=>rfl)
  (case uG|kh|ox|qi|DO|qj|sG|uH|Jl|DP|Jm|Jn|NP|NQ|NR|NS|fu|eh|ck|NT|NU|Uy|Uz|UA|UB|eA|gF|eB|fz|NV|NW|UC|UD|UE|UG|cm|dN|cM=>k_is)
