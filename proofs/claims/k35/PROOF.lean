import PyProof.Rows.All
import Wide.All
import OpenK.AllK
import Wide.FinOn
import Lean
import PyProof.EqAt
import PyProof.EqKinds
import PyProof.TupleCall
import PySem.Challenge.RW_noteworth_k35_doors_that_ask_a_voice
set_option Elab.async false
set_option linter.all false
set_option maxRecDepth 100000
open PySem.W (Frag KitX Looks OpenLaw WalkO callWith_K callWith_K0 codeIn emptyDict excIn exmOne exm_one findIn fnOf handedIn hasDictIn hideAll hideAll_get hideAll_none instObj isFn keepIn kia_one kitAny kitOne kitx_dict kitx_list lookIn looks_findIn makesIn methodCall_KW methodObj mg_none_of mg_of mroIn nsIn of_hideAll plainGet plainGet_of plainOver specialIn takerIn)
open List (length_map length_append length_take length_drop mem_append mem_singleton mem_cons_self mem_cons_of_mem mem_append_left mem_append_right mem_of_getElem? size_toArray take_length getElem?_map map_append map_cons length_cons take_succ getElem?_eq_getElem mem_map any_eq_true all_eq_true getElem?_drop append_nil nil_append getElem?_of_mem)
open PySem.F (args_dict_get_3 entry_dict_get entry_zip_next plainAttrs_dict plainAttrs_list slot_dict_get slot_dict_pop slot_enumerate_next slot_list_pop slot_zip_next type_dict_get type_list_pop)
local macro_rules | `(tactic| lk) => `(tactic| decide +kernel)
local macro_rules | `(tactic| z_go) => `(tactic| first | (exact fun _ _ _ _ _ _ us hl => match us, hl with | [_], _ => rfl) | (exact fun _ _ _ _ _ _ us hl => match us, hl with | [_, _], _ => rfl) | (exact fun _ _ _ _ _ _ us hl => match us, hl with | [_, _, _], _ => rfl) | (exact fun _ _ _ _ _ _ us hl => match us, hl with | [_, _, _, _], _ => rfl) | (exact fun _ _ _ _ _ _ us hl => match us, hl with | [_, _, _, _, _], _ => rfl) | (exact fun _ _ _ _ _ _ us hl => match us, hl with | [_, _, _, _, _, _], _ => rfl))
def G' := @if_neg
def K' := @if_pos
def L' := @PySem.wpAny_bind
def N' := @PySem.wpAny_pure
def P' := @absurd
def R' := @congrArg
def S' := @List.getElem?_eq_some_iff
def T' := @List.getElem?_eq_getElem
def U' := @of_decide_eq_true
def V' := @PySem.Heap.get?_push_of_some
def W' := @decide_eq_true
def X' := @decide_eq_false
def Y' := @Bool.eq_false_iff
def Z' := @List.length_append
def j' := @List.length_map
def Za' := @List.mem_of_getElem?
def Zb' := @Option.some.inj
def Zc' := @PySem.Heap.lt_size
def Zd' := @Nat.lt_of_lt_of_le
def Ze' := @List.length_take
def Zf' := @List.getElem?_map
def Zg' := @List.mem_singleton
def Zh' := @Nat.le_trans
def Zi' := @Nat.le_refl
def Zj' := @Nat.zero_le
def Zk' := @List.mem_append
def Zl' := @Bool.false_ne_true
def Zm' := @List.mem_append_right
def Zn' := @Nat.ne_of_lt
def Zo' := @PySem.Heap.get?_push_size
def Zp' := @List.length_cons
def Zq' := @List.mem_append_left
def Ya' := @List.size_toArray
def Yb' := @Ne.symm
def Yc' := @PySem.F.plainAttrs_list
def Yd' := @PySem.F.slot_list_append
def Ye' := @PySem.F.type_list_append
namespace L2
open PySem PySem.Spec PyProof.Rows
abbrev Key:=Sum Int Str
def NZ:Key->Value->Bool
 |.inl k,v=>Value.isInt k v
 |.inr x,v=>Value.isStrOf x v
def ao9 (w:World):Key->Int
 |.inl k=>hashInt k
 |.inr x=>hashStr w x
theorem fc:∀{k:Key} {v:Value},NZ k v=true->(∃ i t,k=Sum.inl i/\v=Value.int i t)\/(∃ x t,k=Sum.inr x/\v=Value.str x t)
 |.inl i,v,h=>by
  obtain⟨t,e⟩:=Value.isInt_shape (k:=i) (v:=v) h;exact .inl ⟨i,t,rfl,e⟩
 |.inr x,v,h=>by
  obtain⟨t,e⟩:=Value.isStrOf_shape (x:=x) (v:=v) h;exact .inr ⟨x,t,rfl,e⟩
theorem adT (i:Int)(t:Tok):NZ (.inl i) (.int i t)=true:=by simp[NZ,Value.isInt]
theorem adU (x:Str)(t:Tok):NZ (.inr x) (.str x t)=true:=by simp[NZ,Value.isStrOf]
theorem akX (a b:Int):decide ((Sum.inl a:Key)=Sum.inl b)=(a==b):=by
 by_cases e:a=b
 ·subst e;simp
 ·have h:¬(Sum.inl a:Key)=Sum.inl b:=fun q=>e (Sum.inl.inj q);rw[X' h];exact(beq_eq_false_iff_ne.mpr e).symm
theorem akY (a b:Str):decide ((Sum.inr a:Key)=Sum.inr b)=decide (a=b):=by
 by_cases e:a=b
 ·subst e;simp
 ·have h:¬(Sum.inr a:Key)=Sum.inr b:=fun q=>e (Sum.inr.inj q);rw[X' h,X' e]
theorem akZ (a:Int)(b:Str):decide ((Sum.inl a:Key)=Sum.inr b)=false:=X' (fun q=>nomatch q)
theorem ak0 (a:Str)(b:Int):decide ((Sum.inr a:Key)=Sum.inl b)=false:=X' (fun q=>nomatch q)
def cQ (prog:Program)(w:World):PySem.KeyKind prog w Key where
 is:=NZ
 hash:=ao9 w
 inj:=fun v a b ha hb=>by
  rcases fc ha with ⟨i,t,rfl,rfl⟩|⟨x,t,rfl,rfl⟩
  ·rcases fc hb with ⟨j,u,rfl,e⟩|⟨y,u,rfl,e⟩
   ·injection e with e1 _;rw[e1]
   ·exact nomatch e
  ·rcases fc hb with ⟨j,u,rfl,e⟩|⟨y,u,rfl,e⟩
   ·exact nomatch e
   ·injection e with e1 _;rw[e1]
 byValue:=fun k v h=>by
  rcases fc h with ⟨i,t,rfl,rfl⟩|⟨x,t,rfl,rfl⟩ <;> rfl
 pyHash:=fun hv h=>by
  rcases fc hv with ⟨i,t,rfl,rfl⟩|⟨x,t,rfl,rfl⟩
  ·exact wpAny_pyHash_int h
  ·exact wpAny_pyHash_str h
 eqBool:=fun hu hv h=>by
  rcases fc hu with ⟨i,t,rfl,rfl⟩|⟨x,t,rfl,rfl⟩
  ·rcases fc hv with ⟨j,u,rfl,rfl⟩|⟨y,u,rfl,rfl⟩
   ·rw[akX]at h;exact wpAny_eqBool_int h
   ·rw[akZ]at h;exact SeqAt.EqAt.int_str i t y u _ _ _ _ h
  ·rcases fc hv with ⟨j,u,rfl,rfl⟩|⟨y,u,rfl,rfl⟩
   ·rw[ak0]at h;exact SeqAt.EqAt.str_int x t j u _ _ _ _ h
   ·rw[akY]at h;exact wpAny_eqBool_str h
 «strs»:=fun k x t v h=>by
  rcases fc h with ⟨i,u,rfl,e⟩|⟨y,u,rfl,e⟩
  ·exact nomatch e
  ·injection e with e1 _
   subst e1;cases v <;> rfl
theorem Xn (prog:Program)(w:World)(i:Int)(t:Tok):(cQ prog w).is (.inl i) (.int i t)=true:=adT i t
theorem mr (prog:Program)(w:World)(x:Str)(t:Tok):(cQ prog w).is (.inr x) (.str x t)=true:=adU x t
end L2
namespace L2
open PySem PySem.Spec PyProof.Rows
inductive V where
 |non|bl (b:Bool)|int (i:Int)|str (x:Str)|byt (b:Array UInt8)|flt (b:UInt64)|ref (a:Addr)|ty (n:String)
 deriving DecidableEq
def RelV:V->Value->Prop
 |.non,u=>u=Value.none
 |.bl b,u=>u=Value.bool b
 |.int i,u=>∃ t,u=Value.int i t
 |.str x,u=>∃ t,u=Value.str x t
 |.byt b,u=>∃ t,u=Value.bytes b t
 |.flt b,u=>∃ t,u=Value.float b t
 |.ref a,u=>u=Value.ref a
 |.ty n,u=>u=Value.type n
abbrev Vals:List V->List Value->Prop:=Paired RelV
theorem Vals.length {xs:List V}{us:List Value}(r:Vals xs us):xs.length=us.length:=Paired.length r
theorem Vals.get:∀{xs:List V} {us:List Value} {i:Nat} {x:V},Vals xs us->xs[i]? = some x->∃ u,us[i]? = some u/\RelV x u
 |_,_,_,_,.nil,e=>by simp at e
 |_,_,0,_,.cons r _,e=>by simp at e;subst e;exact⟨_,rfl,r⟩
 |_,_,i+1,x,.cons _ t,e=>by
  obtain⟨u,h1,h2⟩:=Vals.get (i:=i) (x:=x) t (by simpa using e);exact⟨u,by simpa using h1,h2⟩
theorem Vals.set {x:V}{u:Value}(r:RelV x u):∀{xs:List V} {us:List Value} (i:Nat),Vals xs us->Vals (xs.set i x) (us.set i u)
 |_,_,_,.nil=>.nil
 |_,_,0,.cons _ t=>.cons r t
 |_,_,i+1,.cons q t=>.cons q (Vals.set r i t)
theorem Vals.append:∀{xs ys:List V} {us ws:List Value},Vals xs us->Vals ys ws->Vals (xs++ys) (us++ws)
 |_,_,_,_,.nil,s=>s
 |_,_,_,_,.cons r t,s=>.cons r (Vals.append t s)
theorem Vals.take:∀{xs:List V} {us:List Value} (n:Nat),Vals xs us->Vals (xs.take n) (us.take n)
 |_,_,0,_=>.nil
 |_,_,_+1,.nil=>.nil
 |_,_,n+1,.cons r t=>.cons r (Vals.take n t)
theorem Vals.drop:∀{xs:List V} {us:List Value} (n:Nat),Vals xs us->Vals (xs.drop n) (us.drop n)
 |_,_,0,r=>r
 |_,_,_+1,.nil=>.nil
 |_,_,n+1,.cons _ t=>Vals.drop n t
def qE:Option V->Option Value->Prop
 |some v,some u=>RelV v u
 |none,none=>True
 |_,_=>False
def KV {κ:Type}:List (κ×V)->List (κ×Value)->Prop:=Paired fun(p:κ×V)(q:κ×Value)=>p.1=q.1/\RelV p.2 q.2
def kV:Key->V
 |.inl i=>.int i
 |.inr x=>.str x
inductive HO where
 /-- a list -/
 |lst (xs:List V)
 /-- a tuple (never changes) -/
 |tup (xs:List V)
 /-- a dict whose keys are ints and texts;one whose keys are tuples of ints and texts (the empty one is both) -/
 |dK (kvs:List (Key×V))|dT (kvs:List (List Key×V))
 /-- a set of ints: its members,its size -/
 |set (S:Int->Bool) (n:Nat)
 /-- an instance of the class at C,its dict at dx,its attributes -/
 |ins (C dx:Addr) (fs:List (Str×V))
 /-- the dict of the instance at x -/
 |own (x:Addr)
 /-- the dict of an exception -/
 |xd (fs:List (Str×V))
 /-- a bound method,f of x -/
 |met (f x:Addr)
 /-- a range object lo,lo+1,.. below hi -/
 |rng (lo hi:Int)
 /-- a thing that is known to the object (the script;a dict while a loop walks it): read,never written while it is so -/
 |Zo (o:Obj) (u:HO)
 /-- a code object's table -/
 |tbl (ps:Array Value)
 /-- any other thing,by what is true of its one object (a def of one's own: arO a S n:=HO.ext fun h=>..) -/
 |ext (φ:Heap->Prop)
abbrev Hp:=Addr->Option HO
def upd (H:Hp)(a:Addr)(o:HO):Hp:=fun b=>if b=a then some o else H b
theorem ah {H:Hp}{a:Addr}{o:HO}:upd H a o a=some o:=by unfold upd;rw[K' rfl]
theorem ak {H:Hp}{a b:Addr}{o:HO}(h:b≠a):upd H a o b=H b:=by unfold upd;rw[G' h]
theorem eo {H:Hp}{a:Addr}{o u:HO}:upd (upd H a o) a u=upd H a u:=by
 funext b;unfold upd;split <;> rfl
theorem lg {H:Hp}{a b:Addr}{o u:HO}(h:H a=some o)(h':H b=some u)(d:o≠u):a≠b:=by
 intro e;subst e;rw[h]at h';exact d (Zb' h')
theorem ao {H:Hp}{a b:Addr}{o:HO}(h:H a=some o)(h':H b=none):a≠b:=by
 intro e;subst e;rw[h]at h';cases h'
section
variable (P:Program) (w:World)
def fu (H:Hp)(h:Heap)(a:Addr):HO->Prop
 |.lst xs=>xs.length<=sizeLine/\∃(its:List Value)(n:Nat),Vals xs its/\h.get? a=some { cls:=.type "list",data:=.seq its.toArray n }
 |.tup xs=>xs.length<=sizeLine/\∃ its:List Value,Vals xs its/\IsTup h a its.toArray
 |.dK kvs=>kvs.length<=sizeLine/\(a==sysModules)=false/\∃ vs,KV kvs vs/\h.DictOf (cQ P w) a vs
 |.dT kvs=>kvs.length<=sizeLine/\(a==sysModules)=false/\∃ xs:List (List Key×Addr×Value),
   Paired (fun(p:List Key×V)(q:List Key×Addr×Value)=>p.1=q.1/\H q.2.1=some (.tup (p.1.map kV))/\RelV p.2 q.2.2) kvs xs /\
   ∃ o es ep,h.get? a=some o/\o.ExactDict/\o.data=.dict es ep/\es.toList=xs.map (entryOfKey (tupleKind (cQ P w)))/\(xs.map (·.1)).Nodup
 |.set S n=>h.SetOf (intKind P w) a S n
 |.ins C dx fs=>H dx=some (.own a)/\fs.length<=1000/\dx≠a/\h.get? a=some (instObj C dx) /\
   ∃ mA,h.Ns1 dx mA/\(∀ f,qE (fs.lookup f) (mA f))/\PySem.Within mA (fs.map (·.1))
 |.own _=>∃ o,h.get? a=some o
 |.xd fs=>∃ mA,h.Ns1 a mA/\∀ f,qE (fs.lookup f) (mA f)
 |.rng lo hi=>∃ t u v,h.get? a=some { cls:=.type "range",data:=.fields #[.int lo t,.int hi u,.int 1 v] }
 |.Zo o u=>h.get? a=some o/\fu H h a u
 |.tbl ps=>h.get? a=some { cls:=.none,data:=.fields ps }
 |.met f x=>h.get? a=some (methodObj (.ref f) (.ref x))
 |.ext φ=>φ h/\(∃ o,h.get? a=some o)/\∀ h1 h2:Heap,φ h1->(∀ o,h1.get? a=some o->h2.get? a=some o)->φ h2
def zx (H:Hp)(h:Heap):Prop:=∀ a o,H a=some o->fu P w H h a o
end
section
variable {P:Program} {w:World} {H H':Hp} {h h':Heap} {a:Addr} {o:HO}
theorem fu.lt (x:fu P w H h a o):a<h.objs.size:=by
 cases o with
 |lst xs=>obtain⟨_,_,_,_,e⟩:=x;exact Zc' e
 |tup xs=>obtain⟨_,_,_,p⟩:=x;exact p.lt
 |dK kvs=>obtain⟨_,_,_,_,o,_,_,e,_⟩:=x;exact Zc' e
 |dT kvs=>obtain⟨_,_,_,_,o,_,_,e,_⟩:=x;exact Zc' e
 |set S n=>obtain⟨o,_,_,_,e,_⟩:=x;exact Zc' e
 |ins C dx fs=>obtain⟨_,_,_,e,_⟩:=x;exact Zc' e
 |own y=>obtain⟨_,e⟩:=x;exact Zc' e
 |xd fs=>obtain⟨_,⟨_,_,_,e,_⟩,_⟩:=x;exact Zc' e
 |rng lo hi=>obtain⟨_,_,_,e⟩:=x;exact Zc' e
 |Zo ob u=>obtain⟨e,_⟩:=x;exact Zc' e
 |tbl ps=>exact Zc' (show h.get? a=some _ from x)
 |met f y=>exact Zc' (show h.get? a=some _ from x)
 |ext φ=>obtain⟨_,⟨_,e⟩,_⟩:=x;exact Zc' e
theorem Paired.ak1 {α β:Type}{F G:α->β->Prop}:∀{l₁:List α} {l₂:List β},Paired F l₁ l₂->(∀ a b,F a b->G a b)->Paired G l₁ l₂
 |_,_,.nil,_=>.nil
 |_,_,.cons r t,f=>.cons (f _ _ r) (Paired.ak1 t f)
theorem fu.stay (x:fu P w H h a o)(k:∀ b u,(b=a\/H b=some (.own a))->h.get? b=some u->h'.get? b=some u)
  (ho:∀ b,H b=some (.own a)->H' b=some (.own a)) (ht:∀ b xs,H b=some (.tup xs)->H' b=some (.tup xs)):fu P w H' h' a o:=by
 induction o with
 |lst xs=>obtain⟨z,its,n,r,e⟩:=x;exact⟨z,its,n,r,k _ _ (.inl rfl) e⟩
 |tup xs=>obtain⟨z,its,r,ob,e,c⟩:=x;exact⟨z,its,r,ob,k _ _ (.inl rfl) e,c⟩
 |dK kvs=>obtain⟨z,y,vs,r,ob,es,ep,e,c⟩:=x;exact⟨z,y,vs,r,ob,es,ep,k _ _ (.inl rfl) e,c⟩
 |dT kvs =>
  obtain⟨z,y,xs,r,ob,es,ep,e,c⟩:=x;exact⟨z,y,xs,Paired.ak1 r fun p q z=>⟨z.1,ht _ _ z.2.1,z.2.2⟩,ob,es,ep,k _ _ (.inl rfl) e,c⟩
 |set S n=>obtain⟨ob,es,ep,t,e,c⟩:=x;exact⟨ob,es,ep,t,k _ _ (.inl rfl) e,c⟩
 |ins C dx fs =>
  obtain⟨d,z,ne,e,mA,⟨od,es,ep,e2,c⟩,r⟩:=x;exact⟨ho _ d,z,ne,k _ _ (.inl rfl) e,mA,⟨od,es,ep,k _ _ (.inr d) e2,c⟩,r⟩
 |own y=>obtain⟨ob,e⟩:=x;exact⟨ob,k _ _ (.inl rfl) e⟩
 |xd fs=>obtain⟨mA,⟨od,es,ep,e,c⟩,r⟩:=x;exact⟨mA,⟨od,es,ep,k _ _ (.inl rfl) e,c⟩,r⟩
 |rng lo hi=>obtain⟨t,u,v,e⟩:=x;exact⟨t,u,v,k _ _ (.inl rfl) e⟩
 |Zo ob u ih=>obtain⟨e,q⟩:=x;exact⟨k _ _ (.inl rfl) e,ih q⟩
 |tbl ps =>
  have e:h.get? a=some { cls:=.none,data:=.fields ps }:=x;show h'.get? a=some { cls:=.none,data:=.fields ps };exact k a _ (.inl rfl) e
 |met f y =>
  have e:h.get? a=some (methodObj (.ref f) (.ref y)):=x;show h'.get? a=some (methodObj (.ref f) (.ref y));exact k a _ (.inl rfl) e
 |ext φ=>obtain⟨p,⟨o,e⟩,st⟩:=x;exact⟨st _ _ p fun o q=>k _ _ (.inl rfl) q,⟨o,k _ _ (.inl rfl) e⟩,st⟩
theorem zx.lt (x:zx P w H h)(e:H a=some o):a<h.objs.size:=(x a o e).lt
theorem zx.fresh (x:zx P w H h)(e:h.objs.size<=a):H a=none:=by
 cases q:H a with
 |none=>rfl
 |some u=>exact P' (Zd' (x.lt q) e) (Nat.lt_irrefl _)
theorem zx.kept (x:zx P w H h)(k:∀ b u,h.get? b=some u->h'.get? b=some u):zx P w H h':=fun a o e =>
 (x a o e).stay (fun b u _ q=>k b u q) (fun _ q=>q) fun _ _ q=>q
theorem zx.laid (x:zx P w H h)(k:∀ b u,h.get? b=some u->h'.get? b=some u)(hp:h.objs.size<=a)(new:fu P w (upd H a o) h' a o):zx P w (upd H a o) h':=fun b u e=>by
 have hn:=x.fresh hp
 by_cases hb:b=a
 ·subst hb;rw[ah]at e;cases e;exact new
 ·rw[ak hb]at e;exact(x b u e).stay (fun c v _ q=>k c v q) (fun c q=>by rw[ak (ao q hn)];exact q) fun c xs q=>by rw[ak (ao q hn)];exact q
end
def Rd (H:Hp)(a:Addr)(u:HO):Prop:=H a=some u\/∃ o,H a=some (.Zo o u)
theorem Rd.ok {P:Program}{w:World}{H:Hp}{h:Heap}{a:Addr}{u:HO}(r:Rd H a u)(x:zx P w H h):fu P w H h a u:=by
 rcases r with r|⟨o,r⟩
 ·exact x a u r
 ·obtain⟨_,q⟩:=x a _ r;exact q
def Mut:Option HO->Prop
 |some (.lst _)=>True
 |some (.dK _)=>True
 |some (.dT _)=>True
 |some (.set _ _)=>True
 |some (.ins _ _ _)=>True
 |some (.ext _)=>True
 |_=>False
section
variable {P:Program} {w:World} {H:Hp} {h h':Heap} {x e:Addr} {o':HO}
theorem zx.write (ok:zx P w H h)(mu:Mut (H x))(he:e=x\/H e=some (.own x))(k:∀ b u,b≠e->h.get? b=some u->h'.get? b=some u)(heo:∃ u,h'.get? e=some u)
  (new:fu P w (upd H x o') h' x o'):zx P w (upd H x o') h':=fun b u q=>by
 have amQ:∀ c y,H c=some (.own y)->c≠x:=fun c y r z=>by subst z;rw[r]at mu;exact mu
 have apa:∀ c xs,H c=some (.tup xs)->c≠x:=fun c xs r z=>by subst z;rw[r]at mu;exact mu
 by_cases hb:b=x
 ·subst hb;rw[ah]at q;cases q;exact new
 ·rw[ak hb]at q
  by_cases hbe:b=e
  ·have q':H b=some (.own x):=by
    rcases he with z|z
    ·exact P' (hbe.trans z) hb
    ·rw[hbe];exact z
   rw[q]at q';cases q';obtain⟨v,hv⟩:=heo;exact⟨v,by rw[hbe];exact hv⟩
  ·refine(ok b u q).stay (fun c v hc r=>k c v ?_ r) (fun c r=>by rw[ak (amQ c b r)];exact r) fun c xs r=>by rw[ak (apa c xs r)];exact r
   rcases hc with rfl|hc
   ·exact hbe
   ·rintro rfl;rcases he with z|z
    ·exact amQ c b hc z
    ·rw[hc]at z;cases z;exact hb rfl
end
structure Un (fs ex:List Addr)(H H':Hp)(h h':Heap):Prop where
 keep:∀ b o,h.get? b=some o->H b=none->b ∉ fs->b ∉ ex->h'.get? b=some o
 slot:∀ b o,h.get? b=some o->H b=none->b∈fs->b ∉ ex->∃ sl,h'.get? b=some { o with slots:=sl }
 free:∀ b o,h.get? b=some o->H b=none->b ∉ ex->H' b=none
 there:∀ b o,h.get? b=some o->b ∉ ex->∃ o',h'.get? b=some o'
 tups:∀ b xs,H b=some (.tup xs)->H' b=some (.tup xs)
 II:∀ b o u,H b=some (.Zo o u)->H' b=some (.Zo o u)
 Na:∀ b ps,H b=some (.tbl ps)->∃ more,H' b=some (.tbl (ps++more))
section
variable {fs fs' ex ex':List Addr} {H H1 H2:Hp} {h h1 h2 h':Heap} {a x e:Addr} {o:HO}
theorem Un.any (u:Un fs ex H H1 h h1){b:Addr}{ob:Obj}(q:h.get? b=some ob)(n:H b=none)(hx:b ∉ ex):∃ sl,h1.get? b=some { ob with slots:=sl }:=by
 by_cases hb:b∈fs
 ·exact u.slot b ob q n hb hx
 ·exact⟨ob.slots,u.keep b ob q n hb hx⟩
theorem Un.kept (k:∀ b u,h.get? b=some u->h'.get? b=some u):Un fs ex H H h h' :=
 ⟨fun b ob q _ _ _=>k b ob q,fun b ob q _ _ _=>⟨ob.slots,k b ob q⟩,fun _ _ _ n _=>n,fun b ob q _=>⟨ob,k b ob q⟩,fun _ _ q=>q,fun _ _ _ q=>q,fun _ ps q=>⟨#[],by rw[q];simp⟩⟩
theorem Un.refl:Un fs ex H H h h:=Un.kept fun _ _ q=>q
theorem Un.laid (k:∀ b u,h.get? b=some u->h'.get? b=some u)(hp:h.objs.size<=a)(hn:H a=none):Un fs ex H (upd H a o) h h' where
 keep:=fun b u q _ _ _=>k b u q
 slot:=fun b u q _ _ _=>⟨u.slots,k b u q⟩
 free:=fun b u q n _=>by rw[ak (Zn' (Zd' (Zc' q) hp))];exact n
 there:=fun b u q _=>⟨u,k b u q⟩
 tups:=fun b xs q=>by rw[ak (ao q hn)];exact q
 II:=fun b u xs q=>by rw[ak (ao q hn)];exact q
 Na:=fun b ps q=>⟨#[],by rw[ak (ao q hn),q];simp⟩
theorem Un.write (mu:Mut (H x))(he:e=x\/H e=some (.own x))(k:∀ b u,b≠e->h.get? b=some u->h'.get? b=some u)(heo:∃ u,h'.get? e=some u):Un fs ex H (upd H x o) h h':=by
 have hx:∀ b,H b=none->b≠x:=fun b n z=>by subst z;rw[n]at mu;exact mu
 have hb:∀ b,H b=none->b≠e:=fun b n z=>by
  subst z;rcases he with r|r
  ·exact hx b n r
  ·rw[n]at r;cases r
 have hm:∀ b u,H b=some u->¬ Mut (some u)->b≠x:=fun b u q nm z=>by subst z;rw[q]at mu;exact nm mu
 refine⟨fun b u q n _ _=>k b u (hb b n) q,fun b u q n _ _=>⟨u.slots,k b u (hb b n) q⟩,fun b u q n _=>by rw[ak (hx b n)];exact n,fun b u q _=>?_,
  fun b xs q=>by rw[ak (hm b _ q fun z=>z)];exact q,fun b u xs q=>by rw[ak (hm b _ q fun z=>z)];exact q,fun b ps q=>⟨#[],by rw[ak (hm b _ q fun z=>z),q];simp⟩⟩
 by_cases hbe:b=e
 ·subst hbe;exact heo
 ·exact⟨u,k b u hbe q⟩
end
def trk (h:Heap)(H:Hp):List Addr:=(List.range h.objs.size).filter fun a=>(H a).isSome
def Tn (h:Heap)(H:Hp):Heap:=hideAll h (trk h H)
theorem adV (h:Heap)(H:Hp):(Tn h H).objs.size=h.objs.size:=PySem.W.hideAll_size _ _
theorem aga {h:Heap}{H:Hp}{b:Addr}{o:Obj}(e:h.get? b=some o)(n:H b=none):(Tn h H).get? b=some o :=
 hideAll_get _ e fun hm=>by
  have q:(H b).isSome=true:=(List.mem_filter.mp hm).2;rw[n]at q;simp at q
theorem aiS {h:Heap}{H:Hp}{b:Addr}{o:Obj}(e:(Tn h H).get? b=some o):h.get? b=some o/\H b=none:=by
 have e':h.get? b=some o:=of_hideAll (trk h H) e;refine⟨e',?_⟩;cases q:H b with
 |none=>rfl
 |some x =>
  have hm:b∈trk h H:=List.mem_filter.mpr ⟨List.mem_range.mpr (Zc' e'),by simp[q]⟩;have z:(Tn h H).get? b=none:=hideAll_none (trk h H) hm;rw[z]at e;cases e
def aiT (g h:Heap)(L:Addr):List (Addr×Obj):=(List.range h.objs.size).filterMap fun a=>if a=L\/(g.get? a).isSome=true then none else(h.get? a).map fun o=>(a,o)
def rest (g h:Heap)(L d:Addr):List (Addr×Obj):=(aiT g h L).filter fun p=>decide (p.1≠d)
end L2
namespace L2
open PySem PySem.Spec PyProof.Rows
structure Mod (K:Frag)(mg:Str->Option Value)(base:Heap):Prop where
 kin:K.In base
 glob:base.Ns mainGlobals mg
 blt:∃ mb,base.Ns builtinsNs mb/\∀ x:Str,x ≠ "__name__"->mb x=bootBuiltins x
 nolimit:base.NoLimit
structure Cx where
 prog:Program
 w:World
 K:Frag
 mg:Str->Option Value
 base:Heap
 A:Around
 N:List Str
 s₀:Shared
 H₀:Hp
 env:Env
 outer:List Env
 stack:List Env
 ex:List Addr
 fn:Str->Bool
 calm:Bool
 pn:List (Addr×Obj)
 xe:Value->Shared->Prop
def frs (l:List Env):List Addr:=l.filterMap (·.frame)
abbrev Cx.fs (X:Cx):List Addr:=frs X.outer
def Vis (sc:Scope)(x:Str):Prop:=sc.names.lookup x=some .local\/sc.names.lookup x=some .cell\/sc.names.lookup x=some .free
def Loc (sc:Scope)(x:Str):Prop:=sc.names.lookup x=some .local\/sc.names.lookup x=some .cell
def Look (env:Env)(h:Heap)(m:Str->Option Value)(x:Str)(u:Value):Prop :=
 (env.kindOf x=some .local/\m x=some u)\/((env.kindOf x=some .cell\/env.kindOf x=some .free)/\∃ c,env.cells.lookup x=some c/\h.IsCell c (some u))
structure Cx.Ok (X:Cx):Prop where
 mod:Mod X.K X.mg X.base
 kind:X.env.scope.kind=.function
 glob:X.env.globals=mainGlobals
 blt:X.env.builtins=builtinsNs
 above:X.s₀.heap.objs.size<=X.env.locals
 inj:∀ x y c,X.env.cells.lookup x=some c->X.env.cells.lookup y=some c->x=y
 has:∀ x,(X.env.kindOf x=some .cell\/X.env.kindOf x=some .free)->∃ c,X.env.cells.lookup x=some c
 cab:∀ x c,X.fn x=true->X.env.cells.lookup x=some c->X.s₀.heap.objs.size<=c
 hd:X.calm=true->X.A.handled=none
 frames:X.A.frames=some X.stack
 stk:X.stack=X.outer\/(X.stack=X.env::X.outer/\X.env.frame=some X.env.locals)
 exf:∀ b∈X.ex,b≠X.env.locals/\∀ x c,X.env.cells.lookup x=some c->c≠b
 bs:∀ b o,X.base.get? b=some o->X.s₀.heap.get? b=some o/\X.H₀ b=none
 bsz:X.base.objs.size<=X.s₀.heap.objs.size
 Zp:∀ b o,X.base.get? b=some o->b ∉ X.ex
 Zq:∀ b∈X.ex,b ∉ X.fs
 Fo:X.s₀.heap.FunFrames X.base X.outer
 frf:∀ b∈X.fs,X.H₀ b=none
structure Inv (X:Cx)(pins:List (Addr×Obj))(σ:List (Option V))(H:Hp)(s:Shared):Prop where
 ok:X.Ok
 os:s.os=X.s₀.os
 bare:AllBare s.gens
 base:Un X.fs X.ex X.H₀ H X.s₀.heap s.heap
 loc:∃ m,s.heap.Ns X.env.locals m/\∀(i:Nat)(x:Str)(v:V),X.N[i]? = some x->σ[i]? = some (some v)->Vis X.env.scope x->∃ u,RelV v u/\Look X.env s.heap m x u
 cell:∀ x c,X.env.cells.lookup x=some c->∃ v,s.heap.IsCell c v
 free:H X.env.locals=none
 rD:∀ x c,X.env.cells.lookup x=some c->H c=none
 pin:∀ p∈X.pn++pins,s.heap.get? p.1=some p.2/\H p.1=none/\p.1≠X.env.locals/\p.1 ∉ X.fs/\∀ v,p.2.data≠.cell v
 hok:zx X.prog X.w H s.heap
 len:σ.length=X.N.length
section
variable {X:Cx} {pins:List (Addr×Obj)} {σ:List (Option V)} {H H':Hp} {s:Shared} {h':Heap}
theorem Cx.Ok.apb (ok:X.Ok){b:Addr}{o:Obj}(e:X.base.get? b=some o):b ∉ X.fs:=fun hb=>by
 have:=(ok.Fo.mem hb).1;rw[e]at this;cases this
theorem Inv.bs (I:Inv X pins σ H s):∀ b o,X.base.get? b=some o->s.heap.get? b=some o/\H b=none:=fun b o e =>
 ⟨I.base.keep b o (I.ok.bs b o e).1 (I.ok.bs b o e).2 (I.ok.apb e) (I.ok.Zp b o e),I.base.free b o (I.ok.bs b o e).1 (I.ok.bs b o e).2 (I.ok.Zp b o e)⟩
theorem Inv.bk (I:Inv X pins σ H s):∀ b o,X.base.get? b=some o->s.heap.get? b=some o:=fun b o e=>(I.bs b o e).1
theorem Inv.mod (I:Inv X pins σ H s):Mod X.K X.mg X.base:=I.ok.mod
theorem Inv.xr (I:Inv X pins σ H s):X.K.In s.heap:=I.ok.mod.kin.keeps I.bk
theorem Inv.lt (I:Inv X pins σ H s):X.env.locals<s.heap.objs.size:=let ⟨_,hn,_⟩:=I.loc;hn.lt
theorem Inv.sz (I:Inv X pins σ H s):X.s₀.heap.objs.size<=s.heap.objs.size:=Zh' I.ok.above (Nat.le_of_lt I.lt)
theorem Inv.apc (I:Inv X pins σ H s){a:Addr}(h:s.heap.objs.size<=a):a ∉ X.fs:=fun hb=>by
 obtain⟨_,o,ho,_⟩:=I.ok.Fo.mem hb;exact P' (Zd' (Zc' ho) (Zh' I.sz h)) (Nat.lt_irrefl _)
theorem Inv.cne (I:Inv X pins σ H s):∀ x c,X.env.cells.lookup x=some c->c≠X.env.locals:=fun x c e z=>by
 obtain⟨v,o,ho,hd⟩:=I.cell x c e;obtain⟨m,⟨o',es,ep,ho',hd',_⟩,_⟩:=I.loc;rw[z,ho']at ho;cases ho;rw[hd']at hd;cases hd
theorem Inv.Fo (I:Inv X pins σ H s):s.heap.FunFrames X.base X.outer:=by
 have all:∀(l:List Env),(∀ b∈frs l,b∈X.fs)->X.s₀.heap.FunFrames X.base l->s.heap.FunFrames X.base l:=by
  intro l
  induction l with
  |nil=>intro _ _;trivial
  |cons env r ih =>
   intro hs hl;obtain⟨hk,⟨L,o,hf,hn,ho,hd⟩,hr⟩:=hl;have hL:L∈X.fs:=hs L (by unfold frs;rw[List.filterMap_cons,hf];exact mem_cons_self);obtain⟨sl,e⟩:=I.base.slot L o ho (I.ok.frf L hL) hL fun z=>I.ok.Zq L z hL;exact⟨hk,⟨L,_,hf,hn,e,hd⟩,ih (fun b hb=>hs b (by unfold frs;rw[List.filterMap_cons,hf];exact mem_cons_of_mem _ hb)) hr⟩
 exact all X.outer (fun _ hb=>hb) I.ok.Fo
theorem Inv.stack (I:Inv X pins σ H s):s.heap.FunFrames X.base X.stack:=by
 rcases I.ok.stk with e|⟨e,hf⟩
 ·rw[e];exact I.Fo
 ·rw[e];obtain⟨m,hn,_⟩:=I.loc;refine .cons (by rw[I.ok.kind];decide) hf hn ?_ I.Fo;exact Heap.get?_none_of_le (Zh' I.ok.bsz I.ok.above)
theorem Inv.Zr (I:Inv X pins σ H s):∀ b∈frs X.stack,b∈X.env.locals::X.fs:=fun b hb=>by
 rcases I.ok.stk with e|⟨e,hf⟩
 ·rw[e]at hb;exact mem_cons_of_mem _ hb
 ·rw[e]at hb;unfold frs at hb;rw[List.filterMap_cons,hf]at hb;exact hb
theorem Inv.To (I:Inv X pins σ H s):∀ b∈frs X.stack,H b=none:=fun b hb=>by
 rcases List.mem_cons.mp (I.Zr b hb) with e|hb
 ·rw[e];exact I.free
 ·obtain⟨_,o,ho,_⟩:=I.ok.Fo.mem hb;exact I.base.free b o ho (I.ok.frf b hb) fun z=>I.ok.Zq b z hb
theorem Inv.step {g':Array GenState}{t':Nat}{d':Drawn}{ch:List Addr}(I:Inv X pins σ H s)
  (hch:∀ b∈ch,(b∈X.ex\/X.s₀.heap.objs.size<=b)/\b≠X.env.locals/\(∀ x c,X.env.cells.lookup x=some c->c≠b)/\∀ p∈X.pn++pins,p.1≠b)
  (keep:∀ b o,b≠X.env.locals->b ∉ X.fs->b ∉ ch->s.heap.get? b=some o->H b=none->h'.get? b=some o)
  (slot:∀ b o,b≠X.env.locals->b∈X.fs->b ∉ ch->s.heap.get? b=some o->H b=none->∃ sl,h'.get? b=some { o with slots:=sl }) (free:∀ b o,b ∉ ch->s.heap.get? b=some o->H b=none->H' b=none)
  (there:∀ b o,b ∉ ch->s.heap.get? b=some o->∃ o',h'.get? b=some o')
  (tups:∀ b xs,H b=some (.tup xs)->H' b=some (.tup xs)) (II:∀ b o u,H b=some (.Zo o u)->H' b=some (.Zo o u)) (Na:∀ b ps,H b=some (.tbl ps)->∃ more,H' b=some (.tbl (ps++more)))
  (ns:∀ m,s.heap.Ns X.env.locals m->h'.Ns X.env.locals m) (hok:zx X.prog X.w H' h') (hg:AllBare g') :
  Inv X pins σ H' { s with heap:=h',gens:=g',drawn:=d',toks:=t' }:=by
 have neL:∀ b o,X.s₀.heap.get? b=some o->b≠X.env.locals:=fun b o e=>Zn' (Zd' (Zc' e) I.ok.above);have neC:∀ b o,X.s₀.heap.get? b=some o->b ∉ X.ex->b ∉ ch:=fun b o e hx hb=>by
  rcases (hch b hb).1 with z|z
  ·exact hx z
  ·exact P' (Zd' (Zc' e) z) (Nat.lt_irrefl _)
 have cellK:∀ x c,X.env.cells.lookup x=some c->∀ v,s.heap.IsCell c v->h'.IsCell c v:=fun x c e v ⟨o,ho,hd⟩=>by
  have nch:c ∉ ch:=fun z=>(hch c z).2.2.1 x c e rfl
  by_cases hc:c∈X.fs
  ·obtain⟨sl,q⟩:=slot c o (I.cne x c e) hc nch ho (I.rD x c e);exact⟨_,q,hd⟩
  ·exact⟨o,keep c o (I.cne x c e) hc nch ho (I.rD x c e),hd⟩
 refine⟨I.ok,I.os,hg,⟨fun b o e n hb hx=>?_,fun b o e n hb hx=>?_,fun b o e n hx=>?_,fun b o e hx=>?_,fun b xs e=>tups b xs (I.base.tups b xs e),fun b o xs e=>II b o xs (I.base.II b o xs e),fun b ps e=>?_⟩,?_,fun x c e=>?_,?_,fun x c e=>?_,fun p hp=>?_,hok,I.len⟩
 ·exact keep b o (neL b o e) hb (neC b o e hx) (I.base.keep b o e n hb hx) (I.base.free b o e n hx)
 ·obtain⟨sl,e1⟩:=I.base.slot b o e n hb hx;obtain⟨sl',e2⟩:=slot b _ (neL b o e) hb (neC b o e hx) e1 (I.base.free b o e n hx);exact⟨sl',e2⟩
 ·obtain⟨o',e1⟩:=I.base.there b o e hx;exact free b o' (neC b o e hx) e1 (I.base.free b o e n hx)
 ·obtain⟨o',e1⟩:=I.base.there b o e hx;exact there b o' (neC b o e hx) e1
 ·obtain⟨m1,e1⟩:=I.base.Na b ps e;obtain⟨m2,e2⟩:=Na b _ e1;exact⟨m1++m2,by rw[e2,Array.append_assoc]⟩
 ·obtain⟨m,hn,hl⟩:=I.loc;refine⟨m,ns m hn,fun i x v e1 e2 e3=>?_⟩;obtain⟨u,r,l⟩:=hl i x v e1 e2 e3;refine⟨u,r,?_⟩;rcases l with l|⟨k,c,e,z⟩
  ·exact .inl l
  ·exact .inr ⟨k,c,e,cellK x c e _ z⟩
 ·obtain⟨v,z⟩:=I.cell x c e;exact⟨v,cellK x c e v z⟩
 ·obtain⟨m,⟨o,_,_,ho,_⟩,_⟩:=I.loc;exact free _ o (fun z=>(hch _ z).2.1 rfl) ho I.free
 ·obtain⟨v,o,ho,hd⟩:=I.cell x c e;exact free c o (fun z=>(hch c z).2.2.1 x c e rfl) ho (I.rD x c e)
 ·obtain⟨e,n,ne,nf,d⟩:=I.pin p hp;have nch:p.1 ∉ ch:=fun z=>(hch p.1 z).2.2.2 p hp rfl;exact⟨keep p.1 p.2 ne nf nch e n,free p.1 p.2 nch e n,ne,nf,d⟩
theorem Inv.un {t':Nat}(I:Inv X pins σ H s)(u:Un X.fs [] H H' s.heap h')(hok:zx X.prog X.w H' h'):Inv X pins σ H' { s with heap:=h',toks:=t' }:=by
 obtain⟨m,⟨o,es,ep,ho,r⟩,_⟩:=id I.loc;obtain⟨sl,hL⟩:=u.any ho I.free (by simp);exact I.step (g':=s.gens) (d':=s.drawn) (ch:=[]) (fun _ z=>nomatch z) (fun b o _ hb _ e n=>u.keep b o e n hb (by simp)) (fun b o _ hb _ e n=>u.slot b o e n hb (by simp)) (fun b o _ e n=>u.free b o e n (by simp)) (fun b o _ e=>u.there b o e (by simp)) u.tups u.II u.Na (fun m' hm=>by
  obtain⟨o',es',ep',ho',r'⟩:=hm;rw[ho]at ho';cases ho';exact⟨_,es',ep',hL,r'⟩) hok I.bare
theorem Inv.call {g':Array GenState}{t':Nat}{d':Drawn}{ch:List Addr}(I:Inv X pins σ H s)(u:Un (frs X.stack) ch H H' s.heap h')(hok:zx X.prog X.w H' h')(hg:AllBare g')
  (hch:∀ b∈ch,(b∈X.ex\/X.s₀.heap.objs.size<=b)/\b≠X.env.locals/\(∀ x c,X.env.cells.lookup x=some c->c≠b)/\∀ p∈X.pn++pins,p.1≠b) :
  Inv X pins σ H' { s with heap:=h',gens:=g',drawn:=d',toks:=t' }:=by
 obtain⟨m,⟨o,es,ep,ho,r⟩,_⟩:=id I.loc;obtain⟨sl,hL⟩:=u.any ho I.free fun z=>(hch _ z).2.1 rfl;exact I.step (ch:=ch) hch (fun b o hL hb hc e n=>u.keep b o e n (fun z=>(List.mem_cons.mp (I.Zr b z)).elim hL hb) hc) (fun b o _ _ hc e n=>u.any e n hc) (fun b o hc e n=>u.free b o e n hc) (fun b o hc e=>u.there b o e hc) u.tups u.II u.Na (fun m' hm=>by
  obtain⟨o',es',ep',ho',r'⟩:=hm;rw[ho]at ho';cases ho';exact⟨_,es',ep',hL,r'⟩) hok hg
theorem Inv.turned {t':Nat}{it:Addr}(I:Inv X pins σ H s)(k:∀ b o,b≠it->s.heap.get? b=some o->h'.get? b=some o)(hn:H it=none)(hL:it≠X.env.locals)
  (h1:it∈X.ex\/X.s₀.heap.objs.size<=it) (h2:∀ x c,X.env.cells.lookup x=some c->c≠it) (h3:∀ p∈X.pn++pins,p.1≠it):Inv X pins σ H { s with heap:=h',toks:=t' }:=by
 have nit:∀ b u,H b=some u->b≠it:=fun b u e z=>by rw[z,hn]at e;cases e
 refine I.step (g':=s.gens) (d':=s.drawn) (ch:=[it]) (fun b hb=>?_) (fun b o _ _ hc e _=>k b o (fun z=>hc (by simp[z])) e) (fun b o _ _ hc e _=>⟨o.slots,k b o (fun z=>hc (by simp[z])) e⟩) (fun _ _ _ _ n=>n)
  (fun b o hc e=>⟨o,k b o (fun z=>hc (by simp[z])) e⟩) (fun _ _ e=>e) (fun _ _ _ e=>e) (fun b ps e=>⟨#[],by rw[e];simp⟩) (fun m hm=>?_) (fun b u e=>?_) I.bare
 ·have e:b=it:=by simpa using hb
  subst e;exact⟨h1,hL,h2,h3⟩
 ·obtain⟨o,es,ep,ho,r⟩:=hm;exact⟨o,es,ep,k _ o (Yb' hL) ho,r⟩
 ·refine(I.hok b u e).stay (fun c v hc q=>k c v ?_ q) (fun _ q=>q) fun _ _ q=>q;rcases hc with z|z
  ·rw[z];exact nit b u e
  ·exact nit c _ z
theorem Inv.tok (I:Inv X pins σ H s)(t:Nat):Inv X pins σ H { s with toks:=t }:=I.un (h':=s.heap) (t':=t) Un.refl I.hok
theorem Inv.kept {t':Nat}(I:Inv X pins σ H s)(k:∀ b u,s.heap.get? b=some u->h'.get? b=some u):Inv X pins σ H { s with heap:=h',toks:=t' }:=I.un (Un.kept k) (I.hok.kept k)
theorem Inv.laid {a:Addr}{o:HO}{t':Nat}(I:Inv X pins σ H s)(k:∀ b u,s.heap.get? b=some u->h'.get? b=some u)(hp:s.heap.objs.size<=a)(new:fu X.prog X.w (upd H a o) h' a o) :
  Inv X pins σ (upd H a o) { s with heap:=h',toks:=t' }:=I.un (Un.laid k hp (I.hok.fresh hp)) (I.hok.laid k hp new)
theorem Inv.write {x e:Addr}{o:HO}{t':Nat}(I:Inv X pins σ H s)(mu:Mut (H x))(he:e=x\/H e=some (.own x))(k:∀ b u,b≠e->s.heap.get? b=some u->h'.get? b=some u)(heo:∃ u,h'.get? e=some u)
  (new:fu X.prog X.w (upd H x o) h' x o):Inv X pins σ (upd H x o) { s with heap:=h',toks:=t' }:=I.un (Un.write mu he k heo) (I.hok.write mu he k heo new)
theorem Inv.ac1 {Se:List (Addr×Obj)}(I:Inv X pins σ H s)(h:∀ p∈Se,s.heap.get? p.1=some p.2/\H p.1=none/\p.1≠X.env.locals/\p.1 ∉ X.fs/\∀ v,p.2.data≠.cell v):Inv X Se σ H s :=
 ⟨I.ok,I.os,I.bare,I.base,I.loc,I.cell,I.free,I.rD,fun p hp=>(Zk'.mp hp).elim (fun z=>I.pin p (Zq' _ z)) (h p),I.hok,I.len⟩
theorem N0 {N:List Str}(hN:N.Nodup){i j:Nat}{x:Str}(a:N[i]? = some x)(b:N[j]? = some x):i=j:=by
 obtain⟨h1,e1⟩:=S'.mp a;obtain⟨h2,e2⟩:=S'.mp b;exact(List.getElem_inj hN).mp (e1.trans e2.symm)
theorem Sf {M:Model}{A:Around}{E:Value->Shared->Prop}{i:Nat}{x:Str}{v:V}{u:Value}{Q:Unit->Shared->Prop}(I:Inv X pins σ H s)(hN:X.N.Nodup)(hi:X.N[i]? = some x)(hx:Loc X.env.scope x)(r:RelV v u)
  (h:∀ s',Inv X pins (σ.set i (some v)) H s'->(∃ a,Heap.SameBut a s.heap s'.heap/\(a=X.env.locals\/X.env.cells.lookup x=some a))->Q () s') (hf:X.fn x=true\/X.env.scope.names.lookup x=some .local:=by first|exact .inl rfl|exact .inr rfl|assumption):wpAny M A (storeName X.env x u) Q E s:=by
 obtain⟨m,hn,hl⟩:=id I.loc;have hcls:(X.env.scope.kind == .class||(X.env.scope.kind == .module&&X.env.locals != X.env.globals))=false:=by rw[I.ok.kind];rfl
 have aoK:i<σ.length:=by rw[I.len];exact(S'.mp hi).1
 have cne:=I.cne;have tracked:∀{a:Addr} {h':Heap},(∃ o,s.heap.get? a=some o/\H a=none)->Heap.SameBut a s.heap h'->zx X.prog X.w H h':=fun {a h'} ha hs b ob e=>by
  obtain⟨_,_,hfree⟩:=ha;refine(I.hok b ob e).stay (fun c w' hc q=>(hs.2 c ?_).trans q) (fun _ q=>q) fun _ _ q=>q;rintro rfl;rcases hc with rfl|hc
  ·rw[hfree]at e;cases e
  ·rw[hfree]at hc;cases hc
 rcases hx with hk|hk
 ·refine wpAny_storeName_local hk hn (fun h' hn' hs=>?_) hcls;obtain⟨oL,_,_,hoL,_⟩:=id hn;refine h _ ⟨I.ok,I.os,I.bare,⟨fun b o e n hb hx=>?_,fun b o e n hb hx=>?_,I.base.free,fun b o e hx=>?_,I.base.tups,I.base.II,I.base.Na⟩,⟨_,hn',fun j y v' e1 e2 e3=>?_⟩,fun y c e=>?_,I.free,I.rD,fun p hp=>?_,tracked ⟨oL,hoL,I.free⟩ hs,by simpa using I.len⟩ ⟨_,hs,.inl rfl⟩
  ·exact(hs.2 b (Zn' (Zd' (Zc' e) I.ok.above))).trans (I.base.keep b o e n hb hx)
  ·obtain⟨sl,e1⟩:=I.base.slot b o e n hb hx;exact⟨sl,(hs.2 b (Zn' (Zd' (Zc' e) I.ok.above))).trans e1⟩
  ·obtain⟨o',e1⟩:=I.base.there b o e hx;exact⟨o',(hs.2 b (Zn' (Zd' (Zc' e) I.ok.above))).trans e1⟩
  ·by_cases hj:j=i
   ·subst hj;rw[hi]at e1;cases e1;rw[List.getElem?_set_self aoK]at e2;cases e2;exact⟨u,r,.inl ⟨hk,by simp⟩⟩
   ·rw[List.getElem?_set_ne (Yb' hj)]at e2;obtain⟨u',r',q⟩:=hl j y v' e1 e2 e3;refine⟨u',r',?_⟩;rcases q with ⟨k,e⟩|⟨k,c,e,z⟩
    ·refine .inl ⟨k,?_⟩;have:y≠x:=fun e=>hj (N0 hN e1 (e ▸ hi));simp[this,e]
    ·exact .inr ⟨k,c,e,z.sameBut hs (cne y c e)⟩
  ·obtain⟨w',z⟩:=I.cell y c e;exact⟨w',z.sameBut hs (cne y c e)⟩
  ·obtain⟨e,n,ne,nf,d⟩:=I.pin p hp;exact⟨(hs.2 p.1 ne).trans e,n,ne,nf,d⟩
 ·have hfn:X.fn x=true:=by
   rcases hf with z|z
   ·exact z
   ·rw[z]at hk;cases hk
  obtain⟨c,hc⟩:=I.ok.has x (.inl hk);obtain⟨w',z⟩:=I.cell x c hc;refine wpAny_storeName_cell I.ok.kind hk hc z (fun h' hc' hs=>?_);obtain⟨oc,hoc,apd⟩:=id z;refine h { s with heap:=h' } ⟨I.ok,I.os,I.bare,⟨fun b o e n hb hx=>?_,fun b o e n hb hx=>?_,I.base.free,fun b o e hx=>?_,I.base.tups,I.base.II,I.base.Na⟩,⟨m,hn.sameBut hs (Yb' (cne x c hc)),fun j y v' e1 e2 e3=>?_⟩,fun y c' e=>?_,I.free,I.rD,fun p hp=>?_,tracked ⟨oc,hoc,I.rD x c hc⟩ hs,by simpa using I.len⟩ ⟨c,hs,.inr hc⟩
  ·exact(hs.2 b (Zn' (Zd' (Zc' e) (I.ok.cab x c hfn hc)))).trans (I.base.keep b o e n hb hx)
  ·obtain⟨sl,e1⟩:=I.base.slot b o e n hb hx;exact⟨sl,(hs.2 b (Zn' (Zd' (Zc' e) (I.ok.cab x c hfn hc)))).trans e1⟩
  ·obtain⟨o',e1⟩:=I.base.there b o e hx;exact⟨o',(hs.2 b (Zn' (Zd' (Zc' e) (I.ok.cab x c hfn hc)))).trans e1⟩
  ·by_cases hj:j=i
   ·subst hj;rw[hi]at e1;cases e1;rw[List.getElem?_set_self aoK]at e2;cases e2;exact⟨u,r,.inr ⟨.inl hk,c,hc,hc'⟩⟩
   ·rw[List.getElem?_set_ne (Yb' hj)]at e2;obtain⟨u',r',q⟩:=hl j y v' e1 e2 e3;refine⟨u',r',?_⟩;rcases q with q|⟨k,c',e,z'⟩
    ·exact .inl q
    ·refine .inr ⟨k,c',e,z'.sameBut hs ?_⟩;rintro rfl;exact hj (N0 hN e1 (I.ok.inj _ _ _ e hc ▸ hi))
  ·by_cases hcc:c'=c
   ·subst hcc;exact⟨_,hc'⟩
   ·obtain⟨w2,z2⟩:=I.cell y c' e;exact⟨w2,z2.sameBut hs hcc⟩
  ·obtain⟨e,n,ne,nf,d⟩:=I.pin p hp;refine⟨(hs.2 p.1 ?_).trans e,n,ne,nf,d⟩;intro q;rw[q,hoc]at e;have q':oc=p.2:=Zb' e;exact d w' (by rw[<-q'];exact apd)
theorem mQ {M:Model}{A:Around}{E:Value->Shared->Prop}{i:Nat}{x:Str}{v:V}{u:Value}{Q:Unit->Shared->Prop}(I:Inv X pins σ H s)(hN:X.N.Nodup)(hi:X.N[i]? = some x)(hx:Loc X.env.scope x)(r:RelV v u)
  (h:∀ s',Inv X pins (σ.set i (some v)) H s'->Q () s') (hf:X.fn x=true\/X.env.scope.names.lookup x=some .local:=by first|exact .inl rfl|exact .inr rfl|assumption):wpAny M A (storeName X.env x u) Q E s :=
 Sf I hN hi hx r (fun s' I' _=>h s' I') hf
theorem Inv.call' {s':Shared}{ch:List Addr}(I:Inv X pins σ H s)(ho:s'.os=s.os)(u:Un (frs X.stack) ch H H' s.heap s'.heap)(hok:zx X.prog X.w H' s'.heap)(hg:AllBare s'.gens)
  (hch:∀ b∈ch,(b∈X.ex\/X.s₀.heap.objs.size<=b)/\b≠X.env.locals/\(∀ x c,X.env.cells.lookup x=some c->c≠b)/\∀ p∈X.pn++pins,p.1≠b):Inv X pins σ H' s':=by
 obtain⟨h',g',d',t',o'⟩:=s';have e:o'=s.os:=ho;subst e;exact I.call (g':=g') (t':=t') (d':=d') u hok hg hch
end
abbrev XK:=Value->Option Addr->Hp->Prop
abbrev St:=List (Option V)
abbrev VK:=V->Hp->Prop
abbrev TE:=St->Hp->VK->Prop
abbrev TT:=St->Hp->(Bool->Hp->Prop)->Prop
abbrev TA:=St->Hp->(List V->Hp->Prop)->Prop
structure Ends where
 nx:St->Hp->Prop
 rt:VK
 bk:St->Hp->Prop:=fun _ _=>False
 ct:St->Hp->Prop:=fun _ _=>False
abbrev TS:=Ends->St->Hp->Prop
def EP (X:Cx)(pins:List (Addr×Obj))(σ:St)(Q:VK)(u:Value)(s':Shared):Prop:=∃ v H',Inv X pins σ H' s'/\RelV v u/\Q v H'
def TP (X:Cx)(pins:List (Addr×Obj))(σ:St)(Q:Bool->Hp->Prop)(b:Bool)(s':Shared):Prop:=∃ H',Inv X pins σ H' s'/\Q b H'
def AP (X:Cx)(pins:List (Addr×Obj))(σ:St)(Q:List V->Hp->Prop)(us:List Value)(s':Shared):Prop:=∃ vs H',Inv X pins σ H' s'/\Vals vs us/\Q vs H'
def SP (X:Cx)(pins:List (Addr×Obj))(D:Ends)(f:Flow)(s':Shared):Prop :=
 match f with
 |.next=>∃ σ' H',Inv X pins σ' H' s'/\D.nx σ' H'
 |.brk=>∃ σ' H',Inv X pins σ' H' s'/\D.bk σ' H'
 |.cont=>∃ σ' H',Inv X pins σ' H' s'/\D.ct σ' H'
 |.ret u=>∃ v σ' H',Inv X pins σ' H' s'/\RelV v u/\D.rt v H'
def PE (X:Cx)(e:Expr)(t:TE):Prop :=
 ∀(pins:List (Addr×Obj)) (s:Shared) (σ:St) (H:Hp) (Q:VK),Inv X pins σ H s->t σ H Q->wpAny (model X.prog X.w) X.A (eval e X.env) (EP X pins σ Q) X.xe s
def PT (X:Cx)(e:Expr)(t:TT):Prop :=
 ∀(pins:List (Addr×Obj)) (s:Shared) (σ:St) (H:Hp) (Q:Bool->Hp->Prop),Inv X pins σ H s->t σ H Q->wpAny (model X.prog X.w) X.A (isTrue e X.env (eval e X.env)) (TP X pins σ Q) X.xe s
def PW (X:Cx)(e:Expr)(t:TT):Prop :=
 ∀(whole:Sem Value)(pins:List (Addr×Obj)) (s:Shared) (σ:St) (H:Hp) (Q:Bool->Hp->Prop),Inv X pins σ H s->t σ H Q->wpAny (model X.prog X.w) X.A (isTrue e X.env whole) (TP X pins σ Q) X.xe s
theorem PW.pt {X:Cx}{e:Expr}{t:TT}(h:PW X e t):PT X e t:=h _
def PA (X:Cx)(es:List Expr)(t:TA):Prop :=
 ∀(pos:Pos)(pins:List (Addr×Obj)) (s:Shared) (σ:St) (H:Hp) (Q:List V->Hp->Prop),Inv X pins σ H s->t σ H Q->wpAny (model X.prog X.w) X.A (spliced (backTo pos (starEach es X.env))) (AP X pins σ Q) X.xe s
def PS (X:Cx)(st:Stmt)(t:TS):Prop :=
 ∀(pins:List (Addr×Obj)) (s:Shared) (σ:St) (H:Hp) (D:Ends),Inv X pins σ H s->t D σ H->wpAny (model X.prog X.w) X.A (exec st X.env) (SP X pins D) X.xe s
def Mv (X:Cx)(st:List Stmt)(t:TS):Prop :=
 ∀(pins:List (Addr×Obj)) (s:Shared) (σ:St) (H:Hp) (D:Ends),Inv X pins σ H s->t D σ H->wpAny (model X.prog X.w) X.A (execs st X.env) (SP X pins D) X.xe s
theorem cU {α:Type}{t:Sem α}{Q Q':α->Shared->Prop}{M:Model}{A:Around}{E:Value->Shared->Prop}{s:Shared}(h:wpAny M A t Q E s)(hQ:∀ a s,Q a s->Q' a s):wpAny M A t Q' E s:=wpAny_mono h hQ fun _ _ x=>x
end L2
namespace L2
open PySem PySem.Spec PyProof.Rows
section
variable {X:Cx}
inductive akk (i:Nat)(σ:St)(H:Hp)(Q:VK):Prop
 |mk (v:_) (eE:σ[i]? = some (some v)) (eF:Q v H):akk i σ H Q
def amT (i:Nat):TE:=fun σ H Q=>akk i σ H Q
def tC (v:V):TE:=fun _ H Q=>Q v H
theorem ak2 {i:Nat}{x:Str}{pos:Pos}(hN:X.N[i]? = some x)(hv:Vis X.env.scope x)(hd:(x==("__debug__":Str))=false:=by decide)(hcd:(x==("__classdict__":Str))=false:=by decide):PE X (.Name x pos) (amT i):=by
 intro pins s σ H Q I h;obtain⟨v,e,h⟩:=h;obtain⟨m,hn,hl⟩:=I.loc;obtain⟨u,r,l⟩:=hl i x v hN e hv;have fin:EP X pins σ Q u s:=⟨v,H,I,r,h⟩;rcases l with ⟨hk,hm⟩|⟨hk,c,hc,hcell⟩
 ·exact wpAny_Name (wpAny_loadName_local I.ok.kind hk hn hm fin) hd
 ·rcases hk with hk|hk
  ·exact wpAny_Name (wpAny_loadName_cell I.ok.kind hk hc hcell fin) hd
  ·exact wpAny_Name (wpAny_loadName_free I.ok.kind hk hc hcell fin hcd) hd
theorem ai {i j pos}:PE X (.Constant (.int i) j pos) (tC (.int i)):=fun _ _ _ H _ I h=>wpAny_Constant_int ⟨.int i,H,I.tok _,⟨_,rfl⟩,h⟩
theorem ik {b j pos}:PE X (.Constant (.bool b) j pos) (tC (.bl b)):=fun _ _ _ H _ I h=>Constant_bool ⟨.bl b,H,I,rfl,h⟩
theorem jH {j pos}:PE X (.Constant .none j pos) (tC .non):=fun _ _ _ H _ I h=>Constant_none ⟨.non,H,I,rfl,h⟩
theorem aD {x j pos}:PE X (.Constant (.str x) j pos) (tC (.str x)):=fun _ _ _ H _ I h=>Calls.Constant_str ⟨.str x,H,I.tok _,⟨_,rfl⟩,h⟩
def Gl (X:Cx)(x:Str):Prop:=X.env.kindOf x=some .globalImplicit
theorem ur {E:Value->Shared->Prop}{pins:List (Addr×Obj)}{s:Shared}{σ:St}{H:Hp}{x:Str}{u:Value}{pos:Pos}{Q:Value->Shared->Prop}(I:Inv X pins σ H s)(hg:Gl X x)(hm:X.mg x=some u)(h:Q u s)
  (hd:(x==("__debug__":Str))=false:=by decide):wpAny (model X.prog X.w) X.A (eval (.Name x pos) X.env) Q E s :=
 Calls.Name_function_global I.ok.kind hg (Calls.loadGlobal_global (by rw[I.ok.glob];exact I.mod.glob.keeps I.bk) hm h) hd
theorem vG {E:Value->Shared->Prop}{pins:List (Addr×Obj)}{s:Shared}{σ:St}{H:Hp}{x:Str}{u:Value}{pos:Pos}{Q:Value->Shared->Prop}(I:Inv X pins σ H s)(hg:Gl X x)(hm:X.mg x=none)(hv:bootBuiltins x=some u)(h:Q u s)
  (hn:x ≠ "__name__":=by decide) (hd:(x==("__debug__":Str))=false:=by decide):wpAny (model X.prog X.w) X.A (eval (.Name x pos) X.env) Q E s:=by
 obtain⟨mb,h1,h2⟩:=I.mod.blt;exact Calls.Name_function_global I.ok.kind hg (Calls.loadGlobal_builtin (by rw[I.ok.glob];exact I.mod.glob.keeps I.bk) hm (by rw[I.ok.blt];exact h1.keeps I.bk) ((h2 x hn).trans hv) h) hd
theorem b5 {x:Str}{v:V}{u:Value}{pos:Pos}(hg:Gl X x)(hm:X.mg x=some u)(r:RelV v u)(hd:(x==("__debug__":Str))=false:=by decide):PE X (.Name x pos) (tC v) :=
 fun _ _ _ H _ I h=>ur I hg hm ⟨v,H,I,r,h⟩ hd
theorem gB {x:Str}{v:V}{u:Value}{pos:Pos}(hg:Gl X x)(hm:X.mg x=none)(hv:bootBuiltins x=some u)(r:RelV v u)(hn:x ≠ "__name__":=by decide)(hd:(x==("__debug__":Str))=false:=by decide):PE X (.Name x pos) (tC v) :=
 fun _ _ _ H _ I h=>vG I hg hm hv ⟨v,H,I,r,h⟩ hn hd
def t2I (ta tb:TE)(k:Int->Int->Hp->Prop):St->Hp->Prop:=fun σ H=>ta σ H fun x H1=>tb σ H1 fun y H2=>∃ i j,x=.int i/\y=.int j/\k i j H2
variable {a b:Expr} {ta tb:TE} {pos:Pos}
def PC (X:Cx)(op:CmpOp)(a b:Expr)(t:TE):Prop :=
 ∀(pins:List (Addr×Obj)) (s:Shared) (σ:St) (H:Hp) (Q:VK),Inv X pins σ H s->t σ H Q ->
  wpAny (model X.prog X.w) X.A (eval a X.env) (fun v s₁=>wpAny (model X.prog X.w) X.A (eval b X.env) (fun u s₂=>wpAny (model X.prog X.w) X.A (compareOp op v u) (EP X pins σ Q) X.xe s₂) X.xe s₁) X.xe s
def adW (p:Int->Int->Bool)(ta tb:TE):TE:=fun σ H Q=>t2I ta tb (fun i j H2=>Q (.bl (p i j)) H2) σ H
abbrev tLt:TE->TE->TE:=adW fun i j=>decide (i<j)
abbrev tLe:TE->TE->TE:=adW fun i j=>decide (i<=j)
abbrev tGt:TE->TE->TE:=adW fun i j=>decide (j<i)
abbrev tGe:TE->TE->TE:=adW fun i j=>decide (j<=i)
abbrev arQ:TE->TE->TE:=adW fun i j=>decide (i=j)
abbrev arR:TE->TE->TE:=adW fun i j=>!decide (i=j)
def tB (t:TE):TT:=fun σ H Q=>t σ H fun x H1=>∃ c,x=.bl c/\Q c H1
theorem N1 {op:CmpOp}{t:TE}(h:PC X op a b t)(h1:behindInMarks op b=false:=by first|exact amU _ (by decide) (by decide)|rfl):PT X (.Compare a [op] [b] pos) (tB t):=by
 intro pins s σ H Q I hw;refine wpAny_isTrue_Compare1 (cU (h pins s σ H _ I hw) fun v s1 h1=>cU h1 fun u s2 h2=>cU h2 fun c s3 ⟨x,H1,I1,r1,q1⟩=>?_) h1;obtain⟨d,rfl,q⟩:=q1;cases r1;exact wpAny_truthy_bool ⟨H1,I1,q⟩
theorem bA {e:Expr}{t:TE}(h:PE X e t)(he:∀ whole,isTrue e X.env whole=(do let v <-whole;standAt e.pos;holding [v] (truthy v)):=by intro _;rfl):PT X e (tB t):=by
 intro pins s σ H Q I hw;refine isTrue_plain (cU (h pins s σ H _ I hw) fun v s1 ⟨x,H1,I1,r1,q1⟩=>?_) (he _);obtain⟨d,rfl,q⟩:=q1;cases r1;exact wpAny_truthy_bool ⟨H1,I1,q⟩
variable {tA tB':TT} {rest:List Expr}
def ape (t u:TT):TT:=fun σ H Q=>t σ H fun c H1=>if c=true then u σ H1 Q else Q false H1
def tOr (t u:TT):TT:=fun σ H Q=>t σ H fun c H1=>if c=true then Q true H1 else u σ H1 Q
def apf (t:TT):TT:=fun σ H Q=>t σ H fun c H1=>Q (!c) H1
theorem eW (ha:PT X a tA):PW X (.BoolOp .And [a] pos) tA:=by
 intro wh pins s σ H Q I h;refine isTrue_and (cU (ha pins s σ H Q I h) fun c s1 e=>?_);cases c with
 |true=>exact isTrue_and_nil e
 |false=>exact e
theorem j9 (ha:PT X a tA):PW X (.BoolOp .Or [a] pos) tA:=by
 intro wh pins s σ H Q I h;refine isTrue_or (cU (ha pins s σ H Q I h) fun c s1 e=>?_);cases c with
 |false=>exact isTrue_or_nil e
 |true=>exact e
theorem du (ha:PT X a tA)(hb:PW X (.BoolOp .And (b::rest) pos) tB'):PW X (.BoolOp .And (a::b::rest) pos) (ape tA tB'):=by
 intro wh pins s σ H Q I h;refine isTrue_and (cU (ha pins s σ H _ I h) fun c s1 ⟨H1,I1,q1⟩=>?_);cases c with
 |true=>exact hb wh pins s1 σ H1 Q I1 q1
 |false=>exact⟨H1,I1,q1⟩
theorem mv (ha:PT X a tA)(hb:PW X (.BoolOp .Or (b::rest) pos) tB'):PW X (.BoolOp .Or (a::b::rest) pos) (tOr tA tB'):=by
 intro wh pins s σ H Q I h;refine isTrue_or (cU (ha pins s σ H _ I h) fun c s1 ⟨H1,I1,q1⟩=>?_);cases c with
 |true=>exact⟨H1,I1,q1⟩
 |false=>exact hb wh pins s1 σ H1 Q I1 q1
theorem dw (ha:PT X a tA):PT X (.UnaryOp .Not a pos) (apf tA):=by
 intro pins s σ H Q I h;exact isTrue_not (ha pins s σ H (fun c H1=>Q (!c) H1) I h)
def amV (ta tb:TE):TE:=fun σ H Q=>ta σ H fun x H1=>∃ c,x=.bl c/\if c=true then tb σ H1 Q else Q (.bl false) H1
def apg (ta tb:TE):TE:=fun σ H Q=>ta σ H fun x H1=>∃ c,x=.bl c/\if c=true then Q (.bl true) H1 else tb σ H1 Q
def amW (ta:TE):TE:=fun σ H Q=>ta σ H fun x H1=>∃ c,x=.bl c/\Q (.bl (!c)) H1
theorem lU {op}{t:TE}(h:PE X a t):PE X (.BoolOp op [a] pos) t:=fun pins s σ H Q I hw=>BoolOp_one (h pins s σ H Q I hw)
theorem iW (ha:PE X a ta)(hb:PE X (.BoolOp .And (b::rest) pos) tb):PE X (.BoolOp .And (a::b::rest) pos) (amV ta tb):=by
 intro pins s σ H Q I h;refine BoolOp_and (cU (ha pins s σ H _ I h) fun v s1 ⟨x,H1,I1,r1,q1⟩=>?_);obtain⟨c,rfl,q1⟩:=q1;cases r1;refine wpAny_truthy_bool ?_;cases c with
 |true=>exact hb pins s1 σ H1 Q I1 q1
 |false=>exact⟨.bl false,H1,I1,rfl,q1⟩
theorem agb (ha:PE X a ta)(hb:PE X (.BoolOp .Or (b::rest) pos) tb):PE X (.BoolOp .Or (a::b::rest) pos) (apg ta tb):=by
 intro pins s σ H Q I h;refine BoolOp_or (cU (ha pins s σ H _ I h) fun v s1 ⟨x,H1,I1,r1,q1⟩=>?_);obtain⟨c,rfl,q1⟩:=q1;cases r1;refine wpAny_truthy_bool ?_;cases c with
 |false=>exact hb pins s1 σ H1 Q I1 q1
 |true=>exact⟨.bl true,H1,I1,rfl,q1⟩
theorem ak3 (ha:PE X a ta):PE X (.UnaryOp .Not a pos) (amW ta):=by
 intro pins s σ H Q I h;refine UnaryOp_ (cU (ha pins s σ H _ I h) fun v s1 ⟨x,H1,I1,r1,q1⟩=>?_);obtain⟨c,rfl,q1⟩:=q1;cases r1;exact not_of (wpAny_truthy_bool ⟨.bl (!c),H1,I1,rfl,q1⟩)
def tIf (t:TT)(ta tb:TE):TE:=fun σ H Q=>t σ H fun c H1=>if c=true then ta σ H1 Q else tb σ H1 Q
theorem eM {c:Expr}(hc:PT X c tA)(ha:PE X a ta)(hb:PE X b tb):PE X (.IfExp c a b pos) (tIf tA ta tb):=by
 intro pins s σ H Q I h;refine wpAny_IfExp (cU (hc pins s σ H _ I h) fun d s1 ⟨H1,I1,q1⟩=>?_);cases d with
 |true=>exact ha pins s1 σ H1 Q I1 q1
 |false=>exact hb pins s1 σ H1 Q I1 q1
end
end L2
namespace L2
open PySem PySem.Spec PyProof.Rows
def bh (K:Frag)(H:Hp)(a:Addr)(xs:List V):Prop :=
 Rd H a (.lst xs) \/
  ∃(o:Obj)(its:Array Value)(n:Nat),K.lookup a=some o/\o.cls=.type "list"/\o.dict=none/\o.data=.seq its n/\its.size<=sizeLine/\Vals xs its.toList
def vH (K:Frag)(H:Hp)(a:Addr)(xs:List V):Prop :=
 Rd H a (.tup xs) \/
  ∃(o:Obj)(its:Array Value)(n:Nat),K.lookup a=some o/\o.cls=.type "tuple"/\o.data=.seq its n/\its.size<=sizeLine/\Vals xs its.toList
def aph:Value->Option V
 |.none=>some .non
 |.bool b=>some (.bl b)
 |.int i _=>some (.int i)
 |.str x _=>some (.str x)
 |.bytes b _=>some (.byt b)
 |.float b _=>some (.flt b)
 |.ref a=>some (.ref a)
 |.type n=>some (.ty n)
 |_=>none
theorem RelV.abs {x:V}{u:Value}(r:RelV x u):aph u=some x:=by
 cases x with
 |non=>cases r;rfl
 |bl _=>cases r;rfl
 |int _=>obtain⟨t,rfl⟩:=r;rfl
 |str _=>obtain⟨t,rfl⟩:=r;rfl
 |byt _=>obtain⟨t,rfl⟩:=r;rfl
 |flt _=>obtain⟨t,rfl⟩:=r;rfl
 |ref _=>cases r;rfl
 |ty _=>cases r;rfl
theorem RelV.inj {x y:V}{u:Value}(r:RelV x u)(q:RelV y u):x=y:=Zb' (r.abs.symm.trans q.abs)
theorem Vals.inj:∀{xs ys:List V} {us:List Value},Vals xs us->Vals ys us->xs=ys
 |_,_,_,.nil,.nil=>rfl
 |_,_,_,.cons r t,.cons r' t'=>by rw[r.inj r',Vals.inj t t']
section
variable {X:Cx} {pins:List (Addr×Obj)} {σ:St} {H:Hp} {s:Shared} {a:Addr} {xs ys:List V}
theorem bh.of {K:Frag}(h:H a=some (.lst xs)):bh K H a xs:=.inl (.inl h)
theorem vH.of {K:Frag}(h:H a=some (.tup xs)):vH K H a xs:=.inl (.inl h)
theorem Inv.list (I:Inv X pins σ H s)(h:bh X.K H a xs):∃ its:List Value,Vals xs its/\PlainL s.heap a its.toArray/\xs.length<=sizeLine:=by
 rcases h with h|⟨o,its,n,hk,hc,hd,hs,hz,r⟩
 ·obtain⟨z,its,n,r,e⟩:=h.ok I.hok;exact⟨its,r,⟨_,n,e,rfl,rfl,rfl⟩,z⟩
 ·refine⟨its.toList,r,⟨o,n,I.xr a o hk,hc,hd,by simpa using hs⟩,?_⟩;have e:=r.length;simp only [Array.length_toList]at e;omega
theorem Inv.tuple (I:Inv X pins σ H s)(h:vH X.K H a xs):∃ its:List Value,Vals xs its/\IsTup s.heap a its.toArray/\xs.length<=sizeLine:=by
 rcases h with h|⟨o,its,n,hk,hc,hs,hz,r⟩
 ·obtain⟨z,its,r,p⟩:=h.ok I.hok;exact⟨its,r,p,z⟩
 ·refine⟨its.toList,r,⟨o,I.xr a o hk,hc,n,by simpa using hs⟩,?_⟩;have e:=r.length;simp only [Array.length_toList]at e;omega
theorem Inv.Xo (I:Inv X pins σ H s)(h:bh X.K H a xs)(h':bh X.K H a ys):xs=ys:=by
 obtain⟨its,r,⟨o,n,e,_,_,d⟩,_⟩:=I.list h;obtain⟨its',r',⟨o',n',e',_,_,d'⟩,_⟩:=I.list h';rw[e]at e';cases e';rw[d]at d'
 injection d' with d1 _
 have:its=its':=by simpa using R' Array.toList d1
 subst this;exact r.inj r'
end
abbrev Cx.wish (X:Cx)(E:Value->Shared->Prop):Cx:={ X with xe:=E }
abbrev Cx.nox (X:Cx):Cx:=X.wish fun _ _=>False
theorem Cx.Ok.wish {X:Cx}(ok:X.Ok)(E:Value->Shared->Prop):(X.wish E).Ok :=
 ⟨ok.mod,ok.kind,ok.glob,ok.blt,ok.above,ok.inj,ok.has,ok.cab,ok.hd,ok.frames,ok.stk,ok.exf,ok.bs,ok.bsz,ok.Zp,ok.Zq,ok.Fo,ok.frf⟩
theorem Cx.Ok.mR {X:Cx}{E:Value->Shared->Prop}(ok:(X.wish E).Ok):X.Ok :=
 ⟨ok.mod,ok.kind,ok.glob,ok.blt,ok.above,ok.inj,ok.has,ok.cab,ok.hd,ok.frames,ok.stk,ok.exf,ok.bs,ok.bsz,ok.Zp,ok.Zq,ok.Fo,ok.frf⟩
section
variable {X:Cx} {pins:List (Addr×Obj)} {σ:St} {H:Hp} {s:Shared} {E:Value->Shared->Prop}
theorem Inv.wish (I:Inv X pins σ H s)(E:Value->Shared->Prop):Inv (X.wish E) pins σ H s:=⟨I.ok.wish E,I.os,I.bare,I.base,I.loc,I.cell,I.free,I.rD,I.pin,I.hok,I.len⟩
theorem Inv.mR (I:Inv (X.wish E) pins σ H s):Inv X pins σ H s:=⟨I.ok.mR,I.os,I.bare,I.base,I.loc,I.cell,I.free,I.rD,I.pin,I.hok,I.len⟩
theorem SP.mR {D:Ends}{f:Flow}{s':Shared}(h:SP (X.wish E) pins D f s'):SP X pins D f s':=by
 cases f with
 |next=>obtain⟨σ',H',I,q⟩:=h;exact⟨σ',H',I.mR,q⟩
 |brk=>obtain⟨σ',H',I,q⟩:=h;exact⟨σ',H',I.mR,q⟩
 |cont=>obtain⟨σ',H',I,q⟩:=h;exact⟨σ',H',I.mR,q⟩
 |ret u=>obtain⟨v,σ',H',I,r,q⟩:=h;exact⟨v,σ',H',I.mR,r,q⟩
theorem Mv.nox {st:List Stmt}{t:TS}(h:Mv X.nox st t):Mv X st t:=fun pins s σ H D I hw =>
 wpAny_mono (h pins s σ H D (I.wish _) hw) (fun _ _ q=>q.mR) fun _ _ z=>False.elim z
end
section
variable {X:Cx} {st:Stmt} {rest:List Stmt} {t u:TS} {e:Expr} {te:TE} {pos:Pos}
def amX:TS:=fun D σ H=>D.nx σ H
def aiX (t u:TS):TS:=fun D σ H=>t { D with nx:=u D } σ H
theorem aB:Mv X [] amX:=fun _ _ σ H _ I h=>wpAny_execs_nil ⟨σ,H,I,h⟩
theorem af (h1:PS X st t)(h2:Mv X rest u):Mv X (st::rest) (aiX t u):=by
 intro pins s σ H D I h;refine wpAny_execs_cons (cU (h1 pins s σ H { D with nx:=u D } I h) fun f s1 q=>?_);cases f with
 |next =>
  obtain⟨σ',H',I',q⟩:=q;exact h2 pins s1 σ' H' D I' q
 |ret v=>exact q
 |brk=>exact q
 |cont=>exact q
theorem aj (h1:PS X st t):Mv X [st] t:=by
 intro pins s σ H D I h;refine wpAny_execs_cons (cU (h1 pins s σ H D I h) fun f s1 q=>?_);cases f with
 |next=>exact wpAny_execs_nil q
 |ret v=>exact q
 |brk=>exact q
 |cont=>exact q
theorem Inv.quiet {pins:List (Addr×Obj)}{σ:St}{H:Hp}{s:Shared}(I:Inv X pins σ H s):interactive X.env=false:=by simp[interactive,I.ok.kind]
def amY (te:TE):TS:=fun D σ H=>te σ H fun _ H1=>D.nx σ H1
theorem a8 (he:PE X e te)(hs:swapsWith e none pos.line X.env=pure false:=by rfl):PS X (.Expr e pos) (amY te):=by
 intro pins s σ H D I h;exact wpAny_Expr_any (cU (he pins s σ H _ I h) fun v s1 ⟨x,H1,I1,r1,q1⟩=>⟨σ,H1,I1,q1⟩) I.quiet hs
def api (te:TE):TS:=fun D σ H=>te σ H D.rt
theorem aw (he:PE X e te):PS X (.Return (some e) pos) (api te):=by
 intro pins s σ H D I h;exact wpAny_Return_some (cU (he pins s σ H _ I h) fun v s1 ⟨x,H1,I1,r1,q1⟩=>⟨x,σ,H1,I1,r1,q1⟩)
def apj (c:TT)(t u:TS):TS:=fun D σ H=>c σ H fun b H1=>if b=true then t D σ H1 else u D σ H1
theorem aU {c:Expr}{a b:List Stmt}{tc:TT}(hc:PT X c tc)(ha:Mv X a t)(hb:Mv X b u):PS X (.If c a b pos) (apj tc t u):=by
 intro pins s σ H D I h;refine wpAny_If (cU (hc pins s σ H _ I h) fun d s1 ⟨H1,I1,q1⟩=>?_);cases d with
 |true=>exact ha pins s1 σ H1 D I1 q1
 |false=>exact hb pins s1 σ H1 D I1 q1
end
abbrev TG:=V->St->Hp->(St->Hp->Prop)->Prop
abbrev TGs:=List V->St->Hp->(St->Hp->Prop)->Prop
def PG (X:Cx)(target:Expr)(t:TG):Prop :=
 ∀(pins:List (Addr×Obj)) (s:Shared) (σ:St) (H:Hp) (v:V) (u:Value) (Q:St->Hp->Prop),Inv X pins σ H s->RelV v u->t v σ H Q ->
  wpAny (model X.prog X.w) X.A (assign target X.env u) (fun _ s'=>∃ σ' H',Inv X pins σ' H' s'/\Q σ' H') X.xe s
def PGs (X:Cx)(ts:List Expr)(t:TGs):Prop :=
 ∀(pins:List (Addr×Obj)) (s:Shared) (σ:St) (H:Hp) (vs:List V) (us:List Value) (Q:St->Hp->Prop),Inv X pins σ H s->Vals vs us->t vs σ H Q ->
  wpAny (model X.prog X.w) X.A (assignInOrder ((assignEach ts X.env).map (·.2)) us) (fun _ s'=>∃ σ' H',Inv X pins σ' H' s'/\Q σ' H') X.xe s
abbrev ak4:=V->V->V->Hp->(Hp->Prop)->Prop
def amZ (X:Cx)(t:ak4):Prop :=
 ∀(pins:List (Addr×Obj)) (s:Shared) (σ:St) (H:Hp) (o i v:V) (ov iv u:Value) (Q:Hp->Prop),Inv X pins σ H s->RelV o ov->RelV i iv->RelV v u->t o i v H Q ->
  wpAny (model X.prog X.w) X.A (setItem ov iv u) (fun _ s'=>∃ H',Inv X pins σ H' s'/\Q H') X.xe s
abbrev TIp:=V->V->Hp->VK->Prop
def PIp (X:Cx)(op:Operator)(t:TIp):Prop :=
 ∀(pins:List (Addr×Obj)) (s:Shared) (σ:St) (H:Hp) (x y:V) (v u:Value) (Q:VK),Inv X pins σ H s->RelV x v->RelV y u->t x y H Q ->
  wpAny (model X.prog X.w) X.A (inplaceOp op v u) (EP X pins σ Q) X.xe s
section
variable {X:Cx} {pos:Pos}
def Sh (i:Nat):TG:=fun v σ H Q=>Q (σ.set i (some v)) H
theorem bg {i:Nat}{x:Str}(hN:X.N.Nodup)(hi:X.N[i]? = some x)(hx:Loc X.env.scope x)(hf:X.fn x=true\/X.env.scope.names.lookup x=some .local:=by first|exact .inl rfl|exact .inr rfl|assumption):PG X (.Name x pos) (Sh i):=by
 intro pins s σ H v u Q I r h;exact wpAny_assign_Name (mQ I hN hi hx r (fun s' I'=>⟨_,H,I',h⟩) hf)
def apk:TGs:=fun vs σ H Q=>vs=[]/\Q σ H
inductive agc (t:TG)(u:TGs)(vs:List V)(σ:St)(H:Hp)(Q:(St->Hp->Prop)):Prop
 |mk (v:_) (r:_) (eE:vs=v::r) (eF:t v σ H fun σ' H'=>u r σ' H' Q):agc t u vs σ H Q
def am0 (t:TG)(u:TGs):TGs:=fun vs σ H Q=>agc t u vs σ H Q
theorem mS:PGs X [] apk:=by
 intro pins s σ H vs us Q I r h;obtain⟨e,h⟩:=h;subst e;cases r;exact assignInOrder_nil ⟨σ,H,I,h⟩
theorem bP {e:Expr}{es:List Expr}{t:TG}{u:TGs}(h1:PG X e t)(h2:PGs X es u)
  (hs:(assignEach (e::es) X.env).map (·.2)=assign e X.env::(assignEach es X.env).map (·.2):=by rfl):PGs X (e::es) (am0 t u):=by
 intro pins s σ H vs us Q I r h;obtain⟨v,vr,e1,h⟩:=h;subst e1;cases r with
 |cons r rr =>
  rw[hs];refine assignInOrder_cons (cU (h1 pins s σ H _ _ _ I r h) fun _ s1 ⟨σ1,H1,I1,q1⟩=>?_);exact h2 pins s1 σ1 H1 _ _ Q I1 rr q1
inductive akl (K:Frag)(n:Nat)(t:TGs)(v:V)(σ:St)(H:Hp)(Q:(St->Hp->Prop)):Prop
 |mk (a:_) (xs:_) (eE:v=.ref a) (eF:vH K H a xs) (h8:xs.length=n) (lh:t xs σ H Q):akl K n t v σ H Q
def apl (K:Frag)(n:Nat)(t:TGs):TG:=fun v σ H Q=>akl K n t v σ H Q
theorem sC {es:List Expr}{k:Nat}{t:TGs}{n:Nat}(hc:X.calm=true)(h:PGs X es t)
  (hn:(assignEach es X.env).length=n:=by rfl) (hst:(assignEach es X.env).findIdx? (·.1)=none:=by rfl):PG X (.Tuple es k pos) (apl X.K n t):=by
 intro pins s σ H v u Q I r hw;obtain⟨a,xs,e1,hq,hl,hw⟩:=hw;subst e1;cases r;obtain⟨its,rv,ht,hz⟩:=I.tuple hq;refine assign_Tuple_tuple (I.ok.hd hc) ht (by simp[hn,<-hl,rv.length]) hst fun h' hx=>?_;have I1:Inv X pins σ H { s with heap:=h' }:=I.kept (t':=s.toks) fun b o e=>hx b o (Zn' (Zc' e)) e;exact h pins _ σ H xs _ Q I1 (by simpa using rv) hw
def apm (to ti:TE)(t:ak4):TG:=fun v σ H Q=>to σ H fun o H1=>ti σ H1 fun i H2=>t o i v H2 fun H3=>Q σ H3
theorem zy {o i:Expr}{to ti:TE}{t:ak4}(ho:PE X o to)(hi:PE X i ti)(hs:amZ X t)
  (ha:∀ v,assign (.Subscript o i pos) X.env v=(do
   let ov <-holding [v] (eval o X.env)
   let iv <-holding [v,ov] (eval i X.env)
   standAt pos
   holding [v,ov,iv] (setItem ov iv v)
   release [v,ov,iv] []):=by intro _;rfl):PG X (.Subscript o i pos) (apm to ti t):=by
 intro pins s σ H v u Q I r h;rw[ha];refine L' (wpAny_holding (cU (ho pins s σ H _ I h) fun ov s1 ⟨x,H1,I1,r1,q1⟩=>?_));refine L' (wpAny_holding (cU (hi pins s1 σ H1 _ I1 q1) fun iv s2 ⟨y,H2,I2,r2,q2⟩=>?_));refine L' (wpAny_standAt (L' (wpAny_holding (cU (hs pins s2 σ H2 x y v ov iv u _ I2 r1 r2 r q2) fun _ s3 ⟨H3,I3,q3⟩=>?_))));exact wpAny_release ⟨σ,H3,I3,q3⟩
def aiZ (te:TE)(g:TG):TS:=fun D σ H=>te σ H fun x H1=>g x σ H1 D.nx
theorem lV {tg e:Expr}{te:TE}{g:TG}(he:PE X e te)(hg:PG X tg g)(hs:swapsWithSole [tg] e pos.line X.env=pure false:=by rfl)(hw:swappedStores [tg] e X.env=pure none:=by rfl)
  (h1:(assignEach [tg] X.env).map (·.2)=[assign tg X.env]:=by rfl):PS X (.Assign [tg] e pos) (aiZ te g):=by
 intro pins s σ H D I h;refine wpAny_Assign_stores (cU (he pins s σ H _ I h) fun v s1 ⟨x,H1,I1,r1,q1⟩=>?_) hs hw;rw[h1];exact cU (hg pins s1 σ H1 x v _ I1 r1 q1) fun _ s2 q=>q
theorem aL {i:Nat}{x:Str}{e:Expr}{te:TE}{pos':Pos}(hN:X.N.Nodup)(hi:X.N[i]? = some x)(hx:Loc X.env.scope x)(he:PE X e te)(hs:swapsWith e (some (.Name x pos')) pos.line X.env=pure false:=by rfl)(hf:X.fn x=true\/X.env.scope.names.lookup x=some .local:=by first|exact .inl rfl|exact .inr rfl|assumption) :
  PS X (.Assign [.Name x pos'] e pos) (aiZ te (Sh i)):=by
 intro pins s σ H D I h;refine wpAny_Assign_Name (cU (he pins s σ H _ I h) fun v s1 ⟨y,H1,I1,r1,q1⟩=>?_) hs;exact mQ I1 hN hi hx r1 (fun s2 I2=>⟨_,H1,I2,q1⟩) hf
def apn (i j:Nat)(ta:TA):TS:=fun D σ H=>ta σ H fun vs H1=>∃ v w,vs=[v,w]/\D.nx ((σ.set i (some v)).set j (some w)) H1
theorem ak5 {i j:Nat}{x y:Str}{a b:Expr}{ta:TA}{px py pt:Pos}{kt k2 pt2}(hc:X.calm=true)(hN:X.N.Nodup)(hi:X.N[i]? = some x)(hj:X.N[j]? = some y)(hij:i≠j)
  (hx:X.env.scope.names.lookup x=some .local) (hy:X.env.scope.names.lookup y=some .local) (ha:PA X [a,b] ta)
  (hw:swappedStores [.Tuple [.Name x px,.Name y py] kt pt] (.Tuple [a,b] k2 pt2) X.env=pure (some [x,y]))
  (hs:swapsWithSole [.Tuple [.Name x px,.Name y py] kt pt] (.Tuple [a,b] k2 pt2) pos.line X.env=pure false:=by rfl) :
  PS X (.Assign [.Tuple [.Name x px,.Name y py] kt pt] (.Tuple [a,b] k2 pt2) pos) (apn i j ta):=by
 intro pins s σ H D I h;rw[exec_Assign_arm];refine L' (wpAny_standAt ?_);rw[hs];refine L' (N' ?_);rw[G' (by decide)];refine L' (Tuple_ (cU (ha _ pins s σ H _ I h) fun us s1 ⟨vs,H1,I1,r1,q1⟩=>?_));obtain⟨v,w,e1,q1⟩:=q1;subst e1;obtain⟨u1,u2,rfl,rv,Xp⟩:∃ u1 u2,us=[u1,u2]/\RelV v u1/\RelV w u2:=by
  cases r1 with
  |cons p q =>
   cases q with
   |cons p' q' =>
    cases q';exact⟨_,_,rfl,p,p'⟩
 refine wpAny_newObj_type ?_ (by show 2<=sizeLine;decide);have I2:Inv X pins σ H1 { s1 with heap:=s1.heap.push { cls:=.type "tuple",data:=.seq [u1,u2].toArray } }:=I1.kept (t':=s1.toks) fun b o e=>V' _ e;rw[hw];refine L' (N' ?_);show wpAny (model X.prog X.w) X.A (do rule "assign.swapped-stores";let items <-unpackItems (.ref s1.heap.objs.size) 2 none;assignInOrder [fun v=>bindName X.env y v,fun v=>bindName X.env x v] items.reverse;pure Flow.next) _ _ _;refine L' (wpAny_rule (L' (unpackItems_tuple (items:=#[u1,u2]) (I.ok.hd hc) (IsTup.new s1.heap _) fun h' hx'=>?_)));have I3:=I2.kept (h':=h') (t':=s1.toks) fun b o e=>hx' b o (Zn' (Zc' e)) e;show wpAny _ _ (assignInOrder [fun v=>bindName X.env y v,fun v=>bindName X.env x v] [u2,u1] >>= fun _=>pure Flow.next) _ _ _;refine L' (assignInOrder_cons (wpAny_bindName (mQ I3 hN hj (.inl hy) Xp (fun s2 I4=>?_) (.inr hy))));refine assignInOrder_cons (wpAny_bindName (mQ I4 hN hi (.inl hx) rv (fun s3 I5=>assignInOrder_nil (N' ?_)) (.inr hx)));rw[List.set_comm _ _ (Yb' hij)]at I5;exact⟨_,H1,I5,q1⟩
def apo (i:Nat)(te:TE)(ti:TIp):TS:=fun D σ H=>∃ x,σ[i]? = some (some x)/\te σ H fun y H1=>ti x y H1 fun z H2=>D.nx (σ.set i (some z)) H2
theorem ak7 {i:Nat}{x:Str}{e:Expr}{te:TE}{op:Operator}{ti:TIp}{pos':Pos}(hN:X.N.Nodup)(hi:X.N[i]? = some x)(hx:Loc X.env.scope x)(he:PE X e te)(ho:PIp X op ti)(hf:X.fn x=true\/X.env.scope.names.lookup x=some .local:=by first|exact .inl rfl|exact .inr rfl|assumption) :
  PS X (.AugAssign (.Name x pos') op e pos) (apo i te ti):=by
 intro pins s σ H D I h;obtain⟨v,e1,h⟩:=h;obtain⟨m,hn,hl⟩:=I.loc;have vis:Vis X.env.scope x:=by rcases hx with k|k;exact .inl k;exact .inr (.inl k)
 obtain⟨u,r,l⟩:=hl i x v hi e1 vis;refine wpAny_AugAssign_Name ?_;have go:wpAny (model X.prog X.w) X.A (eval e X.env) (fun w s₂=>wpAny (model X.prog X.w) X.A (inplaceOp op u w) (fun r s₃=>wpAny (model X.prog X.w) X.A (storeName X.env x r) (fun _=>SP X pins D .next) X.xe s₃) X.xe s₂) X.xe s:=by
  refine cU (he pins s σ H _ I h) fun w s1 ⟨y,H1,I1,r1,q1⟩=>?_;refine cU (ho pins s1 σ H1 v y u w _ I1 r r1 q1) fun z s2 ⟨zv,H2,I2,r2,q2⟩=>?_;exact mQ I2 hN hi hx r2 (fun s3 I3=>⟨_,H2,I3,q2⟩) hf
 rcases l with ⟨hk,hm⟩|⟨hk,c,hc,hcell⟩
 ·exact wpAny_loadName_local I.ok.kind hk hn hm go
 ·rcases hk with hk|hk
  ·exact wpAny_loadName_cell I.ok.kind hk hc hcell go
  ·rcases hx with k|k
   ·have:X.env.scope.names.lookup x=some .free:=hk;rw[k]at this;cases this
   ·have:X.env.scope.names.lookup x=some .free:=hk;rw[k]at this;cases this
def ipI (f:Int->Int->Int):TIp:=fun x y H Q=>∃ i j,x=.int i/\y=.int j/\Q (.int (f i j)) H
theorem ak8:PIp X .Add (ipI fun i j=>i+j):=by
 intro pins s σ H x y v u Q I r1 r2 h;obtain⟨i,j,e1,e2,q⟩:=h;subst e1;subst e2;obtain⟨t,rfl⟩:=r1;obtain⟨t',rfl⟩:=r2;exact iadd_int ⟨.int _,H,I.tok _,⟨_,rfl⟩,q⟩
end
section
variable {X:Cx} {pos:Pos}
def ak9 (c:TT)(tb:TS):TS:=fun D σ H=>∃ W:Nat->St->Hp->Prop,(∃ m,W m σ H)/\∀ m σ H,W m σ H ->
 c σ H fun b H1=>if b=true then ∃ N:St->Hp->Prop,(∀ σ' H',N σ' H'->∃ m',m'<m/\W m' σ' H')/\tb { D with nx:=N,ct:=N,bk:=D.nx } σ H1 else D.nx σ H1
theorem N2 {c:Expr}{body:List Stmt}{tc:TT}{tb:TS}(hp:PassesOwn (model X.prog X.w) X.A X.env X.xe)(hc:PT X c tc)(hb:Mv X body tb):PS X (.While c body [] pos) (ak9 tc tb):=by
 intro pins s σ H D I h;obtain⟨W,⟨m0,w0⟩,turn⟩:=h;refine wpAny_While (codeAny_whileLoop (fun n s'=>∃ σ' H',Inv X pins σ' H' s'/\W n σ' H') ?_ m0 ⟨σ,H,I,w0⟩);rintro n s1 ⟨σ1,H1,I1,w1⟩;refine wpAny_passesOwn hp (cU (hc pins s1 σ1 H1 _ I1 (turn n σ1 H1 w1)) fun b s2 ⟨H2,I2,q2⟩=>?_);cases b with
 |true =>
  obtain⟨N,hN,q2⟩:=q2;rw[K' rfl];refine wpAny_passesOwn hp (cU (hb pins s2 σ1 H2 _ I2 q2) fun f s3 q3=>?_);cases f with
  |next =>
   obtain⟨σ3,H3,I3,n3⟩:=q3;obtain⟨m',hm,w3⟩:=hN σ3 H3 n3;exact⟨m',hm,σ3,H3,I3,w3⟩
  |cont =>
   obtain⟨σ3,H3,I3,n3⟩:=q3;obtain⟨m',hm,w3⟩:=hN σ3 H3 n3;exact⟨m',hm,σ3,H3,I3,w3⟩
  |brk=>exact q3
  |ret v=>exact q3
 |false =>
  rw[G' Zl'];exact wpAny_execs_nil ⟨σ1,H2,I2,q2⟩
end
structure It where
 go:Nat->Hp->Prop
 yld:Nat->Hp->V->Hp->Prop
 stop:Nat->Hp->Prop
def qF (X:Cx)(pins:List (Addr×Obj))(H:Hp)(b:Addr):Prop :=
 H b=none/\b≠X.env.locals/\b ∉ X.fs/\(b∈X.ex\/X.s₀.heap.objs.size<=b)/\(∀ x c,X.env.cells.lookup x=some c->c≠b)/\∀ p∈X.pn++pins,p.1≠b
theorem Inv.Tp {X:Cx}{pins:List (Addr×Obj)}{σ:St}{H H':Hp}{s:Shared}{b:Addr}(I:Inv X pins σ H s)(hb:s.heap.objs.size<=b)(hn:H' b=none):qF X pins H' b:=by
 refine⟨hn,Nat.ne_of_gt (Zd' I.lt hb),I.apc hb,.inr (Zh' I.sz hb),fun x c e z=>?_,fun p hp z=>?_⟩
 ·obtain⟨v,q⟩:=I.cell x c e;exact P' (Zd' q.lt (by rw[z];exact hb)) (Nat.lt_irrefl _)
 ·exact P' (Zd' (Zc' (I.pin p hp).1) (by rw[z];exact hb)) (Nat.lt_irrefl _)
structure Turn (P:Program)(w:World)(K:Frag)(tg:Expr)(J:It)(fp:List Addr)(it:Addr)(tn:Nat->Heap->Prop):Prop where
 mem:it∈fp
 obj:∀ i h,tn i h->∀ b∈fp,∃ o,h.get? b=some o/\∀ v,o.data≠.cell v
 keep:∀ i h h',tn i h->(∀ b∈fp,∀ o,h.get? b=some o->h'.get? b=some o)->tn i h'
 item:∀(X:Cx),X.prog=P->X.w=w->X.K=K->X.calm=true->∀(i:Nat)(pins:List (Addr×Obj)) (s:Shared) (σ:St) (H:Hp) (E:Value->Shared->Prop),Inv X pins σ H s->(∀ b∈fp,qF X pins H b)->tn i s.heap->J.go i H ->
  wpAny (model P w) X.A (pyNext (.ref it)) (fun r s1=>∃ u,r=some u /\
   wpAny (model P w) X.A (letOwnedTupleGo tg (.ref it) u) (fun _ s2=>∃ x H',Inv X pins σ H' s2/\RelV x u/\J.yld i H x H'/\tn (i+1) s2.heap/\∀ b∈fp,H' b=none) E s1) E s
 done:∀(X:Cx),X.prog=P->X.w=w->X.K=K->X.calm=true->∀(i:Nat)(pins:List (Addr×Obj)) (s:Shared) (σ:St) (H:Hp) (E:Value->Shared->Prop),Inv X pins σ H s->(∀ b∈fp,qF X pins H b)->tn i s.heap->J.stop i H ->
  wpAny (model P w) X.A (pyNext (.ref it)) (fun r s1=>r=none/\Inv X pins σ H s1) E s
 self:∀(A:Around)(i:Nat)(s:Shared)(Q:Value->Shared->Prop)(E:Value->Shared->Prop),tn i s.heap->Q (.ref it) s->wpAny (model P w) A (pyIter (.ref it)) Q E s
abbrev TI:=St->Hp->(It->Hp->Prop)->Prop
def PIE (X:Cx)(pins:List (Addr×Obj))(σ:St)(tg:Expr)(R:It->Hp->Prop)(itv:Value)(s2:Shared):Prop :=
 ∃(it:Addr)(fp:List Addr)(tn:Nat->Heap->Prop)(J:It)(H':Hp),itv=.ref it/\Inv X pins σ H' s2/\Turn X.prog X.w X.K tg J fp it tn/\tn 0 s2.heap/\(∀ b∈fp,qF X pins H' b)/\R J H'
def PI (X:Cx)(tg iter:Expr)(wi:TI):Prop :=
 ∀(pins:List (Addr×Obj)) (s:Shared) (σ:St) (H:Hp) (R:It->Hp->Prop),Inv X pins σ H s->wi σ H R ->
  wpAny (model X.prog X.w) X.A (eval iter X.env) (fun v s1=>wpAny (model X.prog X.w) X.A (pyIter v) (PIE X pins σ tg R) X.xe s1) X.xe s
theorem ac2 {M:Model}{A:Around}{E:Value->Shared->Prop}{s:Shared}{tg:Expr}{it:Addr}{u:Value}{o:Obj}{n:String}{vs:Array Value}{Q:Unit->Shared->Prop}(ho:s.heap.get? it=some o)(hc:o.cls=.type n)(hd:o.data=.fields vs)
  (hn:["enumerate","zip","dict_itemiterator","dict_reverseitemiterator","odict_iterator","itertools.zip_longest","itertools.pairwise"].contains n=false) (hQ:Q () s):wpAny M A (letOwnedTupleGo tg (.ref it) u) Q E s:=by
 unfold letOwnedTupleGo;cases tg <;> first
  |exact N' hQ
  |(cases u <;> first
    |exact N' hQ
    |(refine L' (wpAny_load ho ?_);rw[hc,hd];show wpAny M A (if(["enumerate","zip","dict_itemiterator","dict_reverseitemiterator","odict_iterator","itertools.zip_longest","itertools.pairwise"].contains n&&vs[0]? == some (rawInt _))=true then _ else _) Q E s;rw[G' (by intro h;rw[hn,Bool.false_and]at h;cases h)];exact N' hQ))
def Itl (K:Frag)(a:Addr):It :=
 ⟨fun i H=>∃ xs x,bh K H a xs/\xs[i]? = some x,fun i H x H'=>H'=H/\∀ xs,bh K H a xs->xs[i]? = some x,fun i H=>∃ xs,bh K H a xs/\xs.length<=i⟩
def Itt (K:Frag)(a:Addr):It :=
 ⟨fun i H=>∃ xs x,vH K H a xs/\xs[i]? = some x,fun i H x H'=>H'=H/\∀ xs,vH K H a xs->xs[i]? = some x,fun i H=>∃ xs,vH K H a xs/\xs.length<=i⟩
def Itr (lo:Int)(n:Nat):It:=⟨fun i _=>i<n,fun i H x H'=>H'=H/\x=.int (lo+i),fun i _=>n<=i⟩
theorem adY {P:Program}{w:World}{K:Frag}{tg:Expr}(a it:Addr):Turn P w K tg (Itl K a) [it] it (fun i h=>h.IsListIter it a i) where
 mem:=by simp
 obj:=fun i h st b hb=>by
  have e:b=it:=by simpa using hb
  subst e;obtain⟨o,e,c,d⟩:=st;exact⟨o,e,fun v z=>by rw[d]at z;cases z⟩
 keep:=fun i h h' st k=>st.at fun o e=>k it (by simp) o e
 item:=by
  intro X hP hw hK hc i pins s σ H E I hf st hg;subst hP hw hK;obtain⟨xs,x,hq,hx⟩:=hg;obtain⟨its,rv,p,hz⟩:=I.list hq;obtain⟨u,hu,ru⟩:=rv.get hx;obtain⟨f0,f1,f2,f3,f4,f5⟩:=hf it (by simp);refine wpAny_pyNext_list_item st p.isList (x:=u) (by simpa using hu) fun h' st' sb=>?_;have I1:Inv X pins σ H { s with heap:=h' }:=I.turned (t':=s.toks) (fun b o hb e=>(sb.2 b hb).trans e) f0 f1 f3 f4 f5;obtain⟨o,e,c,d⟩:=id st';exact⟨u,rfl,ac2 (s:={ s with heap:=h' }) e c d (by decide) ⟨x,H,I1,ru,⟨rfl,fun ys hy=>by rw[I.Xo hy hq];exact hx⟩,st',fun b hb=>(hf b hb).1⟩⟩
 done:=by
  intro X hP hw hK hc i pins s σ H E I hf st hg;subst hP hw hK;obtain⟨xs,hq,hx⟩:=hg;obtain⟨its,rv,p,hz⟩:=I.list hq;obtain⟨f0,f1,f2,f3,f4,f5⟩:=hf it (by simp);have hl:=rv.length;exact wpAny_pyNext_list_end (I.ok.hd hc) st p.isList (by simp;omega) fun h' eb=>⟨rfl,I.turned (t':=s.toks) (fun b o hb e=>eb b o hb e) f0 f1 f3 f4 f5⟩
 self:=fun _ _ _ _ _ st h=>wpAny_pyIter_listiter st h
theorem Zs {P:Program}{w:World}{K:Frag}{tg:Expr}(it:Addr)(lo:Int)(n:Nat):Turn P w K tg (Itr lo n) [it] it (fun i h=>IsRangeIter h it (lo+(i:Nat) * 1) ((n:Int)-(i:Nat)) 1) where
 mem:=by simp
 obj:=fun i h st b hb=>by
  have e:b=it:=by simpa using hb
  subst e;exact⟨_,st,fun v z=>by
   have z':Data.fields _=Data.cell v:=z;cases z'⟩
 keep:=fun i h h' st k=>k it (by simp) _ st
 item:=by
  intro X hP hw hK hc i pins s σ H E I hf st hg;subst hP hw hK;obtain⟨f0,f1,f2,f3,f4,f5⟩:=hf it (by simp);have W:=Walks.range (prog:=X.prog) (w:=X.w) (I.ok.hd hc) it lo 1 n;refine W.item i s _ _ hg st fun v h' tk hv st' kk=>?_;obtain⟨t,rfl⟩:=hv;have I1:Inv X pins σ H { s with heap:=h',toks:=tk }:=I.turned (fun b o hb e=>kk b o (by simpa using hb) e) f0 f1 f3 f4 f5;refine⟨_,rfl,ac2 (s:={ s with heap:=h',toks:=tk }) (n:="range_iterator") st' rfl rfl (by decide) ⟨.int (lo+i),H,I1,⟨t,?_⟩,⟨rfl,rfl⟩,st',fun b hb=>(hf b hb).1⟩⟩;rw[Int.mul_one]
 done:=by
  intro X hP hw hK hc i pins s σ H E I hf st hg;subst hP hw hK;obtain⟨f0,f1,f2,f3,f4,f5⟩:=hf it (by simp);exact wpAny_pyNext_range_end (I.ok.hd hc) st (by have:n<=i:=hg;omega) fun h' eb=>⟨rfl,I.turned (t':=s.toks) (fun b o hb e=>eb b o hb e) f0 f1 f3 f4 f5⟩
 self:=fun _ _ _ _ _ st h=>wpAny_pyIter_rangeiter st h
end L2
namespace L2
open PySem PySem.Spec PyProof.Rows
section
variable {X:Cx} {tg:Expr}
inductive agd (K:Frag)(R:(It->Hp->Prop))(x:V)(H1:Hp):Prop
 |mk (a:_) (eE:x=.ref a) (eF:(∃ xs,bh K H1 a xs)/\R (Itl K a) H1):agd K R x H1
def am1 (K:Frag)(tl:TE):TI:=fun σ H R=>tl σ H fun x H1=>agd K R x H1
inductive am2 (K:Frag)(R:(It->Hp->Prop))(x:V)(H1:Hp):Prop
 |mk (a:_) (eE:x=.ref a) (eF:(∃ xs,vH K H1 a xs)/\R (Itt K a) H1):am2 K R x H1
theorem iX {l:Expr}{tl:TE}(hl:PE X l tl):PI X tg l (am1 X.K tl):=by
 intro pins s σ H R I h;refine cU (hl pins s σ H _ I h) fun v s1 ⟨x,H1,I1,r1,q1⟩=>?_;obtain⟨a,e,⟨xs,hq⟩,q⟩:=q1;subst e;cases r1;obtain⟨its,rv,p,hz⟩:=I1.list hq;refine wpAny_pyIter_list p.isList ?_;refine⟨s1.heap.objs.size,[s1.heap.objs.size],_,_,H1,rfl,I1.kept (t':=s1.toks) fun b o e=>V' _ e,adY a _,⟨_,Zo' _ rfl,rfl,rfl⟩,fun b hb=>?_,q⟩;have e:b=s1.heap.objs.size:=by simpa using hb
 subst e;exact I1.Tp (Zi' _) (I1.hok.fresh (Zi' _))
theorem Xq {pins:List (Addr×Obj)}{σ:St}{H:Hp}{s:Shared}{R:It->Hp->Prop}{E:Value->Shared->Prop}{lo hi:Int}{t u v:Tok}{tk:Nat}(I:Inv X pins σ H s)(h1:-(2 ^ 62)<=lo)(h2:lo<2 ^ 62)(h3:-(2 ^ 62)<=hi)(h4:hi<2 ^ 62)
  (q:R (Itr lo (hi-lo).toNat) H):wpAny (model X.prog X.w) X.A (pyIter (.ref s.heap.objs.size)) (PIE X pins σ tg R) E { s with heap:=s.heap.push { cls:=.type "range",data:=.fields #[.int lo t,.int hi u,.int 1 v] },toks:=tk }:=by
 refine wpAny_pyIter_range (IsRange.new ..) (small_one h1 h2 h3 h4) ?_;have I1:Inv X pins σ H { s with heap:=s.heap.push { cls:=.type "range",data:=.fields #[.int lo t,.int hi u,.int 1 v] },toks:=tk }:=I.kept fun b o e=>V' _ e;refine⟨(s.heap.push { cls:=.type "range",data:=.fields #[.int lo t,.int hi u,.int 1 v] }).objs.size,[(s.heap.push { cls:=.type "range",data:=.fields #[.int lo t,.int hi u,.int 1 v] }).objs.size],_,_,H,rfl,
  I1.kept (t':=tk) fun b o e=>V' _ e,Zs _ lo (hi-lo).toNat,?_,fun b hb=>?_,q⟩
 ·have e1:lo+((0:Nat):Int) * 1=lo:=by simp
  have e2:(((hi-lo).toNat:Nat):Int)-((0:Nat):Int)=Builtin.Range.rangeSize lo hi 1:=by rw[rangeSize_one];split <;> omega
  show IsRangeIter _ _ (lo+((0:Nat):Int) * 1) ((((hi-lo).toNat:Nat):Int)-((0:Nat):Int)) 1;rw[e1,e2];exact Zo' _ rfl
 ·have e:b=(s.heap.push { cls:=.type "range",data:=.fields #[.int lo t,.int hi u,.int 1 v] }).objs.size:=by simpa using hb
  subst e;exact I1.Tp (Zi' _) (I1.hok.fresh (Zi' _))
inductive age (R:(It->Hp->Prop))(vs:List V)(H1:Hp):Prop
 |mk (j:Int) (eE:vs=[.int j]) (eF:-(2 ^ 62)<=j/\j<2 ^ 62/\R (Itr 0 j.toNat) H1):age R vs H1
def am3 (ta:TA):TI:=fun σ H R=>ta σ H fun vs H1=>age R vs H1
inductive agf (R:(It->Hp->Prop))(vs:List V)(H1:Hp):Prop
 |mk (i j:Int) (eE:vs=[.int i,.int j]) (eF:(-(2 ^ 62)<=i/\i<2 ^ 62/\-(2 ^ 62)<=j/\j<2 ^ 62)) (h8:R (Itr i (j-i).toNat) H1):agf R vs H1
def am4 (ta:TA):TI:=fun σ H R=>ta σ H fun vs H1=>agf R vs H1
theorem BN {a:Expr}{ta:TA}{p pos:Pos}(hg:Gl X "range")(hm:X.mg "range"=none)(ha:PA X [a] ta)(hs:starEach [a] X.env=[(false,eval a X.env)]:=by rfl):PI X tg (.Call (.Name "range" p) [a] [] pos) (am3 ta):=by
 intro pins s σ H R I h;refine Call_ (vG I hg hm boot_range (PyProof.Rows.callWith_type1 (cU (ha pos pins s σ H _ I h) fun us s1 ⟨vs,H1,I1,r1,q1⟩=>?_) hs rfl));obtain⟨j,e,q1,q2,q⟩:=q1;subst e;cases r1 with
 |cons r rr =>
  cases rr;obtain⟨t,rfl⟩:=r;exact call_range_1 (Xq I1 (by omega) (by omega) q1 q2 (by simpa using q))
theorem adZ {a b:Expr}{ta:TA}{p pos:Pos}(hg:Gl X "range")(hm:X.mg "range"=none)(ha:PA X [a,b] ta)(hs:starEach [a,b] X.env=[(false,eval a X.env),(false,eval b X.env)]:=by rfl)(hs2:starEach [b] X.env=[(false,eval b X.env)]:=by rfl) :
  PI X tg (.Call (.Name "range" p) [a,b] [] pos) (am4 ta):=by
 intro pins s σ H R I h;refine Call_ (vG I hg hm boot_range (PyProof.Rows.callWith_type1 (cU (ha pos pins s σ H _ I h) fun us s1 ⟨vs,H1,I1,r1,q1⟩=>?_) (by rw[hs,hs2]) (by rw[hs2];rfl)));obtain⟨i,j,e,⟨q1,q2,q3,q4⟩,q⟩:=q1;subst e;cases r1 with
 |cons r rr =>
  cases rr with
  |cons r' rr =>
   cases rr;obtain⟨t,rfl⟩:=r;obtain⟨t',rfl⟩:=r';exact call_range_2 (Xq I1 q1 q2 q3 q4 q)
def apr (wi:TI)(g:TG)(tb:TS):TS:=fun D σ H=>wi σ H fun J H1=>∃ W:Nat->Nat->St->Hp->Prop,(∃ m,W 0 m σ H1)/\∀ i m σ H,W i m σ H ->
 (J.stop i H/\D.nx σ H)\/(J.go i H/\∃ N:St->Hp->Prop,(∀ σ' H',N σ' H'->∃ m',m'<m/\W (i+1) m' σ' H')/\∀ x H',J.yld i H x H'->g x σ H' fun σ2 H2=>tb { D with nx:=N,ct:=N,bk:=D.nx } σ2 H2)
def N3 (fp:List Addr)(h:Heap):List (Addr×Obj):=fp.filterMap fun b=>(h.get? b).map fun o=>(b,o)
theorem xy {fp:List Addr}{h:Heap}{b:Addr}{o:Obj}(hb:b∈fp)(e:h.get? b=some o):(b,o)∈N3 fp h:=List.mem_filterMap.mpr ⟨b,hb,by rw[e];rfl⟩
theorem ad0 {fp:List Addr}{h:Heap}{p:Addr×Obj}(hp:p∈N3 fp h):p.1∈fp/\h.get? p.1=some p.2:=by
 obtain⟨b,hb,e⟩:=List.mem_filterMap.mp hp;cases q:h.get? b with
 |none=>rw[q]at e;cases e
 |some o =>
  rw[q]at e;have e':(b,o)=p:=Zb' e;subst e';exact⟨hb,q⟩
theorem Inv.pinned {pins:List (Addr×Obj)}{σ:St}{H:Hp}{s:Shared}{fp:List Addr}(I:Inv X pins σ H s)(hf:∀ b∈fp,qF X pins H b)(ho:∀ b∈fp,∃ o,s.heap.get? b=some o/\∀ v,o.data≠.cell v):Inv X (pins++N3 fp s.heap) σ H s :=
 I.ac1 fun p hp=>(Zk'.mp hp).elim (fun z=>I.pin p (Zm' _ z)) fun z=>by
  obtain⟨hb,e⟩:=ad0 z;obtain⟨f0,f1,f2,_⟩:=hf p.1 hb;obtain⟨o,e',d⟩:=ho p.1 hb;rw[e]at e';cases e';exact⟨e,f0,f1,f2,d⟩
theorem Inv.zA {pins pl:List (Addr×Obj)}{σ:St}{H:Hp}{s:Shared}(I:Inv X (pins++pl) σ H s):Inv X pins σ H s:=I.ac1 fun p hp=>I.pin p (Zm' _ (Zq' _ hp))
theorem kc {iter:Expr}{body:List Stmt}{wi:TI}{g:TG}{tb:TS}{pos:Pos}(hp:PassesOwn (model X.prog X.w) X.A X.env X.xe)(hc:X.calm=true)(hi:PI X tg iter wi)(hg:PG X tg g)(hb:Mv X body tb)
  (hs:∀ x,foldedSetIterable iter X.env x=pure x:=by intro _;rfl):PS X (.For tg iter body [] pos) (apr wi g tb):=by
 intro pins s σ H D I h;refine wpAny_For (cU (hi pins s σ H _ I h) fun v s1 h1=>cU h1 fun itv s2 h2=>?_) hs;obtain⟨it,fp,tn,J,H2,e,I2,T,st2,f2,W,⟨m0,w0⟩,turn⟩:=h2;subst e;have stat:∀{H':Hp},(∀ b∈fp,H' b=none)->∀ b∈fp,qF X pins H' b:=fun hn b hb=>⟨hn b hb,(f2 b hb).2⟩;refine codeAny_forLoop_any (fun n s'=>∃ i σ' H',Inv X pins σ' H' s'/\tn i s'.heap/\(∀ b∈fp,H' b=none)/\W i n σ' H') ?_ m0 ⟨0,σ,H2,I2,st2,fun b hb=>(f2 b hb).1,w0⟩;rintro n s3 ⟨i,σ3,H3,I3,st3,fr3,w3⟩;rcases turn i n σ3 H3 w3 with ⟨stop,qn⟩|⟨go,N,hN,step⟩
 ·refine wpAny_passesOwn hp (cU (T.done X rfl rfl rfl hc i pins s3 σ3 H3 X.xe I3 (stat fr3) st3 stop) fun r s4 ⟨hr,I4⟩=>?_);subst hr;exact wpAny_execs_nil ⟨σ3,H3,I4,qn⟩
 ·refine wpAny_passesOwn hp (cU (T.item X rfl rfl rfl hc i pins s3 σ3 H3 X.xe I3 (stat fr3) st3 go) fun r s4 ⟨u,hr,h4⟩=>?_);subst hr;refine wpAny_passesOwn hp (cU h4 fun _ s5 ⟨x,H5,I5,r5,y5,st5,fr5⟩=>?_);have I5':=I5.pinned (stat fr5) (T.obj _ _ st5);refine wpAny_passesOwn hp (cU (hg _ s5 σ3 H5 x u _ I5' r5 (step x H5 y5)) fun _ s6 ⟨σ6,H6,I6,q6⟩=>?_);refine wpAny_passesOwn hp (cU (hb _ s6 σ6 H6 _ I6 q6) fun f s7 q7=>?_);have again:∀{σ7:St} {H7:Hp},Inv X (pins++N3 fp s5.heap) σ7 H7 s7->N σ7 H7->∃ m,m<n/\∃ i σ' H',Inv X pins σ' H' s7/\tn i s7.heap/\(∀ b∈fp,H' b=none)/\W i m σ' H':=fun {σ7 H7} I7 n7=>by
   obtain⟨m',hm,w7⟩:=hN σ7 H7 n7;refine⟨m',hm,i+1,σ7,H7,I7.zA,T.keep _ _ _ st5 fun b hb o e=>(I7.pin (b,o) (Zm' _ (Zm' _ (xy hb e)))).1,fun b hb=>?_,w7⟩;obtain⟨o,e,d⟩:=T.obj _ _ st5 b hb;exact(I7.pin (b,o) (Zm' _ (Zm' _ (xy hb e)))).2.1
  cases f with
  |next=>obtain⟨σ7,H7,I7,n7⟩:=q7;exact again I7 n7
  |cont=>obtain⟨σ7,H7,I7,n7⟩:=q7;exact again I7 n7
  |brk=>obtain⟨σ7,H7,I7,q7⟩:=q7;exact⟨σ7,H7,I7.zA,q7⟩
  |ret v=>obtain⟨x7,σ7,H7,I7,r7,q7⟩:=q7;exact⟨x7,σ7,H7,I7.zA,r7,q7⟩
end
theorem sE {K:Frag}{a:Addr}{xs:List V}{g:TG}{tb:TS}{D:Ends}{σ:St}{H:Hp}(Pv:Nat->St->Hp->Prop)(h0:Pv 0 σ H)(hl:∀ i σ H,i<=xs.length->Pv i σ H->bh K H a xs)
  (hs:∀ i x σ H,xs[i]? = some x->Pv i σ H->g x σ H fun σ2 H2=>tb { D with nx:=Pv (i+1),ct:=Pv (i+1),bk:=D.nx } σ2 H2) (hd:∀ σ H,Pv xs.length σ H->D.nx σ H) :
  ∃ W:Nat->Nat->St->Hp->Prop,(∃ m,W 0 m σ H)/\∀ i m σ H,W i m σ H ->
   ((Itl K a).stop i H/\D.nx σ H)\/((Itl K a).go i H/\∃ N:St->Hp->Prop,(∀ σ' H',N σ' H'->∃ m',m'<m/\W (i+1) m' σ' H')/\∀ x H',(Itl K a).yld i H x H'->g x σ H' fun σ2 H2=>tb { D with nx:=N,ct:=N,bk:=D.nx } σ2 H2):=by
 refine⟨fun i m σ H=>m=xs.length-i/\i<=xs.length/\Pv i σ H,⟨xs.length,by simp,Zj' _,h0⟩,?_⟩;rintro i m σ H ⟨rfl,hi,p⟩;have q:=hl i σ H hi p
 by_cases hlt:i<xs.length
 ·refine .inr ⟨⟨xs,xs[i],q,by simp[hlt]⟩,Pv (i+1),fun σ' H' p'=>⟨xs.length-(i+1),by omega,rfl,hlt,p'⟩,fun x H' y=>?_⟩;obtain⟨e,y⟩:=y;subst e;exact hs i x σ _ (y xs q) p
 ·have e:i=xs.length:=by omega
  subst e;exact .inl ⟨⟨xs,q,Zi' _⟩,hd σ H p⟩
theorem wc {lo:Int}{n:Nat}{g:TG}{tb:TS}{D:Ends}{σ:St}{H:Hp}(Pv:Nat->St->Hp->Prop)(h0:Pv 0 σ H)
  (hs:∀ i σ H,i<n->Pv i σ H->g (.int (lo+i)) σ H fun σ2 H2=>tb { D with nx:=Pv (i+1),ct:=Pv (i+1),bk:=D.nx } σ2 H2) (hd:∀ σ H,Pv n σ H->D.nx σ H) :
  ∃ W:Nat->Nat->St->Hp->Prop,(∃ m,W 0 m σ H)/\∀ i m σ H,W i m σ H ->
   ((Itr lo n).stop i H/\D.nx σ H)\/((Itr lo n).go i H/\∃ N:St->Hp->Prop,(∀ σ' H',N σ' H'->∃ m',m'<m/\W (i+1) m' σ' H')/\∀ x H',(Itr lo n).yld i H x H'->g x σ H' fun σ2 H2=>tb { D with nx:=N,ct:=N,bk:=D.nx } σ2 H2):=by
 refine⟨fun i m σ H=>m=n-i/\i<=n/\Pv i σ H,⟨n,by simp,Zj' _,h0⟩,?_⟩;rintro i m σ H ⟨rfl,hi,p⟩
 by_cases hlt:i<n
 ·refine .inr ⟨hlt,Pv (i+1),fun σ' H' p'=>⟨n-(i+1),by omega,rfl,hlt,p'⟩,fun x H' y=>?_⟩;obtain⟨e,y⟩:=y;subst e y;exact hs i σ _ hlt p
 ·have e:i=n:=by omega
  subst e;exact .inl ⟨Zi' _,hd σ H p⟩
end L2
namespace L2
open PySem PySem.Spec PyProof.Rows
abbrev R2:=V->V->Hp->VK->Prop
def xt (X:Cx)(f:Value->Value->Sem Value)(r:R2):Prop :=
 ∀(pins:List (Addr×Obj)) (s:Shared) (σ:St) (H:Hp) (x y:V) (v u:Value) (Q:VK),Inv X pins σ H s->RelV x v->RelV y u->r x y H Q ->
  wpAny (model X.prog X.w) X.A (f v u) (EP X pins σ Q) X.xe s
def UnR (X:Cx)(f:Value->Sem Value)(r:V->Hp->VK->Prop):Prop :=
 ∀(pins:List (Addr×Obj)) (s:Shared) (σ:St) (H:Hp) (x:V) (v:Value) (Q:VK),Inv X pins σ H s->RelV x v->r x H Q ->
  wpAny (model X.prog X.w) X.A (f v) (EP X pins σ Q) X.xe s
def lj (X:Cx)(f:Value)(r:List V->Hp->VK->Prop):Prop :=
 ∀(pins:List (Addr×Obj)) (s:Shared) (σ:St) (H:Hp) (xs:List V) (us:List Value) (Q:VK),Inv X pins σ H s->Vals xs us->r xs H Q ->
  wpAny (model X.prog X.w) X.A (call f us) (EP X pins σ Q) X.xe s
def tOp (r:R2)(ta tb:TE):TE:=fun σ H Q=>ta σ H fun x H1=>tb σ H1 fun y H2=>r x y H2 Q
def tUn (r:V->Hp->VK->Prop)(ta:TE):TE:=fun σ H Q=>ta σ H fun x H1=>r x H1 Q
inductive rII (C:Int->Int->Prop)(g:Int->Int->V)(x:V)(y:V)(H:Hp)(Q:VK):Prop
 |mk (i:_) (j:_) (eE:x=.int i) (eF:y=.int j) (h8:C i j/\Q (g i j) H):rII C g x y H Q
def rI (C:Int->Int->Prop)(g:Int->Int->V):R2:=fun x y H Q=>rII C g x y H Q
inductive am5 (g:Int->Int->V)(x:V)(y:V)(H:Hp)(Q:VK):Prop
 |mk (i:_) (j:_) (eE:x=.int i) (eF:y=.int j) (h8:Q (g i j) H):am5 g x y H Q
def rI0 (g:Int->Int->V):R2:=fun x y H Q=>am5 g x y H Q
def rU (g:Int->V):V->Hp->VK->Prop:=fun x H Q=>∃ i,x=.int i/\Q (g i) H
section
variable {X:Cx} {a b c:Expr} {ta tb tc:TE} {pos:Pos}
theorem alb (ha:PE X a ta)(hb:PE X b tb){pins:List (Addr×Obj)}{s:Shared}{σ:St}{H:Hp}{R:V->V->Hp->Prop}(I:Inv X pins σ H s)
  (h:ta σ H fun x H1=>tb σ H1 fun y H2=>R x y H2) {Q:Value->Shared->Prop} {f:Value->Value->Sem Value}
  (hf:∀ v u s2 x y H2,Inv X pins σ H2 s2->RelV x v->RelV y u->R x y H2->wpAny (model X.prog X.w) X.A (f v u) Q X.xe s2) :
  wpAny (model X.prog X.w) X.A (eval a X.env) (fun v s₁=>wpAny (model X.prog X.w) X.A (eval b X.env) (fun u s₂=>wpAny (model X.prog X.w) X.A (f v u) Q X.xe s₂) X.xe s₁) X.xe s:=by
 refine cU (ha pins s σ H _ I h) fun v s1 ⟨x,H1,I1,r1,q1⟩=>?_;refine cU (hb pins s1 σ H1 _ I1 q1) fun u s2 ⟨y,H2,I2,r2,q2⟩=>?_;exact hf v u s2 x y H2 I2 r1 r2 q2
theorem aP {op:Operator}{r:R2}(ho:xt X (binaryOp op) r)(ha:PE X a ta)(hb:PE X b tb):PE X (.BinOp a op b pos) (tOp r ta tb):=by
 intro pins s σ H Q I h;exact wpAny_BinOp (alb ha hb I h fun v u s2 x y H2 I2 rx ry q=>ho pins s2 σ H2 x y v u Q I2 rx ry q)
theorem zB {op:UnaryOp}{r:V->Hp->VK->Prop}(ho:UnR X (unaryOp op) r)(ha:PE X a ta):PE X (.UnaryOp op a pos) (tUn r ta):=by
 intro pins s σ H Q I h;exact UnaryOp_ (cU (ha pins s σ H _ I h) fun v s1 ⟨x,H1,I1,r1,q1⟩=>ho pins s1 σ H1 x v Q I1 r1 q1)
theorem opI {f:Value->Value->Sem Value}{C:Int->Int->Prop}{g:Int->Int->Int}
  (rule:∀(i j:Int)(t u:Tok)(s:Shared)(Q:Value->Shared->Prop)(E:Value->Shared->Prop),C i j->Q (.int (g i j) s.toks) { s with toks:=s.toks+1 }->wpAny (model X.prog X.w) X.A (f (.int i t) (.int j u)) Q E s) :
  xt X f (rI C fun i j=>.int (g i j)):=by
 intro pins s σ H x y v u Q I rx ry h;obtain⟨i,j,rfl,rfl,hc,q⟩:=h;obtain⟨t,rfl⟩:=rx;obtain⟨t',rfl⟩:=ry;exact rule i j t t' s _ _ hc ⟨.int (g i j),H,I.tok _,⟨_,rfl⟩,q⟩
theorem am7 {f:Value->Value->Sem Value}{g:Int->Int->Int}
  (rule:∀(i j:Int)(t u:Tok)(s:Shared)(Q:Value->Shared->Prop)(E:Value->Shared->Prop),Q (.int (g i j) s.toks) { s with toks:=s.toks+1 }->wpAny (model X.prog X.w) X.A (f (.int i t) (.int j u)) Q E s) :
  xt X f (rI0 fun i j=>.int (g i j)):=by
 intro pins s σ H x y v u Q I rx ry h;obtain⟨i,j,rfl,rfl,q⟩:=h;obtain⟨t,rfl⟩:=rx;obtain⟨t',rfl⟩:=ry;exact rule i j t t' s _ _ ⟨.int (g i j),H,I.tok _,⟨_,rfl⟩,q⟩
theorem ai0 {f:Value->Value->Sem Value}{g:Int->Int->Bool}
  (rule:∀(i j:Int)(t u:Tok)(s:Shared)(Q:Value->Shared->Prop)(E:Value->Shared->Prop),Q (.bool (g i j)) s->wpAny (model X.prog X.w) X.A (f (.int i t) (.int j u)) Q E s) :
  xt X f (rI0 fun i j=>.bl (g i j)):=by
 intro pins s σ H x y v u Q I rx ry h;obtain⟨i,j,rfl,rfl,q⟩:=h;obtain⟨t,rfl⟩:=rx;obtain⟨t',rfl⟩:=ry;exact rule i j t t' s _ _ ⟨.bl (g i j),H,I,rfl,q⟩
def apv (i j:Int):Prop:=0<j/\j<1073741824
def apw (i j:Int):Prop:=0<=j/\j<=1000000/\i.natAbs<2 ^ 64
def alc (i j:Int):Prop:=(-(2 ^ 64)<i/\i<2 ^ 64)\/(-(2 ^ 64)<j/\j<2 ^ 64)
theorem alc.ok {i j:Int}(h:alc i j):IntMulOk i j:=by
 rcases h with ⟨h1,h2⟩|⟨h1,h2⟩
 ·exact .of_left (intBits_le_64 h1 h2)
 ·exact .of_right (intBits_le_64 h1 h2)
theorem b7:xt X (binaryOp .Add) (rI0 fun i j=>.int (i+j)):=am7 fun _ _ _ _ _ _ _ q=>add_int q
theorem iY:xt X (binaryOp .Sub) (rI0 fun i j=>.int (i-j)):=am7 fun _ _ _ _ _ _ _ q=>sub_int q
theorem oF:xt X (binaryOp .Mult) (rI alc fun i j=>.int (i * j)):=opI fun _ _ _ _ _ _ _ hc q=>mul_int q hc.ok
theorem gC:xt X (binaryOp .FloorDiv) (rI apv fun i j=>.int (i / j)):=opI fun i j _ _ _ _ _ hc q=>by
 have h1:(0:Int)<j:=hc.1;have h2:j<1073741824:=hc.2;exact floordiv_int (by omega) (by rw[Int.fdiv_eq_ediv_of_nonneg i (by omega)];exact q) (.inl (PyProof.noPylong_small (by omega)))
theorem dy:xt X (binaryOp .Mod) (rI (fun _ j=>0<j) fun i j=>.int (i % j)):=opI fun i j _ _ _ _ _ hc q=>by
 have h1:(0:Int)<j:=hc;exact mod_int' (by omega) (by rw[Int.fmod_eq_emod_of_nonneg i (by omega)];exact q)
theorem Tq:xt X (binaryOp .Pow) (rI apw fun i j=>.int (i ^ j.toNat)):=opI fun _ _ _ _ _ _ _ hc q=>pow_int_small hc.1 hc.2.1 hc.2.2 q
theorem unI {f:Value->Sem Value}{g:Int->Int}
  (rule:∀(i:Int)(t:Tok)(s:Shared)(Q:Value->Shared->Prop)(E:Value->Shared->Prop),Q (.int (g i) s.toks) { s with toks:=s.toks+1 }->wpAny (model X.prog X.w) X.A (f (.int i t)) Q E s) :
  UnR X f (rU fun i=>.int (g i)):=by
 intro pins s σ H x v Q I rx h;obtain⟨i,rfl,q⟩:=h;obtain⟨t,rfl⟩:=rx;exact rule i t s _ _ ⟨.int (g i),H,I.tok _,⟨_,rfl⟩,q⟩
theorem sF:UnR X (unaryOp .USub) (rU fun i=>.int (-i)):=unI fun _ _ _ _ _ q=>neg_int q
end
def am8:V->V->Bool
 |.non,.non=>true|.non,.int _=>true|.int _,.non=>true|.non,.bl _=>true|.bl _,.non=>true|.non,.str _=>true|.str _,.non=>true
 |.int _,.int _=>true|.bl _,.bl _=>true|.str _,.str _=>true|.byt _,.byt _=>true
 |.int _,.str _=>true|.str _,.int _=>true|.bl _,.str _=>true|.str _,.bl _=>true
 |_,_=>false
def rEq:R2:=fun x y H Q=>am8 x y=true/\Q (.bl (decide (x=y))) H
def rNe:R2:=fun x y H Q=>am8 x y=true/\Q (.bl (!decide (x=y))) H
theorem ac3 {i j:Int}:decide (V.int i=V.int j)=(i==j):=by
 rw[Bool.eq_iff_iff];simp
theorem agg {i j:Bool}:decide (V.bl i=V.bl j)=(i==j):=by
 rw[Bool.eq_iff_iff];simp
theorem ac4 {i j:Str}:decide (V.str i=V.str j)=(i==j):=by
 rw[Bool.eq_iff_iff];simp
theorem ac5 {i j:Array UInt8}:decide (V.byt i=V.byt j)=(i.toList==j.toList):=by
 rw[Bool.eq_iff_iff];cases i;cases j;simp
section
variable {X:Cx} {a b c:Expr} {ta tb tc:TE} {pos:Pos}
theorem cG {pins:List (Addr×Obj)}{σ:St}{H:Hp}{s:Shared}{Q:VK}{k k':Bool}(I:Inv X pins σ H s)(q:Q (.bl k) H)(e:k=k'):EP X pins σ Q (.bool k') s:=by
 subst e;exact⟨.bl k,H,I,rfl,q⟩
theorem bj:xt X (compareOp .Eq) rEq:=by
 intro pins s σ H x y v u Q I rx ry h;obtain⟨hs,q⟩:=h;cases x with
 |non =>
  cases rx;cases y with
  |non=>cases ry;exact PySem.EqNone.eq_none_none (cG I q (by simp))
  |bl j=>cases ry;exact PySem.EqNone.eq_none_bool (cG I q (by simp))
  |int j=>obtain⟨t',rfl⟩:=ry;exact PySem.EqNone.eq_none_int (cG I q (by simp))
  |str j=>obtain⟨t',rfl⟩:=ry;exact PySem.EqNone.eq_none_str (cG I q (by simp))
  |_=>exact P' (show false=true from hs) Zl'
 |bl i =>
  cases rx;cases y with
  |non=>cases ry;exact PySem.EqNone.eq_bool_none (cG I q (by simp))
  |bl j=>cases ry;exact eq_bool (cG I q agg)
  |str j=>obtain⟨t',rfl⟩:=ry;exact PySem.EqMixed.eq_bool_str (cG I q (by simp))
  |_=>exact P' (show false=true from hs) Zl'
 |int i =>
  obtain⟨t,rfl⟩:=rx;cases y with
  |non=>cases ry;exact PySem.EqNone.eq_int_none (cG I q (by simp))
  |int j=>obtain⟨t',rfl⟩:=ry;exact eq_int (cG I q ac3)
  |str j=>obtain⟨t',rfl⟩:=ry;exact PySem.EqMixed.eq_int_str (cG I q (by simp))
  |_=>exact P' (show false=true from hs) Zl'
 |str i =>
  obtain⟨t,rfl⟩:=rx;cases y with
  |non=>cases ry;exact PySem.EqNone.eq_str_none (cG I q (by simp))
  |bl j=>cases ry;exact PySem.EqMixed.eq_str_bool (cG I q (by simp))
  |int j=>obtain⟨t',rfl⟩:=ry;exact PySem.EqMixed.eq_str_int (cG I q (by simp))
  |str j=>obtain⟨t',rfl⟩:=ry;exact eq_str (cG I q ac4)
  |_=>exact P' (show false=true from hs) Zl'
 |byt i =>
  obtain⟨t,rfl⟩:=rx;cases y with
  |byt j=>obtain⟨t',rfl⟩:=ry;exact PySem.W.eq_bytes (cG I q ac5)
  |_=>exact P' (show false=true from hs) Zl'
 |_=>cases y <;> exact P' (show false=true from hs) Zl'
theorem wd:xt X (compareOp .NotEq) rNe:=by
 intro pins s σ H x y v u Q I rx ry h;obtain⟨hs,q⟩:=h;cases x with
 |non =>
  cases rx;cases y with
  |non=>cases ry;exact PySem.EqNone.ne_none_none (cG I q (by simp))
  |bl j=>cases ry;exact PySem.EqNone.ne_none_bool (cG I q (by simp))
  |int j=>obtain⟨t',rfl⟩:=ry;exact PySem.EqNone.ne_none_int (cG I q (by simp))
  |str j=>obtain⟨t',rfl⟩:=ry;exact PySem.EqNone.ne_none_str (cG I q (by simp))
  |_=>exact P' (show false=true from hs) Zl'
 |bl i =>
  cases rx;cases y with
  |non=>cases ry;exact PySem.EqNone.ne_bool_none (cG I q (by simp))
  |bl j=>cases ry;exact ne_bool (cG I q (R' not agg))
  |str j=>obtain⟨t',rfl⟩:=ry;exact PySem.EqMixed.ne_bool_str (cG I q (by simp))
  |_=>exact P' (show false=true from hs) Zl'
 |int i =>
  obtain⟨t,rfl⟩:=rx;cases y with
  |non=>cases ry;exact PySem.EqNone.ne_int_none (cG I q (by simp))
  |int j=>obtain⟨t',rfl⟩:=ry;exact ne_int (cG I q (R' not ac3))
  |str j=>obtain⟨t',rfl⟩:=ry;exact PySem.EqMixed.ne_int_str (cG I q (by simp))
  |_=>exact P' (show false=true from hs) Zl'
 |str i =>
  obtain⟨t,rfl⟩:=rx;cases y with
  |non=>cases ry;exact PySem.EqNone.ne_str_none (cG I q (by simp))
  |bl j=>cases ry;exact PySem.EqMixed.ne_str_bool (cG I q (by simp))
  |int j=>obtain⟨t',rfl⟩:=ry;exact PySem.EqMixed.ne_str_int (cG I q (by simp))
  |str j=>obtain⟨t',rfl⟩:=ry;exact ne_str (cG I q (R' not ac4))
  |_=>exact P' (show false=true from hs) Zl'
 |byt i =>
  obtain⟨t,rfl⟩:=rx;cases y with
  |byt j=>obtain⟨t',rfl⟩:=ry;exact PySem.W.ne_bytes (cG I q (R' not ac5))
  |_=>exact P' (show false=true from hs) Zl'
 |_=>cases y <;> exact P' (show false=true from hs) Zl'
theorem rE:xt X (compareOp .Lt) (rI0 fun i j=>.bl (decide (i<j))):=ai0 fun _ _ _ _ _ _ _ q=>lt_int q
theorem we:xt X (compareOp .LtE) (rI0 fun i j=>.bl (decide (i<=j))):=ai0 fun _ _ _ _ _ _ _ q=>le_int q
theorem ac6:xt X (compareOp .Gt) (rI0 fun i j=>.bl (decide (j<i))):=ai0 fun _ _ _ _ _ _ _ q=>gt_int q
theorem ac7:xt X (compareOp .GtE) (rI0 fun i j=>.bl (decide (j<=i))):=ai0 fun _ _ _ _ _ _ _ q=>ge_int q
theorem cV:xt X (compareOp .In) (fun x y H Q=>∃ i j,x=.str i/\y=.str j/\Q (.bl (!(Builtin.Str.occurrences j i 0 j.length 1).isEmpty)) H):=by
 intro pins s σ H x y v u Q I rx ry h;obtain⟨i,j,rfl,rfl,q⟩:=h;obtain⟨t,rfl⟩:=rx;obtain⟨t',rfl⟩:=ry;exact in_str (cG I q rfl)
theorem Tr:xt X (compareOp .Is) (fun x y H Q=>y=.non/\Q (.bl (decide (x=.non))) H):=by
 intro pins s σ H x y v u Q I rx ry h;obtain⟨rfl,q⟩:=h;cases ry;refine is_none_gen (cG I q ?_);cases x <;> first
  |(cases rx;rfl)
  |(obtain⟨t,rfl⟩:=rx;rfl)
theorem Ts:xt X (compareOp .IsNot) (fun x y H Q=>y=.non/\Q (.bl (!decide (x=.non))) H):=by
 intro pins s σ H x y v u Q I rx ry h;obtain⟨rfl,q⟩:=h;cases ry;refine isnot_none_gen (cG I q ?_);cases x <;> first
  |(cases rx;rfl)
  |(obtain⟨t,rfl⟩:=rx;rfl)
theorem xt.or {f:Value->Value->Sem Value}{r r':R2}(h:xt X f r)(h':xt X f r'):xt X f (fun x y H Q=>r x y H Q\/r' x y H Q):=by
 intro pins s σ H x y v u Q I rx ry q;rcases q with q|q
 ·exact h pins s σ H x y v u Q I rx ry q
 ·exact h' pins s σ H x y v u Q I rx ry q
theorem aA (b:Expr){op:CmpOp}(h:op≠.In:=by decide)(h2:op≠.NotIn:=by decide):behindInMarks op b=false:=by
 have e1:(op==CmpOp.In)=false:=by cases op <;> first|rfl|exact P' rfl h
 have e2:(op==CmpOp.NotIn)=false:=by cases op <;> first|rfl|exact P' rfl h2
 cases b <;> simp[behindInMarks,e1,e2]
theorem b6 {op:CmpOp}{r:R2}(ho:xt X (compareOp op) r)(ha:PE X a ta)(hb:PE X b tb)(hm:behindInMarks op b=false):PE X (.Compare a [op] [b] pos) (tOp r ta tb):=by
 intro pins s σ H Q I h;exact wpAny_Compare1 (alb ha hb I h fun v u s2 x y H2 I2 rx ry q=>ho pins s2 σ H2 x y v u Q I2 rx ry q) hm
inductive agh (Q:(Bool->Hp->Prop))(x:V)(H':Hp):Prop
 |mk (k:_) (eE:x=.bl k) (eF:Q k H'):agh Q x H'
def akn (t:TE):TT:=fun σ H Q=>t σ H fun x H'=>agh Q x H'
theorem au {op:CmpOp}{r:R2}(ho:xt X (compareOp op) r)(ha:PE X a ta)(hb:PE X b tb)(hm:behindInMarks op b=false):PT X (.Compare a [op] [b] pos) (akn (tOp r ta tb)):=by
 intro pins s σ H Q I h;refine wpAny_isTrue_Compare1 (cU (ha pins s σ H _ I h) fun v s1 ⟨x,H1,I1,r1,q1⟩=>cU (hb pins s1 σ H1 _ I1 q1) fun u s2 ⟨y,H2,I2,r2,q2⟩ =>
  cU (ho pins s2 σ H2 x y v u _ I2 r1 r2 q2) fun c s3 ⟨z,H3,I3,r3,k,e,q3⟩=>?_) hm
 subst e;cases r3;exact wpAny_truthy_bool ⟨H3,I3,q3⟩
def agi (r r':R2)(ta tb tc:TE):TE:=fun σ H Q=>ta σ H fun x H1=>tb σ H1 fun y H2=>r x y H2 fun z H3=>∃ k,z=.bl k /\
 (if k=true then tc σ H3 fun w' H4=>r' y w' H4 Q else Q (.bl false) H3)
theorem Xr {op op':CmpOp}{r r':R2}(ho:xt X (compareOp op) r)(ho':xt X (compareOp op') r')(ha:PE X a ta)(hb:PE X b tb)(hc:PE X c tc)
  (hm:lastMarks [op,op'] [b,c]=false:=by with_unfolding_all rfl):PE X (.Compare a [op,op'] [b,c] pos) (agi r r' ta tb tc):=by
 intro pins s σ H Q I h;refine Compare_chain (cU (ha pins s σ H _ I h) fun v s1 ⟨x,H1,I1,r1,q1⟩=>chain_link (cU (hb pins s1 σ H1 _ I1 q1) fun u s2 ⟨y,H2,I2,r2,q2⟩ =>
  cU (ho pins s2 σ H2 x y v u _ I2 r1 r2 q2) fun d s3 ⟨z,H3,I3,r3,k,e,q3⟩=>?_)) hm
 subst e;cases r3;refine wpAny_truthy_bool ?_;cases k with
 |false=>exact ite_ff ⟨.bl false,H3,I3,rfl,q3⟩
 |true=>exact ite_tt (chain_last (cU (hc pins s3 σ H3 _ I3 q3) fun w' s4 ⟨z',H4,I4,r4,q4⟩=>ho' pins s4 σ H4 y z' u w' Q I4 r2 r4 q4))
theorem Fp {op op':CmpOp}{r r':R2}(ho:xt X (compareOp op) r)(ho':xt X (compareOp op') r')(ha:PE X a ta)(hb:PE X b tb)(hc:PE X c tc)
  (hm:lastMarks [op,op'] [b,c]=false:=by with_unfolding_all rfl):PT X (.Compare a [op,op'] [b,c] pos) (akn (agi r r' ta tb tc)):=by
 intro pins s σ H Q I h;refine isTrue_chain (cU (ha pins s σ H _ I h) fun v s1 ⟨x,H1,I1,r1,q1⟩=>test_link (cU (hb pins s1 σ H1 _ I1 q1) fun u s2 ⟨y,H2,I2,r2,q2⟩ =>
  cU (ho pins s2 σ H2 x y v u _ I2 r1 r2 q2) fun d s3 ⟨z,H3,I3,r3,k,e,q3⟩=>?_)) hm
 subst e;cases r3;refine wpAny_truthy_bool ?_;cases k with
 |false =>
  obtain⟨k',e',q'⟩:=q3;cases e';exact ite_ff ⟨H3,I3,q'⟩
 |true =>
  refine ite_tt (test_last (cU (hc pins s3 σ H3 _ I3 q3) fun w' s4 ⟨z',H4,I4,r4,q4⟩=>cU (ho' pins s4 σ H4 y z' u w' _ I4 r2 r4 q4) fun d' s5 ⟨z2,H5,I5,r5,k2,e2,q5⟩=>?_));subst e2;cases r5;exact wpAny_truthy_bool ⟨H5,I5,q5⟩
theorem IJ:(sizeLine:Nat)<2 ^ 63:=by rw[sizeLine_eq];decide
theorem aV:xt X (binaryOp .Add) (fun x y H Q=>∃ i j,x=.str i/\y=.str j/\i.length+j.length<=sizeLine/\Q (.str (i++j)) H):=by
 intro pins s σ H x y v u Q I rx ry h;obtain⟨i,j,rfl,rfl,hz,q⟩:=h;obtain⟨t,rfl⟩:=rx;obtain⟨t',rfl⟩:=ry;exact add_str (fun t' tk=>⟨.str (i++j),H,I.tok _,⟨_,rfl⟩,q⟩) hz
theorem vals1 {x:V}{us:List Value}(r:Vals [x] us):∃ u,us=[u]/\RelV x u:=by
 cases r with
 |cons r1 r2=>cases r2;exact⟨_,rfl,r1⟩
theorem vals2 {x y:V}{us:List Value}(r:Vals [x,y] us):∃ u w',us=[u,w']/\RelV x u/\RelV y w':=by
 cases r with
 |cons r1 r2 =>
  cases r2 with
  |cons r3 r4=>cases r4;exact⟨_,_,rfl,r1,r3⟩
theorem ad2 (hc:X.calm=true):lj X (.builtin "max") (fun xs H Q=>∃ i j,xs=[.int i,.int j]/\Q (.int (if j > i then j else i)) H):=by
 intro pins s σ H xs us Q I r h;obtain⟨i,j,rfl,q⟩:=h;obtain⟨u,w',rfl,⟨t,rfl⟩,⟨t',rfl⟩⟩:=vals2 r;refine max_two_ints (I.ok.hd hc) fun h' tk k=>⟨_,H,I.kept k,?_,q⟩
 by_cases hj:j > i
 ·rw[K' hj,K' hj];exact⟨_,rfl⟩
 ·rw[G' hj,G' hj];exact⟨_,rfl⟩
theorem ad3 (hc:X.calm=true):lj X (.builtin "min") (fun xs H Q=>∃ i j,xs=[.int i,.int j]/\Q (.int (if j<i then j else i)) H):=by
 intro pins s σ H xs us Q I r h;obtain⟨i,j,rfl,q⟩:=h;obtain⟨u,w',rfl,⟨t,rfl⟩,⟨t',rfl⟩⟩:=vals2 r;refine min_two_ints (I.ok.hd hc) fun h' tk k=>⟨_,H,I.kept k,?_,q⟩
 by_cases hj:j<i
 ·rw[K' hj,K' hj];exact⟨_,rfl⟩
 ·rw[G' hj,G' hj];exact⟨_,rfl⟩
theorem wj:lj X (.type "int") (fun xs H Q=>(∃ i,xs=[.int i]/\Q (.int i) H)\/∃ k,xs=[.bl k]/\Q (.int (if k then 1 else 0)) H):=by
 intro pins s σ H xs us Q I r h;rcases h with ⟨i,rfl,q⟩|⟨k,rfl,q⟩
 ·obtain⟨u,rfl,t,rfl⟩:=vals1 r;exact call_int_int ⟨.int i,H,I,⟨_,rfl⟩,q⟩
 ·obtain⟨u,rfl,r1⟩:=vals1 r;cases r1;exact call_int_bool ⟨.int (if k then 1 else 0),H,I.tok _,⟨_,rfl⟩,q⟩
end
end L2
namespace L2
open PySem PySem.Spec PyProof.Rows
structure Zt (h:Heap)(x dx C:Addr)(mA:Str->Option Value):Prop where
 obj:h.get? x=some (instObj C dx)
 ns:h.Ns1 dx mA
 ne:dx≠x
theorem ad4 {h:Heap}{dx:Addr}{mA:Str->Option Value}(n:h.Ns1 dx mA):∃ od,h.get? dx=some od/\∀ name,lookIn name od=some (mA name):=by
 obtain⟨o,es,ep,ho,hd,hk,_,hm⟩:=n;refine⟨o,ho,fun name=>?_⟩;have e:=hm name;unfold nsFind findBy at e;rw[<-Array.find?_toList]at e;unfold lookIn;rw[hd];dsimp only;split
 ·rename_i y q
  rw[q]at e;exact R' some e
 ·rename_i q
  rw[q]at e;have a:es.toList.any (·.refKey)=false:=by
   rw[List.any_eq_false];intro y hy;obtain⟨z,t,hkey⟩:=hk y (Array.mem_toList_iff.mp hy);simp[DictEntry.refKey,hkey]
  have a':¬ es.toList.any (·.refKey)=true:=by rw[a];exact Zl'
  rw[G' a'];exact R' some e
theorem Zt.look {h:Heap}{x dx C:Addr}{mA:Str->Option Value}(I:Zt h x dx C mA):∃ od,PySem.W.InstAt h x (instObj C dx) C (some od)/\∀ name,lookIn name od=some (mA name) :=
 let ⟨od,ho,hl⟩:=ad4 I.ns
 ⟨od,⟨I.obj,rfl,rfl,ho⟩,hl⟩
section
variable {prog:Program} {w:World} {A:Around} {E:Value->Shared->Prop} {s:Shared} {K:Frag} {x dx C f:Addr} {mA:Str->Option Value} {name:Str} {v:Value}
theorem get_map {expr:Bool}{Q:Value->Shared->Prop}(X:K.In s.heap)(I:Zt s.heap x dx C mA)(hg:plainGet K C name=true)(hh:hasDictIn K C=true)
  (ha:findIn K (.ref C) name=some none) (hv:mA name=some v) (hv':handedIn v=true) (h:Q v { s with toks:=s.toks+1 }) :
  wpAny (model prog w) A (getAttr (.ref x) name expr) Q E s:=by
 obtain⟨od,J,hl⟩:=I.look;exact PySem.W.get_value X J (plainGet_of hg).1 (PySem.W.findObj_own hh ha rfl (by rw[hl,hv])) hv' h
theorem agj {pl:Sem Bool}{Q:Value×List Value->Shared->Prop}(X:K.In s.heap)(I:Zt s.heap x dx C mA)(hg:plainGet K C name=true)
  (hf:findIn K (.ref C) name=some (some (.ref f))) (ht:isFn K (.ref f)=true) (hv:mA name=none) (h:Q (.ref f,[.ref x]) s) :
  wpAny (model prog w) A (getMethod (.ref x) name pl) Q E s:=by
 obtain⟨od,J,hl⟩:=I.look;exact PySem.W.method_fn X J (plainGet_of hg).1 (plainGet_of hg).2 hf (beq_iff_eq.mp ht) (by show(lookIn name od).map (·.isSome)=some false;rw[hl,hv];rfl) h
theorem qc {ns:List Str}{Q:Unit->Shared->Prop}(X:K.In s.heap)(I:Zt s.heap x dx C mA)
  (hs:findIn K (.ref C) "__setattr__"=some (some (.builtin "object.__setattr__"))) (hp:plainOver K C=true) (ht:takerIn K C name=some none) (hh:hasDictIn K C=true)
  (hw:PySem.Within mA ns) (hsz:ns.length<=sizeLine)
  (h:∀ h',Zt h' x dx C (fun y=>if y=name then some v else mA y)->Heap.SameBut dx s.heap h'->Q () { s with heap:=h',toks:=s.toks+2 }) :
  wpAny (model prog w) A (setAttr (.ref x) name v) Q E s:=by
 obtain⟨od,J,hl⟩:=I.look;refine PySem.W.set_plain X J hs (PySem.W.osa_open (s:={ s with toks:=s.toks+1 }) (r:=none) X J hp ht fun b=>?_);obtain⟨cd,hc,hd'⟩:=PySem.W.any_some hh;have hx:s.heap.get? x=some ⟨.ref C,some dx,.plain,#[]⟩:=I.obj;refine L' (N' (L' (L' (wpAny_loadPart hx (L' (PySem.W.Looks.here (s:={ s with toks:=s.toks+1 }) (PySem.W.looks_clsIn X hc) ?_))))));rw[hd'];refine N' (a:=some dx) (L' (N' (L' ?_)));refine wpAny_nsSet1 (s:={ s with toks:=s.toks+1 }) I.ns fun h' hn2 hs2=>?_;obtain⟨oD,esD,epD,hoD,hdD,hcD⟩:=hn2.count (PySem.Within.cons name v hw);refine L' (wpAny_lookBehind hoD (by rw[hdD];exact pastItsLine_dict (Zh' hcD (by rw[Zp'];omega))) ?_);exact N' (h _ ⟨(hs2.2 _ (Yb' I.ne)).trans I.obj,hn2,I.ne⟩ hs2)
theorem agk {R:Result->Shared->Prop}{vs:List Value}{kw:List (Str×Value)}(X:K.In s.heap)(hm:makesIn K C=true)
  (hi:findIn K (.ref C) "__init__"=some (some (.ref f))) (hf:PySem.W.typeIn K (.ref f)=some (.type "function"))
  (h:codeAny (model prog w) (A.under (.builtin "type.__call__" ⟨.ref C::vs,kw⟩)) (.call (.ref f) ⟨.ref (s.heap.objs.size+1)::vs,kw⟩) (PySem.W.InitBack (s.heap.objs.size+1) R)
   { s with heap:=(s.heap.push emptyDict).push (instObj C s.heap.objs.size) }) :
  codeAny (model prog w) A (.call (.ref C) ⟨vs,kw⟩) R s:=by
 obtain⟨hh,g,d,t,os⟩:=s;exact PySem.W.make_core (PySem.W.makes_of X hm) (looks_findIn X hi) (fun self=>PySem.W.bind_fn X self hf) (.inl rfl) h
end
def oC (f:Str)(v:V):List (Str×V)->List (Str×V)
 |[]=>[(f,v)]
 |(g,x)::r=>if g=f then(g,v)::r else(g,x)::oC f v r
theorem Mw (f g:Str)(v:V):∀ fs:List (Str×V),(oC f v fs).lookup g=if g=f then some v else fs.lookup g
 |[]=>by
  show List.lookup g [(f,v)]=_
  by_cases h:g=f
  ·have hb:(g==f)=true:=beq_iff_eq.mpr h;simp only [List.lookup,hb,K' h]
  ·have hb:(g==f)=false:=beq_eq_false_iff_ne.mpr h;simp only [List.lookup,hb,G' h]
 |(k,x)::r=>by
  have ih:=Mw f g v r;rw[show oC f v ((k,x)::r)=(if k=f then(k,v)::r else(k,x)::oC f v r) from rfl]
  by_cases hk:k=f
  ·rw[K' hk]
   by_cases h:g=k
   ·have hb:(g==k)=true:=beq_iff_eq.mpr h;simp only [List.lookup,hb,K' (h.trans hk)]
   ·have hb:(g==k)=false:=beq_eq_false_iff_ne.mpr h;simp only [List.lookup,hb,G' (fun e:g=f=>h (e.trans hk.symm))]
  ·rw[G' hk]
   by_cases h:g=k
   ·have hb:(g==k)=true:=beq_iff_eq.mpr h;simp only [List.lookup,hb,G' (fun e:g=f=>hk (h.symm.trans e))]
   ·have hb:(g==k)=false:=beq_eq_false_iff_ne.mpr h;simp only [List.lookup,hb];exact ih
theorem IK (f:Str)(v:V):∀ fs:List (Str×V),f∈(oC f v fs).map (·.1)/\∀ g,g∈fs.map (·.1)->g∈(oC f v fs).map (·.1)
 |[]=>⟨by simp[oC],fun g h=>by simp at h⟩
 |(k,x)::r=>by
  obtain⟨i1,i2⟩:=IK f v r;rw[show oC f v ((k,x)::r)=(if k=f then(k,v)::r else(k,x)::oC f v r) from rfl]
  by_cases hk:k=f
  ·rw[K' hk];subst hk;exact⟨by simp,fun g h=>by simpa using h⟩
  ·rw[G' hk];refine⟨?_,fun g h=>?_⟩
   ·rw[map_cons];exact mem_cons_of_mem _ i1
   ·rw[map_cons]at h ⊢;rcases List.mem_cons.mp h with e|e
    ·exact List.mem_cons.mpr (.inl e)
    ·exact mem_cons_of_mem _ (i2 g e)
theorem Mx (f:Str)(v:V):∀ fs:List (Str×V),(oC f v fs).length<=fs.length+1
 |[]=>by simp[oC]
 |(k,x)::r=>by
  have ih:=Mx f v r;rw[show oC f v ((k,x)::r)=(if k=f then(k,v)::r else(k,x)::oC f v r) from rfl]
  by_cases hk:k=f
  ·rw[K' hk,Zp',Zp'];omega
  ·rw[G' hk,Zp',Zp'];omega
theorem qE.some_of {v:V}{o:Option Value}(r:qE (some v) o):∃ u,o=some u/\RelV v u:=by
 cases o with
 |none=>exact(show False from r).elim
 |some u=>exact⟨u,rfl,r⟩
theorem qE.none_of {o:Option Value}(r:qE none o):o=none:=by
 cases o with
 |none=>rfl
 |some u=>exact(show False from r).elim
theorem ad5 {v:V}{u:Value}(r:RelV v u):handedIn u=true:=by
 cases v with
 |non=>cases (show u=Value.none from r);rfl
 |bl b=>cases (show u=Value.bool b from r);rfl
 |int i=>obtain⟨t,e⟩:=(show ∃ t,u=Value.int i t from r);cases e;rfl
 |str x=>obtain⟨t,e⟩:=(show ∃ t,u=Value.str x t from r);cases e;rfl
 |byt b=>obtain⟨t,e⟩:=(show ∃ t,u=Value.bytes b t from r);cases e;rfl
 |flt b=>obtain⟨t,e⟩:=(show ∃ t,u=Value.float b t from r);cases e;rfl
 |ref a=>cases (show u=Value.ref a from r);rfl
 |ty n=>cases (show u=Value.type n from r);rfl
section
variable {P:Program} {w:World} {H H':Hp} {h h':Heap} {a C dx:Addr} {fs fs':List (Str×V)}
theorem NS (hok:zx P w H h)(e:H a=some (.ins C dx fs)):∃ mA,Zt h a dx C mA/\(∀ f,qE (fs.lookup f) (mA f))/\PySem.Within mA (fs.map (·.1))/\fs.length<=1000/\H dx=some (.own a):=by
 obtain⟨d,z,ne,ob,mA,n,r,q⟩:=(show fu P w H h a (.ins C dx fs) from hok a _ e);exact⟨mA,⟨ob,n,ne⟩,r,q,z,d⟩
end
structure Zu (K:Frag)(C:Addr):Prop where
 pg:plainGet K C Str.empty=true
 hd:hasDictIn K C=true
 po:plainOver K C=true
 sa:findIn K (.ref C) "__setattr__"=some (some (.builtin "object.__setattr__"))
theorem Zu.get {K:Frag}{C:Addr}(c:Zu K C)(f:Str):plainGet K C f=true:=c.pg
def lp (K:Frag)(C:Addr)(f:Str):Prop:=findIn K (.ref C) f=some none
theorem lp.taker {K:Frag}{C:Addr}{f:Str}(n:lp K C f):takerIn K C f=some none:=by
 unfold takerIn;rw[show findIn K (.ref C) f=some none from n];rfl
structure Con (K:Frag)(C:Addr)(f:Str)(v:V)(u:Value):Prop where
 at_:findIn K (.ref C) f=some (some u)
 rel:RelV v u
 get:specialIn K u "__get__"=some none
 cp:PySem.W.copiedNames.contains f=false
structure Meth (K:Frag)(C:Addr)(m:Str)(f:Addr):Prop where
 at_:findIn K (.ref C) m=some (some (.ref f))
 fn:isFn K (.ref f)=true
 kp:keepIn K (.ref f)=true
section
variable {X:Cx} {pins:List (Addr×Obj)} {σ:St} {H:Hp} {s:Shared} {a C dx:Addr} {fs:List (Str×V)} {f:Str} {v:V} {A:Around} {E:Value->Shared->Prop}
theorem Zv {b:Bool}{Q:Value->Shared->Prop}(I:Inv X pins σ H s)(e:H a=some (.ins C dx fs))(c:Zu X.K C)(n:lp X.K C f)(l:fs.lookup f=some v)
  (h:∀ u s',Inv X pins σ H s'->RelV v u->Q u s'):wpAny (model X.prog X.w) A (getAttr (.ref a) f b) Q E s:=by
 obtain⟨mA,O,r,_,_,_⟩:=NS I.hok e;obtain⟨u,hu,ru⟩:=qE.some_of (v:=v) (o:=mA f) (by rw[<-l];exact r f);exact get_map I.xr O (c.get f) c.hd n hu (ad5 ru) (h u _ (I.tok _) ru)
theorem xA {m:Str}{g:Addr}{pl:Sem Bool}{Q:Value×List Value->Shared->Prop}(I:Inv X pins σ H s)(e:H a=some (.ins C dx fs))(c:Zu X.K C)(k:Meth X.K C m g)(l:fs.lookup m=none)
  (h:Q (.ref g,[.ref a]) s):wpAny (model X.prog X.w) A (getMethod (.ref a) m pl) Q E s:=by
 obtain⟨mA,O,r,_,_,_⟩:=NS I.hok e;have hn:mA m=none:=qE.none_of (by rw[<-l];exact r m);exact agj I.xr O (c.get m) k.at_ k.fn hn h
theorem Zw {y:V}{u:Value}{Q:Unit->Shared->Prop}(I:Inv X pins σ H s)(e:H a=some (.ins C dx fs))(c:Zu X.K C)(n:lp X.K C f)(hl:fs.length<1000)(ry:RelV y u)
  (h:∀ s',Inv X pins σ (upd H a (.ins C dx (oC f y fs))) s'->Q () s'):wpAny (model X.prog X.w) A (setAttr (.ref a) f u) Q E s:=by
 obtain⟨mA,O,r,wi,_,ho⟩:=NS I.hok e;have hz:(fs.map (·.1)).length<=sizeLine:=by rw[j',sizeLine_eq];omega
 refine qc I.xr O c.sa c.po n.taker c.hd wi hz fun h' O' sb=>h _ ?_;have hd:∃ o,h'.get? dx=some o:=let ⟨o,_,_,e',_⟩:=O'.ns;⟨o,e'⟩;refine I.write (x:=a) (e:=dx) (by rw[e];exact True.intro) (.inr ho) (fun b q hb z=>(sb.2 b hb).trans z) hd ?_;refine⟨by rw[ak O.ne];exact ho,?_,O.ne,O'.obj,_,O'.ns,fun g=>?_,fun g hg=>?_⟩
 ·have:=Mx f y fs;omega
 ·show qE ((oC f y fs).lookup g) (if g=f then some u else mA g);rw[Mw]
  by_cases q:g=f
  ·rw[K' q,K' q];exact ry
  ·rw[G' q,G' q];exact r g
 ·by_cases q:g=f
  ·rw[q];exact(IK f y fs).1
  ·refine(IK f y fs).2 g (wi g fun z=>hg ?_);show(if g=f then some u else mA g)=none;rw[G' q];exact z
theorem Inv.made (I:Inv X pins σ H s):Inv X pins σ (upd (upd H s.heap.objs.size (.own (s.heap.objs.size+1))) (s.heap.objs.size+1) (.ins C s.heap.objs.size []))
  { s with heap:=(s.heap.push emptyDict).push (instObj C s.heap.objs.size) }:=by
 have e1:(s.heap.push emptyDict).get? s.heap.objs.size=some emptyDict:=Zo' s.heap rfl;have e2:((s.heap.push emptyDict).push (instObj C s.heap.objs.size)).get? (s.heap.objs.size+1)=some (instObj C s.heap.objs.size):=by
  have:=Zo' (s.heap.push emptyDict) (o:=instObj C s.heap.objs.size) rfl
  rwa [Heap.size_push]at this
 have e3:(s.heap.push emptyDict).Ns s.heap.objs.size (fun _=>none):=⟨emptyDict,#[],_,e1,rfl,(fun e he=>P' he (by simp)),fun _=>rfl⟩;have I1:=I.laid (a:=s.heap.objs.size) (o:=.own (s.heap.objs.size+1)) (h':=s.heap.push emptyDict) (t':=s.toks) (fun b u q=>V' _ q) (Zi' _) ⟨_,e1⟩;refine I1.laid (a:=s.heap.objs.size+1) (o:=.ins C s.heap.objs.size []) (t':=s.toks) (fun b u q=>V' _ q) (Nat.le_of_eq (Heap.size_push _ _)) ?_;have ne:s.heap.objs.size≠s.heap.objs.size+1:=Zn' (Nat.lt_succ_self _);refine⟨by rw[ak ne,ah],Zj' _,ne,e2,fun _=>none,(Heap.Ns1.of_empty e3).at fun o q=>V' _ q,fun _=>True.intro,fun y hy=>P' rfl hy⟩
theorem ai1 {prog:Program}{w:World}{env:Env}{e:Expr}{f:Str}{pos:Pos}{s:Shared}{Q:Value->Shared->Prop}(hb:attributeBase e f env (eval e env)=eval e env)
  (h:wpAny (model prog w) A (eval e env) (fun o s₁=>wpAny (model prog w) A (getAttr o f true) Q E s₁) E s):wpAny (model prog w) A (eval (.Attribute e f pos) env) Q E s :=
 Attribute_any_ h (by rw[arm_eval_Attribute,hb])
end
inductive ako (K:Frag)(f:Str)(Q:VK)(x:V)(H1:Hp):Prop
 |mk (a:_) (C:_) (dx:_) (fs:_) (v:_) (eE:x=.ref a) (eF:H1 a=some (.ins C dx fs)) (h8:Zu K C) (lh:lp K C f) (rJ:fs.lookup f=some v) (Rg:Q v H1):ako K f Q x H1
def apx (K:Frag)(ta:TE)(f:Str):TE:=fun σ H Q=>ta σ H fun x H1=>ako K f Q x H1
inductive akp (K:Frag)(f:Str)(D:Ends)(σ:St)(y:V)(x:V)(H2:Hp):Prop
 |mk (a:_) (C:_) (dx:_) (fs:_) (eE:x=.ref a) (eF:H2 a=some (.ins C dx fs)) (h8:Zu K C) (lh:lp K C f) (rJ:fs.length<1000) (Rg:D.nx σ (upd H2 a (.ins C dx (oC f y fs)))):akp K f D σ y x H2
def apy (K:Frag)(ta tv:TE)(f:Str):TS:=fun D σ H=>tv σ H fun y H1=>ta σ H1 fun x H2=>akp K f D σ y x H2
section
variable {X:Cx} {o e value:Expr} {f:Str} {pos pos' tpos:Pos} {ta tv:TE}
theorem cv (he:PE X e ta)(hb:attributeBase e f X.env (eval e X.env)=eval e X.env):PE X (.Attribute e f pos) (apx X.K ta f):=by
 intro pins s σ H Q I h;refine ai1 hb (cU (he pins s σ H _ I h) fun u s1 ⟨x,H1,I1,rx,a,C,dx,fs,v,ex,ea,c,n,l,q⟩=>?_);subst ex;obtain rfl:u=Value.ref a:=rx;exact Zv I1 ea c n l fun u' s2 I2 ru=>⟨v,H1,I2,ru,q⟩
theorem vI (ha:PE X o ta)(hv:PE X value tv)(hs:swapsWith value (some (.Attribute o f pos')) pos.line X.env=pure false):PS X (.Assign [.Attribute o f pos'] value pos) (apy X.K ta tv f):=by
 intro pins s σ H D I h;refine plainObj_wpAny_Assign_Attribute (cU (hv pins s σ H _ I h) fun u s1 ⟨y,H1,I1,ry,q⟩=>cU (ha pins s1 σ H1 _ I1 q) fun ov s2 ⟨x,H2,I2,rx,a,C,dx,fs,ex,ea,c,n,l,q2⟩=>?_) hs;subst ex;obtain rfl:ov=Value.ref a:=rx;exact Zw I2 ea c n l ry fun s3 I3=>⟨σ,_,I3,q2⟩
end
section
variable {X:Cx} {pins:List (Addr×Obj)} {σ:St} {H:Hp} {s:Shared} {A:Around} {E:Value->Shared->Prop} {Q:Value->Shared->Prop} {c:Value} {b:Bool}
inductive jq (K:Frag)(H:Hp):V->Value->Prop where
 |non:jq K H .non (.type "NoneType")
 |bl (x:Bool):jq K H (.bl x) (.type "bool")
 |int (i:Int):jq K H (.int i) (.type "int")
 |str (x:Str):jq K H (.str x) (.type "str")
 |flt (x:UInt64):jq K H (.flt x) (.type "float")
 |lst {a:Addr} {xs:List V} (e:H a=some (.lst xs)):jq K H (.ref a) (.type "list")
 |Zo {a:Addr} {o:Obj} {xs:List V} (e:H a=some (.Zo o (.lst xs))):jq K H (.ref a) (.type "list")
 |tup {a:Addr} {xs:List V} (e:H a=some (.tup xs)):jq K H (.ref a) (.type "tuple")
 |dK {a:Addr} {kvs:List (Key×V)} (e:H a=some (.dK kvs)):jq K H (.ref a) (.type "dict")
 |dT {a:Addr} {kvs:List (List Key×V)} (e:H a=some (.dT kvs)):jq K H (.ref a) (.type "dict")
 |ins {a C dx:Addr} {fs:List (Str×V)} (e:H a=some (.ins C dx fs)) (cl:Zu K C) (ha:findIn K (.ref C) "__class__"=some (some (.builtin "object.__class__")))
   (hn:specialIn K (.builtin "object.__class__") "__get__"=some (some (.builtin "getset_descriptor.__get__"))) (htk:PySem.W.takesIn K (.builtin "object.__class__")=some true)
   (hm:mroIn K C (.type "object")=some true):jq K H (.ref a) (.ref C)
theorem ad6 {x:V}{u t:Value}(I:Inv X pins σ H s)(rx:RelV x u)(ty:jq X.K H x t)(e:kitOne X.K t c=some b)(h:∀ tk,Q (.bool b) { s with toks:=tk }) :
  wpAny (model X.prog X.w) A (call (.builtin "isinstance") [u,c]) Q E s:=by
 cases ty with
 |non=>cases (show u=Value.none from rx);exact kia_one PySem.W.kitx_none I.xr True.intro e (fun z=>nomatch z) h
 |bl y=>cases (show u=Value.bool y from rx);exact kia_one PySem.W.kitx_bool I.xr True.intro e (fun z=>nomatch z) h
 |int i=>obtain⟨t,q⟩:=(show ∃ t,u=Value.int i t from rx);cases q;exact kia_one PySem.W.kitx_int I.xr True.intro e (fun z=>nomatch z) h
 |str y=>obtain⟨t,q⟩:=(show ∃ t,u=Value.str y t from rx);cases q;exact kia_one PySem.W.kitx_str I.xr True.intro e (fun z=>nomatch z) h
 |flt y=>obtain⟨t,q⟩:=(show ∃ t,u=Value.float y t from rx);cases q;exact kia_one PySem.W.kitx_float I.xr True.intro e (fun z=>nomatch z) h
 | @lst a xs ea =>
  cases (show u=Value.ref a from rx);obtain⟨_,_,n,_,h1⟩:=(show fu X.prog X.w H s.heap a (.lst xs) from I.hok a _ ea);exact kia_one kitx_list I.xr ⟨_,h1,rfl⟩ e (fun z=>nomatch z) h
 | @Zo a ob xs ea =>
  cases (show u=Value.ref a from rx);obtain⟨_,_,_,n,_,h1⟩:=(show fu X.prog X.w H s.heap a (.Zo ob (.lst xs)) from I.hok a _ ea);exact kia_one kitx_list I.xr ⟨_,h1,rfl⟩ e (fun z=>nomatch z) h
 | @tup a xs ea =>
  cases (show u=Value.ref a from rx);obtain⟨_,_,_,p⟩:=(show fu X.prog X.w H s.heap a (.tup xs) from I.hok a _ ea);obtain⟨o,h1,h2,_⟩:=p;exact kia_one PySem.W.kitx_tuple I.xr ⟨o,h1,h2⟩ e (fun z=>nomatch z) h
 | @dK a kvs ea =>
  cases (show u=Value.ref a from rx);obtain⟨_,_,vs,_,p⟩:=(show fu X.prog X.w H s.heap a (.dK kvs) from I.hok a _ ea);obtain⟨o,es,ep,h1,h2,_⟩:=p;exact kia_one kitx_dict I.xr ⟨o,h1,h2.1⟩ e (fun z=>nomatch z) h
 | @dT a kvs ea =>
  cases (show u=Value.ref a from rx);obtain⟨_,_,xs,_,o,es,ep,h1,h2,_⟩:=(show fu X.prog X.w H s.heap a (.dT kvs) from I.hok a _ ea);exact kia_one kitx_dict I.xr ⟨o,h1,h2.1⟩ e (fun z=>nomatch z) h
 | @ins a C dx fs ea cl ha hn htk hm =>
  cases (show u=Value.ref a from rx);obtain⟨mA,O,_⟩:=NS I.hok ea;obtain⟨od,J,_⟩:=O.look;exact kia_one (PySem.W.kitx_own (cl.get _) cl.hd ha hn htk hm) I.xr J e (fun z=>nomatch z) h
end
end L2
namespace L2
open PySem PySem.Spec PyProof.Rows
structure kI (k:Nat)(A:Around):Prop where
 hd:A.handled=none
 dp:A.depth+3 * k+5<recursionLimit
 un:A.units+16 * k+200<cLine
theorem kI.mono {j k:Nat}{A:Around}(r:kI k A)(h:j<=k):kI j A:=⟨r.hd,by have:=r.dp;omega,by have:=r.un;omega⟩
theorem kI.deeper {k:Nat}{A:Around}(r:kI (k+1) A)(env:Env):kI k (A.deeper env) :=
 ⟨r.hd,by have:=r.dp;show A.depth+1+3 * k+5<_;omega,by have:=r.un;show A.units+3+16 * k+200<_;omega⟩
theorem Zx {A:Around}{C:Addr}{us:List Value}{kw:List (Str×Value)}:(A.under (.builtin "type.__call__" ⟨.ref C::us,kw⟩)).depth=A.depth+1:=by
 first|rfl|simp[Around.under,Code.weight,Code.isCreation,Code.isGuard,Code.isCaller,Code.frames,Code.isFrame,guardIds]
theorem Zy {A:Around}{C:Addr}{us:List Value}{kw:List (Str×Value)}:(A.under (.builtin "type.__call__" ⟨.ref C::us,kw⟩)).units=A.units+1:=by
 first|rfl|simp[Around.under,Code.cUnits,Code.frames,Code.isFrame]
theorem kI.make {k:Nat}{A:Around}(r:kI (k+1) A)(C:Addr)(us:List Value)(kw:List (Str×Value)):kI k (A.under (.builtin "type.__call__" ⟨.ref C::us,kw⟩)) :=
 ⟨r.hd,by have:=r.dp;rw[Zx];omega,by have:=r.un;rw[Zy];omega⟩
theorem kI.depth {k:Nat}{A:Around}(r:kI k A):A.depth<recursionLimit:=by have:=r.dp;omega
theorem kI.units {k:Nat}{A:Around}(r:kI k A):A.units+64<cLine:=by have:=r.un;omega
def bD:TA:=fun _ H Q=>Q [] H
def av (ta:TE)(tr:TA):TA:=fun σ H Q=>ta σ H fun x H1=>tr σ H1 fun xs H2=>Q (x::xs) H2
section
variable {X:Cx} {e:Expr} {es:List Expr} {te:TE} {t:TA} {pos:Pos}
theorem ag:PA X [] bD:=fun _ _ _ _ H Q I h=>Calls.spliced_nil ⟨[],H,I,.nil,h⟩
theorem aa (ha:PE X e te)(hr:PA X es t)(hs:starEach (e::es) X.env=(false,eval e X.env)::starEach es X.env:=by rfl):PA X (e::es) (av te t):=by
 intro pos pins s σ H Q I h;rw[hs];show wpAny _ _ (spliced ((false,eval e X.env)::backTo pos (starEach es X.env))) _ _ s;refine Calls.spliced_cons (cU (ha pins s σ H _ I h) fun u s1 ⟨x,H1,I1,r1,q1⟩=>?_);exact cU (hr pos pins s1 σ H1 _ I1 q1) fun us s2 ⟨xs,H2,I2,r2,q2⟩=>⟨x::xs,H2,I2,.cons r1 r2,q2⟩
def dz (t:TA):TE:=fun σ H Q=>t σ H fun xs H1=>xs.length<=sizeLine/\∀ p,H1 p=none->Q (.ref p) (upd H1 p (.tup xs))
def uk (t:TA):TE:=fun σ H Q=>t σ H fun xs H1=>xs.length<=sizeLine/\∀ p,H1 p=none->Q (.ref p) (upd H1 p (.lst xs))
theorem cw {x1}(h:PA X es t):PE X (.Tuple es x1 pos) (dz t):=by
 intro pins s σ H Q I hq;refine wpAny_Tuple_spliced (cU (h pos pins s σ H _ I hq) fun us s1 ⟨xs,H1,I1,r,z,q⟩=>⟨by rw[<-r.length];exact z,?_⟩);have hf:H1 s1.heap.objs.size=none:=I1.hok.fresh (Zi' _);refine⟨.ref s1.heap.objs.size,upd H1 s1.heap.objs.size (.tup xs),I1.laid (t':=s1.toks) (fun b u e=>V' _ e) (Zi' _) ?_,rfl,q _ hf⟩;exact⟨z,us,r,⟨_,Zo' _ rfl,rfl,_,rfl⟩⟩
theorem bN (h:PA X es t):PE X (.List es pos) (uk t):=by
 intro pins s σ H Q I hq;refine wpAny_List_spliced (cU (h pos pins s σ H _ I hq) fun us s1 ⟨xs,H1,I1,r,z,q⟩=>⟨by rw[<-r.length];exact z,?_⟩);have hf:H1 s1.heap.objs.size=none:=I1.hok.fresh (Zi' _);refine⟨.ref s1.heap.objs.size,upd H1 s1.heap.objs.size (.lst xs),I1.laid (t':=s1.toks) (fun b u e=>V' _ e) (Zi' _) ?_,rfl,q _ hf⟩;exact⟨z,us,0,r,Zo' _ rfl⟩
end
abbrev Sp:=List V->Hp->VK->XK->Prop
abbrev CXT:=List Env->Hp->Shared->XK->Value->Shared->Prop
structure Zz (P:Program)(w:World)(K:Frag)(mg:Str->Option Value)(base:Heap)(A:Around)(outer:List Env)(s:Shared)(H:Hp):Prop where
 frames:A.frames=some outer
 mod:Mod K mg base
 bs:∀ b o,base.get? b=some o->s.heap.get? b=some o/\H b=none
 bsz:base.objs.size<=s.heap.objs.size
 Fo:s.heap.FunFrames base outer
 frf:∀ b∈frs outer,H b=none
 hok:zx P w H s.heap
 bare:AllBare s.gens
def CE (outer:List Env)(P:Program)(w:World)(H:Hp)(s:Shared)(Q:VK)(u:Value)(s':Shared):Prop :=
 ∃ v H',s'.os=s.os/\AllBare s'.gens/\Un (frs outer) [] H H' s.heap s'.heap/\zx P w H' s'.heap/\RelV v u/\Q v H'
def CR (CX:CXT)(outer:List Env)(P:Program)(w:World)(H:Hp)(s:Shared)(Q:VK)(E:XK)(r:Result)(s':Shared):Prop :=
 match r with
 |.ok (.ret u)=>CE outer P w H s Q u s'
 |.ok _=>False
 |.error e=>CX outer H s E e s'
structure bI (P:Program)(w:World)(K:Frag)(mg:Str->Option Value)(base:Heap)(CX:CXT)(k:Nat)(f:Addr)(fd:FuncData)(ps:List Str)(sp:Sp):Prop where
 len:∀ vs H Q E,sp vs H Q E->vs.length=ps.length
 run:∀(A:Around)(outer:List Env)(s:Shared)(H:Hp)(args:Args)(us:List Value)(vs:List V)(Q:VK)(E:XK),kI k A->Zz P w K mg base A outer s H->BindsTo s fd args (ps.zip us)->Vals vs us->sp vs H Q E ->
  codeAny (model P w) A (.call (.ref f) args) (CR CX outer P w H s Q E) s
theorem Zz.make {P:Program}{w:World}{K:Frag}{mg:Str->Option Value}{base:Heap}{A:Around}{outer:List Env}{s:Shared}{H:Hp}(e:Zz P w K mg base A outer s H)(C:Addr)(us:List Value)(kw:List (Str×Value)) :
  Zz P w K mg base (A.under (.builtin "type.__call__" ⟨.ref C::us,kw⟩)) outer s H:=⟨by first|exact e.frames|(simpa [Around.under,Code.envs,Code.isFrame,pushEnvs] using e.frames),e.mod,e.bs,e.bsz,e.Fo,e.frf,e.hok,e.bare⟩
section
variable {X:Cx} {pins:List (Addr×Obj)} {σ:St} {H:Hp} {s s':Shared}
theorem Inv.env0 (I:Inv X pins σ H s):Zz X.prog X.w X.K X.mg X.base X.A X.stack s H :=
 ⟨I.ok.frames,I.ok.mod,I.bs,Zh' I.ok.bsz I.sz,I.stack,I.To,I.hok,I.bare⟩
theorem Inv.after {Q:VK}{u:Value}(I:Inv X pins σ H s)(h:CE X.stack X.prog X.w H s Q u s'):EP X pins σ Q u s':=by
 obtain⟨v,H',os,bare,un,hok,r,q⟩:=h;obtain⟨hh,g,d,t,os'⟩:=s';obtain rfl:os'=s.os:=os;exact⟨v,H',I.call (h':=hh) (g':=g) (d':=d) (t':=t) (ch:=[]) un hok bare (fun b z=>P' z (by simp)),r,q⟩
end
def am9 (sp:Sp)(um:List V)(E:XK)(t:TA):TE:=fun σ H Q=>t σ H fun vs H1=>sp (vs++um) H1 Q E
inductive agl (C:Addr)(m:Str)(sp:Sp)(um:List V)(E:XK)(t:TA)(σ:St)(Q:VK)(x:V)(H1:Hp):Prop
 |mk (a:_) (dx:_) (fs:_) (eE:x=.ref a) (eF:H1 a=some (.ins C dx fs)) (h8:fs.lookup m=none) (lh:t σ H1 fun vs H2=>sp (x::(vs++um)) H2 Q E):agl C m sp um E t σ Q x H1
def akq (C:Addr)(m:Str)(sp:Sp)(um:List V)(E:XK)(ta:TE)(t:TA):TE:=fun σ H Q=>ta σ H fun x H1=>agl C m sp um E t σ Q x H1
def akr (C:Addr)(sp:Sp)(um:List V)(E:XK)(t:TA):TE:=fun σ H Q=>t σ H fun vs H1=>∀ x dx,H1 x=none->H1 dx=none->dx≠x ->
 sp (.ref x::(vs++um)) (upd (upd H1 dx (.own x)) x (.ins C dx [])) (fun v H2=>v=.non/\Q (.ref x) H2) E
def Binds (K:Frag)(fd:FuncData)(ps:List Str)(ds:List Value):Prop :=
 ∀(s:Shared)(us:List Value),K.In s.heap->(us++ds).length=ps.length->BindsTo s fd ⟨us,[]⟩ (ps.zip (us++ds))
theorem Binds.all {K:Frag}{fd:FuncData}{ps:List Str}(h:∀ us:List Value,us.length=ps.length->bindArgs fd ⟨us,[]⟩=pure (ps.zip us)):Binds K fd ps []:=fun s us _ hl=>by
 rw[append_nil]at hl ⊢;exact .of_eq (h us hl)
def Passes (CX:CXT)(X:Cx)(E:XK):Prop:=∀(pins:List (Addr×Obj)) (σ:St) (H:Hp) (s:Shared) (e:Value) (s':Shared),Inv X pins σ H s->CX X.stack H s E e s'->X.xe e s'
section
variable {X:Cx} {CX:CXT} {k:Nat} {f C:Addr} {fd:FuncData} {ps:List Str} {sp:Sp} {um:List V} {ds:List Value} {E:XK} {x m:Str} {p pos apos:Pos} {e o:Expr} {es:List Expr} {ta:TE} {t:TA}
theorem ZA {pins:List (Addr×Obj)}{σ:St}{H:Hp}{s:Shared}{Q:VK}{us:List Value}{vs:List V}(F:bI X.prog X.w X.K X.mg X.base CX k f fd ps sp)(hr:kI k X.A)(hb:Binds X.K fd ps ds)(hd:Vals um ds)(hx:Passes CX X E)
  (I:Inv X pins σ H s) (r:Vals vs us) (h:sp (vs++um) H Q E):wpAny (model X.prog X.w) X.A (call (.ref f) us) (EP X pins σ Q) X.xe s:=by
 have r2:Vals (vs++um) (us++ds):=r.append hd;have hl:(us++ds).length=ps.length:=by rw[<-r2.length];exact F.len _ _ _ _ h
 refine wpAny_call (codeAny_mono (F.run X.A X.stack s H ⟨us,[]⟩ (us++ds) (vs++um) Q E hr I.env0 (hb s us I.xr hl) r2 h) fun r s' hq=>?_);cases r with
 |error e=>exact hx pins σ H s e s' I hq
 |ok fl =>
  cases fl with
  |ret u=>exact I.after hq
  |next=>exact False.elim hq
  |brk=>exact False.elim hq
  |cont=>exact False.elim hq
theorem aM (F:bI X.prog X.w X.K X.mg X.base CX k f fd ps sp)(hr:kI k X.A)(hg:Gl X x)(hm:X.mg x=some (.ref f))(hk:keepIn X.K (.ref f)=true)(hb:Binds X.K fd ps ds)(hd:Vals um ds)(hx:Passes CX X E)
  (ha:PA X (e::es) t) (hdb:(x==("__debug__":Str))=false:=by decide) (he:starEach (e::es) X.env=(false,eval e X.env)::starEach es X.env:=by rfl) (hpl:(backTo pos (starEach es X.env)).any (·.1)=false:=by rfl) :
  PE X (.Call (.Name x p) (e::es) [] pos) (am9 sp um E t):=by
 intro pins s σ H Q I h;refine wpAny_Call_Name_kw (ur I hg hm ?_ hdb);refine callWith_K (h₀:=X.base) I.ok.mod.kin hk (cU (ha pos pins s σ H _ I h) fun us s1 ⟨vs,H1,I1,r,q⟩=>⟨I1.xr,?_⟩) he hpl;exact ZA F hr hb hd hx I1 r q
theorem lL {pl:Sem Bool}(he:PE X o ta)(c:Zu X.K C)(hm:Meth X.K C m f)(F:bI X.prog X.w X.K X.mg X.base CX k f fd ps sp)(hr:kI k X.A)(hb:Binds X.K fd ps ds)(hd:Vals um ds)(hx:Passes CX X E)(ha:PA X (e::es) t)
  (hst:starEach (e::es) X.env=(false,eval e X.env)::starEach es X.env:=by rfl) (hpl:(backTo pos (starEach es X.env)).any (·.1)=false:=by rfl)
  (ht:eval (.Call (.Attribute o m apos) (e::es) [] pos) X.env=(do
   let ov <-eval o X.env
   standAt apos.atName
   let (f,first) <-holding [ov] (getMethod ov m pl)
   callWith pos f first (backTo pos (starEach (e::es) X.env)) (backToKw pos (keywordEach [] X.env))):=by rfl) :
  PE X (.Call (.Attribute o m apos) (e::es) [] pos) (akq C m sp um E ta t):=by
 intro pins s σ H Q I h;refine methodCall_KW (pl:=pl) (cU (he pins s σ H _ I h) fun u s1 ⟨x,H1,I1,rx,a,dx,fs,ex,ea,l,q⟩=>?_) ht;subst ex;obtain rfl:u=Value.ref a:=rx;refine xA I1 ea c hm l ?_;refine callWith_K (first:=[.ref a]) (h₀:=X.base) I.ok.mod.kin hm.kp (cU (ha pos pins s1 σ H1 _ I1 q) fun us s2 ⟨vs,H2,I2,r,q2⟩=>⟨I2.xr,?_⟩) hst hpl;exact ZA (us:=.ref a::us) (vs:=.ref a::vs) F hr hb hd hx I2 (.cons rfl r) q2
theorem sG {pl:Sem Bool}(he:PE X o ta)(c:Zu X.K C)(hm:Meth X.K C m f)(F:bI X.prog X.w X.K X.mg X.base CX k f fd ps sp)(hr:kI k X.A)(hb:Binds X.K fd ps ds)(hd:Vals um ds)(hx:Passes CX X E)
  (ht:eval (.Call (.Attribute o m apos) [] [] pos) X.env=(do
   let ov <-eval o X.env
   standAt apos.atName
   let (f,first) <-holding [ov] (getMethod ov m pl)
   callWith pos f first (backTo pos (starEach [] X.env)) (backToKw pos (keywordEach [] X.env))):=by rfl) :
  PE X (.Call (.Attribute o m apos) [] [] pos) (akq C m sp um E ta bD):=by
 intro pins s σ H Q I h;refine methodCall_KW (pl:=pl) (cU (he pins s σ H _ I h) fun u s1 ⟨x,H1,I1,rx,a,dx,fs,ex,ea,l,q⟩=>?_) ht;subst ex;obtain rfl:u=Value.ref a:=rx;refine xA I1 ea c hm l ?_;exact callWith_K0 (first:=[.ref a]) I1.xr hm.kp (ZA (us:=[.ref a]) (vs:=[.ref a]) F hr hb hd hx I1 (.cons rfl .nil) q)
structure Mk (K:Frag)(C f:Addr):Prop where
 makes:makesIn K C=true
 init:findIn K (.ref C) "__init__"=some (some (.ref f))
 fn:isFn K (.ref f)=true
 kp:keepIn K (.ref C)=true
theorem Xs {pins:List (Addr×Obj)}{σ:St}{H:Hp}{s:Shared}{Q:VK}{us:List Value}{vs:List V}(M:Mk X.K C f)(F:bI X.prog X.w X.K X.mg X.base CX k f fd ps sp)(hr:kI (k+1) X.A)(hb:Binds X.K fd ps ds)(hd:Vals um ds)
  (hx:Passes CX X E) (I:Inv X pins σ H s) (r:Vals vs us)
  (h:∀ x dx,H x=none->H dx=none->dx≠x->sp (.ref x::(vs++um)) (upd (upd H dx (.own x)) x (.ins C dx [])) (fun v H2=>v=.non/\Q (.ref x) H2) E) :
  wpAny (model X.prog X.w) X.A (call (.ref C) us) (EP X pins σ Q) X.xe s:=by
 have hq:=h (s.heap.objs.size+1) s.heap.objs.size (I.hok.fresh (Nat.le_succ _)) (I.hok.fresh (Zi' _)) (Zn' (Nat.lt_succ_self _));have I2:=Inv.made (C:=C) I;have r2:Vals (V.ref (s.heap.objs.size+1)::(vs++um)) (Value.ref (s.heap.objs.size+1)::(us++ds)):=.cons rfl (r.append hd);have hl:(Value.ref (s.heap.objs.size+1)::us++ds).length=ps.length:=by
  have e:=r2.length;rw[F.len _ _ _ _ hq]at e;exact e.symm
 refine wpAny_call (agk (f:=f) I.xr M.makes M.init (beq_iff_eq.mp M.fn) (codeAny_mono (F.run _ X.stack _ _ ⟨Value.ref (s.heap.objs.size+1)::us,[]⟩ (Value.ref (s.heap.objs.size+1)::(us++ds)) _ _ E (hr.make C us [])
  (I2.env0.make C us []) (hb _ (Value.ref (s.heap.objs.size+1)::us) I2.xr hl) r2 hq) fun r s' hq'=>?_))
 cases r with
 |error e=>exact hx pins σ _ _ e s' I2 hq'
 |ok fl =>
  cases fl with
  |ret u =>
   obtain⟨v,H',I3,rv,ev,q3⟩:=I2.after hq';subst ev;exact⟨rv,⟨V.ref (s.heap.objs.size+1),H',I3,rfl,q3⟩⟩
  |next=>exact False.elim hq'
  |brk=>exact False.elim hq'
  |cont=>exact False.elim hq'
theorem xB (M:Mk X.K C f)(F:bI X.prog X.w X.K X.mg X.base CX k f fd ps sp)(hr:kI (k+1) X.A)(hg:Gl X x)(hm:X.mg x=some (.ref C))(hb:Binds X.K fd ps ds)(hd:Vals um ds)(hx:Passes CX X E)
  (ha:PA X (e::es) t) (hdb:(x==("__debug__":Str))=false:=by decide) (he:starEach (e::es) X.env=(false,eval e X.env)::starEach es X.env:=by rfl) (hpl:(backTo pos (starEach es X.env)).any (·.1)=false:=by rfl) :
  PE X (.Call (.Name x p) (e::es) [] pos) (akr C sp um E t):=by
 intro pins s σ H Q I h;refine wpAny_Call_Name_kw (ur I hg hm ?_ hdb);refine callWith_K (h₀:=X.base) I.ok.mod.kin M.kp (cU (ha pos pins s σ H _ I h) fun us s1 ⟨vs,H1,I1,r,q⟩=>⟨I1.xr,?_⟩) he hpl;exact Xs M F hr hb hd hx I1 r q
theorem agm (M:Mk X.K C f)(F:bI X.prog X.w X.K X.mg X.base CX k f fd ps sp)(hr:kI (k+1) X.A)(hg:Gl X x)(hm:X.mg x=some (.ref C))(hb:Binds X.K fd ps ds)(hd:Vals um ds)(hx:Passes CX X E)
  (hdb:(x==("__debug__":Str))=false:=by decide):PE X (.Call (.Name x p) [] [] pos) (akr C sp um E bD):=by
 intro pins s σ H Q I h;refine wpAny_Call_Name_kw (ur I hg hm ?_ hdb);exact callWith_K0 I.xr M.kp (Xs (us:=[]) M F hr hb hd hx I .nil h)
end
section
variable {X:Cx} {CX:CXT} {k:Nat} {f C:Addr} {fd:FuncData} {ps ks:List Str} {sp:Sp} {E:XK} {x m:Str} {p pos apos arZ:Pos} {e o:Expr} {es:List Expr} {kws:List Keyword} {te ta:TE} {t tk:TA} {nm:Option Str}
structure apz (K:Frag)(fd:FuncData)(ps ks:List Str)(g:List Value->List Value->List Value)(gV:List V->List V->List V):Prop where
 to:∀(s:Shared)(us ws:List Value),K.In s.heap->(g us ws).length=ps.length->BindsTo s fd ⟨us,ks.zip ws⟩ (ps.zip (g us ws))
 rel:∀{vs:List V} {us:List Value} {zs:List V} {ws:List Value},Vals vs us->Vals zs ws->Vals (gV vs zs) (g us ws)
variable {g:List Value->List Value->List Value} {gV:List V->List V->List V}
end
structure aI (N P:List Str)(sc:Scope):Prop where
 kind:sc.kind=.function
 co:sc.isCoroutine=false
 gen:sc.isGenerator=false
 nd:N.Nodup
 pre:N.take P.length=P
 par:∀ x∈P,sc.names.lookup x=some .local\/sc.names.lookup x=some .cell
 ald:∀ y∈sc.names,y.2≠.free
theorem Si {kindOf:Str->Option NameKind}{x:Str}:∀{binds:List (Str×Value)} {m:Str->Option Value},(∀ v,(x,v) ∉ binds)->bindL kindOf binds m x=m x
 |[],_,_=>rfl
 |(n,v)::r,m,h=>by
  unfold bindL;rw[Si fun w hw=>h w (mem_cons_of_mem _ hw)];split
  ·have:x≠n:=by rintro rfl;exact h v mem_cons_self
   simp[this]
  ·rfl
theorem Sj {kindOf:Str->Option NameKind}{x:Str}:∀{binds:List (Str×Value)} {m:Str->Option Value},(∀ v,(x,v) ∉ binds)->bindC kindOf binds m x=m x
 |[],_,_=>rfl
 |(n,v)::r,m,h=>by
  unfold bindC;rw[Sj fun w hw=>h w (mem_cons_of_mem _ hw)];split
  ·rfl
  ·have:x≠n:=by rintro rfl;exact h v mem_cons_self
   simp[this]
theorem Sk {kindOf:Str->Option NameKind}{x:Str}{v:Value}:∀{P:List Str} {vs:List Value} {i:Nat} {m:Str->Option Value},P.Nodup->P[i]? = some x->vs[i]? = some v->kindOf x=some .local ->
  bindL kindOf (P.zip vs) m x=some v
 |[],_,_,_,_,h,_,_=>by simp at h
 |_::_,[],_,_,_,_,h,_=>by simp at h
 |p::P,w::vs,0,m,nd,h1,h2,hk=>by
  simp at h1 h2;subst h1;subst h2;show bindL kindOf ((p,w)::P.zip vs) m p=_;unfold bindL;rw[Si fun v hv=>(List.nodup_cons.mp nd).1 (List.of_mem_zip hv).1,K' hk];simp
 |p::P,w::vs,i+1,m,nd,h1,h2,hk=>by
  show bindL kindOf ((p,w)::P.zip vs) m x=_;unfold bindL;exact Sk (i:=i) (List.nodup_cons.mp nd).2 (by simpa using h1) (by simpa using h2) hk
theorem Sl {kindOf:Str->Option NameKind}{x:Str}{v:Value}:∀{P:List Str} {vs:List Value} {i:Nat} {m:Str->Option Value},P.Nodup->P[i]? = some x->vs[i]? = some v->kindOf x≠some .local ->
  bindC kindOf (P.zip vs) m x=some v
 |[],_,_,_,_,h,_,_=>by simp at h
 |_::_,[],_,_,_,_,h,_=>by simp at h
 |p::P,w::vs,0,m,nd,h1,h2,hk=>by
  simp at h1 h2;subst h1;subst h2;show bindC kindOf ((p,w)::P.zip vs) m p=_;unfold bindC;rw[Sj fun v hv=>(List.nodup_cons.mp nd).1 (List.of_mem_zip hv).1,G' hk];simp
 |p::P,w::vs,i+1,m,nd,h1,h2,hk=>by
  show bindC kindOf ((p,w)::P.zip vs) m x=_;unfold bindC;exact Sl (i:=i) (List.nodup_cons.mp nd).2 (by simpa using h1) (by simpa using h2) hk
def start (N:List Str)(vs:List V):St:=vs.map some++List.replicate (N.length-vs.length) none
def cj (CX:CXT)(P:Program)(w:World)(K:Frag)(mg:Str->Option Value)(base:Heap)(N:List Str)(qual:Str)(scope:Scope)(f:Addr)(cd:Value)(A:Around)(outer:List Env)(s:Shared)(H:Hp)(E:XK):Cx where
 prog:=P
 w:=w
 K:=K
 mg:=mg
 base:=base
 A:=A.deeper (envOfC qual scope s.heap.objs.size f cd)
 N:=N
 s₀:=s
 H₀:=H
 env:=envOfC qual scope s.heap.objs.size f cd
 outer:=outer
 stack:=envOfC qual scope s.heap.objs.size f cd::outer
 ex:=[]
 calm:=true
 fn:=fun _=>true
 pn:=[]
 xe:=fun e s'=>wpAny (model P w) (A.deeper (envOfC qual scope s.heap.objs.size f cd)) (leaving (envOfC qual scope s.heap.objs.size f cd) e) (fun _ s''=>CX outer H s E e s'') (fun e' s''=>CX outer H s E e' s'') s'
theorem Xt {sc:Scope}{n:Nat}{x:Str}(h:sc.names.lookup x=some .cell):∃ c,(cellsFrom n sc.names []).lookup x=some c:=by
 have q:=PySem.W.cellsFrom_some sc.names n [] (.inl h);exact Option.isSome_iff_exists.mp q
theorem ad7 {CX:CXT}{P:Program}{w:World}{K:Frag}{mg:Str->Option Value}{base:Heap}{N ps:List Str}{qual:Str}{scope:Scope}{f:Addr}{cd:Value}{A:Around}{outer:List Env}{s s1:Shared}{H:Hp}{E:XK}{us:List Value}{vs:List V}
  (S:aI N ps scope) (hd:A.handled=none) (e0:Zz P w K mg base A outer s H) (hl:vs.length=ps.length) (r:Vals vs us)
  (x:InCallC s s.heap.objs.size (bindL (envOfC qual scope s.heap.objs.size f cd).kindOf (ps.zip us) fun _=>none) (cellsFrom (s.heap.objs.size+1) scope.names []) (bindC (envOfC qual scope s.heap.objs.size f cd).kindOf (ps.zip us) fun _=>none) s1) :
  Inv (cj CX P w K mg base N qual scope f cd A outer s H E) [] (start N vs) H s1:=by
 have hpl:ps.length<=N.length:=by have:=R' List.length S.pre;rw[Ze']at this;omega
 obtain⟨h1,tk,rfl,hk⟩:=x.done;have noA:∀ b:Addr,b ∉ (cj CX P w K mg base N qual scope f cd A outer s H E).ex:=fun b z=>P' (show b∈([]:List Addr) from z) (by simp);refine⟨⟨e0.mod,S.kind,rfl,rfl,Zi' _,fun y z c h1 h2=>?_,fun y hy=>?_,fun y c _ h=>?_,fun _=>hd,Around.frames_deeper e0.frames,.inr ⟨rfl,rfl⟩,fun b z=>P' z (noA b),e0.bs,e0.bsz,fun b _ _=>noA b,fun b z=>P' z (noA b),e0.Fo,e0.frf⟩,
  rfl,e0.bare,Un.kept hk,⟨_,x.toInCall.ns,fun i y v h1 h2 h3=>?_⟩,fun y c h=>⟨_,x.cell y c h⟩,e0.hok.fresh (Zi' _),fun y c h=>?_,fun p hp=>P' (show p∈([]:List (Addr×Obj)) from hp) (by simp),e0.hok.kept hk,?_⟩
 ·exact name_of_addr x.apart (PySem.mem_of_lookup h1) (PySem.mem_of_lookup h2)
 ·have hy:scope.names.lookup y=some .cell\/scope.names.lookup y=some .free:=hy;rcases hy with hy|hy
  ·exact Xt hy
  ·exact P' rfl (S.ald _ (PySem.mem_of_lookup hy))
 ·exact Nat.le_of_lt (x.above y c (PySem.mem_of_lookup h))
 ·have hi:i<vs.length:=by
   unfold start at h2
   by_cases hi:i<vs.length
   ·exact hi
   ·rw[List.getElem?_append_right (by simpa using hi)]at h2;rw[List.getElem?_replicate]at h2;split at h2 <;> cases h2
  have ha:vs[i]? = some v:=by
   unfold start at h2;rw[List.getElem?_append_left (by simpa using hi),Zf']at h2;cases e:vs[i]? with
   |none=>rw[e]at h2;cases h2
   |some a=>rw[e]at h2;cases h2;rfl
  obtain⟨u,hu,rv⟩:=r.get ha;have hp:ps[i]? = some y:=by
   rw[<-S.pre,List.getElem?_take_of_lt (by omega)];exact h1
  have ndP:ps.Nodup:=by rw[<-S.pre];exact S.nd.sublist (List.take_sublist _ _)
  refine⟨u,rv,?_⟩;rcases S.par y (Za' hp) with k|k
  ·exact .inl ⟨k,Sk ndP hp hu k⟩
  ·obtain⟨c,e⟩:=Xt (n:=s.heap.objs.size+1) k;refine .inr ⟨.inl k,c,e,?_⟩;have q:=x.cell y c e;rw[Sl ndP hp hu (by show scope.names.lookup y≠_;rw[k];decide)]at q;exact q
 ·exact e0.hok.fresh (Nat.le_of_lt (x.above y c (PySem.mem_of_lookup h)))
 ·unfold start;show _=N.length;rw[Z',j',List.length_replicate];omega
theorem ac8 {CX:CXT}{P:Program}{w:World}{K:Frag}{mg:Str->Option Value}{base:Heap}{k:Nat}{f:Addr}{name qual:Str}{params:Arguments}{body:List Stmt}{scope:Scope}{dV kV doc pm cdv ct oc:Value}{an od:Option Addr}
  {osl:Array (Option Value)} {N ps:List Str} {sp:Sp} (lk:K.lookup f=some ⟨oc,od,.func (fnOf name qual params body scope dV kV doc pm an cdv ct),osl⟩) (hcd:codeIn K cdv qual=true) (S:aI N ps scope)
  (len:∀ vs H Q E,sp vs H Q E->vs.length=ps.length)
  (hbody:∀(A:Around)(outer:List Env)(s:Shared)(H:Hp)(vs:List V)(Q:VK)(E:XK),kI k (A.deeper (envOfC qual scope s.heap.objs.size f cdv))->sp vs H Q E ->
   ∃ t,Mv (cj CX P w K mg base N qual scope f cdv A outer s H E) body t/\t { nx:=fun _ H'=>Q .non H',rt:=Q } (start N vs) H) :
  bI P w K mg base CX (k+1) f (fnOf name qual params body scope dV kV doc pm an cdv ct) ps sp:=by
 refine⟨len,fun A outer s H args us vs Q E hr e0 hb r hsp=>?_⟩;have hl:=len _ _ _ _ hsp;have KX:K.In s.heap:=e0.mod.kin.keeps fun b o e=>(e0.bs b o e).1;have lim:s.heap.NoLimit:=e0.mod.nolimit.keeps fun b o e=>(e0.bs b o e).1;have hkind:∀ y∈ps.zip us,scope.names.lookup y.1=some .local\/(scope.names.lookup y.1=some .cell/\((cellsFrom (s.heap.objs.size+1) scope.names []).lookup y.1).isSome=true):=fun⟨n,v⟩ hy=>by
  rcases S.par n (List.of_mem_zip hy).1 with q|q
  ·exact .inl q
  ·exact .inr ⟨q,PySem.W.cellsFrom_some _ _ _ (.inl q)⟩
 refine codeAny_call_function hr.depth (KX _ _ lk) rfl S.co S.gen rfl (PySem.W.codeRec_of KX hcd) (hb _ _ _ _ ?_);refine wpAny_newFunctionEnv_cells S.kind hkind fun env he s1 x=>?_;subst he;refine⟨lim.keeps x.toInCall.keep,codeAny_func ?_⟩;obtain⟨t,ht,hq⟩:=hbody A outer s H vs Q E (hr.deeper _) hsp;have I:Inv (cj CX P w K mg base N qual scope f cdv A outer s H E) [] (start N vs) H s1:=ad7 S hr.hd e0 hl r x;refine wpAny_mono (ht [] s1 (start N vs) H _ I hq) (fun fl s' hs=>?_) fun e s' hs=>hs;have fin:∀{σ':St} {H':Hp} {v:V} {u:Value},Inv (cj CX P w K mg base N qual scope f cdv A outer s H E) [] σ' H' s'->RelV v u->Q v H'->CE outer P w H s Q u s' :=
  fun {σ' H' v u} J rv q=>⟨v,H',J.os,J.bare,J.base,J.hok,rv,q⟩
 cases fl with
 |ret u =>
  obtain⟨v,σ',H',J,rv,q⟩:=hs;exact fin J rv q
 |next =>
  obtain⟨σ',H',J,q⟩:=hs;exact fin (v:=V.non) (u:=Value.none) J rfl q
 |brk =>
  obtain⟨_,_,_,q⟩:=hs;exact False.elim q
 |cont =>
  obtain⟨_,_,_,q⟩:=hs;exact False.elim q
end L2
namespace L2
open PySem PySem.Spec PyProof.Rows
section
variable {X:Cx} {x:Str} {p pos:Pos} {e:Expr} {es:List Expr} {t:TA} {id T:String} {r:List V->Hp->VK->Prop}
def tCB (r:List V->Hp->VK->Prop)(t:TA):TE:=fun σ H Q=>t σ H fun vs H1=>r vs H1 Q
theorem aO (hc:lj X (.builtin id) r)(hg:Gl X x)(hm:X.mg x=none)(hv:bootBuiltins x=some (.builtin id))(ha:PA X (e::es) t)(hn:x ≠ "__name__":=by decide)(hdb:(x==("__debug__":Str))=false:=by decide)
  (he:starEach (e::es) X.env=(false,eval e X.env)::starEach es X.env:=by rfl) (hpl:(backTo pos (starEach es X.env)).any (·.1)=false:=by rfl):PE X (.Call (.Name x p) (e::es) [] pos) (tCB r t):=by
 intro pins s σ H Q I h;refine wpAny_Call_Name_kw (vG I hg hm hv ?_ hn hdb);exact PyProof.Rows.callWith_builtin1 (cU (ha pos pins s σ H _ I h) fun us s1 ⟨vs,H1,I1,r1,q1⟩=>hc pins s1 σ H1 vs us Q I1 r1 q1) he hpl
theorem gq (hc:lj X (.type T) r)(hg:Gl X x)(hm:X.mg x=none)(hv:bootBuiltins x=some (.type T))(ha:PA X (e::es) t)(hn:x ≠ "__name__":=by decide)(hdb:(x==("__debug__":Str))=false:=by decide)
  (he:starEach (e::es) X.env=(false,eval e X.env)::starEach es X.env:=by rfl) (hpl:(backTo pos (starEach es X.env)).any (·.1)=false:=by rfl):PE X (.Call (.Name x p) (e::es) [] pos) (tCB r t):=by
 intro pins s σ H Q I h;refine wpAny_Call_Name_kw (vG I hg hm hv ?_ hn hdb);exact PyProof.Rows.callWith_type1 (cU (ha pos pins s σ H _ I h) fun us s1 ⟨vs,H1,I1,r1,q1⟩=>hc pins s1 σ H1 vs us Q I1 r1 q1) he hpl
end
end L2
namespace HT
open PySem PyProof.Rows
section
open PySem.SeqAt
open PySem.AutoSeq1 (wpAny_loadPart')
open PySem.MeetsSeq PySem.MeetsSeq2 PySem.MeetsSeq3
end
section
variable {prog:Program} {w:World} {A:Around} {E:Value->Shared->Prop} {s:Shared}
def oB (n d:Nat):Option Int->Nat
 |none=>d
 |some v=>if v<0 then(v+(n:Int)).toNat else min v.toNat n
theorem N4 (n d:Nat):oB n d none=d:=rfl
theorem ac9 (n d k:Nat):oB n d (some (k:Int))=min k n:=by
 show(if(k:Int)<0 then((k:Int)+(n:Int)).toNat else min (k:Int).toNat n)=min k n;rw[G' (by omega),Int.toNat_natCast]
theorem ale (n d:Nat)(hd:d<=n)(o:Option Int):oB n d o<=n:=by
 cases o with
 |none=>exact hd
 |some v =>
  show(if v<0 then(v+(n:Int)).toNat else min v.toNat n)<=n
  by_cases hv:v<0
  ·rw[K' hv];omega
  ·rw[G' hv];exact Nat.min_le_right _ _
theorem ada (v:Int)(n d:Nat):(if v<0 then max (v+(n:Int)) 0 else min v (n:Int))=((oB n d (some v):Nat):Int):=by
 show(if v<0 then max (v+(n:Int)) 0 else min v (n:Int))=(((if v<0 then(v+(n:Int)).toNat else min v.toNat n):Nat):Int)
 by_cases hv:v<0
 ·simp only [K' hv];omega
 ·simp only [G' hv];omega
theorem ZC (lo hi:Option Int)(n:Nat):Builtin.Slice.sliceAdjust lo hi 1 (n:Int)=(((oB n 0 lo:Nat):Int),((oB n n hi:Nat):Int)):=by
 have h1:¬((1:Int)<0):=by omega
 unfold Builtin.Slice.sliceAdjust;simp only [h1,if_false];refine Prod.ext ?_ ?_
 ·cases lo with
  |none=>rfl
  |some v=>exact ada v n 0
 ·cases hi with
  |none=>rfl
  |some v=>exact ada v n n
theorem ZD (i j:Nat):Builtin.Slice.slicePlaces (i:Int) (j:Int) 1=j-i:=by
 unfold Builtin.Slice.slicePlaces;have h1:(1:Int) > 0:=by omega
 simp only [h1,if_true,Int.ediv_one];split <;> omega
theorem N5 {v:Value}{o:Option Int}{Q:Option Int->Shared->Prop}(p:IsPart v o)(h:Q o s):wpAny (model prog w) A (Builtin.Slice.slicePartIndex v) Q E s:=by
 cases p with
 |none=>exact slicePart_none h
 |int i t=>exact slicePart_int h
theorem IL {sl:Addr}{vl vu:Value}{lo hi:Option Int}{n:Nat}{Q:Int×Int×Nat->Shared->Prop}(hs:s.heap.IsSliceOf sl vl vu .none)(pl:IsPart vl lo)(pu:IsPart vu hi)
  (h:Q (((oB n 0 lo:Nat):Int),1,oB n n hi-oB n 0 lo) s):wpAny (model prog w) A (Builtin.Slice.sliceApplied (.ref sl) (pure (n:Int))) Q E s:=by
 obtain⟨os,hos,hcs,hds⟩:=id hs;unfold Builtin.Slice.sliceApplied Builtin.Slice.sliceFields;refine L' (L' (wpAny_field hos hds (x:=vl) rfl (L' (wpAny_field hos hds (x:=vu) rfl (L' (wpAny_field hos hds (x:=.none) rfl (N' ?_)))))));refine L' (slicePart_none ?_);show wpAny _ _ (if((1:Int)==0)=true then _ else _) _ _ s;rw[G' (by decide)];refine L' (N5 pl (L' (N5 pu (L' (N' ?_)))));show wpAny _ _ (match Builtin.Slice.sliceAdjust lo hi 1 (n:Int) with|(lo,hi)=>pure (lo,(1:Int),Builtin.Slice.slicePlaces lo hi 1)) _ _ s;rw[ZC lo hi n];show wpAny _ _ (pure (((oB n 0 lo:Nat):Int),(1:Int),Builtin.Slice.slicePlaces ((oB n 0 lo:Nat):Int) ((oB n n hi:Nat):Int) 1)) _ _ s;rw[ZD];exact N' h
theorem agn (xs:Array Value)(i k:Nat):((List.range k).filterMap fun(m:Nat)=>xs[((i:Int)+(m:Int) * 1).toNat]?).toArray=((xs.toList.drop i).take k).toArray:=by
 have e:(fun(m:Nat)=>xs[((i:Int)+(m:Int) * 1).toNat]?)=fun m=>xs[i+m]?:=by
  funext m
  have:((i:Int)+(m:Int) * 1).toNat=i+m:=by omega
  rw[this]
 rw[e];have:=pick_run xs i k;rw[List.filterMap_map]at this;have e2:((fun x=>xs[x]?) ∘ fun x=>i+x)=fun m=>xs[i+m]?:=rfl;rw[e2]at this;rw[this]
theorem Fq {t sl:Addr}{items:Array Value}{vl vu:Value}{lo hi:Option Int}{Q:Value->Shared->Prop}(ht:IsTup s.heap t items)(hs:s.heap.IsSliceOf sl vl vu .none)(pl:IsPart vl lo)(pu:IsPart vu hi)
  (hw:¬(oB items.size 0 lo=0/\oB items.size items.size hi=items.size))
  (h:Q (.ref s.heap.objs.size) { s with heap:=s.heap.push { cls:=.type "tuple",data:=.seq ((items.toList.drop (oB items.size 0 lo)).take (oB items.size items.size hi-oB items.size 0 lo)).toArray } })
  (hsz:items.size<=sizeLine):wpAny (model prog w) A (getItem (.ref t) (.ref sl)) Q E s:=by
 have adb:sizeOk (.seq ((items.toList.drop (oB items.size 0 lo)).take (oB items.size items.size hi-oB items.size 0 lo)).toArray):=by
  show((items.toList.drop (oB items.size 0 lo)).take (oB items.size items.size hi-oB items.size 0 lo)).toArray.size<=sizeLine;rw[Ya',Ze',length_drop,Array.length_toList];omega
 have hj:oB items.size items.size hi<=items.size:=ale _ _ (Zi' _) hi;obtain⟨os,hos,hcs,hds⟩:=id hs;have hTs:s.TypeIs (.ref sl) "slice":=⟨os,hos,hcs⟩;unfold getItem
 try with_reducible refine wpAny_holding ?_
 first|refine L' (N' ?_)|skip
 refine L' (wpAny_sequenceKey ht.typeIs (by decide) ?_);refine L' (wpAny_callSpecial?_slot (name:=Str.ofString "__getitem__") ht.typeIs PyProof.Rows.slot_tuple_getitem
  (wpAny_call_entry PyProof.Rows.slot_tuple_getitem ht.typeIs entry_tuple_getitem ?_ (args_tuple_getitem _ _)))
 show wpAny _ _ (Builtin.Tuple.tupleItemsOf (.ref t) >>= _) _ _ s;refine L' (tupleItemsOf_ ht ?_);refine L' (wpAny_typeOf hTs ?_);rw[K' (by decide)];refine L' (IL hs pl pu ?_);have hno:¬((((oB items.size 0 lo:Nat):Int)==0&&(1:Int)==1&&(oB items.size items.size hi-oB items.size 0 lo)==items.size)=true):=by
  intro q;rw[Bool.and_eq_true,Bool.and_eq_true]at q;have q1:((oB items.size 0 lo:Nat):Int)=0:=eq_of_beq q.1.1;have q2:oB items.size items.size hi-oB items.size 0 lo=items.size:=eq_of_beq q.2;exact hw ⟨by omega,by omega⟩
 show wpAny _ _ (if(((oB items.size 0 lo:Nat):Int)==0&&(1:Int)==1&&(oB items.size items.size hi-oB items.size 0 lo)==items.size)=true then _ else _) _ _ s;rw[G' hno,agn]
 first
  |exact L' (m:=Builtin.Tuple.tupleExact _) (wpAny_newObj_type (N' ⟨_,rfl,N' h⟩) adb)
  |exact L' (m:=Builtin.Tuple.tupleExact _) (wpAny_newObj_type (L' (N' (N' ⟨_,rfl,N' h⟩))) adb)
  |exact L' (L' (m:=Builtin.Tuple.tupleExact _) (wpAny_newObj_type (N' (N' ⟨_,rfl,N' h⟩)) adb))
  |exact L' (L' (m:=Builtin.Tuple.tupleExact _) (wpAny_newObj_type (N' ⟨_,rfl,N' h⟩) adb))
end
end HT
namespace L2
open PySem PySem.Spec PyProof.Rows
abbrev TO:=St->Hp->(Option Int->Hp->Prop)->Prop
def PO (X:Cx)(e:Option Expr)(t:TO):Prop :=
 ∀(pins:List (Addr×Obj)) (s:Shared) (σ:St) (H:Hp) (Q:Option Int->Hp->Prop),Inv X pins σ H s->t σ H Q ->
  wpAny (model X.prog X.w) X.A (evalPart e X.env) (fun u s'=>∃ o H',Inv X pins σ H' s'/\IsPart u o/\Q o H') X.xe s
def ai2:TO:=fun _ H Q=>Q none H
inductive ago (Q:(Option Int->Hp->Prop))(x:V)(H1:Hp):Prop
 |mk (i:_) (eE:x=.int i) (eF:Q (some i) H1):ago Q x H1
def anb (t:TE):TO:=fun σ H Q=>t σ H fun x H1=>ago Q x H1
section
variable {X:Cx} {e:Expr} {te:TE} {lo hi:Option Expr} {tl th:TO} {pos p2:Pos}
theorem uv:PO X none ai2:=by
 intro pins s σ H Q I h;rw[evalPart_none];exact N' ⟨none,H,I,.none,h⟩
theorem lM (h:PE X e te):PO X (some e) (anb te):=by
 intro pins s σ H Q I hw;rw[evalPart_some];refine cU (h pins s σ H _ I hw) fun u s1 ⟨x,H1,I1,r1,q1⟩=>?_;obtain⟨i,rfl,q⟩:=q1;obtain⟨t,rfl⟩:=r1;exact⟨some i,H1,I1,.int i t,q⟩
def SlR (X:Cx)(r:V->Option Int->Option Int->Hp->VK->Prop):Prop :=
 ∀(pins:List (Addr×Obj)) (s:Shared) (σ:St) (H:Hp) (x:V) (v vl vu:Value) (lo hi:Option Int) (sl:Addr) (Q:VK),Inv X pins σ H s->RelV x v->s.heap.IsSliceOf sl vl vu .none->IsPart vl lo->IsPart vu hi->r x lo hi H Q ->
  ∃ T id,typeLookup (.type T) "__getitem__"=pure (some (.builtin id))/\s.TypeIs v T/\wpAny (model X.prog X.w) X.A (getItem v (.ref sl)) (EP X pins σ Q) X.xe s
theorem SlR.or {r r':V->Option Int->Option Int->Hp->VK->Prop}(h:SlR X r)(h':SlR X r'):SlR X (fun x lo hi H Q=>r x lo hi H Q\/r' x lo hi H Q):=by
 intro pins s σ H x v vl vu lo hi sl Q I rx hs pl pu q;rcases q with q|q
 ·exact h pins s σ H x v vl vu lo hi sl Q I rx hs pl pu q
 ·exact h' pins s σ H x v vl vu lo hi sl Q I rx hs pl pu q
def tSl (r:V->Option Int->Option Int->Hp->VK->Prop)(te:TE)(tl th:TO):TE:=fun σ H Q=>te σ H fun x H1=>tl σ H1 fun l H2=>th σ H2 fun u H3=>r x l u H3 Q
theorem qm {r:V->Option Int->Option Int->Hp->VK->Prop}(hr:SlR X r)(he:PE X e te)(hl:PO X lo tl)(hu:PO X hi th):PE X (.Subscript e (.Slice lo hi none p2) pos) (tSl r te tl th):=by
 intro pins s σ H Q I h;refine Subscript_ (cU (he pins s σ H _ I h) fun v s1 ⟨x,H1,I1,r1,q1⟩=>?_);refine wpAny_Slice (cU (hl pins s1 σ H1 _ I1 q1) fun vl s2 ⟨l,H2,I2,pl,q2⟩=>cU (hu pins s2 σ H2 _ I2 q2) fun vu s3 ⟨u,H3,I3,pu,q3⟩=>?_);rw[evalPart_none];refine N' ?_;have I4:Inv X pins σ H3 { s3 with heap:=s3.heap.push { cls:=.type "slice",data:=.fields #[vl,vu,.none] } }:=I3.kept (t':=s3.toks) fun b ob q=>V' _ q;obtain⟨T,id,hT,ht,hg⟩:=hr pins { s3 with heap:=s3.heap.push { cls:=.type "slice",data:=.fields #[vl,vu,.none] } } σ H3 x v vl vu l u s3.heap.objs.size Q I4 r1 (Heap.IsSliceOf.new ..) pl pu q3;show wpAny (model X.prog X.w) X.A (subscriptTail e (.Slice lo hi none p2) v (.ref s3.heap.objs.size)) (EP X pins σ Q) X.xe { s3 with heap:=s3.heap.push { cls:=.type "slice",data:=.fields #[vl,vu,.none] } };exact tail_any (ops:=[.ref s3.heap.objs.size,v]) ht hT hg (by with_unfolding_all rfl)
def Ft (xs:List V)(lo hi:Option Int):List V:=(xs.drop (HT.oB xs.length 0 lo)).take (HT.oB xs.length xs.length hi-HT.oB xs.length 0 lo)
theorem My (xs:List V)(lo hi:Option Int):(Ft xs lo hi).length<=xs.length:=by
 unfold Ft;rw[Ze',length_drop];omega
inductive akt (K:Frag)(x:V)(lo:Option Int)(hi:Option Int)(H:Hp)(Q:VK):Prop
 |mk (a:_) (xs:_) (eE:x=.ref a) (eF:vH K H a xs) (h8:¬(HT.oB xs.length 0 lo=0/\HT.oB xs.length xs.length hi=xs.length)) (lh:∀ p,H p=none->Q (.ref p) (upd H p (.tup (Ft xs lo hi)))):akt K x lo hi H Q
def apA (K:Frag):V->Option Int->Option Int->Hp->VK->Prop:=fun x lo hi H Q=>akt K x lo hi H Q
theorem zC:SlR X (apA X.K):=by
 intro pins s σ H x v vl vu lo hi sl Q I rx hs pl pu h;obtain⟨a,xs,rfl,hx,hw,q⟩:=h;cases rx;obtain⟨its,r,ht,hz⟩:=I.tuple hx;have hlen:its.toArray.size=xs.length:=by rw[Ya'];exact r.length.symm
 refine⟨"tuple",_,PyProof.Rows.slot_tuple_getitem.lookup,ht.typeIs,?_⟩;refine HT.Fq ht hs pl pu (by rw[hlen];exact hw) ?_ (by rw[hlen];exact hz);rw[hlen];refine⟨.ref s.heap.objs.size,_,I.laid (t':=s.toks) (o:=.tup (Ft xs lo hi)) (fun b ob q=>V' _ q) (Zi' _) ?_,rfl,q _ (I.hok.fresh (Zi' _))⟩;exact⟨Zh' (My xs lo hi) hz,_,(r.drop (HT.oB xs.length 0 lo)).take (HT.oB xs.length xs.length hi-HT.oB xs.length 0 lo),IsTup.new _ _⟩
end
end L2
namespace L2
open PySem PySem.Spec PyProof.Rows
def ixN (n:Nat)(i:Int):Option Nat:=if 0<=i then(if i<n then some i.toNat else none) else if -(n:Int)<=i then some (i+n).toNat else none
def atI {α:Type}(xs:List α)(i:Int):Option α:=(ixN xs.length i).bind fun j=>xs[j]?
theorem adf {n:Nat}{i:Int}{j:Nat}(h:ixN n i=some j):seqIndex? i n=some j/\j<n/\-(n:Int)<=i/\i<n:=by
 unfold ixN at h
 by_cases h0:0<=i
 ·rw[K' h0]at h
  by_cases h1:i<n
  ·rw[K' h1]at h;have e:i.toNat=j:=Zb' h;exact⟨by rw[seqIndex_of h0 h1,e],by omega,by omega,h1⟩
  ·rw[G' h1]at h;cases h
 ·rw[G' h0]at h
  by_cases h1:-(n:Int)<=i
  ·rw[K' h1]at h;have e:(i+n).toNat=j:=Zb' h;exact⟨by rw[seqIndex_neg (by omega) h1,e],by omega,h1,by omega⟩
  ·rw[G' h1]at h;cases h
theorem Tt {α:Type}{xs:List α}{i:Int}{v:α}(h:atI xs i=some v):∃ j,seqIndex? i xs.length=some j/\xs[j]? = some v/\j<xs.length/\-(xs.length:Int)<=i/\i<xs.length:=by
 unfold atI at h;cases e:ixN xs.length i with
 |none=>rw[e]at h;cases h
 |some j =>
  rw[e]at h;obtain⟨h1,h2,h3,h4⟩:=adf e;exact⟨j,h1,h,h2,h3,h4⟩
theorem Fu {α:Type}{xs:List α}{j:Nat}{v:α}(h:xs[j]? = some v):atI xs (j:Int)=some v:=by
 have hj:j<xs.length:=(S'.mp h).1;have e:ixN xs.length (j:Int)=some j:=by
  unfold ixN;rw[K' (by omega),K' (by omega)];simp
 unfold atI;rw[e];exact h
theorem Xu {α:Type}(xs:List α)(v:α):atI (xs++[v]) (-1)=some v:=by
 have hl:(xs++[v]).length=xs.length+1:=by simp
 have e:ixN (xs++[v]).length (-1)=some xs.length:=by
  unfold ixN;rw[hl,G' (by decide),K' (by omega)]
  congr 1
  omega
 unfold atI;rw[e];show(xs++[v])[xs.length]? = some v;simp
def ai3 (b:Expr):Prop:=∀ o i,subscripted b false o i=operate [o,i] (getItem o i)
def IxR (X:Cx)(r:R2):Prop :=
 ∀(value slice:Expr)(pins:List (Addr×Obj)) (s:Shared) (σ:St) (H:Hp) (x y:V) (v u:Value) (Q:VK),Inv X pins σ H s->RelV x v->RelV y u->r x y H Q ->
  subscripted slice false v u=operate [v,u] (getItem v u)->wpAny (model X.prog X.w) X.A (subscriptTail value slice v u) (EP X pins σ Q) X.xe s
def MtR (X:Cx)(id:String)(r:V->List V->Hp->VK->Prop):Prop :=
 ∀(pins:List (Addr×Obj)) (s:Shared) (σ:St) (H:Hp) (x:V) (xs:List V) (v:Value) (us:List Value) (Q:VK),Inv X pins σ H s->RelV x v->Vals xs us->r x xs H Q ->
  wpAny (model X.prog X.w) X.A (call (.builtin id) (v::us)) (EP X pins σ Q) X.xe s
section
variable {X:Cx} {a b:Expr} {ta tb:TE} {pos:Pos}
theorem IxR.or {r r':R2}(h:IxR X r)(h':IxR X r'):IxR X (fun x y H Q=>r x y H Q\/r' x y H Q):=by
 intro value slice pins s σ H x y v u Q I rx ry q hs;rcases q with q|q
 ·exact h value slice pins s σ H x y v u Q I rx ry q hs
 ·exact h' value slice pins s σ H x y v u Q I rx ry q hs
theorem aJ {r:R2}(hr:IxR X r)(ha:PE X a ta)(hb:PE X b tb)(hs:ai3 b):PE X (.Subscript a b pos) (tOp r ta tb):=by
 intro pins s σ H Q I h;exact Subscript_ (alb ha hb I h fun v u s2 x y H2 I2 rx ry q=>hr a b pins s2 σ H2 x y v u Q I2 rx ry q (hs _ _))
inductive aku (K:Frag)(x:V)(y:V)(H:Hp)(Q:VK):Prop
 |mk (p:_) (xs:_) (i:_) (v:_) (eE:x=.ref p) (eF:y=.int i) (h8:bh K H p xs) (lh:atI xs i=some v) (rJ:Q v H):aku K x y H Q
def Tu (K:Frag):R2:=fun x y H Q=>aku K x y H Q
inductive akv (K:Frag)(x:V)(y:V)(H:Hp)(Q:VK):Prop
 |mk (p:_) (xs:_) (i:_) (v:_) (eE:x=.ref p) (eF:y=.int i) (h8:vH K H p xs) (lh:atI xs i=some v) (rJ:Q v H):akv K x y H Q
def Tv (K:Frag):R2:=fun x y H Q=>akv K x y H Q
inductive akw (x:V)(y:V)(H:Hp)(Q:VK):Prop
 |mk (z:_) (i:_) (c:_) (eE:x=.str z) (eF:y=.int i) (h8:z.length<=sizeLine) (lh:atI z.cps.toList i=some c) (rJ:Q (.str ⟨#[c]⟩) H):akw x y H Q
def Tw :R2:=fun x y H Q=>akw x y H Q
theorem ai4:IxR X (Tu X.K):=by
 intro value slice pins s σ H x y v u Q I rx ry h hs;obtain⟨p,xs,i,z,rfl,rfl,hq,he,q⟩:=h;cases rx;obtain⟨t,rfl⟩:=ry;obtain⟨its,r,pl,hz⟩:=I.list hq;obtain⟨j,h1,h2,h3,h4,h5⟩:=Tt he;obtain⟨w,ew,Xp⟩:=r.get h2;have hl:=r.length;have hn:=IJ;have fin:EP X pins σ Q w s:=⟨z,H,I,Xp,q⟩
 by_cases h0:0<=i
 ·have hj:i.toNat=j:=by
   rw[seqIndex_of h0 h5]at h1;exact Zb' h1
  exact item_listR pl.isList h0 (by omega) (by rw[hj];simpa using ew) fin hs
 ·have hj:(i+(its.toArray.size:Int)).toNat=j:=by
   rw[seqIndex_neg (by omega) h4]at h1;rw[Ya',<-hl];exact Zb' h1
  exact subscriptTail_builtinR (x:=w) pl.isList.typeIs slot_list_getitem.lookup
   (wpAny_getItem_list_neg (Q:=fun r s'=>r=w/\EP X pins σ Q r s') pl.isList (by omega) (by rw[Ya'] <;> omega) (by omega) (by rw[hj];simpa using ew) ⟨rfl,fin⟩) hs
theorem alf:IxR X (Tv X.K):=by
 intro value slice pins s σ H x y v u Q I rx ry h hs;obtain⟨p,xs,i,z,rfl,rfl,hq,he,q⟩:=h;cases rx;obtain⟨t,rfl⟩:=ry;obtain⟨its,r,pl,hz⟩:=I.tuple hq;obtain⟨j,h1,h2,h3,h4,h5⟩:=Tt he;obtain⟨w,ew,Xp⟩:=r.get h2;have hl:=r.length;have hn:=IJ;have fin:EP X pins σ Q w s:=⟨z,H,I,Xp,q⟩;exact subscriptTail_builtinR (x:=w) pl.typeIs slot_tuple_getitem.lookup
  (getItem_tuple (j:=j) (Q:=fun r s'=>r=w/\EP X pins σ Q r s') pl (by omega) (by omega) (by rw[Ya',<-hl];exact h1) (by simpa using ew) ⟨rfl,fin⟩) hs
theorem alg:IxR X Tw:=by
 intro value slice pins s σ H x y v u Q I rx ry h hs;obtain⟨z,i,c,rfl,rfl,hz,he,q⟩:=h;obtain⟨t,rfl⟩:=rx;obtain⟨t',rfl⟩:=ry;obtain⟨j,h1,h2,h3,h4,h5⟩:=Tt he;have hl:z.cps.toList.length=z.length:=by simp[Str.length]
 rw[hl]at h1 h4 h5;have hn:=IJ;exact tail_any (typeIs_str s z t) slot_str_getitem.lookup (getItem_str (c:=c) (by
  have e1:decide (i < -(2 ^ 63:Int))=false:=X' (by omega);have e2:decide (i ≥ 2 ^ 63)=false:=X' (by omega);rw[e1,e2,Bool.or_false]) (by rw[h1];simpa using h2) ⟨.str ⟨#[c]⟩,H,I.tok _,⟨_,rfl⟩,q⟩) hs
def rIx (K:Frag):R2:=fun x y H Q=>Tu K x y H Q\/Tv K x y H Q\/Tw x y H Q
theorem az:IxR X (rIx X.K):=ai4.or (alf.or alg)
theorem ZE (its:List Value)(n j:Nat)(u:Value):Obj.mapSeq (·.setIfInBounds j u) { cls:=.type "list",data:=.seq its.toArray n } = { cls:=.type "list",data:=.seq (its.set j u).toArray n }:=by
 simp[Obj.mapSeq]
theorem Inv.lst {pins:List (Addr×Obj)}{σ:St}{H:Hp}{s:Shared}{p:Addr}{xs:List V}(I:Inv X pins σ H s)(h:H p=some (.lst xs)) :
  ∃(its:List Value)(n:Nat),Vals xs its/\s.heap.get? p=some { cls:=.type "list",data:=.seq its.toArray n }/\xs.length<=sizeLine:=by
 obtain⟨z,its,n,r,e⟩:=I.hok p _ h;exact⟨its,n,r,e,z⟩
theorem Inv.alh {pins:List (Addr×Obj)}{σ:St}{H:Hp}{s:Shared}{p:Addr}{xs ys:List V}{its its':List Value}{n n':Nat}{f:Obj->Obj}(I:Inv X pins σ H s)(h:H p=some (.lst xs))
  (ho:s.heap.get? p=some { cls:=.type "list",data:=.seq its.toArray n }) (hf:f { cls:=.type "list",data:=.seq its.toArray n } = { cls:=.type "list",data:=.seq its'.toArray n' }) (r:Vals ys its') (hz:ys.length<=sizeLine) (t:Nat) :
  Inv X pins σ (upd H p (.lst ys)) { s with heap:=s.heap.update p f,toks:=t }:=by
 have e:(s.heap.update p f).get? p=some { cls:=.type "list",data:=.seq its'.toArray n' }:=by
  rw[Heap.get?_update_self f ho (by rw[hf] <;> rfl),hf]
 refine I.write (x:=p) (e:=p) (by rw[h];trivial) (.inl rfl) (fun b u hb q=>(Heap.get?_update_other _ _ (Yb' hb)).trans q) ⟨_,e⟩ ?_;exact⟨hz,its',n',r,e⟩
inductive agq (o:V)(i:V)(v:V)(H:Hp)(Q:(Hp->Prop)):Prop
 |mk (p:_) (xs:_) (k:_) (j:_) (eE:o=.ref p) (eF:i=.int k) (h8:H p=some (.lst xs)) (lh:ixN xs.length k=some j) (rJ:Q (upd H p (.lst (xs.set j v)))):agq o i v H Q
def anc :V->V->V->Hp->(Hp->Prop)->Prop:=fun o i v H Q=>agq o i v H Q
theorem set_list:amZ X anc:=by
 intro pins s σ H o i v ov iv u Q I ro ri rv h;obtain⟨p,xs,k,j,rfl,rfl,hp,hj,q⟩:=h;cases ro;obtain⟨t,rfl⟩:=ri;obtain⟨its,n,r,ho,hz⟩:=I.lst hp;obtain⟨h1,h2,h3,h4⟩:=adf hj;have hl:=r.length;have hn:=IJ;have I':Inv X pins σ (upd H p (.lst (xs.set j v))) { s with heap:=s.heap.update p (Obj.mapSeq (·.setIfInBounds j u)) } :=
  I.alh hp ho (ZE its n j u) (r.set rv j) (by rw[List.length_set];exact hz) s.toks
 by_cases h0:0<=k
 ·have hk:k.toNat=j:=by
   rw[seqIndex_of h0 h4]at h1;exact Zb' h1
  exact PySem.W.ki_setAt ho h0 (by omega) (by rw[Ya',<-hl];exact h4) (by rw[hk];exact⟨_,I',q⟩)
 ·have hk:(k+(its.toArray.size:Int)).toNat=j:=by
   rw[seqIndex_neg (by omega) h3]at h1;rw[Ya',<-hl];exact Zb' h1
  exact PySem.W.ki_setBack ho (by omega) (by rw[Ya',<-hl];exact h3) (by omega) (by rw[hk];exact⟨_,I',q⟩)
theorem Tx (lo hi:Option Int)(n:Nat):(sliceBounds lo hi none n).1=((HT.oB n 0 lo:Nat):Int)/\(sliceBounds lo hi none n).2.1=((HT.oB n n hi:Nat):Int)/\(sliceBounds lo hi none n).2.2=1:=by
 refine⟨?_,?_,rfl⟩
 ·cases lo with
  |none=>simp[sliceBounds,HT.oB]
  |some i =>
   simp only [sliceBounds,HT.oB,Option.getD_none,show(1:Int) > 0 by decide,if_true]
   by_cases h:i<0
   ·simp only [h,if_true] <;> omega
   ·simp only [h,if_false] <;> omega
 ·cases hi with
  |none=>simp[sliceBounds,HT.oB]
  |some i =>
   simp only [sliceBounds,HT.oB,Option.getD_none,show(1:Int) > 0 by decide,if_true]
   by_cases h:i<0
   ·simp only [h,if_true] <;> omega
   ·simp only [h,if_false] <;> omega
theorem Rh (its:List Value)(lo hi:Option Int):slicePick its.toArray lo hi none=((its.drop (HT.oB its.length 0 lo)).take (HT.oB its.length its.length hi-HT.oB its.length 0 lo)).toArray:=by
 obtain⟨h1,h2,h3⟩:=Tx lo hi its.toArray.size;unfold slicePick;rw[h1,h2,h3];simp only [sliceRange_one,pick_run,Ya'] <;> rfl
inductive akx (K:Frag)(x:V)(lo:Option Int)(hi:Option Int)(H:Hp)(Q:VK):Prop
 |mk (a:_) (xs:_) (eE:x=.ref a) (eF:bh K H a xs) (h8:∀ p,H p=none->Q (.ref p) (upd H p (.lst (Ft xs lo hi)))):akx K x lo hi H Q
def apB (K:Frag):V->Option Int->Option Int->Hp->VK->Prop:=fun x lo hi H Q=>akx K x lo hi H Q
theorem uw:SlR X (apB X.K):=by
 intro pins s σ H x v vl vu lo hi sl Q I rx hs pl pu h;obtain⟨a,xs,rfl,hx,q⟩:=h;cases rx;obtain⟨its,r,ht,hz⟩:=I.list hx;have hlen:=r.length;refine⟨"list",_,slot_list_getitem.lookup,ht.isList.typeIs,?_⟩;refine wpAny_getItem_list_slice ht.isList hs pl pu .none (by simp) ?_ (by rw[Ya'] <;> omega);rw[Rh,<-hlen];refine⟨.ref s.heap.objs.size,_,I.laid (t':=s.toks) (o:=.lst (Ft xs lo hi)) (fun b ob q=>V' _ q) (Zi' _) ?_,rfl,q _ (I.hok.fresh (Zi' _))⟩;exact⟨Zh' (My xs lo hi) hz,_,0,(r.drop (HT.oB xs.length 0 lo)).take (HT.oB xs.length xs.length hi-HT.oB xs.length 0 lo),Zo' _ rfl⟩
def Cp:V->Bool
 |.non=>true
 |.bl _=>true
 |.int _=>true
 |.str _=>true
 |_=>false
def eqV:V->V->Bool
 |.non,.non=>true
 |.bl a,.bl b=>a==b
 |.bl a,.int b=>(if a then 1 else 0)==b
 |.int a,.bl b=>a==(if b then 1 else 0)
 |.int a,.int b=>a==b
 |.str a,.str b=>a==b
 |_,_=>false
theorem agr {A:Around}{s:Shared}{y x:V}{u v:Value}(ry:RelV y u)(rx:RelV x v)(fy:Cp y=true)(fx:Cp x=true):SeqAt.EqAt A s u v (eqV y x):=by
 cases y with
 |non =>
  cases ry;cases x with
  |non=>cases rx;exact SeqAt.EqAt.same _
  |bl b=>cases rx;exact SeqAt.EqAt.none_bool b
  |int b=>obtain⟨t,rfl⟩:=rx;exact SeqAt.EqAt.none_int b t
  |str b=>obtain⟨t,rfl⟩:=rx;exact SeqAt.EqAt.none_str b t
  |_=>exact P' (show false=true from fx) Zl'
 |bl a =>
  cases ry;cases x with
  |non=>cases rx;exact SeqAt.EqAt.bool_none a
  |bl b=>cases rx;exact SeqAt.EqAt.bool_bool a b
  |int b=>obtain⟨t,rfl⟩:=rx;exact SeqAt.EqAt.bool_int a b t
  |str b=>obtain⟨t,rfl⟩:=rx;exact SeqAt.EqAt.bool_str a b t
  |_=>exact P' (show false=true from fx) Zl'
 |int a =>
  obtain⟨t',rfl⟩:=ry;cases x with
  |non=>cases rx;exact SeqAt.EqAt.int_none a t'
  |bl b=>cases rx;exact SeqAt.EqAt.int_bool a t' b
  |int b=>obtain⟨t,rfl⟩:=rx;exact SeqAt.EqAt.int_int a t' b t
  |str b=>obtain⟨t,rfl⟩:=rx;exact SeqAt.EqAt.int_str a t' b t
  |_=>exact P' (show false=true from fx) Zl'
 |str a =>
  obtain⟨t',rfl⟩:=ry;cases x with
  |non=>cases rx;exact SeqAt.EqAt.str_none a t'
  |bl b=>cases rx;exact SeqAt.EqAt.str_bool a t' b
  |int b=>obtain⟨t,rfl⟩:=rx;exact SeqAt.EqAt.str_int a t' b t
  |str b=>obtain⟨t,rfl⟩:=rx;exact SeqAt.EqAt.str_str a t' b t
  |_=>exact P' (show false=true from fx) Zl'
 |_=>exact P' (show false=true from fy) Zl'
def ZF (x:V)(u:Value):Bool:=match u with
 |.none=>eqV .non x
 |.bool b=>eqV (.bl b) x
 |.int i _=>eqV (.int i) x
 |.str z _=>eqV (.str z) x
 |_=>false
theorem ags {x y:V}{u:Value}(r:RelV y u)(f:Cp y=true):ZF x u=eqV y x:=by
 cases y with
 |non=>cases r;rfl
 |bl b=>cases r;rfl
 |int i=>obtain⟨t,rfl⟩:=r;rfl
 |str z=>obtain⟨t,rfl⟩:=r;rfl
 |_=>exact P' (show false=true from f) Zl'
theorem Fv {x:V}:∀{xs:List V} {us:List Value},Vals xs us->xs.all Cp=true->us.any (ZF x)=xs.any fun y=>eqV y x
 |_,_,.nil,_=>rfl
 |y::xs,u::us,.cons r t,f=>by
  rw[List.all_cons,Bool.and_eq_true]at f;rw[List.any_cons,List.any_cons,ags r f.1,Fv t f.2]
theorem zD {A:Around}{s:Shared}{x:V}{v:Value}(rx:RelV x v)(fx:Cp x=true):∀{xs:List V} {us:List Value},Vals xs us->xs.all Cp=true->∀ u∈us,SeqAt.EqAt A s u v (ZF x u)
 |_,_,.nil,_=>fun u hu=>by cases hu
 |y::xs,u::us,.cons r t,f=>fun u' hu=>by
  rw[List.all_cons,Bool.and_eq_true]at f;rcases List.mem_cons.mp hu with rfl|hu
  ·rw[ags r f.1];exact agr r rx f.1 fx
  ·exact zD rx fx t f.2 u' hu
def inV (x:V)(xs:List V):Bool:=xs.any fun y=>eqV y x
inductive anf (K:Frag)(neg:Bool)(x:V)(y:V)(H:Hp)(Q:VK):Prop
 |mk (p:_) (xs:_) (eE:y=.ref p) (eF:(bh K H p xs\/vH K H p xs)) (h8:Cp x=true) (lh:xs.all Cp=true) (rJ:Q (.bl (if neg then !inV x xs else inV x xs)) H):anf K neg x y H Q
def rIn (K:Frag)(neg:Bool):R2:=fun x y H Q=>anf K neg x y H Q
theorem cW:xt X (compareOp .In) (rIn X.K false):=by
 intro pins s σ H x y v u Q I rx ry h;obtain⟨p,xs,rfl,hq,fx,fs,q⟩:=h;cases ry;rcases hq with hq|hq
 ·obtain⟨its,r,pl,hz⟩:=I.list hq;refine SeqAt.in_listAt (ZF x) pl.isList (fun w hw=>zD rx fx r fs w (by simpa using hw)) ⟨.bl _,H,I,rfl,?_⟩;rw[show its.toArray.any (ZF x)=its.any (ZF x) by simp,Fv r fs];exact q
 ·obtain⟨its,r,pl,hz⟩:=I.tuple hq;refine SeqAt.in_tupleAt (ZF x) pl (fun w hw=>zD rx fx r fs w (by simpa using hw)) ⟨.bl _,H,I,rfl,?_⟩;rw[show its.toArray.any (ZF x)=its.any (ZF x) by simp,Fv r fs];exact q
theorem xC:xt X (compareOp .NotIn) (rIn X.K true):=by
 intro pins s σ H x y v u Q I rx ry h;obtain⟨p,xs,rfl,hq,fx,fs,q⟩:=h;cases ry;rcases hq with hq|hq
 ·obtain⟨its,r,pl,hz⟩:=I.list hq;refine SeqAt.notIn_listAt (ZF x) pl.isList (fun w hw=>zD rx fx r fs w (by simpa using hw)) ⟨.bl _,H,I,rfl,?_⟩;rw[show its.toArray.any (ZF x)=its.any (ZF x) by simp,Fv r fs];exact q
 ·obtain⟨its,r,pl,hz⟩:=I.tuple hq;refine SeqAt.notIn_tupleAt (ZF x) pl (fun w hw=>zD rx fx r fs w (by simpa using hw)) ⟨.bl _,H,I,rfl,?_⟩;rw[show its.toArray.any (ZF x)=its.any (ZF x) by simp,Fv r fs];exact q
theorem xE:xt X (compareOp .NotIn) (fun x y H Q=>∃ i j,x=.str i/\y=.str j/\Q (.bl (!(!(Builtin.Str.occurrences j i 0 j.length 1).isEmpty))) H):=by
 intro pins s σ H x y v u Q I rx ry h;obtain⟨i,j,rfl,rfl,q⟩:=h;obtain⟨t,rfl⟩:=rx;obtain⟨t',rfl⟩:=ry;exact notIn_str ⟨.bl _,H,I,rfl,q⟩
theorem aQ:lj X (.builtin "len") (fun xs H Q=>∃ p ys,xs=[.ref p]/\(bh X.K H p ys\/vH X.K H p ys)/\Q (.int ys.length) H):=by
 intro pins s σ H xs us Q I r h;obtain⟨p,ys,rfl,hq,q⟩:=h;obtain⟨u,rfl,rx⟩:=vals1 r;cases rx;have hn:=IJ;rcases hq with hq|hq
 ·obtain⟨its,r',pl,hz⟩:=I.list hq;have hlen:=r'.length;exact Calls.call_len_list pl.isList (by simp only [Ya'] <;> omega) ⟨.int ys.length,H,I.tok _,⟨s.toks+1,by rw[Ya',hlen]⟩,q⟩
 ·obtain⟨its,r',pl,hz⟩:=I.tuple hq;have hlen:=r'.length;exact len_tuple pl (by simp only [Ya'] <;> omega) ⟨.int ys.length,H,I.tok _,⟨s.toks+1,by rw[Ya',hlen]⟩,q⟩
theorem aR:lj X (.builtin "len") (fun xs H Q=>∃ z,xs=[.str z]/\z.length<=sizeLine/\Q (.int z.length) H):=by
 intro pins s σ H xs us Q I r h;obtain⟨z,rfl,hz,q⟩:=h;obtain⟨u,rfl,t,rfl⟩:=vals1 r;have hn:=IJ;exact len_str (by omega) ⟨.int z.length,H,I.tok _,⟨_,rfl⟩,q⟩
theorem lj.or {f:Value}{r r':List V->Hp->VK->Prop}(h:lj X f r)(h':lj X f r'):lj X f (fun xs H Q=>r xs H Q\/r' xs H Q):=by
 intro pins s σ H xs us Q I rs q;rcases q with q|q
 ·exact h pins s σ H xs us Q I rs q
 ·exact h' pins s σ H xs us Q I rs q
theorem Fw:lj X (.type "list") (fun xs H Q=>∃ p ys,xs=[.ref p]/\(bh X.K H p ys\/vH X.K H p ys)/\∀ l,H l=none->Q (.ref l) (upd H l (.lst ys))):=by
 intro pins s σ H xs us Q I r h;obtain⟨p,ys,rfl,hq,q⟩:=h;obtain⟨u,rfl,rx⟩:=vals1 r;cases rx;have fin:∀(its:List Value),Vals ys its->ys.length<=sizeLine->∀(h':Heap)(c':Nat),(∀ b o',s.heap.get? b=some o'->h'.get? b=some o') ->
   h'.get? s.heap.objs.size=some { cls:=.type "list",dict:=none,data:=.seq its.toArray c',slots:=#[] }->EP X pins σ Q (.ref s.heap.objs.size) { s with heap:=h' }:=fun its r' hz h' c' kp e =>
  ⟨.ref s.heap.objs.size,_,I.laid (t':=s.toks) kp (Zi' _) (show fu X.prog X.w _ h' _ (.lst ys) from⟨hz,its,c',r',e⟩),rfl,q _ (I.hok.fresh (Zi' _))⟩
 rcases hq with hq|hq
 ·obtain⟨its,r',pl,hz⟩:=I.list hq;have hlen:=r'.length;obtain⟨o,ho,hc,n,hd⟩:=pl.isList;exact call_list_seq p (.inl rfl) ho hc hd (fun h' c' kp e=>fin its r' hz h' c' kp e) (by simp only [Ya'] <;> omega)
 ·obtain⟨its,r',pl,hz⟩:=I.tuple hq;have hlen:=r'.length;obtain⟨o,ho,hc,n,hd⟩:=pl;exact call_list_seq p (.inr rfl) ho hc hd (fun h' c' kp e=>fin its r' hz h' c' kp e) (by simp only [Ya'] <;> omega)
def tyV (K:Frag)(T:String)(x:V)(H:Hp):Prop:=match x with
 |.str _=>T = "str"
 |.int _=>T = "int"
 |.ref p=>(T = "list"/\∃ xs,bh K H p xs)\/(T = "tuple"/\∃ o,K.lookup p=some o/\o.cls=.type "tuple"/\o.dict=none) \/
   (T = "dict"/\((∃ kvs,H p=some (.dK kvs))\/∃ kvs,H p=some (.dT kvs)))\/(T = "set"/\∃ S n,H p=some (.set S n))
 |_=>False
theorem agt {pins:List (Addr×Obj)}{σ:St}{H:Hp}{s:Shared}{T:String}{x:V}{v:Value}(I:Inv X pins σ H s)(r:RelV x v)(ty:tyV X.K T x H) :
  s.TypeIs v T/\∀ a,v=.ref a->∃ ob,s.heap.get? a=some ob/\ob.dict=none:=by
 cases x with
 |str z =>
  obtain⟨t,rfl⟩:=r;cases (show T = "str" from ty);exact⟨typeIs_str s z t,fun _ e=>nomatch e⟩
 |int i =>
  obtain⟨t,rfl⟩:=r;cases (show T = "int" from ty);exact⟨typeIs_int s i t,fun _ e=>nomatch e⟩
 |ref p =>
  cases r;rcases ty with ⟨rfl,xs,hq⟩|⟨rfl,o,hk,hc,hd⟩|⟨rfl,hk⟩|⟨rfl,S,n,hk⟩
  ·obtain⟨its,_,pl,_⟩:=I.list hq;refine⟨pl.isList.typeIs,fun a e=>?_⟩;cases e;obtain⟨o,n,e,c,hd,_⟩:=pl;exact⟨o,e,hd⟩
  ·refine⟨⟨o,I.xr p o hk,hc⟩,fun a e=>?_⟩;cases e;exact⟨o,I.xr _ o hk,hd⟩
  ·have z:∃ o,s.heap.get? p=some o/\o.ExactDict:=by
    rcases hk with ⟨kvs,hk⟩|⟨kvs,hk⟩
    ·obtain⟨_,_,_,_,o,_,_,e,ex,_⟩:=I.hok p _ hk;exact⟨o,e,ex⟩
    ·obtain⟨_,_,_,_,o,_,_,e,ex,_⟩:=I.hok p _ hk;exact⟨o,e,ex⟩
   obtain⟨o,e,ex⟩:=z;refine⟨⟨o,e,ex.1⟩,fun a e2=>?_⟩;cases e2;exact⟨o,e,ex.2.1⟩
  ·obtain⟨o,_,_,_,e,ex,_⟩:=I.hok p _ hk;refine⟨⟨o,e,ex.1⟩,fun a e2=>?_⟩;cases e2;exact⟨o,e,ex.2.1⟩
 |_=>exact False.elim ty
def apD (K:Frag)(T:String)(r:V->List V->Hp->VK->Prop)(to:TE):TE:=fun σ H Q=>to σ H fun x H1=>tyV K T x H1/\r x [] H1 Q
def tBM (K:Frag)(T:String)(r:V->List V->Hp->VK->Prop)(to:TE)(t:TA):TE:=fun σ H Q=>to σ H fun x H1=>tyV K T x H1/\t σ H1 fun xs H2=>r x xs H2 Q
variable {o e:Expr} {es:List Expr} {to:TE} {t:TA} {name:Str} {apos cpos:Pos} {T id:String} {r:V->List V->Hp->VK->Prop}
theorem Tz (pa:PlainAttrs T)(slot:Slot T name id)(hty:typeOf (.builtin id)=pure (.type "method_descriptor"))(hm:MtR X id r)(ho:PE X o to)
  (hbase:attributeBase o name X.env (eval o X.env)=eval o X.env:=by rfl) (hline:(apos.endLine==cpos.line)=true:=by rfl):PE X (.Call (.Attribute o name apos) [] [] cpos) (apD X.K T r to):=by
 intro pins s σ H Q I h;refine wpAny_Call_method0_late hbase hline (cU (ho pins s σ H _ I h) fun v s1 ⟨x,H1,I1,r1,ty,q1⟩=>?_);obtain⟨h1,h2⟩:=agt I1 r1 ty;exact⟨T,id,pa,slot,hty,h1,h2,Calls.callWith_builtin rfl (PySem.evalArgs_none (hm pins s1 σ H1 x [] v [] Q I1 r1 .nil q1))⟩
theorem ke (pa:PlainAttrs T)(slot:Slot T name id)(hty:typeOf (.builtin id)=pure (.type "method_descriptor"))(hm:MtR X id r)(ho:PE X o to)(ha:PA X (e::es) t)
  (hbase:attributeBase o name X.env (eval o X.env)=eval o X.env:=by rfl)
  (hfew:((backTo cpos (starEach (e::es) X.env)).all (fun x=>!x.1)&&(backToKw cpos (keywordEach [] X.env)).all (fun x=>x.1.isSome)
   && decide ((e::es).length+([]:List Keyword).length+(if([]:List Keyword).isEmpty then 0 else 1)<30))=true:=by rfl)
  (hline:(apos.endLine==cpos.line)=true:=by rfl) (hs:starEach (e::es) X.env=(false,eval e X.env)::starEach es X.env:=by rfl) (hplain:(backTo cpos (starEach es X.env)).any (·.1)=false:=by rfl) :
  PE X (.Call (.Attribute o name apos) (e::es) [] cpos) (tBM X.K T r to t):=by
 intro pins s σ H Q I h;refine wpAny_Call_method_late hbase hfew hline rfl (cU (ho pins s σ H _ I h) fun v s1 ⟨x,H1,I1,r1,ty,q1⟩=>?_);obtain⟨h1,h2⟩:=agt I1 r1 ty;refine⟨T,id,pa,slot,hty,h1,h2,?_⟩;have hA:=ha cpos pins s1 σ H1 _ I1 q1;rw[hs]at hA ⊢;refine Calls.callWith_builtin (by show(false||(backTo cpos (starEach es X.env)).any (·.1))=false;rw[hplain] <;> rfl) (Calls.evalArgs_plain ?_);exact cU hA fun us s2 ⟨vs,H2,I2,r2,q2⟩=>hm pins s2 σ H2 x vs v us Q I2 r1 r2 q2
end
end L2
namespace L2
open PySem PySem.Spec PyProof.Rows
def MtM (X:Cx)(id:String)(r:V->List V->Hp->VK->Prop):Prop :=
 ∀(pins:List (Addr×Obj)) (s:Shared) (σ:St) (H:Hp) (x:V) (xs:List V) (v:Value) (us:List Value) (Q:VK),Inv X pins σ H s->RelV x v->Vals xs us->r x xs H Q ->
  wpAny (model X.prog X.w) X.A (call (.builtin id) (v::us)) (EP X pins σ Q) X.xe s
theorem Vals.one:∀{x:V} {us:List Value},Vals [x] us->∃ u,us=[u]/\RelV x u
 |_,_,.cons r .nil=>⟨_,rfl,r⟩
theorem Vals.two:∀{x y:V} {us:List Value},Vals [x,y] us->∃ u v,us=[u,v]/\RelV x u/\RelV y v
 |_,_,_,.cons r (.cons q .nil)=>⟨_,_,rfl,r,q⟩
theorem Vals.zero:∀{us:List Value},Vals [] us->us=[]
 |_,.nil=>rfl
theorem Vals.dropLast {xs:List V}{us:List Value}(h:Vals xs us):Vals xs.dropLast us.dropLast:=by
 induction h with
 |nil=>exact .nil
 |cons r t ih =>
  cases t with
  |nil=>exact .nil
  |cons q t'=>exact .cons r ih
theorem Vals.reverse {xs:List V}{us:List Value}(h:Vals xs us):Vals xs.reverse us.reverse:=by
 induction h with
 |nil=>exact .nil
 |cons r t ih=>rw[List.reverse_cons,List.reverse_cons];exact Vals.append ih (.cons r .nil)
theorem Vals.rep {xs:List V}{us:List Value}(h:Vals xs us):∀ k:Nat,Vals (List.replicate k xs).flatten (List.replicate k us).flatten
 |0=>.nil
 |k+1=>by
  rw[List.replicate_succ,List.replicate_succ,List.flatten_cons,List.flatten_cons];exact Vals.append h (Vals.rep h k)
theorem ZG {α:Type}(l:List α):l.eraseIdx (l.length-1)=l.dropLast:=by
 induction l with
 |nil=>rfl
 |cons a r ih =>
  cases r with
  |nil=>rfl
  |cons b r =>
   have e:(a::b::r).length-1=((b::r).length-1)+1:=by
    have h1:(a::b::r).length=r.length+2:=rfl;have h2:(b::r).length=r.length+1:=rfl;omega
   rw[e,List.eraseIdx_cons_succ,ih]
   all_goals rfl
theorem foldl_rep (its:List Value):∀(k:Nat)(acc:List Value),
  List.foldl (fun x1 x2=>x1++x2) acc.toArray (List.replicate k its.toArray)=(acc++(List.replicate k its).flatten).toArray
 |0,acc=>by simp
 |k+1,acc=>by
  have e:acc.toArray++its.toArray=(acc++its).toArray:=by simp
  have e2:(acc++its)++(List.replicate k its).flatten=acc++(List.replicate (k+1) its).flatten:=by
   rw[List.replicate_succ,List.flatten_cons,List.append_assoc]
  rw[<-e2,<-foldl_rep its k (acc++its),<-e,List.replicate_succ,List.foldl_cons]
section
variable {X:Cx} {pins:List (Addr×Obj)} {σ:St} {H:Hp} {s:Shared} {l b:Addr} {xs ys zs:List V}
theorem Inv.agu {its its':List Value}{n:Nat}{f:Array Value->Array Value}{t':Nat}(I:Inv X pins σ H s)(hH:H l=some (.lst xs))
  (e:s.heap.get? l=some { cls:=.type "list",data:=.seq its.toArray n }) (hf:f its.toArray=its'.toArray) (hv:Vals ys its') (hz:ys.length<=sizeLine) :
  Inv X pins σ (upd H l (.lst ys)) { s with heap:=s.heap.update l (Obj.mapSeq f),toks:=t' }:=by
 have q:=PySem.IsL.update e f;rw[hf]at q;refine I.write (x:=l) (e:=l) (by rw[hH];exact trivial) (.inl rfl) (fun b' u hb hu=>(Heap.get?_update_other s.heap (Obj.mapSeq f) (Yb' hb)).trans hu) ⟨_,q⟩ ?_;exact⟨hz,its',_,hv,q⟩
theorem Inv.anh {its:List Value}{t':Nat}(I:Inv X pins σ H s)(hv:Vals ys its)(hz:ys.length<=sizeLine) :
  Inv X pins σ (upd H s.heap.objs.size (.lst ys)) { s with heap:=s.heap.push { cls:=.type "list",data:=.seq its.toArray },toks:=t' } :=
 I.laid (fun _ _ q=>V' _ q) (Zi' _) ⟨hz,its,0,hv,Zo' _ rfl⟩
theorem Inv.fresh (I:Inv X pins σ H s):H s.heap.objs.size=none:=I.hok.fresh (Zi' _)
theorem Inv.Ri (I:Inv X pins σ H s)(hH:H l=some (.lst xs)):xs.length<=sizeLine/\∃(its:List Value)(n:Nat),Vals xs its/\xs.length=its.length/\s.heap.get? l=some { cls:=.type "list",data:=.seq its.toArray n }:=by
 obtain⟨z,its,n,r,e⟩:=I.hok l _ hH;exact⟨z,its,n,r,r.length,e⟩
theorem N6 {n:Nat}(h:n<=sizeLine):Builtin.List.listTooLong n=false:=by
 unfold Builtin.List.listTooLong;exact X' (by omega)
end
section
variable {X:Cx}
inductive Xv (x:V)(vs:List V)(H:Hp)(Q:VK):Prop
 |mk (l:_) (xs:_) (y:_) (eE:x=.ref l) (eF:vs=[y]) (h8:H l=some (.lst xs)) (lh:xs.length<sizeLine) (rJ:Q .non (upd H l (.lst (xs++[y])))):Xv x vs H Q
def ai5 :V->List V->Hp->VK->Prop:=fun x vs H Q=>Xv x vs H Q
theorem bW:MtM X "list.append" ai5:=by
 intro pins s σ H x vs v us Q I rx rv h;obtain⟨l,xs,y,rfl,rfl,hH,hz,q⟩:=h;cases rx;obtain⟨u,rfl,ru⟩:=rv.one;obtain⟨z,its,n,r,hl,e⟩:=I.Ri hH;refine call_meets F.slot_list_append ⟨_,e,rfl⟩ F.entry_list_append (F.args_list_append_2 _ _) (PySem.list_append l its.toArray n u (by rw[Ya'];omega)) ⟨e,?_⟩;refine⟨.non,_,I.agu (its':=its++[u]) hH e (by simp) (r.append (.cons ru .nil)) ?_,rfl,q⟩;rw[Z',List.length_singleton];omega
inductive aky (x:V)(vs:List V)(H:Hp)(Q:VK):Prop
 |mk (l:_) (xs:_) (y:_) (eE:x=.ref l) (eF:vs=[]) (h8:H l=some (.lst xs)) (lh:xs[xs.length-1]? = some y) (rJ:Q y (upd H l (.lst xs.dropLast))):aky x vs H Q
def apE :V->List V->Hp->VK->Prop:=fun x vs H Q=>aky x vs H Q
theorem agv:MtM X "list.pop" apE:=by
 intro pins s σ H x vs v us Q I rx rv h;obtain⟨l,xs,y,rfl,rfl,hH,hy,q⟩:=h;cases rx;have hus:=rv.zero;subst hus;obtain⟨z,its,n,r,hl,e⟩:=I.Ri hH;obtain⟨u,hu,ru⟩:=r.get hy;have hy':its.toArray[its.toArray.size-1]? = some u:=by
  show its.toArray[its.length-1]? = some u;rw[<-Array.getElem?_toList,<-hl];exact hu
 refine call_meets F.slot_list_pop ⟨_,e,rfl⟩ F.entry_list_pop (F.args_list_pop_1 _) (MeetsSeq.list_pop_last l its.toArray n u hy' (by rw[Ya'];omega)) ⟨e,?_⟩;refine⟨y,_,I.agu (its':=its.dropLast) hH e ?_ r.dropLast ?_,ru,q⟩
 ·show its.toArray.eraseIdxIfInBounds (its.toArray.size-1)=its.dropLast.toArray;rw[Ya',List.eraseIdxIfInBounds_toArray,ZG]
 ·rw[List.length_dropLast];omega
inductive Sm (x:V)(vs:List V)(H:Hp)(Q:VK):Prop
 |mk (l:_) (xs:_) (eE:x=.ref l) (eF:vs=[]) (h8:H l=some (.lst xs)) (lh:Q .non (upd H l (.lst xs.reverse))):Sm x vs H Q
def agw :V->List V->Hp->VK->Prop:=fun x vs H Q=>Sm x vs H Q
theorem ZH:MtM X "list.reverse" agw:=by
 intro pins s σ H x vs v us Q I rx rv h;obtain⟨l,xs,rfl,rfl,hH,q⟩:=h;cases rx;have hus:=rv.zero;subst hus;obtain⟨z,its,n,r,hl,e⟩:=I.Ri hH;refine call_meets F.slot_list_reverse ⟨_,e,rfl⟩ F.entry_list_reverse (F.args_list_reverse_1 _) (AutoSeq1.list_reverse_list_0 l its.toArray n (by rw[Ya'];omega)) ⟨e,?_⟩;refine⟨.non,_,I.agu (its':=its.reverse) hH e (by simp) r.reverse ?_,rfl,q⟩;rw[List.length_reverse];omega
inductive adh (x:V)(vs:List V)(H:Hp)(Q:VK):Prop
 |mk (l:_) (xs:_) (eE:x=.ref l) (eF:vs=[]) (h8:H l=some (.lst xs)) (lh:Q .non (upd H l (.lst []))):adh x vs H Q
def ali :V->List V->Hp->VK->Prop:=fun x vs H Q=>adh x vs H Q
theorem agx:MtM X "list.clear" ali:=by
 intro pins s σ H x vs v us Q I rx rv h;obtain⟨l,xs,rfl,rfl,hH,q⟩:=h;cases rx;have hus:=rv.zero;subst hus;obtain⟨z,its,n,r,hl,e⟩:=I.Ri hH;refine call_meets F.slot_list_clear ⟨_,e,rfl⟩ F.entry_list_clear (F.args_list_clear_1 _) (AutoSeq1.list_clear_list_0 l its.toArray n (by rw[Ya'];omega)) ⟨e,?_⟩;exact⟨.non,_,I.agu (its':=[]) (ys:=[]) hH e rfl .nil (Zj' _),rfl,q⟩
inductive akz (x:V)(y:V)(H:Hp)(Q:VK):Prop
 |mk (l:_) (b:_) (xs:_) (zs:_) (eE:x=.ref l) (eF:y=.ref b) (h8:H l=some (.lst xs)) (lh:H b=some (.lst zs)) (rJ:xs.length+zs.length<=sizeLine) (Rg:∀ p,H p=none->Q (.ref p) (upd H p (.lst (xs++zs)))):akz x y H Q
def apF :R2:=fun x y H Q=>akz x y H Q
theorem b8:xt X (binaryOp .Add) apF:=by
 intro pins s σ H x y v u Q I rx ry h;obtain⟨l,b,xs,zs,rfl,rfl,hH,hB,hz,q⟩:=h;cases rx;cases ry;obtain⟨z,its,n,r,hl,e⟩:=I.Ri hH;obtain⟨z2,its2,n2,r2,hl2,e2⟩:=I.Ri hB;refine PySem.P.add_list e e2 ?_ (by rw[Ya',Ya'];omega);have ea:its.toArray++its2.toArray=(its++its2).toArray:=by simp
 rw[ea];exact⟨.ref _,_,I.anh (t':=s.toks) (r.append r2) (by rw[Z'];omega),rfl,q _ I.fresh⟩
def apG:R2:=fun x y H Q=>∃ l k xs,x=.ref l/\y=.int k/\H l=some (.lst xs)/\-(2 ^ 63)<=k/\k<2 ^ 63/\xs.length * k.toNat<=sizeLine /\
 ∀ p,H p=none->Q (.ref p) (upd H p (.lst (List.replicate k.toNat xs).flatten))
theorem len_rep {α:Type}(xs:List α)(k:Nat):(List.replicate k xs).flatten.length=k * xs.length:=by
 induction k with
 |zero=>simp
 |succ k ih=>rw[List.replicate_succ,List.flatten_cons,Z',ih,Nat.succ_mul,Nat.add_comm]
theorem oG:xt X (binaryOp .Mult) apG:=by
 intro pins s σ H x y v u Q I rx ry h;obtain⟨l,k,xs,rfl,rfl,hH,h1,h2,hz,q⟩:=h;cases rx;obtain⟨t,rfl⟩:=ry;obtain⟨z,its,n,r,hl,e⟩:=I.Ri hH;have hlen:its.toArray.size * k.toNat<=sizeLine:=by rw[Ya',<-hl];exact hz
 have apH:¬ its.toArray.size * k.toNat > (2 ^ 63-1) / 8:=by
  have:(sizeLine:Nat)<=(2 ^ 63-1) / 8:=by decide
  omega
 have hfit:¬(!Builtin.List.listFitsIndex k)=true:=by
  rw[fitsIndex_both h1 h2];exact Zl'
 have ani:¬ Builtin.List.listTooLong (its.toArray.size * k.toNat)=true:=by
  rw[N6 hlen];exact Zl'
 have hnew:List.foldl (fun x1 x2=>x1++x2) #[] (List.replicate (if its.toArray.isEmpty=true then 0 else k.toNat) its.toArray)=(List.replicate k.toNat its).flatten.toArray:=by
  have f0:∀ m:Nat,List.foldl (fun x1 x2=>x1++x2) #[] (List.replicate m its.toArray)=(List.replicate m its).flatten.toArray:=fun m=>by
   have:=foldl_rep its m [];rw[nil_append]at this;exact this
  rw[f0];cases its with
  |nil=>simp
  |cons a r'=>rw[G' (by simp)]
 refine wpAny_binaryOp_repeat_ref (T:="list") (U:="int") (by decide) ⟨_,e,rfl⟩ (fun s'=>typeIs_int s' k t) noFill_list_mul F.fills_int_mul F.slot_int_rmul repeat_list F.slot_int_index.lookup
  (call_meets F.slot_int_rmul (typeIs_int s k t) F.entry_int_rmul (F.args_int_rmul_2 _ _) (int___rmul___int_list k t l its.toArray n)
   ⟨e,rfl,⟨_,e,rfl⟩,call_meets F.slot_list_mul ⟨_,e,rfl⟩ F.entry_list_mul (F.args_list_mul_2 _ _) (AutoListH.list___mul___list_int_3 l its.toArray n k t hfit apH ani) ⟨e,?_⟩⟩)
 rw[hnew];exact⟨.ref _,_,I.anh (t':=s.toks) (r.rep k.toNat) (by rw[len_rep,Nat.mul_comm];exact hz),rfl,q _ I.fresh⟩
end
section
variable {prog:Program} {w:World} {A:Around} {E:Value->Shared->Prop} {s:Shared}
theorem ad8 (its its2:List Value)(a c:Nat):its.toArray.extract 0 a++its2.toArray++its.toArray.extract c its.toArray.size=(its.take a++its2++its.drop c).toArray:=by
 apply Array.toList_inj.mp
 first
  |(simp;exact List.take_of_length_le (by simp))
  |simp[List.take_of_length_le]
  |simp
theorem ZI {a c n:Nat}(hac:a<=c)(hc:c<=n):sliceBounds (some (a:Int)) (some (c:Int)) none n=((a:Int),(c:Int),1):=by
 simp only [sliceBounds,Option.getD_none];have h1:¬((a:Int)<0):=by omega
 have h2:¬((c:Int)<0):=by omega
 simp only [h1,h2,if_false,show(1:Int) > 0 by decide,if_true]
 congr 1
 ·omega
 ·congr 1;omega
set_option maxRecDepth 100000 in
theorem Rj {l b sl:Addr}{items new:Array Value}{n n2:Nat}{vl vu:Value}{a c:Nat}{Q:Unit->Shared->Prop}
  (e:s.heap.get? l=some { cls:=.type "list",data:=.seq items n }) (e2:s.heap.get? b=some { cls:=.type "list",data:=.seq new n2 }) (hne:l≠b)
  (hs:s.heap.IsSliceOf sl vl vu .none) (pl:IsPart vl (some (a:Int))) (pu:IsPart vu (some (c:Int))) (hac:a<=c) (hc:c<=items.size)
  (hsz:items.size+new.size<=sizeLine) (h:Q () { s with heap:=s.heap.update l (Obj.mapSeq fun xs=>xs.extract 0 a++new++xs.extract c xs.size) }) :
  wpAny (model prog w) A (setItem (.ref l) (.ref sl) (.ref b)) Q E s:=by
 have hl:s.heap.IsList l items:=PySem.IsL.isList e;have hb:s.heap.IsList b new:=PySem.IsL.isList e2;obtain⟨os,hos,hcs,hds⟩:=id hs;have hTs:s.TypeIs (.ref sl) "slice":=⟨os,hos,hcs⟩;have hstep:¬((rawPart none==rawInt 0)=true):=Zl';have hsame:Builtin.List.listSameRef (.ref l) (.ref b)=false:=by
  unfold Builtin.List.listSameRef;exact beq_eq_false_iff_ne.mpr hne
 have apI:(max (a:Int) (c:Int)).toNat=c:=by omega
 have hz':((fun xs:Array Value=>xs.extract 0 a++new++xs.extract c xs.size) items).size<=sizeLine+1:=by
  simp only [Array.size_append,Array.size_extract];omega
 unfold setItem
 try with_reducible refine wpAny_holding ?_
 first|refine L' (N' ?_)|skip
 refine L' (wpAny_sequenceKey hl.typeIs (by decide) ?_);refine L' (wpAny_callSpecial?_slot (name:=Str.ofString "__setitem__") hl.typeIs slot_list_setitem
  (wpAny_call_entry slot_list_setitem hl.typeIs entry_list_setitem ?_ (args_list_setitem _ _ _)))
 show wpAny _ _ (Builtin.List.listSubscript? (.ref sl) >>= _) _ _ s;refine L' ?_;unfold Builtin.List.listSubscript?;refine L' (wpAny_specialOf hTs slice_no_index ?_);simp only [Option.isNone_none,if_true];refine N' ?_;show wpAny _ _ (typeOf (.ref sl) >>= _) _ _ s;refine L' (wpAny_typeOf hTs ?_)
 first
  |rw[G' (by decide)]
  |refine PySem.W.KFB.if_not (by decide) ?_
 rw[listSliceParts_eq];refine L' (L' (wpAny_field hos hds (x:=.none) rfl (L' (wpAny_listPart .none ?_))));rw[G' hstep];refine L' (wpAny_field hos hds (x:=vl) rfl (L' (wpAny_listPart pl ?_)));refine L' (wpAny_field hos hds (x:=vu) rfl (L' (wpAny_listPart pu (N' ?_))))
 first
  |simp only [hsame,Bool.false_eq_true,if_false]
  |refine PySem.W.KFB.if_not hsame ?_
  |(dsimp only;rw[G' (by rw[hsame];exact Zl')])
 refine L' (m:=Builtin.List.listAllItems (.ref b) "must assign iterable to extended slice") ?_;unfold Builtin.List.listAllItems;refine L' (wpAny_typeOf hb.typeIs ?_)
 first
  |refine PySem.W.KFB.if_so (by decide) ?_
  |rw[K' (by decide)]
  |simp only [beq_self_eq_true,Bool.true_or,if_true]
 unfold Builtin.List.listItems;refine L' (wpAny_seqItems e2 rfl (N' ?_));refine L' (L' (wpAny_seqItems e rfl (N' ?_)));refine L' (wpAny_of_eq ((sliceIndices_raw (some (a:Int)) (some (c:Int)) none items.size (by simp)).trans (R' (pure:Int×Int×Int->Sem (Int×Int×Int)) (ZI hac hc))) ?_);show wpAny _ _ (if((1:Int)==1)=true then _ else _) _ _ s;rw[K' (by decide)];refine L' (wpAny_rule ?_)
 first
  |simp only [N6 hsz,Bool.false_eq_true,if_false]
  |refine PySem.W.KFB.if_not (N6 hsz) ?_
 first|refine L' (N' ?_)|skip
 show wpAny _ _ (updateSeq l (fun xs=>xs.extract 0 ((a:Int)).toNat++new++xs.extract (max (a:Int) (c:Int)).toNat xs.size) >>= _) _ _ s;rw[apI,Int.toNat_natCast];refine L' (wpAny_updateSeq (hz:=Zh' (Nat.le_add_right _ _) hsz) (_hz':=hz') e rfl ?_);refine L' (wpAny_letGo ?_)
 first
  |exact L' (N' (N' ⟨.none,rfl,N' h⟩))
  |exact N' ⟨.none,rfl,N' h⟩
end
section
variable {X:Cx}
theorem ad9 {pins:List (Addr×Obj)}{s:Shared}{σ:St}{H:Hp}{l b sl:Addr}{xs ys:List V}{a c:Int}{vl vu:Value}{Q:Unit->Shared->Prop}(I:Inv X pins σ H s)
  (hH:H l=some (.lst xs)) (hB:H b=some (.lst ys)) (hne:l≠b) (hs:s.heap.IsSliceOf sl vl vu .none) (ra:RelV (.int a) vl) (rc:RelV (.int c) vu) (h0:0<=a) (hac:a<=c) (hc:c<=xs.length)
  (hz:xs.length+ys.length<=sizeLine) (h:∀ s',Inv X pins σ (upd H l (.lst (xs.take a.toNat++ys++xs.drop c.toNat))) s'->Q () s') :
  wpAny (model X.prog X.w) X.A (setItem (.ref l) (.ref sl) (.ref b)) Q X.xe s:=by
 obtain⟨ta,rfl⟩:=ra;obtain⟨tc,rfl⟩:=rc;obtain⟨z,its,n,r,hl,e⟩:=I.Ri hH;obtain⟨z2,its2,n2,r2,hl2,e2⟩:=I.Ri hB;obtain⟨a',rfl⟩:=Int.eq_ofNat_of_zero_le h0;obtain⟨c',rfl⟩:=Int.eq_ofNat_of_zero_le (Int.le_trans h0 hac);simp only [Int.toNat_natCast]at h;refine Rj (a:=a') (c:=c') e e2 hne hs (.int _ _) (.int _ _) (by omega) (by rw[Ya'];omega) (by rw[Ya',Ya'];omega) (h _ ?_);refine I.agu (its':=its.take a'++its2++its.drop c') (t':=s.toks) hH e ?_ (Vals.append (Vals.append (r.take _) r2) (r.drop _)) ?_
 ·exact ad8 its its2 a' c'
 ·rw[Z',Z',Ze',length_drop];omega
end
end L2
namespace Att
open PySem PySem.W PySem.Calls PyProof.Rows
theorem Nb {P:Params}{h:Heap}:∀(ns:List Int)(vs:List Value),WellAll P h vs (ns.map WData.int)->IntsAre vs ns:=by
 intro ns
 induction ns with
 |nil =>
  intro vs w;rw[List.map_nil]at w;cases w;exact .nil
 |cons n ns ih =>
  intro vs w;rw[map_cons]at w;cases w with
  |cons a b =>
   cases a;exact .cons _ _ (ih _ b)
theorem aea {l:OpenLaw}{n:Nat}(hn:l.most=some n){P:Params}{h:Heap}{args:List WData}{vals:List Value}
  (hpre:l.row.toRowW.claim.pre args=true) (hwl:WellAll P h vals args) :
  ∃ a vs ns,vals=[Value.ref a]/\args=[WData.list (ns.map WData.int)]/\h.get? a=some { cls:=.type "list",data:=.seq vs.toArray }/\IntsAre vs ns/\ns.length<=n:=by
 have hsh:WShape.hasAll [] args [.list .int]=true:=(pre_splitW hpre).1;have hc:l.pre.holds [] { args:=args } = true:=(pre_splitW hpre).2;obtain⟨d,r,rfl,h1,h2⟩:=hasAllW_cons hsh;obtain rfl:=hasAllW_nil h2;obtain⟨xs,rfl,h3⟩:=hasW_list h1;obtain⟨ns,rfl⟩:=items_int h3;have hlen:ns.length<=n:=by
  unfold OpenLaw.pre at hc;have h4:(WTm.not (.lt (.lit (.int (n:Int))) (.len (.arg 0)))).holds [] { args:=[.list (ns.map .int)] } = true:=by
   have h4:=(holds_andW hc).1;rw[hn]at h4;exact h4
  have h5:=condW_of h4 (w_not (w_lt w_lit (w_len_list (w_arg rfl))));rw[j']at h5;refine Nat.le_of_not_lt fun q=>?_;have q':(n:Int)<((ns.length:Nat):Int):=by omega
  first
   |(rw[W' q']at h5;exact P' h5 (by decide))
   |(simp at h5;omega)
 cases hwl with
 |cons w1 w2 =>
  cases w2;cases w1 with
  |list ho hall=>exact⟨_,_,ns,rfl,rfl,ho,Nb ns _ hall,hlen⟩
theorem aeb (l:OpenLaw)(args:List WData):l.row.toRowW.claim.post args (.bool true) args=true :=
 postW_of (r:=l.row.toRowW) (X:=(true==true))
  (show WShape.has [] (.bool true) .bool=true by first|rfl|decide|simp[WShape.has,WShape.arms,WShape.armsAll])
  (show(WTm.eq .res (.lit (.bool true))).value [] { args:=args,res:=some (.bool true),after:=args } = some (.bool (true==true)) from w_eq_bool (w_res rfl) w_lit) rfl
theorem Xw {l:OpenLaw}{n:Nat}{q:Program}{loose:List Str}{XP:(Str->Option Value)->Heap->Prop}{YP:World->Heap->Prop}{d:DefRec}
  (hn:l.most=some n) (hdf:d.params.defaults=[])
  (call:∀(w:World)(s₀ s₁:Shared)(mg mb:Str->Option Value)(fa:Addr)(o:Obj)(pm cd doc:Value)(a:Addr)(vs:List Value)(ns:List Int),
   Ground q loose [] XP w s₀ mg mb s₁.heap->YP w s₁.heap ->
   s₁.heap.get? fa=some o->o.data=.func (docDef d.name d.params d.body d.scope pm cd doc)->s₁.heap.CodeRec cd d.name->mg d.name=some (.ref fa) ->
   s₁.heap.get? a=some { cls:=.type "list",data:=.seq vs.toArray }->IntsAre vs ns->ns.length<=n->s₁.gens = #[] ->
   codeAny (model l.prog w) callerA (.call (.ref fa) ⟨[.ref a],[]⟩) (fun r s'=>r=.ok (.ret (.bool true))/\OldK s₁.heap s'.heap/\s'.os=s₁.os/\AllBare s'.gens) s₁) :
  WalkO q loose XP YP l.row.toRowW d [] (fun f vs=>PySem.call f vs):=by
 intro w s₀ s₁ mg mb G Y fa o pm cd doc dV kV ho hd hcd hD hmg hg args vals as hpre hlay hrd hwl hlo;obtain rfl:dV=.none:=Dflts.none hD hdf;obtain rfl:kV=.none:=Dflts.noKw hD;obtain⟨a,vs,ns,rfl,rfl,hobj,hints,hlen⟩:=aea hn hpre hwl;refine enter_call (codeAny_mono (call w s₀ s₁ mg mb fa o pm cd doc a vs ns G Y ho (fd_plain hd) hcd hmg hobj hints hlen hg) fun r s' hq=>?_);obtain⟨rfl,h2,h3,h4⟩:=hq;exact⟨.inl ⟨.bool true,.bool true,[],rfl,fun _=>rfl,.bool true,aeb l _,fun _=>⟨List.Pairwise.nil,fun _ hm=>(nomatch hm)⟩⟩,h2,h3,h4⟩
section
variable {prog:Program} {w:World} {A:Around} {E:Value->Shared->Prop} {s:Shared} {K:Frag}
end
end Att
namespace L2
open PySem PySem.Spec PyProof.Rows
theorem So:∀{vs:List Value} {ns:List Int},IntsAre vs ns->Vals (ns.map V.int) vs
 |_,_,.nil=>.nil
 |_,_,.cons n t h=>.cons ⟨t,rfl⟩ (So h)
def Only (H:Hp):Prop:=∀ b,H b=none\/∃ o xs,H b=some (.Zo o (.lst xs))
theorem agy {P:Program}{w:World}{K:Frag}{mg mb:Str->Option Value}{CX:CXT}{k:Nat}{fa a:Addr}{fd:FuncData}{x:Str}{sp:Sp}{s₁:Shared}{vs:List Value}{ns:List Int}
  (KX:K.In s₁.heap) (hns:s₁.heap.Ns mainGlobals mg) (hb:s₁.heap.Ns builtinsNs mb) (hbb:∀ x:Str,x ≠ "__name__"->mb x=bootBuiltins x) (hlim:s₁.heap.NoLimit) (hg:s₁.gens = #[])
  (ha:s₁.heap.get? a=some { cls:=.type "list",data:=.seq vs.toArray }) (hi:IntsAre vs ns) (hl:ns.length<=sizeLine) (hr:kI k callerA)
  (F:∀ base:Heap,K.In base->base.Ns mainGlobals mg->bI P w K mg base CX k fa fd [x] sp) (hbind:∀(s:Shared)(u:Value),BindsTo s fd ⟨[u],[]⟩ [(x,u)])
  (hsp:∀ H:Hp,Only H->bh K H a (ns.map V.int)->sp [.ref a] H (fun v _=>v=.bl true) fun _ _ _=>False)
  (hCX:∀ H e s',CX [] H s₁ (fun _ _ _=>False) e s'->False) :
  codeAny (model P w) callerA (.call (.ref fa) ⟨[.ref a],[]⟩) (fun r s'=>r=.ok (.ret (.bool true))/\OldK s₁.heap s'.heap/\s'.os=s₁.os/\AllBare s'.gens) s₁:=by
 have rv:=So hi;have lenV:=hi.length;have core:∀ H:Hp,Only H->bh K H a (ns.map V.int)->zx P w H s₁.heap->(∀ b,H b≠none->b=a)->(H a≠none->K.lookup a=none) ->
   codeAny (model P w) callerA (.call (.ref fa) ⟨[.ref a],[]⟩) (fun r s'=>r=.ok (.ret (.bool true))/\OldK s₁.heap s'.heap/\s'.os=s₁.os/\AllBare s'.gens) s₁:=by
  intro H hO hS hok hA hK;have adi:∀{b:Addr} {o:Obj},s₁.heap.get? b=some o->H b=none->(Tn s₁.heap H).get? b=some o:=fun e n=>aga e n;have noA:∀{b:Addr} {o:Obj} {es:Array DictEntry} {ep:Nat},s₁.heap.get? b=some o->o.data=.dict es ep->H b=none:=fun {b o es ep} e d=>by
   cases q:H b with
   |none=>rfl
   |some u =>
    have e':b=a:=hA b (by rw[q];simp);subst e';rw[ha]at e;cases e;have d':Data.seq vs.toArray _=Data.dict es ep:=d;cases d'
  have nsK:∀{b:Addr} {m:Str->Option Value},s₁.heap.Ns b m->(Tn s₁.heap H).Ns b m:=fun {b m} ⟨o,es,ep,e,d,r⟩=>⟨o,es,ep,adi e (noA e d),d,r⟩;have hKb:K.In (Tn s₁.heap H):=fun b o e=>adi (KX b o e) (by
   cases q:H b with
   |none=>rfl
   |some u =>
    have e':b=a:=hA b (by rw[q];simp);subst e';rw[hK (by rw[q];simp)]at e;cases e)
  have hM:Mod K mg (Tn s₁.heap H):=⟨hKb,nsK hns,⟨mb,nsK hb,hbb⟩,let ⟨mc,h1,h2⟩:=hlim;⟨mc,nsK h1,h2⟩⟩;have e0:Zz P w K mg (Tn s₁.heap H) callerA [] s₁ H:=⟨rfl,hM,fun b o e=>aiS e,Nat.le_of_eq (adV _ _),trivial,fun b hb=>P' (show b∈([]:List Addr) from hb) (by simp),hok,.of_eq hg⟩;refine codeAny_mono ((F _ hKb (nsK hns)).run callerA [] s₁ H ⟨[.ref a],[]⟩ [.ref a] [.ref a] _ _ hr e0 (hbind s₁ (.ref a)) (.cons rfl .nil) (hsp H hO hS)) fun r s' h=>?_;cases r with
  |error e=>exact(hCX H e s' h).elim
  |ok fl =>
   cases fl with
   |next=>exact False.elim h
   |brk=>exact False.elim h
   |cont=>exact False.elim h
   |ret u =>
    obtain⟨v,H',os,bare,un,hok',r',q⟩:=h;have q':v=.bl true:=q;subst q';obtain rfl:u=Value.bool true:=r';refine⟨rfl,OldK.of_keep fun b o e=>?_,os,bare⟩;cases q:H b with
    |none=>exact un.keep b o e q (by intro z;exact P' (show b∈([]:List Addr) from z) (by simp)) (by simp)
    |some u =>
     rcases hO b with z|⟨ob,xs,z⟩
     ·rw[q]at z;cases z
     ·have z2:=un.II b ob _ z;obtain⟨e1,_⟩:=hok b _ z;obtain⟨e2,_⟩:=hok' b _ z2;rw[e]at e1;cases e1;exact e2
 cases hk:K.lookup a with
 |some o =>
  have e:=KX a o hk;rw[ha]at e;cases e;refine core (fun _=>none) (fun _=>.inl rfl) (.inr ⟨_,vs.toArray,_,hk,rfl,rfl,rfl,by rw[Ya',lenV];exact hl,by simpa using rv⟩) (fun b u z=>by have z':(none:Option HO)=some u:=z;cases z') (fun b z=>P' rfl z) fun z=>P' rfl z
 |none =>
  refine core (fun b=>if b=a then some (.Zo { cls:=.type "list",data:=.seq vs.toArray } (.lst (ns.map V.int))) else none) (fun b=>?_) (.inl (.inr ⟨{ cls:=.type "list",data:=.seq vs.toArray },K' rfl⟩)) (fun b u z=>?_) (fun b z=>?_) fun _=>hk
  ·by_cases hb:b=a
   ·exact .inr ⟨_,_,K' hb⟩
   ·exact .inl (G' hb)
  ·by_cases hb:b=a
   ·have z':=(K' hb).symm.trans z;cases z';subst hb;exact⟨ha,by rw[j'];exact hl,vs,_,rv,ha⟩
   ·have z':=(G' hb).symm.trans z;cases z'
  ·by_cases hb:b=a
   ·exact hb
   ·exact P' (G' hb) z
end L2
namespace L2
open PySem PySem.Spec PyProof.Rows
abbrev KOf {K:Frag}{h:Heap}(_:K.In h):Frag:=K
theorem ai6 {l:OpenLaw}{n k:Nat}{q:Program}{loose:List Str}{XP:(Str->Option Value)->Heap->Prop}{YP:World->Heap->Prop}{d:DefRec}{K:Params->Frag}{CX:World->CXT}{sp:World->Sp}{x:Str}
  (hn:l.most=some n) (hn2:n<=sizeLine) (hdf:d.params.defaults=[]) (hr:kI k callerA)
  (hY:∀(w:World)(h:Heap),YP w h->(K w.params).In h)
  (F:∀(w:World)(mg:Str->Option Value)(fa:Addr)(h:Heap),(K w.params).In h->h.Ns mainGlobals mg->mg d.name=some (.ref fa) ->
   ∃ fd:FuncData,(∀(s:Shared)(u:Value),BindsTo s fd ⟨[u],[]⟩ [(x,u)]) /\
    ∀ base:Heap,(K w.params).In base->base.Ns mainGlobals mg->bI l.prog w (K w.params) mg base (CX w) k fa fd [x] (sp w))
  (hsp:∀(w:World)(H:Hp)(a:Addr)(ns:List Int),ns.length<=n->Only H->bh (K w.params) H a (ns.map V.int)->sp w [.ref a] H (fun v _=>v=.bl true) fun _ _ _=>False)
  (hCX:∀(w:World)(H:Hp)(s:Shared)(e:Value)(s':Shared),CX w [] H s (fun _ _ _=>False) e s'->False) :
  WalkO q loose XP YP l.row.toRowW d [] (fun f vs=>PySem.call f vs):=by
 refine Att.Xw hn hdf fun w s₀ s₁ mg mb fa o pm cd doc a vs ns G Y ho hd hcd hmg hobj hints hlen hg=>?_;have KX:=hY w _ Y;obtain⟨fd,hb,hF⟩:=F w mg fa _ KX G.T.g hmg;exact agy KX G.T.g G.T.b G.T.builtins G.T.nolimit hg hobj hints (Zh' hlen hn2) hr hF hb (fun H hO hS=>hsp w H a ns hlen hO hS) fun H e s'=>hCX w H s₁ e s'
end L2
namespace L2
open PySem PySem.Spec PyProof.Rows
def inClass (s:Stmt)(j:Nat):Stmt:=match s with
 |.ClassDef _ _ _ body _ _ _ _ _ _ _=>body.getD j (.Pass ⟨0,0,0,0⟩)
 |_=>.Pass ⟨0,0,0,0⟩
def aH (s:Stmt):Arguments:=match s with
 |.FunctionDef _ a _ _ _ _ _ _ _ _=>a
 |_=>{ posonlyargs:=[],args:=[],vararg:=none,kwonlyargs:=[],kw_defaults:=[],kwarg:=none,defaults:=[] }
def ax (s:Stmt):List Stmt:=match s with
 |.FunctionDef _ _ b _ _ _ _ _ _ _=>b
 |_=>[]
def ae (s:Stmt):Scope:=match s with
 |.FunctionDef _ _ _ _ _ _ sc _ _ _=>sc
 |_=>{ kind:=.function,names:=[],isGenerator:=false,isCoroutine:=false }
abbrev lB:CXT:=fun _ _ _ _ _ _=>False
abbrev E0:XK:=fun _ _ _=>False
theorem aY {X:Cx}:Passes lB X E0:=fun _ _ _ _ _ _ _ h=>h.elim
structure iZ (K:Frag)(x qual:Str)(st:Stmt)(f:Addr)(fd:FuncData):Prop where
 ex:∃(oc:Value)(od:Option Addr)(kV doc pm:Value)(an:Option Addr)(cdv ct:Value)(osl:Array (Option Value)),
  fd=fnOf x qual (aH st) (ax st) (ae st) .none kV doc pm an cdv ct/\K.lookup f=some ⟨oc,od,.func fd,osl⟩/\codeIn K cdv qual=true
 kp:keepIn K (.ref f)=true
section
variable {P:Program} {w:World} {K:Frag} {mg:Str->Option Value} {base:Heap}
theorem iZ.ok {x qual:Str}{st:Stmt}{f:Addr}{fd:FuncData}{N ps:List Str}{k:Nat}{sp:Sp}(F:iZ K x qual st f fd)(S:aI N ps (ae st))(len:∀ vs H Q E,sp vs H Q E->vs.length=ps.length)
  (hbody:∀(cdv:Value)(A:Around)(outer:List Env)(s:Shared)(H:Hp)(vs:List V)(Q:VK)(E:XK),kI k (A.deeper (envOfC qual (ae st) s.heap.objs.size f cdv))->sp vs H Q E ->
   ∃ t,Mv (cj lB P w K mg base N qual (ae st) f cdv A outer s H E).nox (ax st) t/\t { nx:=fun _ H'=>Q .non H',rt:=Q } (start N vs) H):bI P w K mg base lB (k+1) f fd ps sp:=by
 obtain⟨oc,od,kV,doc,pm,an,cdv,ct,osl,rfl,lk,hcd⟩:=F.ex;refine ac8 lk hcd S len fun A outer s H vs Q E hr hsp=>?_;obtain⟨t,h,q⟩:=hbody cdv A outer s H vs Q E hr hsp;exact⟨t,h.nox,q⟩
theorem iZ.binds {x qual:Str}{st:Stmt}{f:Addr}{fd:FuncData}{ps:List Str}(F:iZ K x qual st f fd)
  (h:∀(kV doc pm:Value)(an:Option Addr)(cdv ct:Value)(us:List Value),us.length=ps.length->bindArgs (fnOf x qual (aH st) (ax st) (ae st) .none kV doc pm an cdv ct) ⟨us,[]⟩=pure (ps.zip us)):Binds K fd ps []:=by
 obtain⟨oc,od,kV,doc,pm,an,cdv,ct,osl,rfl,lk,hcd⟩:=F.ex;exact .all (h kV doc pm an cdv ct)
theorem a7 {x qual:Str}{st:Stmt}{f:Addr}{oc:Value}{od an:Option Addr}{osl:Array (Option Value)}{kV doc pm cdv ct:Value}(l:K.lookup f=some ⟨oc,od,.func (fnOf x qual (aH st) (ax st) (ae st) .none kV doc pm an cdv ct),osl⟩)
  (c:codeIn K cdv qual=true) (k:keepIn K (.ref f)=true):iZ K x qual st f (fnOf x qual (aH st) (ax st) (ae st) .none kV doc pm an cdv ct):=⟨⟨oc,od,kV,doc,pm,an,cdv,ct,osl,rfl,l,c⟩,k⟩
end
theorem kf {A:Around}{k:Nat}(hr:kI k A):A.units+1<cLine:=Nat.lt_of_le_of_lt (Nat.add_le_add_left (by decide:1<=64) _) hr.units
theorem ba {n:Nat}(h:n<=1000):n<sizeLine:=Nat.lt_of_le_of_lt h (by decide)
section
variable {X:Cx}
theorem pv (i:Nat){x:Str}{pos:Pos}(hN:X.N[i]? = some x:=by rfl)(hv:Vis X.env.scope x:=by first|exact Or.inl rfl|exact Or.inr (Or.inl rfl)|exact Or.inr (Or.inr rfl))(hd:(x==("__debug__":Str))=false:=by decide)
  (hcd:(x==("__classdict__":Str))=false:=by decide):PE X (.Name x pos) (amT i):=ak2 hN hv hd hcd
end
theorem bZ {A B:Prop}(h:B):if false=true then A else B:=by
 rw[G' Zl'];exact h
theorem cZ {A B:Prop}(h:A):if true=true then A else B:=by
 rw[K' rfl];exact h
theorem a9 {c A B:Prop}[Decidable c](h1:c->A)(h2:¬ c->B):if c then A else B:=by
 by_cases h:c
 ·rw[K' h];exact h1 h
 ·rw[G' h];exact h2 h
def aq (H H':Hp):Prop:=∀ b o,H b=some o->H' b=some o
theorem aq.refl (H:Hp):aq H H:=fun _ _ h=>h
theorem aq.trans {H H1 H2:Hp}(a:aq H H1)(b:aq H1 H2):aq H H2:=fun c o h=>b c o (a c o h)
theorem aq.free {H H':Hp}(e:aq H H'){l:Addr}(h:H' l=Option.none):H l=Option.none:=by
 cases q:H l with
 |none=>rfl
 |some o =>
  rw[e l o q]at h;cases h
theorem aq.seq {K:Frag}{H H':Hp}{a:Addr}{xs:List V}(e:aq H H')(h:bh K H a xs):bh K H' a xs:=by
 rcases h with (h|⟨o,h⟩)|h
 ·exact .inl (.inl (e _ _ h))
 ·exact .inl (.inr ⟨o,e _ _ h⟩)
 ·exact .inr h
end L2
set_option maxHeartbeats 4000000
namespace L2
open PySem PySem.Spec PyProof.Rows
def jI (env:Env):List (Str×NameKind)->List (Str×Addr)->List (Str×Addr)
 |[],acc=>acc
 |p::l,acc=>jI env l (if p.2 == .free then(p.1,(env.cells.lookup p.1).getD 0)::acc else acc)
theorem adj {env:Env}{scope:Scope}(h:∀ p∈scope.names,p.2=.free->∃ c,env.cells.lookup p.1=some c):closureFor scope env=pure (jI env scope.names []):=by
 have go:∀(l:List (Str×NameKind)) (acc:List (Str×Addr)),(∀ p∈l,p.2=.free->∃ c,env.cells.lookup p.1=some c) ->
   (forIn l acc fun(p:Str×NameKind) cs=>if(p.2==NameKind.free)=true then(cellOf env p.1 >>= fun a=>pure (ForInStep.yield ((p.1,a)::cs))) else pure (ForInStep.yield cs))=(pure (jI env l acc):Sem (List (Str×Addr))):=by
  intro l
  induction l with
  |nil=>intro acc _;rfl
  |cons p l ih =>
   intro acc hl;rw[List.forIn_cons];have hr:=fun q hq=>hl q (mem_cons_of_mem _ hq)
   by_cases hk:p.2=.free
   ·obtain⟨c,hc⟩:=hl p mem_cons_self hk;have e1:(p.2==NameKind.free)=true:=by rw[hk];rfl
    rw[K' e1];have e2:cellOf env p.1=pure c:=by unfold cellOf;rw[hc]
    rw[e2,pure_bind,pure_bind];show forIn l ((p.1,c)::acc) _=_;rw[ih _ hr];show _=pure (jI env l (if p.2 == .free then(p.1,(env.cells.lookup p.1).getD 0)::acc else acc));rw[K' e1,hc];rfl
   ·have e1:¬(p.2==NameKind.free)=true:=by intro z;exact hk (by simpa using z)
    rw[G' e1,pure_bind];show forIn l acc _=_;rw[ih _ hr];show _=pure (jI env l (if p.2 == .free then(p.1,(env.cells.lookup p.1).getD 0)::acc else acc));rw[G' e1]
 have e:=go scope.names [] h;unfold closureFor;show(forIn scope.names ([]:List (Str×Addr)) _ >>= fun r=>pure r)=_;rw[bind_pure];exact e
theorem Sq {env:Env}{x:Str}:∀(l:List (Str×NameKind)) (acc:List (Str×Addr)) {c:Addr},(jI env l acc).lookup x=some c->acc.lookup x=some c\/((x,NameKind.free)∈l/\c=(env.cells.lookup x).getD 0)
 |[],acc,c,h=>.inl h
 |p::l,acc,c,h=>by
  rcases Sq l _ h with z|⟨z,e⟩
  ·by_cases hk:(p.2==NameKind.free)=true
   ·rw[K' hk,List.lookup_cons]at z
    by_cases hx:(x==p.1)=true
    ·rw[hx]at z;have e:x=p.1:=by simpa using hx
     have e2:p.2=.free:=by simpa using hk
     refine .inr ⟨?_,?_⟩
     ·rw[e,<-e2];exact mem_cons_self
     ·rw[e];exact(Zb' z).symm
    ·have hx':(x==p.1)=false:=by simpa using hx
     rw[hx']at z;exact .inl z
   ·rw[G' hk]at z;exact .inl z
  ·exact .inr ⟨mem_cons_of_mem _ z,e⟩
theorem N7 {env:Env}{x:Str}:∀(l:List (Str×NameKind)) (acc:List (Str×Addr)),((acc.lookup x).isSome=true\/(x,NameKind.free)∈l)->((jI env l acc).lookup x).isSome=true
 |[],acc,h=>by
  rcases h with h|h
  ·exact h
  ·cases h
 |p::l,acc,h=>by
  refine N7 l _ ?_;rcases h with h|h
  ·left
   by_cases hk:(p.2==NameKind.free)=true
   ·rw[K' hk,List.lookup_cons];cases (x==p.1) with
    |true=>rfl
    |false=>exact h
   ·rw[G' hk];exact h
  ·rcases List.mem_cons.mp h with e|h
   ·left
    have e1:p.1=x:=by rw[<-e]
    have e2:(p.2==NameKind.free)=true:=by rw[<-e];rfl
    rw[K' e2,List.lookup_cons,e1];simp
   ·exact .inr h
theorem sH {env:Env}{x:Str}{k:NameKind}:∀(l:List (Str×NameKind)),
  (l.map fun(n,k)=>if(k==NameKind.free&&env.scope.kind == .function&&env.kindOf n==some .cell) then(n,NameKind.cell) else(n,k)).lookup x=some k ->
   l.lookup x=some k\/(k=.cell/\l.lookup x=some .free)
 |[],h=>by cases h
 |(n,q)::l,h=>by
  rw[map_cons]at h;cases hx:(x==n) with
  |true =>
   rw[List.lookup_cons,hx]
   by_cases hc:(q==NameKind.free&&env.scope.kind == .function&&env.kindOf n==some .cell)=true
   ·simp only [hc,if_true,List.lookup_cons,hx]at h;have e:q=.free:=by
     have:=(Bool.and_eq_true_iff.mp (Bool.and_eq_true_iff.mp hc).1).1
     simpa using this
    right
    exact⟨(Zb' h).symm,by rw[e]⟩
   ·have hc':(q==NameKind.free&&env.scope.kind == .function&&env.kindOf n==some .cell)=false:=by simpa using hc
    simp only [hc',Bool.false_eq_true,if_false,List.lookup_cons,hx]at h;exact .inl h
  |false =>
   rw[List.lookup_cons,hx];refine sH (env:=env) l ?_
   by_cases hc:(q==NameKind.free&&env.scope.kind == .function&&env.kindOf n==some .cell)=true
   ·simp only [hc,if_true,List.lookup_cons,hx]at h;exact h
   ·have hc':(q==NameKind.free&&env.scope.kind == .function&&env.kindOf n==some .cell)=false:=by simpa using hc
    simp only [hc',Bool.false_eq_true,if_false,List.lookup_cons,hx]at h;exact h
structure Bk where
 C:Addr
 s₂:Shared
 aus:Hp
 fp:List Addr
 xe:Value->Shared->Prop
def dG (X:Cx)(cn:List Str)(scope:Scope)(b:Bk):Cx where
 prog:=X.prog
 w:=X.w
 K:=X.K
 mg:=X.mg
 base:=X.base
 A:=X.A
 N:=cn++X.N
 s₀:=b.s₂
 H₀:=b.aus
 env:=compEnvC scope (jI X.env scope.names []) b.C X.env
 outer:=X.stack
 stack:=X.stack
 ex:=b.fp
 fn:=fun _=>false
 calm:=X.calm
 pn:=[]
 xe:=b.xe
def agz (sc:Scope)(N:List Str)(scope:Scope):Bool :=
 (scope.kind == .function) &&
 (scope.names.all fun p=>(p.2 != .cell)&&((p.2 != .free)||(sc.names.lookup p.1==some .cell)||(sc.names.lookup p.1==some .free))&&((p.2 != .local)||(scope.names.lookup p.1==some .local))) &&
 (N.all fun x=>scope.names.lookup x != some .local)
structure il (sc:Scope)(N:List Str)(scope:Scope):Prop where
 kind:scope.kind=.function
 agA:∀ p∈scope.names,p.2≠.cell
 free:∀ p∈scope.names,p.2=.free->sc.names.lookup p.1=some .cell\/sc.names.lookup p.1=some .free
 loc:∀ p∈scope.names,p.2=.local->scope.names.lookup p.1=some .local
 apart:∀ x∈N,scope.names.lookup x≠some .local
theorem il.of {sc:Scope}{N:List Str}{scope:Scope}(h:agz sc N scope=true):il sc N scope:=by
 unfold agz at h;rw[Bool.and_eq_true,Bool.and_eq_true]at h;obtain⟨⟨h1,h2⟩,h3⟩:=h;rw[all_eq_true]at h2 h3;refine⟨by simpa using h1,fun p hp=>?_,fun p hp e=>?_,fun p hp e=>?_,fun x hx=>?_⟩
 ·have:=h2 p hp;rw[Bool.and_eq_true,Bool.and_eq_true]at this
  simpa using this.1.1
 ·have:=h2 p hp;rw[Bool.and_eq_true,Bool.and_eq_true]at this;have q:=this.1.2;rw[e]at q;rw[Bool.or_eq_true,Bool.or_eq_true]at q;rcases q with (q|q)|q
  ·exact P' q (by decide)
  ·exact .inl (by simpa using q)
  ·exact .inr (by simpa using q)
 ·have:=h2 p hp;rw[Bool.and_eq_true,Bool.and_eq_true]at this;have q:=this.2;rw[e]at q;rw[Bool.or_eq_true]at q;rcases q with q|q
  ·exact P' q (by decide)
  ·simpa using q
 ·have:=h3 x hx
  simpa using this
section
variable {X:Cx} {pins:List (Addr×Obj)} {σ:St} {H:Hp}
theorem zE {l:List (Str×NameKind)}{x:Str}{k:NameKind}(h:l.lookup x=some k):(x,k)∈l:=PySem.mem_of_lookup h
theorem Inv.block {s₂:Shared}{h₁:Heap}{tk:Nat}{cn:List Str}{scope:Scope}{fp:List Addr}{xe:Value->Shared->Prop}{C D:Addr}{m:Str->Option Value}
  (I:Inv X pins σ H s₂) (F:il X.env.scope X.N scope) (hc:X.calm=true) (hf:∀ b∈fp,qF X pins H b) (hfl:∀ b∈fp,b<s₂.heap.objs.size)
  (hC:s₂.heap.objs.size<=C) (hD:s₂.heap.objs.size<=D) (hDC:D≠C) (hn:h₁.Ns C m) (old:∀ b o,s₂.heap.get? b=some o->h₁.get? b=some o)
  (hacc:h₁.get? D=some { cls:=.type "list",data:=.seq ([]:List Value).toArray 0 }) :
  Inv (dG X cn scope ⟨C,s₂,H,fp,xe⟩) [] (List.replicate cn.length none++σ) (upd H D (.lst [])) { s₂ with heap:=h₁,toks:=tk }:=by
 have TB:∀ x,((dG X cn scope ⟨C,s₂,H,fp,xe⟩).env.kindOf x=some .cell\/(dG X cn scope ⟨C,s₂,H,fp,xe⟩).env.kindOf x=some .free)->(x,NameKind.free)∈scope.names:=by
  intro x hx;have hx':(relabel scope X.env).names.lookup x=some .cell\/(relabel scope X.env).names.lookup x=some .free:=hx;rcases hx' with z|z
  ·rcases sH scope.names z with z|⟨_,z⟩
   ·exact P' rfl (F.agA _ (zE z))
   ·exact zE z
  ·rcases sH scope.names z with z|⟨e,_⟩
   ·exact zE z
   ·cases e
 have adk:∀ x,(x,NameKind.free)∈scope.names->X.env.kindOf x=some .cell\/X.env.kindOf x=some .free:=fun x hx=>F.free _ hx rfl;have xF:∀ x c,(jI X.env scope.names []).lookup x=some c->X.env.cells.lookup x=some c:=by
  intro x c e;rcases Sq _ _ e with z|⟨z,e2⟩
  ·cases z
  ·obtain⟨c',hc'⟩:=I.ok.has x (adk x z);rw[hc']at e2 ⊢;rw[e2];rfl
 have ar3:(dG X cn scope ⟨C,s₂,H,fp,xe⟩).fs=frs X.stack:=rfl;have apK:∀ b∈fp,b ∉ frs X.stack:=by
  intro b hb z;obtain⟨_,f1,f2,_⟩:=hf b hb;rcases List.mem_cons.mp (I.Zr b z) with e|e
  ·exact f1 e
  ·exact f2 e
 have alj:∀ x c,X.env.cells.lookup x=some c->c<s₂.heap.objs.size:=by
  intro x c e;obtain⟨v,o,ho,_⟩:=I.cell x c e;exact Zc' ho
 have ok:(dG X cn scope ⟨C,s₂,H,fp,xe⟩).Ok:=by
  refine⟨I.ok.mod,?_,I.ok.glob,I.ok.blt,hC,fun x y c h1 h2=>I.ok.inj x y c (xF x c h1) (xF y c h2),fun x hx=>?_,fun x c z=>?_,fun _=>I.ok.hd hc,I.ok.frames,.inl rfl,fun b hb=>⟨?_,fun x c e=>?_⟩,
   fun b o e=>I.bs b o e,Zh' I.ok.bsz I.sz,fun b o e hb=>?_,fun b hb=>?_,I.stack,I.To⟩
  ·show(relabel scope X.env).kind=.function;exact F.kind
  ·have:=N7 (env:=X.env) (x:=x) scope.names [] (.inr (TB x hx));exact Option.isSome_iff_exists.mp this
  ·cases z
  ·exact Zn' (Zd' (hfl b hb) hC)
  ·exact(hf b hb).2.2.2.2.1 x c (xF x c e)
  ·have:X.base.objs.size<=X.s₀.heap.objs.size:=I.ok.bsz;rcases (hf b hb).2.2.2.1 with z|z
   ·exact I.ok.Zp b o e z
   ·exact P' (Zd' (Zc' e) (Zh' I.ok.bsz z)) (Nat.lt_irrefl _)
  ·exact apK b hb
 have hDn:H D=none:=I.hok.fresh hD;have apL:zx X.prog X.w (upd H D (.lst [])) h₁:=I.hok.laid old hD ⟨Zj' _,[],0,.nil,hacc⟩;refine⟨ok,rfl,I.bare,Un.laid old hD hDn,⟨m,hn,fun i x v e1 e2 e3=>?_⟩,fun x c e=>?_,?_,fun x c e=>?_,fun p hp=>P' (show p∈([]:List (Addr×Obj)) from hp) (by simp),apL,?_⟩
 ·have hi:¬ i<cn.length:=by
   intro hi;rw[List.getElem?_append_left (by simpa using hi),List.getElem?_replicate]at e2;split at e2 <;> cases e2
  rw[List.getElem?_append_right (by simpa using hi),List.length_replicate]at e2;have e1':(cn++X.N)[i]? = some x:=e1;rw[List.getElem?_append_right (by omega)]at e1';obtain⟨m0,hm0,hl⟩:=I.loc;have hxN:x∈X.N:=Za' e1';have hfr:(x,NameKind.free)∈scope.names:=by
   have e3':(relabel scope X.env).names.lookup x=some .local\/(relabel scope X.env).names.lookup x=some .cell\/(relabel scope X.env).names.lookup x=some .free:=e3;rcases e3' with z|z|z
   ·rcases sH scope.names z with z|⟨e,_⟩
    ·exact P' z (F.apart x hxN)
    ·cases e
   ·exact TB x (.inl z)
   ·exact TB x (.inr z)
  have hk:=adk x hfr;have vis:Vis X.env.scope x:=by
   rcases hk with z|z
   ·exact .inr (.inl z)
   ·exact .inr (.inr z)
  obtain⟨u,r,lk⟩:=hl (i-cn.length) x v e1' e2 vis;refine⟨u,r,?_⟩;rcases lk with ⟨z,_⟩|⟨_,c,ec,z⟩
  ·rcases hk with q|q
   ·rw[z]at q;cases q
   ·rw[z]at q;cases q
  ·have hcl:(jI X.env scope.names []).lookup x=some c:=by
    obtain⟨c',e'⟩:=Option.isSome_iff_exists.mp (N7 (env:=X.env) (x:=x) scope.names [] (.inr hfr));rw[e'];have:=xF x c' e';rw[ec]at this;exact this.symm
   refine .inr ⟨?_,c,hcl,?_⟩
   ·have e3':(relabel scope X.env).names.lookup x=some .local\/(relabel scope X.env).names.lookup x=some .cell\/(relabel scope X.env).names.lookup x=some .free:=e3;rcases e3' with y|y|y
    ·rcases sH scope.names y with y|⟨e,_⟩
     ·exact P' y (F.apart x hxN)
     ·cases e
    ·exact .inl y
    ·exact .inr y
   ·obtain⟨o,ho,hd⟩:=z;exact⟨o,old c o ho,hd⟩
 ·obtain⟨v,o,ho,hd⟩:=I.cell x c (xF x c e);exact⟨v,o,old c o ho,hd⟩
 ·show upd H D (.lst []) C=none;rw[ak (Yb' hDC)];exact I.hok.fresh hC
 ·rw[ak (Zn' (Zd' (alj x c (xF x c e)) hD))];exact I.rD x c (xF x c e)
 ·show(List.replicate cn.length none++σ).length=(cn++X.N).length;rw[Z',List.length_replicate,Z',I.len]
theorem Inv.adl {s₂ s':Shared}{h':Heap}{cn:List Str}{scope:Scope}{fp:List Addr}{xe:Value->Shared->Prop}{C:Addr}{H':Hp}{σ':St}{pl:List (Addr×Obj)}
  (I:Inv X pins σ H s₂) (hf:∀ b∈fp,qF X pins H b) (hC:s₂.heap.objs.size<=C) (J:Inv (dG X cn scope ⟨C,s₂,H,fp,xe⟩) pl σ' H' s') (sb:Heap.SameBut C s'.heap h') :
  Inv X pins σ H' { s' with heap:=h' }:=by
 have neC:∀ b o,s₂.heap.get? b=some o->b≠C:=fun b o e=>Zn' (Zd' (Zc' e) hC);have u:Un (frs X.stack) fp H H' s₂.heap s'.heap:=J.base;have un:Un (frs X.stack) fp H H' s₂.heap h' :=
  ⟨fun b o e n hb hx=>(sb.2 b (neC b o e)).trans (u.keep b o e n hb hx),
   fun b o e n hb hx=>by
   obtain⟨sl,q⟩:=u.slot b o e n hb hx;exact⟨sl,(sb.2 b (neC b o e)).trans q⟩,
   u.free,fun b o e hx=>by
   obtain⟨o',q⟩:=u.there b o e hx;exact⟨o',(sb.2 b (neC b o e)).trans q⟩,u.tups,u.II,u.Na⟩
 have fC:H' C=none:=J.free;have hok:zx X.prog X.w H' h':=fun b o e=>by
  refine(J.hok b o e).stay (fun c v hc q=>(sb.2 c ?_).trans q) (fun _ q=>q) fun _ _ q=>q;rintro rfl;rcases hc with z|z
  ·rw[<-z,fC]at e;cases e
  ·rw[fC]at z;cases z
 have os:s'.os=s₂.os:=J.os;refine I.call' (s':={ s' with heap:=h' }) os un hok J.bare fun b hb=>?_;obtain⟨_,f1,_,f3,f4,f5⟩:=hf b hb;exact⟨f3,f1,f4,f5⟩
end
end L2
namespace L2
open PySem PySem.Spec PyProof.Rows
theorem aec {prog:Program}{w:World}{A:Around}{R:Result->Shared->Prop}{s:Shared}{elt tg iter:Expr}{ifs:List Expr}{scope:Scope}{pos:Pos}{it acc:Value}{env:Env}(J:Nat->Shared->Prop)
  (turn:∀ n s,J n s->wpAny (model prog w) A (pyNext it) (fun r s₁=>(r=none/\R (.ok .next) s₁)\/∃ v,r=some v /\
   wpAny (model prog w) A (letOwnedTupleGo tg it v) (fun _ s₂=>wpAny (model prog w) A (assign tg env v) (fun _ s₃ =>
    wpAny (model prog w) A (forIn ifs true fun c r=>if r=true then do let ok <-isTrue c env (eval c env);pure (ForInStep.yield ok) else pure (ForInStep.yield r)) (fun ok s₄ =>
     if ok=true then wpAny (model prog w) A (eval elt env) (fun x s₅=>wpAny (model prog w) A (call (.builtin "list.append") [acc,x]) (fun _ s₆=>∃ m,m<n/\J m s₆) (notedBy (model prog w) A env fun e s'=>R (.error e) s') s₅)
      (notedBy (model prog w) A env fun e s'=>R (.error e) s') s₄
     else ∃ m,m<n/\J m s₄) (notedBy (model prog w) A env fun e s'=>R (.error e) s') s₃) (notedBy (model prog w) A env fun e s'=>R (.error e) s') s₂) (notedBy (model prog w) A env fun e s'=>R (.error e) s') s₁)
   (notedBy (model prog w) A env fun e s'=>R (.error e) s') s)
  (n:Nat) (h:J n s):codeAny (model prog w) A (.compLoop (.ListComp elt [⟨tg,iter,ifs,0⟩] scope pos) 0 it acc env) R s:=by
 refine codeAny_loop rfl J (fun n s hJ=>?_) n h;refine wpAny_noted (A:=A) (m:=compTurn (.ListComp elt [⟨tg,iter,ifs,0⟩] scope pos) 0 it acc env) (env:=env) ?_;rw[compTurn_list];refine L' (wpAny_standAt (L' (cU (turn n s hJ) fun r s₁ h₁=>?_)));rcases h₁ with ⟨e,h₁⟩|⟨v,e,h₁⟩
 ·subst e;exact N' h₁
 ·subst e;refine L' (cU h₁ fun _ s₂ h₂=>L' (cU h₂ fun _ s₃ h₃=>L' (cU h₃ fun ok s₄ h₄=>?_)));cases ok with
  |false=>exact N' ⟨rfl,h₄⟩
  |true=>exact L' (L' (cU h₄ fun x s₅ h₅=>L' (cU h₅ fun _ s₆ h₆=>N' (N' ⟨rfl,h₆⟩))))
def PF (X:Cx)(ifs:List Expr)(t:TT):Prop :=
 ∀(pins:List (Addr×Obj)) (s:Shared) (σ:St) (H:Hp) (Q:Bool->Hp->Prop),Inv X pins σ H s->t σ H Q ->
  wpAny (model X.prog X.w) X.A (forIn ifs true fun c r=>if r=true then do let ok <-isTrue c X.env (eval c X.env);pure (ForInStep.yield ok) else pure (ForInStep.yield r)) (TP X pins σ Q) X.xe s
def alk:TT:=fun _ H Q=>Q true H
theorem zF {X:Cx}:PF X [] alk:=by
 intro pins s σ H Q I h;rw[List.forIn_nil];exact N' ⟨H,I,h⟩
theorem alm {X:Cx}{c:Expr}{t:TT}(hc:PT X c t):PF X [c] t:=by
 intro pins s σ H Q I h;rw[List.forIn_cons];refine L' ?_;rw[K' rfl];refine L' (cU (hc pins s σ H Q I h) fun ok s1 q=>N' ?_);show wpAny _ _ (forIn [] ok _) _ _ _;rw[List.forIn_nil];exact N' q
def ZJ (X:Cx)(C:Addr)(e:Value)(s':Shared):Prop :=
 ∃ m,s'.heap.Ns C m/\∀ h',Heap.SameBut C s'.heap h'->∀ cenv:Env,cenv.locals=C->wpAny (model X.prog X.w) X.A (passOn "comprehension.variables-let-go" e cenv:Sem Value) (fun _ _=>False) X.xe { s' with heap:=h' }
def wk (X:Cx)(scope:Scope)(C:Addr):Value->Shared->Prop :=
 notedBy (model X.prog X.w) X.A (compEnvC scope (jI X.env scope.names []) C X.env) (ZJ X C)
def agB (n:Nat)(wi:TI)(g:Bk->TG)(tc:Bk->TT)(te:Bk->TE):TE:=fun σ H Q=>wi σ H fun J H1=>∀(D:Addr)(b:Bk),H1 D=none->∃ W:Nat->Nat->List V->St->Hp->Prop,
 (∃ m,W 0 m [] (List.replicate n none++σ) (upd H1 D (.lst [])))/\∀ i m ys σ H,W i m ys σ H ->
  (J.stop i H/\Q (.ref D) H)\/(J.go i H/\∀ x H',J.yld i H x H'->g b x σ H' fun σ2 H2=>tc b σ2 H2 fun ok H3 =>
   if ok=true then te b σ2 H3 fun y H4=>H4 D=some (.lst ys)/\ys.length<sizeLine/\∃ m',m'<m/\W (i+1) m' (ys++[y]) σ2 (upd H4 D (.lst (ys++[y])))
   else ∃ m',m'<m/\W (i+1) m' ys σ2 H3)
section
variable {X:Cx} {tg iter elt:Expr} {ifs:List Expr} {scope:Scope} {pos:Pos} {cn:List Str} {wi:TI} {g:Bk->TG} {tc:Bk->TT} {te:Bk->TE} {TH:Bk->Prop}
theorem Xx {pins:List (Addr×Obj)}{σ:St}{H:Hp}{s₂:Shared}{it:Addr}{fp:List Addr}{tn:Nat->Heap->Prop}{J:It}{RR:Value->Addr->Result->Shared->Prop}{QQ:Addr->Hp->Prop}{EE:Value->Shared->Prop}
  (hcalm:X.calm=true) (F:il X.env.scope X.N scope) (hg:∀ b,TH b->PG (dG X cn scope b) tg (g b)) (ht:∀ b,TH b->PF (dG X cn scope b) ifs (tc b)) (he:∀ b,TH b->PE (dG X cn scope b) elt (te b))
  (hTH:∀ C,s₂.heap.objs.size<=C->TH ⟨C,s₂,H,fp,wk X scope C⟩)
  (I:Inv X pins σ H s₂) (T:Turn X.prog X.w X.K tg J fp it tn) (st:tn 0 s₂.heap) (hf:∀ b∈fp,qF X pins H b)
  (h:∀(D:Addr)(b:Bk),H D=none->∃ W:Nat->Nat->List V->St->Hp->Prop,(∃ m,W 0 m [] (List.replicate cn.length none++σ) (upd H D (.lst [])))/\∀ i m ys σ H,W i m ys σ H ->
   (J.stop i H/\QQ D H)\/(J.go i H/\∀ x H',J.yld i H x H'->g b x σ H' fun σ2 H2=>tc b σ2 H2 fun ok H3 =>
    if ok=true then te b σ2 H3 fun y H4=>H4 D=some (.lst ys)/\ys.length<sizeLine/\∃ m',m'<m/\W (i+1) m' (ys++[y]) σ2 (upd H4 D (.lst (ys++[y])))
    else ∃ m',m'<m/\W (i+1) m' ys σ2 H3))
  (hR:∀ C D σ' H' s',s₂.heap.objs.size<=C->Inv (dG X cn scope ⟨C,s₂,H,fp,wk X scope C⟩) [] σ' H' s'->QQ D H'->RR (.ref D) C (.ok .next) s')
  (hE:∀ C D e s',ZJ X C e s'->RR (.ref D) C (.error e) s') :
  wpAny (model X.prog X.w) X.A (newList []) (fun acc s₃=>wpAny (model X.prog X.w) X.A (newFunctionEnv scope X.env.globals (jI X.env scope.names []) [] X.env.qual none .none (some X.env)) (fun cenv s₄ =>
   codeAny (model X.prog X.w) X.A (.compStart (.ListComp elt [⟨tg,iter,ifs,0⟩] scope pos) 0 (.ref it) acc { cenv with scope:=relabel scope X.env }) (RR acc cenv.locals) s₄) EE s₃) EE s₂:=by
 refine wpAny_newObj_type (wpAny_newFunctionEnv F.agA (by intro y hy;simp at hy) (fun h₁ hns₁ hsb₁=>?_) F.kind);dsimp only at hns₁ hsb₁ ⊢;generalize hH2:s₂.heap.push { cls:=.type "list",dict:=none,data:=.seq ([]:List Value).toArray } = H2 at hns₁ hsb₁ ⊢;have hC:H2.objs.size=s₂.heap.objs.size+1:=by rw[<-hH2,Heap.size_push]
 have hDC:s₂.heap.objs.size≠H2.objs.size:=by omega
 have hCle:s₂.heap.objs.size<=H2.objs.size:=by omega
 have hfl:∀ b∈fp,b<s₂.heap.objs.size:=fun b hb=>by
  obtain⟨o,e,_⟩:=T.obj 0 _ st b hb;exact Zc' e
 have apN:∀ b o,s₂.heap.get? b=some o->H2.get? b=some o:=fun b o e=>hH2 ▸ V' _ e;have old:∀ b o,s₂.heap.get? b=some o->h₁.get? b=some o:=fun b o e=>by
  have hb:=Zc' e;refine hsb₁.extBut b o (Zn' (Zd' hb hCle)) (V' _ (apN b o e))
 have hacc:h₁.get? s₂.heap.objs.size=some { cls:=.type "list",data:=.seq ([]:List Value).toArray 0 } :=
  hsb₁.extBut _ _ hDC (V' _ (hH2 ▸ Zo' _ rfl))
 have I0:=Inv.block (cn:=cn) (xe:=wk X scope H2.objs.size) (tk:=s₂.toks+([]:List (Str×Value)).length) I F hcalm hf hfl hCle (Zi' _) hDC hns₁ old hacc;have th:=hTH _ hCle;obtain⟨W,⟨m0,w0⟩,turn⟩:=h s₂.heap.objs.size ⟨H2.objs.size,s₂,H,fp,wk X scope H2.objs.size⟩ (I.hok.fresh (Zi' _));have fpx:∀{H':Hp},(∀ b∈fp,H' b=none)->∀ b∈fp,qF (dG X cn scope ⟨H2.objs.size,s₂,H,fp,wk X scope H2.objs.size⟩) [] H' b:=fun {H'} hn b hb=>by
  refine⟨hn b hb,(I0.ok.exf b hb).1,I0.ok.Zq b hb,.inl hb,(I0.ok.exf b hb).2,fun p hp=>P' (show p∈([]:List (Addr×Obj)) from hp) (by simp)⟩
 have akA:(dG X cn scope ⟨H2.objs.size,s₂,H,fp,wk X scope H2.objs.size⟩).calm=true:=hcalm;have loop:∀ s₃:Shared,s₃ = { s₂ with heap:=h₁,toks:=s₂.toks+([]:List (Str×Value)).length } ->
   codeAny (model X.prog X.w) X.A (.compLoop (.ListComp elt [⟨tg,iter,ifs,0⟩] scope pos) 0 (.ref it) (.ref s₂.heap.objs.size) (compEnvC scope (jI X.env scope.names []) H2.objs.size X.env))
    (RR (.ref s₂.heap.objs.size) H2.objs.size) s₃:=by
  rintro s₃ rfl;have toE:∀ e s',(dG X cn scope ⟨H2.objs.size,s₂,H,fp,wk X scope H2.objs.size⟩).xe e s' ->
    notedBy (model X.prog X.w) X.A (compEnvC scope (jI X.env scope.names []) H2.objs.size X.env) (fun e s'=>RR (.ref s₂.heap.objs.size) H2.objs.size (.error e) s') e s':=fun e s' z =>
   wpAny_mono (show notedBy (model X.prog X.w) X.A (compEnvC scope (jI X.env scope.names []) H2.objs.size X.env) (ZJ X H2.objs.size) e s' from z) (fun _ _ q=>hE _ _ _ _ q) fun _ _ q=>hE _ _ _ _ q
  refine aec (env:=compEnvC scope (jI X.env scope.names []) H2.objs.size X.env)
   (fun n s'=>∃ i ys σ' H',Inv (dG X cn scope ⟨H2.objs.size,s₂,H,fp,wk X scope H2.objs.size⟩) [] σ' H' s'/\tn i s'.heap/\(∀ b∈fp,H' b=none)/\W i n ys σ' H') ?_ m0
   ⟨0,[],_,_,I0,T.keep _ _ _ st fun b _ o e=>old b o e,fun b hb=>?_,w0⟩
  ·rintro n s' ⟨i,ys,σ',H',I',st',fr',w'⟩;rcases turn i n ys σ' H' w' with ⟨stop,qn⟩|⟨go,step⟩
   ·refine wpAny_mono (T.done (dG X cn scope ⟨H2.objs.size,s₂,H,fp,wk X scope H2.objs.size⟩) rfl rfl rfl akA i [] s' σ' H' (fun _ _=>False) I' (fpx fr') st' stop) (fun r s4 ⟨hr,I4⟩=>?_) fun _ _ z=>z.elim;exact .inl ⟨hr,hR _ _ _ _ _ hCle I4 qn⟩
   ·refine wpAny_mono (T.item (dG X cn scope ⟨H2.objs.size,s₂,H,fp,wk X scope H2.objs.size⟩) rfl rfl rfl akA i [] s' σ' H' (fun _ _=>False) I' (fpx fr') st' go) (fun r s4 ⟨u,hr,h4⟩=>?_) fun _ _ z=>z.elim;refine .inr ⟨u,hr,wpAny_mono h4 (fun _ s5 ⟨x,H5,I5,r5,y5,st5,fr5⟩=>?_) fun _ _ z=>z.elim⟩;have I5':=I5.pinned (fpx fr5) (T.obj _ _ st5);refine wpAny_mono (hg _ th _ s5 σ' H5 x u _ I5' r5 (step x H5 y5)) (fun _ s6 ⟨σ6,H6,I6,q6⟩=>?_) toE;refine wpAny_mono (ht _ th _ s6 σ6 H6 _ I6 q6) (fun ok s7 ⟨H7,I7,q7⟩=>?_) toE;have back:∀{σ8:St} {H8:Hp} {s8:Shared},Inv (dG X cn scope ⟨H2.objs.size,s₂,H,fp,wk X scope H2.objs.size⟩) ([]++N3 fp s5.heap) σ8 H8 s8->tn (i+1) s8.heap/\∀ b∈fp,H8 b=none:=fun {σ8 H8 s8} I8=>by
     refine⟨T.keep _ _ _ st5 fun b hb o e=>(I8.pin (b,o) (Zm' _ (Zm' _ (xy hb e)))).1,fun b hb=>?_⟩;obtain⟨o,e,d⟩:=T.obj _ _ st5 b hb;exact(I8.pin (b,o) (Zm' _ (Zm' _ (xy hb e)))).2.1
    cases ok with
    |false =>
     rw[G' Zl']at q7 ⊢;obtain⟨m',hm,w7⟩:=q7;obtain⟨t8,f8⟩:=back I7;exact⟨m',hm,i+1,ys,σ6,H7,I7.zA,t8,f8,w7⟩
    |true =>
     rw[K' rfl]at q7 ⊢;refine wpAny_mono (he _ th _ s7 σ6 H7 _ I7 q7) (fun v s8 ⟨y,H8,I8,r8,hl,hz,m',hm,w8⟩=>?_) toE;refine wpAny_mono (bW (X:=dG X cn scope ⟨H2.objs.size,s₂,H,fp,wk X scope H2.objs.size⟩) _ s8 σ6 H8 (.ref s₂.heap.objs.size) [y] (.ref s₂.heap.objs.size) [v] (fun _ H9=>W (i+1) m' (ys++[y]) σ6 H9) I8 rfl (.cons r8 .nil) ⟨_,ys,y,rfl,rfl,hl,hz,w8⟩)
      (fun _ s9 ⟨_,H9,I9,_,w9⟩=>?_) toE
     obtain⟨t9,f9⟩:=back I9;exact⟨m',hm,i+1,_,σ6,H9,I9.zA,t9,f9,w9⟩
  ·rw[ak (Zn' (hfl b hb))];exact(hf b hb).1
 exact codeAny_compStart_list (loop _ rfl) (T.self _ 0 _ _ _ (T.keep _ _ _ st fun b _ o e=>old b o e) (loop _ rfl))
theorem agC (hcalm:X.calm=true)(F:il X.env.scope X.N scope)(hi:PI X tg iter wi)(hg:∀ b,TH b->PG (dG X cn scope b) tg (g b))(ht:∀ b,TH b->PF (dG X cn scope b) ifs (tc b))
  (he:∀ b,TH b->PE (dG X cn scope b) elt (te b))
  (hTH:∀ pins σ H s₂ fp C,Inv X pins σ H s₂->(∀ b∈fp,qF X pins H b)->s₂.heap.objs.size<=C->TH ⟨C,s₂,H,fp,wk X scope C⟩)
  (hs:∀ x,foldedSetIterable iter X.env x=pure x:=by intro _;rfl):PE X (.ListComp elt [⟨tg,iter,ifs,0⟩] scope pos) (agB cn.length wi g tc te):=by
 intro pins s σ H Q I h;rw[eval_ListComp];have hcl:closureFor scope X.env=pure (jI X.env scope.names []):=adj fun p hp e=>I.ok.has p.1 (F.free p hp e);refine wpAny_comprehension_free (use:=none) rfl hs hcl F.kind F.loc (cU (hi pins s σ H _ I h) fun xv s₁ h₁=>cU h₁ fun itv s₂ h₂=>?_);obtain⟨it,fp,tn,J,H2,rfl,I2,T,st,f2,R⟩:=h₂;refine Xx (QQ:=fun D H'=>Q (.ref D) H') (RR:=fun acc C=>compPost (model X.prog X.w) X.A X.xe none (EP X pins σ Q) acc C) hcalm F hg ht he (fun C hC=>hTH pins σ H2 s₂ fp C I2 f2 hC) I2 T st f2 R ?_ ?_
 ·intro C D σ' H' s' hC I' q;obtain⟨m,hm,_⟩:=I'.loc;exact⟨m,hm,fun h' sb=>⟨.ref D,H',I2.adl f2 hC I' sb,rfl,q⟩⟩
 ·intro C D e s' z;exact z
theorem uy (hcalm:X.calm=true)(F:il X.env.scope X.N scope)(hi:PI X tg iter wi)(hg:∀ b,PG (dG X cn scope b) tg (g b))(ht:∀ b,PF (dG X cn scope b) ifs (tc b))(he:∀ b,PE (dG X cn scope b) elt (te b))
  (hs:∀ x,foldedSetIterable iter X.env x=pure x:=by intro _;rfl):PE X (.ListComp elt [⟨tg,iter,ifs,0⟩] scope pos) (agB cn.length wi g tc te) :=
 agC (TH:=fun _=>True) hcalm F hi (fun b _=>hg b) (fun b _=>ht b) (fun b _=>he b) (fun _ _ _ _ _ _ _ _ _=>trivial) hs
end
end L2
namespace L2
open PySem PySem.Spec PyProof.Rows
section
variable {X:Cx} {e:Expr} {es:List Expr} {te:TE} {pos:Pos}
abbrev TP1:=St->Hp->(Str->Hp->Prop)->Prop
abbrev TPs:=Str->St->Hp->(Str->Hp->Prop)->Prop
theorem lC:lj X (.type "int") (fun xs H Q=>∃ z n,xs=[.str z]/\PySem.intText? z=some n/\z.length<=640/\Q (.int n) H):=by
 intro pins s σ H xs us Q I r h;obtain⟨z,n,rfl,hn,hl,q⟩:=h;obtain⟨u,rfl,t,rfl⟩:=r.one;exact PySem.W.KIN.call_text hn hl ⟨.int n,H,I.tok _,⟨_,rfl⟩,q⟩
theorem ZK {ys:List Str}:∀{us:List Value},Vals (ys.map V.str) us->StrsAre us ys:=by
 induction ys with
 |nil=>intro us r;rw[List.map_nil]at r;cases r;exact .nil
 |cons n ns ih =>
  intro us r;rw[map_cons]at r;cases r with
  |cons r1 r2 =>
   obtain⟨t,e⟩:=r1;subst e;exact .cons n t (ih r2)
def apP:V->Option Int->Option Int->Hp->VK->Prop:=fun x lo hi H Q=>∃ z,x=.str z/\z.length<=sizeLine/\Q (.str (Txt.slice z lo hi)) H
theorem Sr {v:Value}{o:Option Int}(p:IsPart v o):∃ l:Option (Int×Tok),v=partValue l/\l.map (·.1)=o:=by
 cases p with
 |none=>exact⟨none,rfl,rfl⟩
 |int i t=>exact⟨some (i,t),rfl,rfl⟩
theorem zG:SlR X apP:=by
 intro pins s σ H x v vl vu lo hi sl Q I rx hs pl pu h;obtain⟨z,rfl,hz,q⟩:=h;obtain⟨t,rfl⟩:=rx;obtain⟨l,rfl,el⟩:=Sr pl;obtain⟨u,rfl,eu⟩:=Sr pu;subst el eu;refine⟨"str",_,F.slot_str_getitem.lookup,typeIs_str _ _ _,?_⟩;obtain⟨o,ho,hc,hd⟩:=hs;refine wpAny_getItem_str_slice (l:=l) (u:=u) (st:=none) ⟨o,ho,hc,hd⟩ rfl ?_;exact post_val_or_str ⟨Zh' (Txt.slice_le z _ _) hz,fun t' k=>⟨.str _,H,I.tok _,⟨t',rfl⟩,q⟩⟩
def Its (z:Str):It:=⟨fun i _=>i<z.cps.size,fun i H x H'=>H'=H/\∃ c,z.cps[i]? = some c/\x=.str ⟨#[c]⟩,fun i _=>z.cps.size<=i⟩
def apQ (tl:TE):TI:=fun σ H R=>tl σ H fun x H1=>∃ z,x=.str z/\R (Its z) H1
theorem Xy {P:Program}{w:World}{K:Frag}{tg:Expr}{z:Str}{it:Addr}{T:String}{t:Tok}(hT:["enumerate","zip","dict_itemiterator","dict_reverseitemiterator","odict_iterator","itertools.zip_longest","itertools.pairwise"].contains T=false)
  (W:∀ A:Around,A.handled=none->Walks P w A it [it] [it] z.cps.size (SignAt z) (fun i h=>h.IsStrIter it T z t i)) 
  (S:∀(A:Around)(i:Nat)(s:Shared)(Q:Value->Shared->Prop)(E:Value->Shared->Prop),s.heap.IsStrIter it T z t i->Q (.ref it) s->wpAny (model P w) A (pyIter (.ref it)) Q E s) :
  Turn P w K tg (Its z) [it] it (fun i h=>h.IsStrIter it T z t i/\i<=z.cps.size) where
 mem:=by simp
 obj:=fun i h st b hb=>by
  have e:b=it:=by simpa using hb
  subst e;obtain⟨⟨o,e,c,d⟩,_⟩:=st;exact⟨o,e,fun v q=>by rw[d]at q;cases q⟩
 keep:=fun i h h' st k=>⟨by
  obtain⟨⟨o,e,c,d⟩,_⟩:=st;exact⟨o,k it (by simp) o e,c,d⟩,st.2⟩
 item:=by
  intro X hP hw hK hc i pins s σ H E I hf st hg;subst hP hw hK;obtain⟨f0,f1,f2,f3,f4,f5⟩:=hf it (by simp);have hgi:i<z.cps.size:=hg;refine(W X.A (I.ok.hd hc)).item i s _ _ hgi st.1 fun v h' tk hv st' kk=>?_;obtain⟨c,u,hc',rfl⟩:=hv;have I1:Inv X pins σ H { s with heap:=h',toks:=tk }:=I.turned (fun b o hb e=>kk b o (by simpa using hb) e) f0 f1 f3 f4 f5;obtain⟨o,e,cc,d⟩:=id st';exact⟨_,rfl,ac2 (s:={ s with heap:=h',toks:=tk }) e cc d hT ⟨.str ⟨#[c]⟩,H,I1,⟨u,rfl⟩,⟨rfl,c,hc',rfl⟩,⟨st',hgi⟩,fun b hb=>(hf b hb).1⟩⟩
 done:=by
  intro X hP hw hK hc i pins s σ H E I hf st hg;subst hP hw hK;obtain⟨f0,f1,f2,f3,f4,f5⟩:=hf it (by simp);have hge:z.cps.size<=i:=hg;have e:i=z.cps.size:=Nat.le_antisymm st.2 hge;subst e;exact(W X.A (I.ok.hd hc)).done s _ _ st.1 fun h' tk kk=>⟨rfl,I.turned (fun b o hb e=>kk b o (by simpa using hb) e) f0 f1 f3 f4 f5⟩
 self:=fun A i s Q E st h=>S A i s Q E st.1 h
theorem agD {tg l:Expr}{tl:TE}(hl:PE X l tl):PI X tg l (apQ tl):=by
 intro pins s σ H R I h;refine cU (hl pins s σ H _ I h) fun v s1 ⟨x,H1,I1,r1,q1⟩=>?_;obtain⟨z,rfl,q⟩:=q1;obtain⟨t,rfl⟩:=r1;have fp:∀ b∈[s1.heap.objs.size],qF X pins H1 b:=fun b hb=>by
  have e:b=s1.heap.objs.size:=by simpa using hb
  subst e;exact I1.Tp (Zi' _) (I1.hok.fresh (Zi' _))
 cases ha:z.cps.all (· < 128)
 ·refine wpAny_pyIter_wide ha ?_;refine⟨s1.heap.objs.size,[s1.heap.objs.size],_,_,H1,rfl,I1.kept (t':=s1.toks) fun b o e=>V' _ e,Xy (T:="str_iterator") (t:=t) (by decide) (fun A hA=>Walks.strWide hA _ z t)
   (fun A i s Q E st hq=>wpAny_pyIter_striter_wide st hq),⟨⟨_,Zo' _ rfl,rfl,rfl⟩,Zj' _⟩,fp,q⟩
 ·refine wpAny_pyIter_ascii ha ?_;refine⟨s1.heap.objs.size,[s1.heap.objs.size],_,_,H1,rfl,I1.kept (t':=s1.toks) fun b o e=>V' _ e,Xy (T:="str_ascii_iterator") (t:=t) (by decide) (fun A hA=>Walks.strAscii hA _ z t)
   (fun A i s Q E st hq=>wpAny_pyIter_striter_ascii st hq),⟨⟨_,Zo' _ rfl,rfl,rfl⟩,Zj' _⟩,fp,q⟩
theorem any_range:∀ bs:List Bool,(List.range bs.length).any (fun i=>bs.getD i false)=bs.any id
 |[]=>rfl
 |b::bs=>by
  rw[Zp',List.range_succ_eq_map,List.any_cons,List.any_map,List.any_cons];have:((fun i=>(b::bs).getD i false) ∘ Nat.succ)=fun i=>bs.getD i false:=by
   funext i
   rfl
  rw[this,any_range bs];rfl
theorem Xz:lj X (.builtin "any") (fun xs H Q=>X.calm=true/\∃(a:Addr)(bs:List Bool),xs=[.ref a]/\bh X.K H a (bs.map V.bl)/\Q (.bl (bs.any id)) H):=by
 intro pins s σ H xs us Q I r h;obtain⟨hc,a,bs,rfl,hq,q⟩:=h;obtain⟨u,rfl,rfl⟩:=r.one;obtain⟨its,rv,p,hz⟩:=I.list hq;have hl:=rv.length;rw[j']at hl;have aln:∀(i:Nat)(v:Value),its.toArray[i]? = some v->v=Value.bool (bs.getD i false):=by
  intro i v hv;have hv':its[i]? = some v:=by simpa using hv
  have hi:i<its.length:=(S'.mp hv').1;have hb:i<bs.length:=by omega
  obtain⟨u,hu,ru⟩:=rv.get (i:=i) (x:=.bl (bs[i])) (by rw[Zf',T' hb];rfl);rw[hv']at hu;cases hu;have:v=.bool bs[i]:=ru;rw[this,List.getD_eq_getElem?_getD,T' hb];rfl
 refine call_any_walk (wpAny_pyIter_list p.isList ?_);have ane:a≠s.heap.objs.size:=by
  obtain⟨o,ho,_⟩:=p.isList;exact Zn' (Zc' ho)
 have hd:X.A.in1.handled=none:=I.ok.hd hc;refine⟨s.heap.objs.size,_,_,_,_,_,fun i=>bs.getD i false,rfl,Walks.list hd s.heap.objs.size a ane its.toArray,⟨⟨_,Zo' _ rfl,rfl,rfl⟩,p.isList.push _⟩,?_,?_⟩
 ·intro i v s' Q' E' hP hQ';rw[aln i v hP];exact wpAny_truthy_bool hQ'
 ·intro h' tk kk;have e:(List.range its.toArray.size).any (fun i=>bs.getD i false)=bs.any id:=by
   rw[Ya',<-hl];exact any_range bs
  rw[e];refine⟨.bl _,H,I.kept (t':=tk) fun b o e=>kk b o (fun z=>?_) (V' _ e),rfl,q⟩;have:b=s.heap.objs.size:=by simpa using z
  exact P' (Zc' e) (by rw[this];exact Nat.lt_irrefl _)
end
end L2
namespace L2
open PySem PySem.Spec PyProof.Rows PySem.SeqAt
inductive Deq (K:Frag)(H:Hp):Nat->V->V->Prop where
 |flat {n:Nat} {x:V} (f:Cp x=true):Deq K H n x x
 |tup {n:Nat} {a b:Addr} {xs ys:List V} (ha:vH K H a xs) (hb:vH K H b ys) (hl:xs.length=ys.length) (h:∀(i:Nat) x y,xs[i]? = some x->ys[i]? = some y->Deq K H n x y):Deq K H (n+1) (.ref a) (.ref b)
 |lst {n:Nat} {a b:Addr} {xs ys:List V} (ha:bh K H a xs) (hb:bh K H b ys) (hl:xs.length=ys.length) (h:∀(i:Nat) x y,xs[i]? = some x->ys[i]? = some y->Deq K H n x y):Deq K H (n+1) (.ref a) (.ref b)
section
variable {X:Cx} {pins:List (Addr×Obj)} {σ:St} {H:Hp} {s:Shared}
theorem agF:∀{x:V},Cp x=true->eqV x x=true:=by
 intro x f;cases x <;> first|(simp[eqV];done)|(cases f)
theorem zH (n:Nat):(List.range n).all (fun _=>true)=true:=by simp
theorem Deq.at {n:Nat}{x y:V}(d:Deq X.K H n x y)(I:Inv X pins σ H s):∀{A:Around} {u v:Value},A.units+n<cLine->RelV x u->RelV y v ->
  EqAt A s u v true/\(∀ a b,x=.ref a->y=.ref b->RcAt A s u v true/\RcNeAt A s u v false):=by
 induction d with
 | @flat n x f =>
  intro A u v hu ru rv;refine⟨?_,fun a b e _=>?_⟩
  ·have:=agr (A:=A) (s:=s) ru rv f f;rw[agF f]at this;exact this
  ·subst e;cases f
 | @tup n a b xs ys ha hb hl h ih =>
  intro A u v hu ru rv;cases ru;cases rv;obtain⟨its,r,p,_⟩:=I.tuple ha;obtain⟨its',r',p',_⟩:=I.tuple hb;have e1:=r.length;have e2:=r'.length;have he:∀ j (h1:j<its.toArray.size) (h2:j<its'.toArray.size),EqAt A.in1 s its.toArray[j] its'.toArray[j] true:=by
   intro j h1 h2;have h1':j<its.length:=by simpa using h1
   have h2':j<its'.length:=by simpa using h2
   have g1:xs[j]? = some xs[j]:=T' (by omega);have g2:ys[j]? = some ys[j]:=T' (by omega);obtain⟨u1,q1,k1⟩:=r.get g1;obtain⟨u2,q2,k2⟩:=r'.get g2;have z1:its.toArray[j]=u1:=by
    rw[T' h1']at q1
    simpa using q1
   have z2:its'.toArray[j]=u2:=by
    rw[T' h2']at q2
    simpa using q2
   rw[z1,z2];exact(ih j _ _ g1 g2 (by show A.units+1+n<cLine;omega) k1 k2).1
  have bt:((List.range (min its.toArray.size its'.toArray.size)).all (fun _=>true)&&its.toArray.size==its'.toArray.size)=true:=by
   rw[zH];simp;omega
  have rc:RcAt A s (.ref a) (.ref b) true:=by
   have:=RcAt.tuples (A:=A) (e:=fun _=>true) (show s.heap.IsTuple a its.toArray from p) (show s.heap.IsTuple b its'.toArray from p') (by omega) he;rw[bt]at this;exact this
  have rn:RcNeAt A s (.ref a) (.ref b) false:=by
   have:=RcNeAt.tuples (A:=A) (e:=fun _=>true) (show s.heap.IsTuple a its.toArray from p) (show s.heap.IsTuple b its'.toArray from p') (by omega) he;rw[bt]at this;exact this
  refine⟨?_,fun _ _ _ _=>⟨rc,rn⟩⟩
  by_cases e:a=b
  ·subst e;exact EqAt.same _
  ·exact EqAt.of_refs e rc
 | @lst n a b xs ys ha hb hl h ih =>
  intro A u v hu ru rv;cases ru;cases rv;obtain⟨its,r,p,_⟩:=I.list ha;obtain⟨its',r',p',_⟩:=I.list hb;have e1:=r.length;have e2:=r'.length;have he:∀ j (h1:j<its.toArray.size) (h2:j<its'.toArray.size),EqAt A.in1 s its.toArray[j] its'.toArray[j] true:=by
   intro j h1 h2;have h1':j<its.length:=by simpa using h1
   have h2':j<its'.length:=by simpa using h2
   have g1:xs[j]? = some xs[j]:=T' (by omega);have g2:ys[j]? = some ys[j]:=T' (by omega);obtain⟨u1,q1,k1⟩:=r.get g1;obtain⟨u2,q2,k2⟩:=r'.get g2;have z1:its.toArray[j]=u1:=by
    rw[T' h1']at q1
    simpa using q1
   have z2:its'.toArray[j]=u2:=by
    rw[T' h2']at q2
    simpa using q2
   rw[z1,z2];exact(ih j _ _ g1 g2 (by show A.units+1+n<cLine;omega) k1 k2).1
  have bt:(List.range its.toArray.size).all (fun _=>true)=true:=zH _;have rc:RcAt A s (.ref a) (.ref b) true:=by
   have:=RcAt.lists (A:=A) (e:=fun _=>true) p.isList p'.isList (by simp;omega) (by omega) he;rw[bt]at this;exact this
  have rn:RcNeAt A s (.ref a) (.ref b) false:=by
   have:=RcNeAt.lists (A:=A) (e:=fun _=>true) p.isList p'.isList (by simp;omega) (by omega) he;rw[bt]at this;exact this
  refine⟨?_,fun _ _ _ _=>⟨rc,rn⟩⟩
  by_cases e:a=b
  ·subst e;exact EqAt.same _
  ·exact EqAt.of_refs e rc
inductive akB (K:Frag)(b:Bool)(x:V)(y:V)(H:Hp)(Q:VK):Prop
 |mk (a:_) (c:_) (eE:x=.ref a) (eF:y=.ref c) (h8:Deq K H 60 x y/\Q (.bl b) H):akB K b x y H Q
def ank (K:Frag)(b:Bool):R2:=fun x y H Q=>akB K b x y H Q
theorem aW (hu:X.A.units+64<cLine):xt X (compareOp .Eq) (ank X.K true):=by
 intro pins s σ H x y v u Q I r1 r2 h;obtain⟨a,c,rfl,rfl,d,q⟩:=h;exact(((d.at I (A:=X.A) (by omega) r1 r2).2 a c rfl rfl).1) X.prog X.w X.xe _ ⟨.bl true,H,I,rfl,q⟩
theorem oH (hu:X.A.units+64<cLine):xt X (compareOp .NotEq) (ank X.K false):=by
 intro pins s σ H x y v u Q I r1 r2 h;obtain⟨a,c,rfl,rfl,d,q⟩:=h;exact(((d.at I (A:=X.A) (by omega) r1 r2).2 a c rfl rfl).2) X.prog X.w X.xe _ ⟨.bl false,H,I,rfl,q⟩
theorem dS:lj X (.builtin "isinstance") (fun xs H Q=>∃ x T t b,xs=[x,.ty T]/\jq X.K H x t/\kitOne X.K t (.type T)=some b/\Q (.bl b) H):=by
 intro pins s σ H xs us Q I r h;obtain⟨x,T,t,b,rfl,ty,e,q⟩:=h;obtain⟨u,v,rfl,r1,r2⟩:=r.two;cases r2;exact ad6 I r1 ty e fun tk=>⟨.bl b,H,I.tok _,rfl,q⟩
def Ite (K:Frag)(a:Addr):It :=
 ⟨fun i H=>∃ xs x,bh K H a xs/\xs[i]? = some x,fun i H x H'=>∃ y t,x=.ref t/\H t=none/\(∀ xs,bh K H a xs->xs[i]? = some y)/\H'=upd H t (.tup [.int i,y]),fun i H=>∃ xs,bh K H a xs/\xs.length<=i⟩
def Itz (K:Frag)(a b:Addr):It :=
 ⟨fun i H=>∃ xs ys x y,bh K H a xs/\bh K H b ys/\xs[i]? = some x/\ys[i]? = some y,
  fun i H p H'=>∃ x y t,p=.ref t/\H t=none/\(∀ xs,bh K H a xs->xs[i]? = some x)/\(∀ ys,bh K H b ys->ys[i]? = some y)/\H'=upd H t (.tup [x,y]),
  fun i H=>∃ xs ys,bh K H a xs/\bh K H b ys/\min xs.length ys.length=i⟩
theorem c6 {a:Addr}{K:Frag}{X:Cx}{pins:List (Addr×Obj)}{σ:St}{H:Hp}{s:Shared}{xs:List V}{b:Addr}{o:Obj}(I:Inv X pins σ H s)(hq:bh X.K H a xs)(e:s.heap.get? b=some o)(hc:o.cls≠.type "list"):a≠b:=by
 rintro rfl;obtain⟨its,_,p,_⟩:=I.list hq;obtain⟨o',e',c',_⟩:=p.isList;rw[e]at e';cases e';exact hc c'
theorem Inv.XA {tk:Nat}{h':Heap}{wr:List Addr}{T:Addr}{xs:List V}{vals:List Value}(I:Inv X pins σ H s)(hw:∀ b∈wr,qF X pins H b)(hT:s.heap.objs.size<=T)(ht:h'.IsTuple T vals.toArray)(rv:Vals xs vals)(hz:xs.length<=sizeLine)
  (kk:∀ b o,b ∉ wr->s.heap.get? b=some o->h'.get? b=some o) (there:∀ b∈wr,∃ o,h'.get? b=some o):Inv X pins σ (upd H T (.tup xs)) { s with heap:=h',toks:=tk }:=by
 have hTn:H T=none:=I.hok.fresh hT;have nT:∀ b o,s.heap.get? b=some o->b≠T:=fun b o e=>Zn' (Zd' (Zc' e) hT);refine I.step (g':=s.gens) (d':=s.drawn) (ch:=wr) (fun b hb=>?_) (fun b o _ _ hc e _=>kk b o hc e) (fun b o _ _ hc e _=>⟨o.slots,kk b o hc e⟩) (fun b o _ e n=>by rw[ak (nT b o e)];exact n)
  (fun b o hc e=>⟨o,kk b o hc e⟩) (fun b ys e=>by rw[ak (ao e hTn)];exact e) (fun b o u e=>by rw[ak (ao e hTn)];exact e) (fun b ps e=>⟨#[],by rw[ak (ao e hTn),e];simp⟩) (fun m hm=>?_) (fun b u e=>?_) I.bare
 ·obtain⟨_,f1,_,f3,f4,f5⟩:=hw b hb;exact⟨f3,f1,f4,f5⟩
 ·obtain⟨o,es,ep,ho,r⟩:=hm;exact⟨o,es,ep,kk _ o (fun z=>(hw _ z).2.1 rfl) ho,r⟩
 ·by_cases hb:b=T
  ·subst hb;rw[ah]at e;cases e;exact⟨hz,vals,rv,ht⟩
  ·rw[ak hb]at e;refine(I.hok b u e).stay (fun c v hc q=>kk c v (fun z=>?_) q) (fun c q=>by rw[ak (ao q hTn)];exact q) fun c ys q=>by rw[ak (ao q hTn)];exact q
   have hn:=(hw c z).1;rcases hc with hc|hc
   ·rw[hc,e]at hn;cases hn
   ·rw[hc]at hn;cases hn
theorem Inv.lW {tk:Nat}{h':Heap}{wr:List Addr}(I:Inv X pins σ H s)(hw:∀ b∈wr,qF X pins H b)(kk:∀ b o,b ∉ wr->s.heap.get? b=some o->h'.get? b=some o):Inv X pins σ H { s with heap:=h',toks:=tk }:=by
 refine I.step (g':=s.gens) (d':=s.drawn) (ch:=wr) (fun b hb=>?_) (fun b o _ _ hc e _=>kk b o hc e) (fun b o _ _ hc e _=>⟨o.slots,kk b o hc e⟩) (fun b o _ e n=>n)
  (fun b o hc e=>⟨o,kk b o hc e⟩) (fun b ys e=>e) (fun b o u e=>e) (fun b ps e=>⟨#[],by rw[e];simp⟩) (fun m hm=>?_) (fun b u e=>?_) I.bare
 ·obtain⟨_,f1,_,f3,f4,f5⟩:=hw b hb;exact⟨f3,f1,f4,f5⟩
 ·obtain⟨o,es,ep,ho,r⟩:=hm;exact⟨o,es,ep,kk _ o (fun z=>(hw _ z).2.1 rfl) ho,r⟩
 ·refine(I.hok b u e).stay (fun c v hc q=>kk c v (fun z=>?_) q) (fun c q=>q) fun c ys q=>q;have hn:=(hw c z).1;rcases hc with hc|hc
  ·rw[hc,e]at hn;cases hn
  ·rw[hc]at hn;cases hn
end
end L2
namespace L2
open PySem PySem.Spec PyProof.Rows PySem.SeqAt
section
variable {X:Cx}
theorem aC {k:Nat}{A:Around}(hr:kI k A):A.units+64<cLine:=hr.units
theorem cy:bootBuiltins "len"=some (.builtin "len"):=by lk
theorem alo:bootBuiltins "min"=some (.builtin "min"):=by lk
theorem alp:bootBuiltins "max"=some (.builtin "max"):=by lk
theorem Fx:bootBuiltins "enumerate"=some (.type "enumerate"):=by lk
theorem agH:bootBuiltins "zip"=some (.type "zip"):=by lk
theorem br:bootBuiltins "isinstance"=some (.builtin "isinstance"):=by lk
theorem IM:bootBuiltins "int"=some (.type "int"):=by lk
theorem adm:bootBuiltins "bool"=some (.type "bool"):=by lk
theorem alq:bootBuiltins "str"=some (.type "str"):=by lk
theorem i0:bootBuiltins "list"=some (.type "list"):=by lk
theorem N8:bootBuiltins "tuple"=some (.type "tuple"):=by lk
theorem agI:bootBuiltins "any"=some (.builtin "any"):=by lk
theorem alr:bootBuiltins "sum"=some (.builtin "sum"):=by lk
theorem als:bootBuiltins "all"=some (.builtin "all"):=by lk
theorem ai7:bootBuiltins "dict"=some (.type "dict"):=by lk
end
end L2
namespace L2
open PySem PySem.Spec PyProof.Rows
end L2
namespace L2
open PySem
theorem kJ {K:Frag}{H:Hp}{a l:Addr}{o:HO}{xs:List V}(h:bh K H a xs)(hn:H l=none):bh K (upd H l o) a xs:=by
 have ne:∀{u},H a=some u->a≠l:=fun e=>ao e hn;rcases h with (h|⟨u,h⟩)|h
 ·exact .inl (.inl (by rw[ak (ne h)];exact h))
 ·exact .inl (.inr ⟨u,by rw[ak (ne h)];exact h⟩)
 ·exact .inr h
theorem aq.upd {H:Hp}{l:Addr}{o:HO}(hn:H l=none):aq H (upd H l o):=fun b u e=>by
 rw[ak (ao e hn)];exact e
end L2
namespace L2
theorem aX {X:Cx}{b:List PySem.Stmt}{t:TS}{D:Ends}{σ:St}{H:Hp}(h:Mv X b t)(q:t D σ H):∃ t,Mv X b t/\t D σ H:=⟨t,h,q⟩
theorem iA (i j:Int):decide (V.int i=V.int j)=decide (i=j):=by
 by_cases h:i=j
 ·subst h;simp
 ·rw[X' h];exact X' fun e=>h (V.int.inj e)
end L2
namespace L2
open PySem
theorem agJ {X:Cx}:∀ cs:List (Str×Pos),PA X (cs.map fun c=>Expr.Constant (.str c.1) 0 c.2) (fun _ H Q=>Q (cs.map fun c=>V.str c.1) H)
 |[]=>ag
 |c::cs=>aa aD (agJ cs)
end L2
namespace L2
open PySem
theorem XB {X:Cx}{i:Nat}{x:Str}{pos pos' p:Pos}(cs:List (Str×Pos))(hN:X.N.Nodup)(hi:X.N[i]? = some x)(hx:Loc X.env.scope x)(hf:X.fn x=true\/X.env.scope.names.lookup x=some .local:=by first|exact .inl rfl|exact .inr rfl|assumption) :
  PS X (.Assign [.Name x pos'] (.List (cs.map fun c=>Expr.Constant (.str c.1) 0 c.2) p) pos) (aiZ (uk (fun _ H Q=>Q (cs.map fun c=>V.str c.1) H)) (Sh i)):=aL hN hi hx (bN (agJ cs)) rfl hf
end L2
namespace L2
open PySem PySem.Spec PyProof.Rows
section
variable {X:Cx} {tg:Expr}
theorem wm {pins:List (Addr×Obj)}{σ:St}{H:Hp}{s:Shared}{a:Addr}{xs:List V}{i:Nat}{y:V}(I:Inv X pins σ H s)(hq:bh X.K H a xs)(hy:xs[i]? = some y):∀ ys,bh X.K H a ys->ys[i]? = some y:=fun ys h=>by
 rw[I.Xo h hq];exact hy
theorem aed {P:Program}{w:World}{K:Frag}{es:List Expr}{k:Nat}{tp:Pos}(a e it:Addr)(hei:e≠it) :
  Turn P w K (.Tuple es k tp) (Ite K a) [e,it] e (fun i h=>(∃ old,IsEnum h e it i old)/\h.IsListIter it a i) where
 mem:=by simp
 obj:=fun i h st b hb=>by
  obtain⟨⟨old,he⟩,o,e2,c,d⟩:=st;rcases List.mem_cons.mp hb with rfl|hb
  ·exact⟨_,he,fun v z=>by
    have z':Data.fields _=Data.cell v:=z;cases z'⟩
  ·have:b=it:=by simpa using hb
   subst this;exact⟨o,e2,fun v z=>by rw[d]at z;cases z⟩
 keep:=fun i h h' st kp=>by
  obtain⟨⟨old,he⟩,hit⟩:=st;exact⟨⟨old,kp e (by simp) _ he⟩,hit.at fun o x=>kp it (by simp) o x⟩
 item:=by
  intro X hP hw hK hc i pins s σ H E I hf st hg;subst hP hw hK;obtain⟨xs,x,hq,hx⟩:=hg;obtain⟨its,rv,p,hz⟩:=I.list hq;obtain⟨u,hu,ru⟩:=rv.get hx;obtain⟨⟨old,he⟩,hit⟩:=st;have hle:a≠e:=c6 (K:=X.K) I hq he (by intro z;injection z with z;exact P' z (by decide));have hli:a≠it:=by
   obtain⟨o,e2,c,_⟩:=hit;exact c6 (K:=X.K) I hq e2 (by rw[c];intro z;injection z with z;exact P' z (by decide))
  have hiu:i<its.toArray.size:=by
   have:=(S'.mp hu).1
   simpa using this
  have W:=WalksT.enumerate (prog:=X.prog) (w:=X.w) (I.ok.hd hc) e it a hei hle hli its.toArray;refine W.item i s _ _ hiu ⟨⟨old,he⟩,hit,p.isList⟩ fun T vals h' tk hv hT ht mid kk=>?_;refine⟨_,rfl,?_⟩;obtain⟨t,x',hx',rfl⟩:=hv;have ex:x'=u:=by
   have:its[i]? = some x':=by simpa using hx'
   rw[hu]at this;exact(Zb' this).symm
  subst ex;have fw:∀ b∈[e,it],qF X pins H b:=hf;have I1:Inv X pins σ (upd H T (.tup [.int i,x])) { s with heap:=h',toks:=tk }:=by
   refine I.XA (vals:=[.int i t,x']) fw hT (by simpa using ht) (.cons ⟨t,rfl⟩ (.cons ru .nil)) (by show 2<=sizeLine;decide) kk fun b hb=>?_;obtain⟨⟨xx,ho⟩,⟨o,e2,_⟩,_⟩:=mid;rcases List.mem_cons.mp hb with rfl|hb
   ·exact⟨_,ho⟩
   ·have:b=it:=by simpa using hb
    subst this;exact⟨o,e2⟩
  have hTn:H T=none:=I.hok.fresh hT;have neT:∀ b∈[e,it],b≠T:=fun b hb z=>by
   subst z;exact W.apart i b _ mid hb
  refine W.go es k tp i T _ _ _ mid fun h'' st'' alu=>?_;have hf2:∀ b∈[e,it],qF X pins (upd H T (.tup [.int i,x])) b:=fun b hb=>by
   obtain⟨f0,fr⟩:=hf b hb;exact⟨by rw[ak (neT b hb)];exact f0,fr⟩
  refine⟨.ref T,upd H T (.tup [.int i,x]),I1.lW (tk:=tk) hf2 alu,rfl,⟨x,T,rfl,hTn,wm I hq hx,rfl⟩,⟨st''.1,st''.2.1⟩,fun b hb=>(hf2 b hb).1⟩
 done:=by
  intro X hP hw hK hc i pins s σ H E I hf st hg;subst hP hw hK;obtain⟨xs,hq,hx⟩:=hg;obtain⟨its,rv,p,hz⟩:=I.list hq;obtain⟨⟨old,he⟩,hit⟩:=st;have hl:=rv.length;refine wpAny_pyNext_enum_end (I.ok.hd hc) he hit p.isList (Array.getElem?_eq_none (by simp;omega)) fun h' hx'=>?_;exact⟨rfl,I.lW (tk:=s.toks) hf fun b o hb q=>hx' b o (fun z=>hb (by simp[z])) q⟩
 self:=fun _ _ _ _ _ st h=>by
  obtain⟨⟨old,he⟩,_⟩:=st;exact wpAny_pyIter_enum he h
theorem alv {l:Expr}{tl:TE}(hl:PE X l tl)(hs:starEach [l] X.env=[(false,eval l X.env)])(pos:Pos)(pins:List (Addr×Obj))(s:Shared)(σ:St)(H:Hp){Q:VK}(I:Inv X pins σ H s)(h:tl σ H Q) :
  wpAny (model X.prog X.w) X.A (spliced (backTo pos (starEach [l] X.env))) (fun us s1=>∃ v u H1,Inv X pins σ H1 s1/\us=[u]/\RelV v u/\Q v H1) X.xe s:=by
 have ha:PA X [l] (fun σ H Q=>tl σ H fun x H1=>Q [x] H1):=aa hl ag hs;have mono:wpAny (model X.prog X.w) X.A (spliced (backTo pos (starEach [l] X.env))) (AP X pins σ fun vs H1=>∃ v,vs=[v]/\Q v H1) X.xe s:=by
  have he:PE X l (fun σ' H' Q'=>σ'=σ/\H'=H/\∀ v H1,Q v H1->Q' v H1):=by
   intro pins s σ' H' Q' I' hw;obtain⟨rfl,rfl,hm⟩:=hw;exact cU (hl pins s σ' H' Q I' h) fun u s1 ⟨v,H1,I1,r,q⟩=>⟨v,H1,I1,r,hm v H1 q⟩
  exact aa he ag hs pos pins s σ H _ I ⟨rfl,rfl,fun v H1 q=>⟨v,rfl,q⟩⟩
 refine cU mono fun us s1 ⟨vs,H1,I1,r,v,e,q⟩=>?_;subst e;obtain⟨u,rfl,ru⟩:=r.one;exact⟨v,u,H1,I1,rfl,ru,q⟩
inductive agK (K:Frag)(R:(It->Hp->Prop))(x:V)(H1:Hp):Prop
 |mk (a:_) (eE:x=.ref a) (eF:(∃ xs,bh K H1 a xs)/\R (Ite K a) H1):agK K R x H1
def ano (K:Frag)(tl:TE):TI:=fun σ H R=>tl σ H fun x H1=>agK K R x H1
theorem ai8 {l:Expr}{tl:TE}{p pos tp:Pos}{es:List Expr}{k:Nat}(hg:Gl X "enumerate")(hm:X.mg "enumerate"=none)(hl:PE X l tl)(hs:starEach [l] X.env=[(false,eval l X.env)]:=by rfl) :
  PI X (.Tuple es k tp) (.Call (.Name "enumerate" p) [l] [] pos) (ano X.K tl):=by
 intro pins s σ H R I h;refine Call_ (vG I hg hm Fx (PyProof.Rows.callWith_type1 (cU (alv hl hs pos pins s σ H I h) fun us s1 ⟨v,u,H1,I1,e1,r1,q1⟩=>?_) (by rw[hs];rfl) (by rfl)))
 ·obtain⟨a,rfl,⟨xs,hq⟩,q⟩:=q1;subst e1;cases r1;obtain⟨its,rv,pl,hz⟩:=I1.list hq;refine call_enumerate_list pl.isList fun h' he hit hsz kk=>?_;have hee:s1.heap.objs.size+1≠s1.heap.objs.size:=Nat.succ_ne_self _;refine wpAny_pyIter_enum he ?_;refine⟨s1.heap.objs.size+1,[s1.heap.objs.size+1,s1.heap.objs.size],_,_,H1,rfl,I1.kept (t':=s1.toks) kk,aed a _ _ hee,⟨⟨.none,he⟩,hit⟩,fun b hb=>?_,q⟩;have hb':s1.heap.objs.size<=b:=by
   rcases List.mem_cons.mp hb with rfl|hb
   ·exact Nat.le_succ _
   ·have:b=s1.heap.objs.size:=by simpa using hb
    rw[this];exact Zi' _
  exact I1.Tp hb' (I1.hok.fresh hb')
end
end L2
namespace L2
open PySem PySem.Spec PyProof.Rows
structure CN (z TI TO i1 i2:Addr):Prop where
 TIz:TI≠z
 TOz:TO≠z
 i1z:i1≠z
 i2z:i2≠z
 TITO:TI≠TO
 TIi1:TI≠i1
 TIi2:TI≠i2
 TOi1:TO≠i1
 TOi2:TO≠i2
 i12:i1≠i2
section
variable {X:Cx}
def adn (z TI TO i1 i2 a b:Addr)(i:Nat)(h:Heap):Prop:=IsZip h z TI TO .none/\IsPair h TI (.ref i1) (.ref i2)/\(∃ x y,IsPair h TO x y)/\h.IsListIter i1 a i/\h.IsListIter i2 b i
theorem Ss {pins:List (Addr×Obj)}{σ:St}{H:Hp}{s:Shared}{z TI TO i1 i2 a b:Addr}{i:Nat}{xs ys:List V}(I:Inv X pins σ H s)(O:CN z TI TO i1 i2)(st:adn z TI TO i1 i2 a b i s.heap)(ha:bh X.K H a xs)(hb:bh X.K H b ys) :
  ZipApart z TI TO i1 i2 a b:=by
 obtain⟨hz,hTI,⟨x,y,hTO⟩,⟨o1,e1,c1,_⟩,⟨o2,e2,c2,_⟩⟩:=st;have nz:∀{c:Addr} {zs:List V},bh X.K H c zs->c≠z:=fun h=>c6 (K:=X.K) I h hz (by intro q;injection q with q;exact P' q (by decide));have nT:∀{c:Addr} {zs:List V},bh X.K H c zs->c≠TO:=fun h=>c6 (K:=X.K) I h hTO (by intro q;injection q with q;exact P' q (by decide));have n1:∀{c:Addr} {zs:List V},bh X.K H c zs->c≠i1:=fun h=>c6 (K:=X.K) I h e1 (by rw[c1];intro q;injection q with q;exact P' q (by decide));have n2:∀{c:Addr} {zs:List V},bh X.K H c zs->c≠i2:=fun h=>c6 (K:=X.K) I h e2 (by rw[c2];intro q;injection q with q;exact P' q (by decide));exact⟨O.TIz,O.TOz,O.i1z,O.i2z,O.TITO,O.TIi1,O.TIi2,O.TOi1,O.TOi2,O.i12,nz ha,nT ha,n1 ha,n2 ha,nz hb,nT hb,n1 hb,n2 hb⟩
theorem agL {P:Program}{w:World}{K:Frag}{es:List Expr}{k:Nat}{tp:Pos}{z TI TO i1 i2:Addr}(a b:Addr)(O:CN z TI TO i1 i2) :
  Turn P w K (.Tuple es k tp) (Itz K a b) [z,TI,TO,i1,i2] z (adn z TI TO i1 i2 a b) where
 mem:=by simp
 obj:=fun i h st c hc=>by
  obtain⟨hz,hTI,⟨x,y,hTO⟩,⟨o1,e1,_,d1⟩,⟨o2,e2,_,d2⟩⟩:=st;have hc':c=z\/c=TI\/c=TO\/c=i1\/c=i2:=by simpa using hc
  rcases hc' with rfl|rfl|rfl|rfl|rfl
  ·exact⟨_,hz,fun v q=>by
    have q':Data.fields _=Data.cell v:=q;cases q'⟩
  ·exact⟨_,hTI,fun v q=>by
    have q':Data.seq _ _=Data.cell v:=q;cases q'⟩
  ·exact⟨_,hTO,fun v q=>by
    have q':Data.seq _ _=Data.cell v:=q;cases q'⟩
  ·exact⟨o1,e1,fun v q=>by rw[d1]at q;cases q⟩
  ·exact⟨o2,e2,fun v q=>by rw[d2]at q;cases q⟩
 keep:=fun i h h' st kp=>by
  obtain⟨hz,hTI,⟨x,y,hTO⟩,h1,h2⟩:=st;exact⟨kp z (by simp) _ hz,kp TI (by simp) _ hTI,⟨x,y,kp TO (by simp) _ hTO⟩,h1.at fun o q=>kp i1 (by simp) o q,h2.at fun o q=>kp i2 (by simp) o q⟩
 item:=by
  intro X hP hw hK hc i pins s σ H E I hf st hg;subst hP hw hK;obtain⟨xs,ys,x,y,hq,hq2,hx,hy⟩:=hg;have D:=Ss I O st hq hq2;obtain⟨its,rv,p,_⟩:=I.list hq;obtain⟨its2,rv2,p2,_⟩:=I.list hq2;obtain⟨u,hu,ru⟩:=rv.get hx;obtain⟨u2,hu2,ru2⟩:=rv2.get hy;have h1:i<its.length:=(S'.mp hu).1;have h2:i<its2.length:=(S'.mp hu2).1;have W:=WalksT.zip2 (prog:=X.prog) (w:=X.w) (I.ok.hd hc) z TI TO i1 i2 a b D its.toArray its2.toArray;obtain⟨hz,hTI,hTO,g1,g2⟩:=st;refine W.item i s _ _ (by simp;omega) ⟨hz,hTI,hTO,g1,g2,p.isList,p2.isList⟩ fun T vals h' tk hv hT ht mid kk=>?_;refine⟨_,rfl,?_⟩;obtain⟨x',y',hx',hy',rfl⟩:=hv;have ex:x'=u:=by
   have:its[i]? = some x':=by simpa using hx'
   rw[hu]at this;exact(Zb' this).symm
  have ey:y'=u2:=by
   have:its2[i]? = some y':=by simpa using hy'
   rw[hu2]at this;exact(Zb' this).symm
  subst ex ey;have sub:∀ c∈[z,TO,i1,i2],c∈[z,TI,TO,i1,i2]:=fun c hc=>by
   have:c=z\/c=TO\/c=i1\/c=i2:=by simpa using hc
   simp;rcases this with r|r|r|r <;> simp[r]
  have fw:∀ c∈[z,TO,i1,i2],qF X pins H c:=fun c hc=>hf c (sub c hc);have I1:Inv X pins σ (upd H T (.tup [x,y])) { s with heap:=h',toks:=tk }:=by
   refine I.XA (vals:=[x',y']) fw hT (by simpa using ht) (.cons ru (.cons ru2 .nil)) (by show 2<=sizeLine;decide) kk fun c hc=>?_;obtain⟨m1,_,⟨_,_,m2⟩,⟨o1,m3,_⟩,⟨o2,m4,_⟩,_⟩:=mid;have:c=z\/c=TO\/c=i1\/c=i2:=by simpa using hc
   rcases this with rfl|rfl|rfl|rfl
   ·exact⟨_,m1⟩
   ·exact⟨_,m2⟩
   ·exact⟨_,m3⟩
   ·exact⟨_,m4⟩
  have hTn:H T=none:=I.hok.fresh hT;have neT:∀ c∈[z,TI,TO,i1,i2],c≠T:=fun c hc q=>by
   subst q;have:c=TI\/c∈[z,TO,i1,i2]:=by
    have:c=z\/c=TI\/c=TO\/c=i1\/c=i2:=by simpa using hc
    simp;rcases this with r|r|r|r|r <;> simp[r]
   rcases this with r|r
   ·subst r;exact P' (Zd' (Zc' hTI) hT) (Nat.lt_irrefl _)
   ·exact W.apart i c _ mid r
  refine W.go es k tp i T _ _ _ mid fun h'' st'' alu=>?_;have hf2:∀ c∈[z,TI,TO,i1,i2],qF X pins (upd H T (.tup [x,y])) c:=fun c hc=>by
   obtain⟨f0,fr⟩:=hf c hc;exact⟨by rw[ak (neT c hc)];exact f0,fr⟩
  obtain⟨s1,s2,s3,s4,s5,_⟩:=st'';refine⟨.ref T,upd H T (.tup [x,y]),I1.lW (tk:=tk) (fun c hc=>hf2 c (sub c hc)) alu,rfl,⟨x,y,T,rfl,hTn,wm I hq hx,wm I hq2 hy,rfl⟩,⟨s1,s2,s3,s4,s5⟩,fun c hc=>(hf2 c hc).1⟩
 done:=by
  intro X hP hw hK hc i pins s σ H E I hf st hg;subst hP hw hK;obtain⟨xs,ys,hq,hq2,hx⟩:=hg;have D:=Ss I O st hq hq2;obtain⟨its,rv,p,_⟩:=I.list hq;obtain⟨its2,rv2,p2,_⟩:=I.list hq2;have W:=WalksT.zip2 (prog:=X.prog) (w:=X.w) (I.ok.hd hc) z TI TO i1 i2 a b D its.toArray its2.toArray;obtain⟨hz,hTI,hTO,g1,g2⟩:=st;have e:min its.toArray.size its2.toArray.size=i:=by
   rw[Ya',Ya',<-rv.length,<-rv2.length];exact hx
  refine W.done s _ _ (by rw[e];exact⟨hz,hTI,hTO,g1,g2,p.isList,p2.isList⟩) fun h' tk kk=>?_;refine⟨rfl,I.lW (tk:=tk) (wr:=[z,TO,i1,i2]) (fun c hc=>hf c ?_) kk⟩;have:c=z\/c=TO\/c=i1\/c=i2:=by simpa using hc
  simp;rcases this with r|r|r|r <;> simp[r]
 self:=fun _ i s _ _ st h=>by
  obtain⟨hz,_⟩:=st;exact wpAny_pyIter_zip hz h
inductive akC (K:Frag)(R:(It->Hp->Prop))(x:V)(y:V)(H2:Hp):Prop
 |mk (a:_) (b:_) (eE:x=.ref a) (eF:y=.ref b) (h8:(∃ xs,bh K H2 a xs)/\(∃ ys,bh K H2 b ys)/\R (Itz K a b) H2):akC K R x y H2
def apS (K:Frag)(tl tm:TE):TI:=fun σ H R=>tl σ H fun x H1=>tm σ H1 fun y H2=>akC K R x y H2
theorem agN {l m:Expr}{tl tm:TE}(hl:PE X l tl)(hm:PE X m tm)(hs:starEach [l,m] X.env=[(false,eval l X.env),(false,eval m X.env)])(hs2:starEach [m] X.env=[(false,eval m X.env)])(pos:Pos)(pins:List (Addr×Obj))(s:Shared)(σ:St)(H:Hp){Q:V->V->Hp->Prop}(I:Inv X pins σ H s)(h:tl σ H fun x H1=>tm σ H1 fun y H2=>Q x y H2) :
  wpAny (model X.prog X.w) X.A (spliced (backTo pos (starEach [l,m] X.env))) (fun us s1=>∃ x y u v H1,Inv X pins σ H1 s1/\us=[u,v]/\RelV x u/\RelV y v/\Q x y H1) X.xe s:=by
 have he:PE X l (fun σ' H' Q'=>σ'=σ/\H'=H/\∀ x H1,(tm σ H1 fun y H2=>Q x y H2)->Q' x H1):=by
  intro pins s σ' H' Q' I' hw;obtain⟨rfl,rfl,k⟩:=hw;exact cU (hl pins s σ' H' _ I' h) fun u s1 ⟨v,H1,I1,r,q⟩=>⟨v,H1,I1,r,k v H1 q⟩
 have hf:PE X m (fun σ' H' Q'=>∃ x,σ'=σ/\(tm σ H' fun y H2=>Q x y H2)/\∀ y H2,Q x y H2->Q' y H2):=by
  intro pins s σ' H' Q' I' hw;obtain⟨x,rfl,hh,k⟩:=hw;exact cU (hm pins s σ' H' _ I' hh) fun u s1 ⟨v,H1,I1,r,q⟩=>⟨v,H1,I1,r,k v H1 q⟩
 have main:=aa he (aa hf ag hs2) (by rw[hs,hs2]) pos pins s σ H (fun vs H2=>∃ x y,vs=[x,y]/\Q x y H2) I ⟨rfl,rfl,fun x H1 q=>⟨x,rfl,q,fun y H2 q2=>⟨x,y,rfl,q2⟩⟩⟩;refine cU main fun us s1 ⟨vs,H1,I1,r,x,y,e,q⟩=>?_;subst e;obtain⟨u,v,rfl,r1,r2⟩:=r.two;exact⟨x,y,u,v,H1,I1,rfl,r1,r2,q⟩
theorem alw {l m:Expr}{tl tm:TE}{p pos tp:Pos}{es:List Expr}{k:Nat}(hg:Gl X "zip")(hz:X.mg "zip"=none)(hl:PE X l tl)(hm:PE X m tm)(hs:starEach [l,m] X.env=[(false,eval l X.env),(false,eval m X.env)]:=by rfl)(hs2:starEach [m] X.env=[(false,eval m X.env)]:=by rfl) :
  PI X (.Tuple es k tp) (.Call (.Name "zip" p) [l,m] [] pos) (apS X.K tl tm):=by
 intro pins s σ H R I h;refine Call_ (vG I hg hz agH (PyProof.Rows.callWith_type1 (cU (agN hl hm hs hs2 pos pins s σ H I h) fun us s1 ⟨x,y,u,v,H1,I1,e1,r1,r2,q1⟩=>?_) (by rw[hs,hs2]) (by rw[hs2];rfl)));obtain⟨a,b,rfl,rfl,⟨xs,hq⟩,⟨ys,hq2⟩,q⟩:=q1;subst e1;cases r1;cases r2;obtain⟨its,rv,pl,_⟩:=I1.list hq;obtain⟨its2,rv2,pl2,_⟩:=I1.list hq2;refine call_zip_2 pl.isList pl2.isList fun h' z1 z2 z3 z4 z5 hsz kk=>?_;refine wpAny_pyIter_zip z1 ?_;have O:CN (s1.heap.objs.size+4) (s1.heap.objs.size+2) (s1.heap.objs.size+3) s1.heap.objs.size (s1.heap.objs.size+1):=by
  constructor <;> exact(by intro q;have q':(_:Nat)=_:=q;omega)
 refine⟨_,[s1.heap.objs.size+4,s1.heap.objs.size+2,s1.heap.objs.size+3,s1.heap.objs.size,s1.heap.objs.size+1],_,_,H1,rfl,I1.kept (t':=s1.toks) kk,agL a b O,⟨z1,z2,⟨_,_,z3⟩,z4,z5⟩,fun c hc=>?_,q⟩;have hc':s1.heap.objs.size<=c:=by
  have:c=s1.heap.objs.size+4\/c=s1.heap.objs.size+2\/c=s1.heap.objs.size+3\/c=s1.heap.objs.size\/c=s1.heap.objs.size+1:=by simpa using hc
  rcases this with r|r|r|r|r <;> (rw[r];first|exact Nat.le_add_right _ _|exact Zi' _)
 exact I1.Tp hc' (I1.hok.fresh hc')
end
end L2
namespace L2
open PySem
abbrev akD (J:It)(g:TG)(tc:TT)(te:TE)(D:Addr)(R:Hp->Prop)(σ:St)(H:Hp):Prop:=∃ W:Nat->Nat->List V->St->Hp->Prop,(∃ m,W 0 m [] σ H)/\∀ i m ys σ H,W i m ys σ H ->
  (J.stop i H/\R H)\/(J.go i H/\∀ x H',J.yld i H x H'->g x σ H' fun σ2 H2=>tc σ2 H2 fun ok H3 =>
   if ok=true then te σ2 H3 fun y H4=>H4 D=some (.lst ys)/\ys.length<sizeLine/\∃ m',m'<m/\W (i+1) m' (ys++[y]) σ2 (upd H4 D (.lst (ys++[y])))
   else ∃ m',m'<m/\W (i+1) m' ys σ2 H3)
abbrev XC (g:TG)(tc:TT)(te:TE)(D:Addr)(ys:List V)(x:V)(σ:St)(H:Hp)(N:List V->St->Hp->Prop):Prop :=
 g x σ H fun σ2 H2=>tc σ2 H2 fun ok H3=>if ok=true then te σ2 H3 fun y H4=>H4 D=some (.lst ys)/\ys.length<sizeLine/\N (ys++[y]) σ2 (upd H4 D (.lst (ys++[y]))) else N ys σ2 H3
theorem mw {K:Frag}{a:Addr}{xs:List V}{g:TG}{tc:TT}{te:TE}{D:Addr}{R:Hp->Prop}{σ:St}{H:Hp}(Pv:Nat->List V->St->Hp->Prop)(h0:Pv 0 [] σ H)(hl:∀ i ys σ H,Pv i ys σ H->bh K H a xs)
  (hs:∀ i ys x σ H,xs[i]? = some x->Pv i ys σ H->∀ N:List V->St->Hp->Prop,(∀ ys σ H,Pv (i+1) ys σ H->N ys σ H)->XC g tc te D ys x σ H N) (hd:∀ ys σ H,Pv xs.length ys σ H->R H):akD (Itl K a) g tc te D R σ H:=by
 refine⟨fun i m ys σ H=>m=xs.length-i/\i<=xs.length/\Pv i ys σ H,⟨xs.length,by simp,Zj' _,h0⟩,?_⟩;rintro i m ys σ H ⟨rfl,hi,p⟩;have q:=hl i ys σ H p
 by_cases hlt:i<xs.length
 ·refine .inr ⟨⟨xs,xs[i],q,by simp[hlt]⟩,fun x H' y=>?_⟩;obtain⟨e,y⟩:=y;subst e;exact hs i ys x σ _ (y xs q) p (fun ys' σ' H'=>∃ m',m'<xs.length-i/\m'=xs.length-(i+1)/\i+1<=xs.length/\Pv (i+1) ys' σ' H') fun ys' σ' H' q=>⟨xs.length-(i+1),by omega,rfl,hlt,q⟩
 ·have e:i=xs.length:=by omega
  subst e;exact .inl ⟨⟨xs,q,Zi' _⟩,hd ys σ H p⟩
theorem agO {z:Str}{g:TG}{tc:TT}{te:TE}{D:Addr}{R:Hp->Prop}{σ:St}{H:Hp}(Pv:Nat->List V->St->Hp->Prop)(h0:Pv 0 [] σ H)
  (hs:∀ i ys c σ H,z.cps[i]? = some c->Pv i ys σ H->∀ N:List V->St->Hp->Prop,(∀ ys σ H,Pv (i+1) ys σ H->N ys σ H)->XC g tc te D ys (.str ⟨#[c]⟩) σ H N) (hd:∀ ys σ H,Pv z.cps.size ys σ H->R H):akD (Its z) g tc te D R σ H:=by
 refine⟨fun i m ys σ H=>m=z.cps.size-i/\i<=z.cps.size/\Pv i ys σ H,⟨z.cps.size,by simp,Zj' _,h0⟩,?_⟩;rintro i m ys σ H ⟨rfl,hi,p⟩
 by_cases hlt:i<z.cps.size
 ·refine .inr ⟨hlt,fun x H' y=>?_⟩;obtain⟨e,c,hc,y⟩:=y;subst e y;exact hs i ys c σ _ hc p (fun ys' σ' H'=>∃ m',m'<z.cps.size-i/\m'=z.cps.size-(i+1)/\i+1<=z.cps.size/\Pv (i+1) ys' σ' H') fun ys' σ' H' q=>⟨z.cps.size-(i+1),by omega,rfl,hlt,q⟩
 ·have e:i=z.cps.size:=by omega
  subst e;exact .inl ⟨Zi' _,hd ys σ H p⟩
theorem agP {K:Frag}{a:Addr}{xs:List V}{g:TG}{tb:TS}{D:Ends}{σ:St}{H:Hp}(Pv:Nat->St->Hp->Prop)(h0:Pv 0 σ H)(hl:∀ i σ H,Pv i σ H->bh K H a xs)
  (hs:∀ i x t σ H,xs[i]? = some x->Pv i σ H->H t=none->g (.ref t) σ (upd H t (.tup [.int i,x])) fun σ2 H2=>tb { D with nx:=Pv (i+1),ct:=Pv (i+1),bk:=D.nx } σ2 H2) (hd:∀ σ H,Pv xs.length σ H->D.nx σ H) :
  ∃ W:Nat->Nat->St->Hp->Prop,(∃ m,W 0 m σ H)/\∀ i m σ H,W i m σ H ->
   ((Ite K a).stop i H/\D.nx σ H)\/((Ite K a).go i H/\∃ N:St->Hp->Prop,(∀ σ' H',N σ' H'->∃ m',m'<m/\W (i+1) m' σ' H')/\∀ x H',(Ite K a).yld i H x H'->g x σ H' fun σ2 H2=>tb { D with nx:=N,ct:=N,bk:=D.nx } σ2 H2):=by
 refine⟨fun i m σ H=>m=xs.length-i/\i<=xs.length/\Pv i σ H,⟨xs.length,by simp,Zj' _,h0⟩,?_⟩;rintro i m σ H ⟨rfl,hi,p⟩;have q:=hl i σ H p
 by_cases hlt:i<xs.length
 ·refine .inr ⟨⟨xs,xs[i],q,by simp[hlt]⟩,Pv (i+1),fun σ' H' p'=>⟨xs.length-(i+1),by omega,rfl,hlt,p'⟩,fun x H' y=>?_⟩;obtain⟨y0,t,rfl,hn,hy,rfl⟩:=y;exact hs i y0 t σ H (hy xs q) p hn
 ·have e:i=xs.length:=by omega
  subst e;exact .inl ⟨⟨xs,q,Zi' _⟩,hd σ H p⟩
theorem ai9 {K:Frag}{a b:Addr}{xs ys:List V}{g:TG}{tb:TS}{D:Ends}{σ:St}{H:Hp}(Pv:Nat->St->Hp->Prop)(he:xs.length=ys.length)(h0:Pv 0 σ H)(hl:∀ i σ H,Pv i σ H->bh K H a xs/\bh K H b ys)
  (hs:∀ i x y t σ H,xs[i]? = some x->ys[i]? = some y->Pv i σ H->H t=none->g (.ref t) σ (upd H t (.tup [x,y])) fun σ2 H2=>tb { D with nx:=Pv (i+1),ct:=Pv (i+1),bk:=D.nx } σ2 H2) (hd:∀ σ H,Pv xs.length σ H->D.nx σ H) :
  ∃ W:Nat->Nat->St->Hp->Prop,(∃ m,W 0 m σ H)/\∀ i m σ H,W i m σ H ->
   ((Itz K a b).stop i H/\D.nx σ H)\/((Itz K a b).go i H/\∃ N:St->Hp->Prop,(∀ σ' H',N σ' H'->∃ m',m'<m/\W (i+1) m' σ' H')/\∀ x H',(Itz K a b).yld i H x H'->g x σ H' fun σ2 H2=>tb { D with nx:=N,ct:=N,bk:=D.nx } σ2 H2):=by
 refine⟨fun i m σ H=>m=xs.length-i/\i<=xs.length/\Pv i σ H,⟨xs.length,by simp,Zj' _,h0⟩,?_⟩;rintro i m σ H ⟨rfl,hi,p⟩;obtain⟨q,q2⟩:=hl i σ H p
 by_cases hlt:i<xs.length
 ·have hlt2:i<ys.length:=by omega
  refine .inr ⟨⟨xs,ys,xs[i],ys[i],q,q2,by simp[hlt],by simp[hlt2]⟩,Pv (i+1),fun σ' H' p'=>⟨xs.length-(i+1),by omega,rfl,hlt,p'⟩,fun x H' y=>?_⟩;obtain⟨x0,y0,t,rfl,hn,hx,hy,rfl⟩:=y;exact hs i x0 y0 t σ H (hx xs q) (hy ys q2) p hn
 ·have e:i=xs.length:=by omega
  subst e;exact .inl ⟨⟨xs,ys,q,q2,by omega⟩,hd σ H p⟩
end L2
namespace L2
open PySem
theorem lX {j:Nat}{te:TE}{D:Addr}{ys:List V}{x:V}{σ:St}{H:Hp}{N:List V->St->Hp->Prop}
  (h:te (σ.set j (some x)) H fun y H4=>H4 D=some (.lst ys)/\ys.length<sizeLine/\N (ys++[y]) (σ.set j (some x)) (upd H4 D (.lst (ys++[y])))):XC (Sh j) alk te D ys x σ H N:=by
 unfold XC Sh alk;exact(K' (rfl:true=true)).mpr h
end L2
namespace L2
open PySem PySem.Spec PyProof.Rows
open Sem (wp)
abbrev CO (h:Heap)(z TI TO:Addr)(f0 f1:Value):Prop :=
 h.get? z=some { cls:=.type "zip",dict:=none,data:=.fields #[f0,f1,.bool false,.ref TI,.ref TO],slots:=#[] }
def Loose (f0 f1:Value):Prop:=(f0=.none\/∃ a:Nat,f0=rawInt (a:Int))/\∃ b,f1=.bool b
section
variable {prog:Program} {w:World} {A:Around} {E:Value->Shared->Prop} {s:Shared}
theorem aee {a:Addr}{Q:Option Obj->Shared->Prop}(h:∀ o,Q o s):wpAny (model prog w) A (loadIfAlive a) Q E s:=fun _ _ _=>h _
theorem XD {z TI TO:Addr}{f0 f1:Value}{Q:Bool->Shared->Prop}(hz:CO s.heap z TI TO f0 f1)(hf:Loose f0 f1)
  (hQ:∀(r:Bool)(h':Heap)(g1:Value),CO h' z TI TO f0 g1->Loose f0 g1->Heap.SameBut z s.heap h'->Q r { s with heap:=h' }) :
  wpAny (model prog w) A (Builtin.SmallTypes.ownedTupleIsFree (.ref z)) Q E s:=by
 unfold Builtin.SmallTypes.ownedTupleIsFree;refine L' (wpAny_field hz rfl (x:=f0) rfl ?_);obtain⟨hf0,b,rfl⟩:=hf;rcases hf0 with rfl|⟨a,rfl⟩
 ·exact N' (hQ true s.heap _ hz ⟨.inl rfl,b,rfl⟩ ⟨rfl,fun _ _=>rfl⟩)
 ·show wpAny _ _ (loadIfAlive ((a:Int).toNat) >>= _) _ _ _;refine L' (aee fun o=>?_);cases o with
  |none =>
   simp only [Option.isNone_none,if_true];exact N' (hQ true s.heap _ hz ⟨.inr ⟨a,rfl⟩,b,rfl⟩ ⟨rfl,fun _ _=>rfl⟩)
  |some o =>
   simp only [Option.isNone_some,Bool.false_eq_true,if_false];refine L' (wpAny_field hz rfl (x:=.bool b) rfl ?_);cases b with
   |true =>
    exact N' (hQ false s.heap _ hz ⟨.inr ⟨a,rfl⟩,true,rfl⟩ ⟨rfl,fun _ _=>rfl⟩)
   |false =>
    show wpAny _ _ (setField (.ref z) 1 (.bool true) >>= _) _ _ _;refine L' (wpAny_setField_rec hz (by simp) fun h₁ hz₁ hs₁=>?_);exact N' (hQ false h₁ _ hz₁ ⟨.inr ⟨a,rfl⟩,true,rfl⟩ hs₁)
theorem aef {z TI TO i1 i2 l1 l2:Addr}{k1 k2:Nat}{xs ys:Array Value}{x y a b f0 f1:Value}{Q:Value->Shared->Prop}(D:ZipApart z TI TO i1 i2 l1 l2)
  (hz:CO s.heap z TI TO f0 f1) (hf:Loose f0 f1) (hTI:IsPair s.heap TI (.ref i1) (.ref i2)) (hTO:IsPair s.heap TO a b)
  (h1:s.heap.IsListIter i1 l1 k1) (h2:s.heap.IsListIter i2 l2 k2) (hl1:s.heap.IsList l1 xs) (hl2:s.heap.IsList l2 ys) (hx:xs[k1]? = some x) (hy:ys[k2]? = some y)
  (hQ:∀ h',(∃ g0 g1,CO h' z TI TO g0 g1/\Loose g0 g1)->(∃ a b,IsPair h' TO a b)->h'.IsListIter i1 l1 (k1+1)->h'.IsListIter i2 l2 (k2+1)->IsPair h' s.heap.objs.size x y->h'.objs.size=s.heap.objs.size+1 ->
   (∀ c o,c≠z->c≠TO->c≠i1->c≠i2->s.heap.get? c=some o->h'.get? c=some o)->Q (.ref s.heap.objs.size) { s with heap:=h' }) :
  wpAny (model prog w) A (Builtin.«zip.__next__» ⟨[.ref z],[]⟩) (fun fin s'=>∃ v,fin=.done (.ret v)/\Q v s') E s:=by
 show wpAny _ _ (field (.ref z) 2 >>= _) _ _ _;refine L' (wpAny_field hz rfl (x:=.bool false) rfl ?_);show wpAny _ _ (field (.ref z) 3 >>= _) _ _ _;refine L' (wpAny_field hz rfl (x:=.ref TI) rfl ?_);refine L' (wpAny_seqItems hTI rfl ?_);show wpAny _ _ (Builtin.SmallTypes.ownedTupleIsFree (.ref z) >>= _) _ _ _;refine L' (XD hz hf fun r h₀ g1 amC hl₀ hs₀=>?_);cases r with
 |true =>
  simp only [if_true];refine L' (wpAny_rule ?_);refine L' (wpAny_field amC rfl (x:=.ref TO) rfl ?_);refine L' (wpAny_setField_rec amC (by simp) fun h₁ hz₁ agQ=>?_)
  replace hz₁:CO h₁ z TI TO .ellipsis g1:=hz₁
  have hs₁:Heap.SameBut z s.heap h₁:=⟨agQ.1.trans hs₀.1,fun c hc=>(agQ.2 c hc).trans (hs₀.2 c hc)⟩;refine L' ?_;simp only [List.zipIdx_cons,List.zipIdx_nil,List.forIn_cons,List.forIn_nil];refine L' (L' (wpAny_onRaise ?_));show wpAny _ _ (Builtin.SmallTypes.nextOf (.ref i1) >>= _) _ _ _;refine L' (wpAny_nextOf_list_item (h1.extBut hs₁.extBut D.i1z) (hl1.extBut hs₁.extBut D.l1z) hx fun h₂ h1₂ hs₂=>N' ?_);have hTO₂:IsPair h₂ TO a b:=hs₂.extBut _ _ D.TOi1 (hs₁.extBut _ _ D.TOz hTO);refine L' (wpAny_seqItems hTO₂ rfl ?_);refine L' (wpAny_updateSeq_pair hTO₂ fun h₃ hTO₃ hs₃=>?_)
  replace hTO₃:IsPair h₃ TO x b:=hTO₃
  refine L' (wpAny_letGo (N' ?_));refine L' (L' (wpAny_onRaise ?_));show wpAny _ _ (Builtin.SmallTypes.nextOf (.ref i2) >>= _) _ _ _;refine L' (wpAny_nextOf_list_item (((h2.extBut hs₁.extBut D.i2z).extBut hs₂.extBut D.i12.symm).extBut hs₃.extBut D.TOi2.symm)
   (((hl2.extBut hs₁.extBut D.l2z).extBut hs₂.extBut D.l2i1).extBut hs₃.extBut D.l2TO) hy fun h₄ h2₄ hs₄=>N' ?_)
  have hTO₄:IsPair h₄ TO x b:=hs₄.extBut _ _ D.TOi2 hTO₃;refine L' (wpAny_seqItems hTO₄ rfl ?_);refine L' (wpAny_updateSeq_pair hTO₄ fun h₅ hTO₅ hs₅=>?_)
  replace hTO₅:IsPair h₅ TO x y:=hTO₅
  refine L' (wpAny_letGo (N' (N' ?_)));refine L' (wpAny_seqItems hTO₅ rfl ?_);refine L' (wpAny_newTuple ?_);have hsz:h₅.objs.size=s.heap.objs.size:=by rw[hs₅.1,hs₄.1,hs₃.1,hs₂.1,hs₁.1]
  have hz₅:CO h₅ z TI TO .ellipsis g1:=hs₅.extBut _ _ D.TOz.symm (hs₄.extBut _ _ D.i2z.symm (hs₃.extBut _ _ D.TOz.symm (hs₂.extBut _ _ D.i1z.symm hz₁)));have hk₅:∀ c o,c≠z->c≠TO->c≠i1->c≠i2->s.heap.get? c=some o->h₅.get? c=some o:=fun c o c1 c2 c3 c4 e =>
   hs₅.extBut _ _ c2 (hs₄.extBut _ _ c4 (hs₃.extBut _ _ c2 (hs₂.extBut _ _ c3 (hs₁.extBut _ _ c1 e))))
  have h1₅:h₅.IsListIter i1 l1 (k1+1):=((h1₂.extBut hs₃.extBut D.TOi1.symm).extBut hs₄.extBut D.i12).extBut hs₅.extBut D.TOi1.symm;have h2₅:h₅.IsListIter i2 l2 (k2+1):=h2₄.extBut hs₅.extBut D.TOi2.symm;have hzlt:z<h₅.objs.size:=Zc' hz₅;show wpAny _ _ (Builtin.SmallTypes.ownedTupleHandOut (.ref z) (.ref h₅.objs.size) >>= _) _ _ _;refine L' ?_;unfold Builtin.SmallTypes.ownedTupleHandOut;have hz₆:CO (h₅.push { cls:=.type "tuple",data:=.seq #[x,y] }) z TI TO .ellipsis g1:=V' _ hz₅;refine L' (wpAny_setField_rec hz₆ (by simp) fun h₇ hz₇ hs₇=>?_)
  replace hz₇:CO h₇ z TI TO (rawInt h₅.objs.size) g1:=hz₇
  refine wpAny_setField_rec hz₇ (by simp) fun h₈ hz₈ hs₈=>?_
  replace hz₈:CO h₈ z TI TO (rawInt h₅.objs.size) (.bool false):=hz₈
  have up:∀ c o,c≠z->h₅.get? c=some o->h₈.get? c=some o:=fun c o c1 e=>hs₈.extBut _ _ c1 (hs₇.extBut _ _ c1 (V' _ e));have hT₈:IsPair h₈ h₅.objs.size x y:=hs₈.extBut _ _ (Nat.ne_of_gt hzlt) (hs₇.extBut _ _ (Nat.ne_of_gt hzlt) (Zo' _ rfl));have hz8:h₈.objs.size=h₅.objs.size+1:=by rw[hs₈.1,hs₇.1,Heap.size_push]
  have hloose:∃ g0 g1,CO h₈ z TI TO g0 g1/\Loose g0 g1:=⟨_,_,hz₈,.inr ⟨_,rfl⟩,_,rfl⟩;rw[hsz]at hT₈ hz8;refine N' ⟨_,rfl,?_⟩;show Q (.ref h₅.objs.size) _;rw[hsz];exact hQ h₈ hloose ⟨_,_,up _ _ D.TOz hTO₅⟩ (h1₅.at fun o e=>up _ o D.i1z e) (h2₅.at fun o e=>up _ o D.i2z e) hT₈ hz8 fun c o c1 c2 c3 c4 e=>up c o c1 (hk₅ c o c1 c2 c3 c4 e)
 |false =>
  simp only [Bool.false_eq_true,if_false];have hs₁:=hs₀;refine L' ?_;rw[<-Array.forIn_toList];simp only [List.forIn_cons,List.forIn_nil];refine L' (L' (wpAny_holding ?_));show wpAny _ _ (Builtin.SmallTypes.nextOf (.ref i1) >>= _) _ _ _;refine L' (wpAny_nextOf_list_item (h1.extBut hs₁.extBut D.i1z) (hl1.extBut hs₁.extBut D.l1z) hx fun h₂ h1₂ hs₂=>N' (N' ?_));refine L' (L' (wpAny_holding ?_));show wpAny _ _ (Builtin.SmallTypes.nextOf (.ref i2) >>= _) _ _ _;refine L' (wpAny_nextOf_list_item ((h2.extBut hs₁.extBut D.i2z).extBut hs₂.extBut D.i12.symm)
   ((hl2.extBut hs₁.extBut D.l2z).extBut hs₂.extBut D.l2i1) hy fun h₄ h2₄ hs₄=>N' (N' (N' ?_)))
  have hsz:h₄.objs.size=s.heap.objs.size:=by rw[hs₄.1,hs₂.1,hs₁.1]
  refine L' (wpAny_newTuple (hsz:=by show 2<=sizeLine;decide) ?_);have up:∀ c o,c≠z->c≠i1->c≠i2->s.heap.get? c=some o->(h₄.push { cls:=.type "tuple",data:=.seq #[x,y] }).get? c=some o:=fun c o c1 c3 c4 e =>
   V' _ (hs₄.extBut _ _ c4 (hs₂.extBut _ _ c3 (hs₁.extBut _ _ c1 e)))
  have hz₄:CO (h₄.push { cls:=.type "tuple",data:=.seq #[x,y] }) z TI TO f0 g1:=V' _ (hs₄.extBut _ _ D.i2z.symm (hs₂.extBut _ _ D.i1z.symm amC));have hT₈:IsPair (h₄.push { cls:=.type "tuple",data:=.seq #[x,y] }) h₄.objs.size x y:=Zo' _ rfl;have hz8:(h₄.push { cls:=.type "tuple",data:=.seq #[x,y] }).objs.size=h₄.objs.size+1:=Heap.size_push ..;refine N' ⟨_,rfl,?_⟩;show Q (.ref h₄.objs.size) { s with heap:=h₄.push { cls:=.type "tuple",data:=.seq #[x,y] } };rw[hsz]at hT₈ hz8 ⊢;exact hQ _ ⟨_,_,hz₄,hl₀⟩ ⟨a,b,up _ _ D.TOz D.TOi1 D.TOi2 hTO⟩ ((h1₂.extBut hs₄.extBut D.i12).at fun o e=>V' _ e) (h2₄.at fun o e=>V' _ e) hT₈ hz8 fun c o c1 _ c3 c4 e=>up c o c1 c3 c4 e
theorem agR {z TI TO i1 i2 l1 l2:Addr}{k1:Nat}{xs:Array Value}{a b f0 f1:Value}{Q:Fin->Shared->Prop}(hh:A.handled=none)(D:ZipApart z TI TO i1 i2 l1 l2)
  (hz:CO s.heap z TI TO f0 f1) (hf:Loose f0 f1) (hTI:IsPair s.heap TI (.ref i1) (.ref i2)) (hTO:IsPair s.heap TO a b)
  (h1:s.heap.IsListIter i1 l1 k1) (hl1:s.heap.IsList l1 xs) (hend:xs[k1]? = none)
  (hE:∀ h' e,(∀ c o,c≠z->c≠TO->c≠i1->c≠i2->s.heap.get? c=some o->h'.get? c=some o)->(∃ o,h'.get? e=some o/\o.cls=.type "StopIteration")->E (.ref e) { s with heap:=h' }) :
  wpAny (model prog w) A (Builtin.«zip.__next__» ⟨[.ref z],[]⟩) Q E s:=by
 show wpAny _ _ (field (.ref z) 2 >>= _) _ _ _;refine L' (wpAny_field hz rfl (x:=.bool false) rfl ?_);show wpAny _ _ (field (.ref z) 3 >>= _) _ _ _;refine L' (wpAny_field hz rfl (x:=.ref TI) rfl ?_);refine L' (wpAny_seqItems hTI rfl ?_);show wpAny _ _ (Builtin.SmallTypes.ownedTupleIsFree (.ref z) >>= _) _ _ _;refine L' (XD hz hf fun r h₀ g1 amC hl₀ hs₀=>?_);cases r with
 |true =>
  simp only [if_true];refine L' (wpAny_rule ?_);refine L' (wpAny_field amC rfl (x:=.ref TO) rfl ?_);refine L' (wpAny_setField_rec amC (by simp) fun h₁ hz₁ agQ=>?_)
  replace hz₁:CO h₁ z TI TO .ellipsis g1:=hz₁
  have hs₁:Heap.SameBut z s.heap h₁:=⟨agQ.1.trans hs₀.1,fun c hc=>(agQ.2 c hc).trans (hs₀.2 c hc)⟩;refine L' ?_;simp only [List.zipIdx_cons,List.zipIdx_nil,List.forIn_cons,List.forIn_nil];refine L' (L' (wpAny_onRaise ?_));show wpAny _ _ (Builtin.SmallTypes.nextOf (.ref i1) >>= _) _ _ _;refine L' (wpAny_nextOf_list_end hh (h1.extBut hs₁.extBut D.i1z) (hl1.extBut hs₁.extBut D.l1z) hend fun h₂ e hs₂ he=>?_);obtain⟨oe,hoe,hce⟩:=he;have hz₂:CO h₂ z TI TO .ellipsis g1:=hs₂ _ _ D.i1z.symm hz₁;have hez:e≠z:=fun x=>by subst x;rw[hz₂]at hoe;cases hoe;simp at hce
  refine wpAny_setField_rec hz₂ (by simp) fun h₃ _ hs₃=>hE h₃ e (fun c o c1 _ c3 _ x=>hs₃.extBut _ _ c1 (hs₂ _ _ c3 (hs₁.extBut _ _ c1 x))) ⟨oe,hs₃.extBut _ _ hez hoe,hce⟩
 |false =>
  simp only [Bool.false_eq_true,if_false];refine L' ?_;rw[<-Array.forIn_toList];simp only [List.forIn_cons,List.forIn_nil];refine L' (L' (wpAny_holding ?_));show wpAny _ _ (Builtin.SmallTypes.nextOf (.ref i1) >>= _) _ _ _;exact L' (wpAny_nextOf_list_end hh (h1.extBut hs₀.extBut D.i1z) (hl1.extBut hs₀.extBut D.l1z) hend fun h₂ e hs₂ he=>hE h₂ e (fun c o c1 _ c3 _ x=>hs₂ _ _ c3 (hs₀.extBut _ _ c1 x)) he)
def agS (z TI TO i1 i2 a b:Addr)(i:Nat)(h:Heap):Prop:=(∃ f0 f1,CO h z TI TO f0 f1/\Loose f0 f1)/\IsPair h TI (.ref i1) (.ref i2)/\(∃ x y,IsPair h TO x y)/\h.IsListIter i1 a i/\h.IsListIter i2 b i
theorem aja {e z TI TO i1 i2 l1 l2:Addr}{i:Nat}{xs ys:Array Value}{x y old:Value}{Q:Option Value->Shared->Prop}(D:ZipApart z TI TO i1 i2 l1 l2)(hne:∀ c∈[z,TI,TO,i1,i2],e≠c)
  (he:IsEnum s.heap e z i old) (hst:agS z TI TO i1 i2 l1 l2 i s.heap) (hl1:s.heap.IsList l1 xs) (hl2:s.heap.IsList l2 ys) (hx:xs[i]? = some x) (hy:ys[i]? = some y)
  (hQ:∀ h' tk,IsEnumOut h' e z ((i:Int)+1) (.ref s.heap.objs.size) (s.heap.objs.size+1)->agS z TI TO i1 i2 l1 l2 (i+1) h'->IsPair h' s.heap.objs.size x y ->
   h'.get? (s.heap.objs.size+1)=some { cls:=.type "tuple",data:=.seq #[.int i tk,.ref s.heap.objs.size] } ->
   (∀ c o,c ∉ [e,z,TO,i1,i2]->s.heap.get? c=some o->h'.get? c=some o)->Q (some (.ref (s.heap.objs.size+1))) { s with heap:=h',toks:=tk+1 }) :
  wpAny (model prog w) A (pyNext (.ref e)) Q E s:=by
 have hT:s.TypeIs (.ref e) "enumerate":=⟨_,he,rfl⟩;unfold pyNext;refine L' (wpAny_attempt (wpAny_callSpecial?_slot (name:=Str.ofString "__next__") hT slot_enumerate_next
  (wpAny_call_entry slot_enumerate_next hT PySem.F.entry_enumerate_next ?_ (PySem.F.args_enumerate_next_1 _))))
 obtain⟨hp,g,d,tk,os⟩:=s;obtain⟨⟨f0,f1,hz,hlo⟩,hTI,⟨ta,tb,hTO⟩,g1,g2⟩:=hst;have ne:=fun c hc=>(hne c hc);have ez:e≠z:=hne z (by simp);have eTI:e≠TI:=hne TI (by simp);have eTO:e≠TO:=hne TO (by simp);have ei1:e≠i1:=hne i1 (by simp);have ei2:e≠i2:=hne i2 (by simp);show wpAny _ _ (field (.ref e) 2 >>= _) _ _ _;refine L' (wpAny_field he rfl (x:=.ref z) rfl ?_);refine L' ?_;have hTz:Shared.TypeIs ⟨hp,g,d,tk,os⟩ (.ref z) "zip":=⟨_,hz,rfl⟩;unfold Builtin.SmallTypes.nextOf;refine L' (wpAny_callSpecial?_slot (name:=Str.ofString "__next__") hTz slot_zip_next
  (wpAny_call_entry slot_zip_next hTz entry_zip_next (aef D hz hlo hTI hTO g1 g2 hl1 hl2 hx hy fun h₁ q1 q2 q3 q4 q5 q6 q7=>N' ?_) (PySem.F.args_zip_next_1 _)))
 replace q5:IsPair h₁ hp.objs.size x y:=q5
 replace q6:h₁.objs.size=hp.objs.size+1:=q6
 replace q7:∀ c o,c≠z->c≠TO->c≠i1->c≠i2->hp.get? c=some o->h₁.get? c=some o:=q7
 have he₁:IsEnum h₁ e z i old:=q7 e _ ez eTO ei1 ei2 he;have st₁:agS z TI TO i1 i2 l1 l2 (i+1) h₁:=⟨q1,q7 TI _ D.TIz D.TITO D.TIi1 D.TIi2 hTI,q2,q3,q4⟩;show wpAny _ _ (field (.ref e) 3 >>= _) _ _ ⟨h₁,g,d,tk,os⟩;refine L' (wpAny_field he₁ rfl (x:=rawInt i) rfl ?_);show wpAny _ _ (field (.ref e) 4 >>= _) _ _ ⟨h₁,g,d,tk,os⟩;refine L' (wpAny_field he₁ rfl (x:=.none) rfl ?_);show wpAny _ _ (mkInt i >>= _) _ _ ⟨h₁,g,d,tk,os⟩;refine L' (wpAny_mkInt ?_);show wpAny _ _ (setField (.ref e) 3 (rawInt ((i:Int)+1)) >>= _) _ _ ⟨h₁,g,d,tk+1,os⟩;refine L' (wpAny_setField_rec he₁ (by simp) fun h₂ he₂ hs₂=>?_)
 replace hs₂:Heap.SameBut e h₁ h₂:=hs₂
 replace he₂:IsEnum h₂ e z ((i:Int)+1) old:=he₂
 show wpAny _ _ (setField (.ref e) 4 .none >>= _) _ _ ⟨h₂,g,d,tk+1,os⟩;refine L' (wpAny_setField_rec he₂ (by simp) fun h₃ he₃ hs₃=>?_)
 replace hs₃:Heap.SameBut e h₂ h₃:=hs₃
 replace he₃:IsEnum h₃ e z ((i:Int)+1) old:=he₃
 show wpAny _ _ (newTuple [.int i tk,.ref hp.objs.size] >>= _) _ _ ⟨h₃,g,d,tk+1,os⟩;refine L' (wpAny_newTuple ?_);have he₄:IsEnum (h₃.push { cls:=.type "tuple",data:=.seq #[.int i tk,.ref hp.objs.size] }) e z ((i:Int)+1) old:=V' _ he₃;have hsz:h₃.objs.size=hp.objs.size+1:=by rw[hs₃.1,hs₂.1,q6]
 have hel:e<hp.objs.size:=Zc' he;have ht₄:(h₃.push { cls:=.type "tuple",data:=.seq #[.int i tk,.ref hp.objs.size] }).get? (hp.objs.size+1)=some { cls:=.type "tuple",data:=.seq #[.int i tk,.ref hp.objs.size] }:=by rw[<-hsz];exact Zo' _ rfl
 have aq9:∀ c o,c≠e->h₁.get? c=some o->(h₃.push { cls:=.type "tuple",data:=.seq #[.int i tk,.ref hp.objs.size] }).get? c=some o:=fun c o hc q =>
  V' _ (hs₃.extBut c o hc (hs₂.extBut c o hc q))
 generalize h₃.push { cls:=.type "tuple",data:=.seq #[.int i tk,.ref hp.objs.size] } = h₄ at he₄ ht₄ aq9;show wpAny _ _ (Builtin.SmallTypes.ownedTupleIsFree (.ref e) >>= _) _ _ ⟨h₄,g,d,tk+1,os⟩;rw[hsz];refine L' ?_;unfold Builtin.SmallTypes.ownedTupleIsFree;refine L' (wpAny_field he₄ rfl (x:=.none) rfl (N' ?_));simp only [if_true];refine L' (wpAny_rule ?_);refine L' (wpAny_field he₄ rfl (x:=old) rfl ?_);refine L' (wpAny_setField_rec he₄ (by simp) fun h₅ he₅ hs₅=>?_)
 replace hs₅:Heap.SameBut e h₄ h₅:=hs₅
 replace he₅:IsEnum h₅ e z ((i:Int)+1) (.ref hp.objs.size):=he₅
 show wpAny _ _ (Builtin.SmallTypes.ownedTupleHandOut (.ref e) (.ref (hp.objs.size+1)) >>= _) _ _ ⟨h₅,g,d,tk+1,os⟩;refine L' ?_;unfold Builtin.SmallTypes.ownedTupleHandOut;refine L' (wpAny_setField_rec he₅ (by simp) fun h₆ he₆ hs₆=>?_)
 replace hs₆:Heap.SameBut e h₅ h₆:=hs₆
 replace he₆:IsEnumOut h₆ e z ((i:Int)+1) (.ref hp.objs.size) (hp.objs.size+1):=he₆
 refine wpAny_setField_rec he₆ (by simp) fun h₇ he₇ hs₇=>?_
 replace hs₇:Heap.SameBut e h₆ h₇:=hs₇
 replace he₇:IsEnumOut h₇ e z ((i:Int)+1) (.ref hp.objs.size) (hp.objs.size+1):=he₇
 have up:∀ c o,c≠e->h₁.get? c=some o->h₇.get? c=some o:=fun c o hc q=>hs₇.extBut c o hc (hs₆.extBut c o hc (hs₅.extBut c o hc (aq9 c o hc q)));have nT:(hp.objs.size:Nat)≠e:=Nat.ne_of_gt hel;have nT1:(hp.objs.size+1:Nat)≠e:=Nat.ne_of_gt (Nat.lt_succ_of_lt hel);refine L' (wpAny_letGo (N' ⟨_,rfl,N' (hQ h₇ tk he₇ ?_ (up _ _ nT q5) ?_ ?_)⟩))
 ·obtain⟨⟨u0,u1,u2,u3⟩,u4,⟨u5,u6,u7⟩,u8,u9⟩:=st₁;exact⟨⟨u0,u1,up _ _ ez.symm u2,u3⟩,up _ _ eTI.symm u4,⟨u5,u6,up _ _ eTO.symm u7⟩,u8.at fun o q=>up _ o ei1.symm q,u9.at fun o q=>up _ o ei2.symm q⟩
 ·exact hs₇.extBut _ _ nT1 (hs₆.extBut _ _ nT1 (hs₅.extBut _ _ nT1 ht₄))
 ·intro c o hc q;have hc':c≠e/\c≠z/\c≠TO/\c≠i1/\c≠i2:=by simpa using hc
  exact up c o hc'.1 (q7 c o hc'.2.1 hc'.2.2.1 hc'.2.2.2.1 hc'.2.2.2.2 q)
theorem alx {e z TI TO i1 i2 l1 l2:Addr}{i:Nat}{xs:Array Value}{old:Value}{Q:Option Value->Shared->Prop}(hh:A.handled=none)(D:ZipApart z TI TO i1 i2 l1 l2)
  (he:IsEnum s.heap e z i old) (hst:agS z TI TO i1 i2 l1 l2 i s.heap) (hl1:s.heap.IsList l1 xs) (hx:xs[i]? = none)
  (hQ:∀ h',(∀ c o,c ∉ [e,z,TO,i1,i2]->s.heap.get? c=some o->h'.get? c=some o)->Q none { s with heap:=h' }):wpAny (model prog w) A (pyNext (.ref e)) Q E s:=by
 have hT:s.TypeIs (.ref e) "enumerate":=⟨_,he,rfl⟩;obtain⟨⟨f0,f1,hz,hlo⟩,hTI,⟨ta,tb,hTO⟩,g1,g2⟩:=hst;unfold pyNext;refine L' (wpAny_attempt (wpAny_callSpecial?_slot (name:=Str.ofString "__next__") hT slot_enumerate_next
  (wpAny_call_entry slot_enumerate_next hT PySem.F.entry_enumerate_next ?_ (PySem.F.args_enumerate_next_1 _))))
 show wpAny _ _ (field (.ref e) 2 >>= _) _ _ _;refine L' (wpAny_field he rfl (x:=.ref z) rfl ?_);refine L' ?_;have hTz:s.TypeIs (.ref z) "zip":=⟨_,hz,rfl⟩;unfold Builtin.SmallTypes.nextOf;refine L' (wpAny_callSpecial?_slot (name:=Str.ofString "__next__") hTz slot_zip_next
  (wpAny_call_entry slot_zip_next hTz entry_zip_next (agR hh D hz hlo hTI hTO g1 hl1 hx fun h' x hk hx'=>?_) (PySem.F.args_zip_next_1 _)))
 obtain⟨o,ho,hc⟩:=hx';refine L' (wpAny_isInstance (T:="StopIteration") (b:=true) ⟨o,ho,hc⟩ isSubtype_stop ?_);refine N' (hQ _ fun c o hc q=>?_);have hc':c≠e/\c≠z/\c≠TO/\c≠i1/\c≠i2:=by simpa using hc
 exact hk c o hc'.2.1 hc'.2.2.1 hc'.2.2.2.1 hc'.2.2.2.2 q
theorem zI (z TI TO:Addr) :
  Meets (Builtin.«enumerate.__new__» ⟨[.type "enumerate",.ref z],[]⟩) (fun _ R s=>IsZip s.heap z TI TO .none /\
   R (.ok (.ret (.ref s.heap.objs.size)))
    { s with heap:=s.heap.push { cls:=.type "enumerate",data:=.fields #[.none,.bool false,.ref z,rawInt 0,.none,.none] } }) :=
 .of_wp fun prog w A R s h=>by
  obtain⟨hp,g,d,tk,os⟩:=s;obtain⟨hl,h⟩:=h;have hsub:=sub_enumerate;have hL:IsZip (Shared.heap ⟨hp,g,d,tk,os⟩) z TI TO .none:=hl
  wp_walk using wpAny_loadPart' hl
  refine wpAny_stack_any fun st=>N' ?_;split
  ·rename_i c _ _ _ _ _
   cases (c==Value.type "enumerate")
   ·wp_walk using wpAny_loadPart' hl,wpAny_pyIter_zip hL
    exact⟨_,rfl,h⟩
   ·wp_walk using wpAny_loadPart' hl,wpAny_pyIter_zip hL
    exact⟨_,rfl,h⟩
  ·wp_walk using wpAny_loadPart' hl,wpAny_pyIter_zip hL
   exact⟨_,rfl,h⟩
theorem CP {z TI TO:Addr}{Q:Value->Shared->Prop}(hz:IsZip s.heap z TI TO .none)
  (h:∀ h',IsEnum h' s.heap.objs.size z 0 .none->(∀ b o,s.heap.get? b=some o->h'.get? b=some o)->Q (.ref s.heap.objs.size) { s with heap:=h' }) :
  wpAny (model prog w) A (call (.type "enumerate") [.ref z]) Q E s:=by
 refine callType_new PySem.F.called_enumerate (by decide) (PySem.F.typeCall_enumerate_1 _) (PySem.F.newCall_enumerate_1 _) (fun obj=>PySem.F.args_object_init_2 obj _) PySem.F.entry_enumerate_new
  (zI z TI TO) ⟨hz,?_⟩
 show _/\_;have he:IsEnum (s.heap.push { cls:=.type "enumerate",data:=.fields #[.none,.bool false,.ref z,rawInt 0,.none,.none] }) s.heap.objs.size z 0 .none:=Zo' _ rfl;exact⟨⟨_,he,rfl⟩,h _ he fun b o x=>V' _ x⟩
end
end L2
namespace L2
open PySem PySem.Spec PyProof.Rows
section
variable {X:Cx} {pins:List (Addr×Obj)} {σ:St} {H:Hp} {s:Shared}
theorem Inv.ajb {tk:Nat}{h':Heap}{wr:List Addr}{T U:Addr}{xs ys:List V}{vals vals2:List Value}(I:Inv X pins σ H s)(hw:∀ b∈wr,qF X pins H b)(hT:s.heap.objs.size<=T)(hU:s.heap.objs.size<=U)(hTU:T≠U)
  (ht:h'.IsTuple T vals.toArray) (rv:Vals xs vals) (hz:xs.length<=sizeLine) (hu:h'.IsTuple U vals2.toArray) (rv2:Vals ys vals2) (hz2:ys.length<=sizeLine)
  (kk:∀ b o,b ∉ wr->s.heap.get? b=some o->h'.get? b=some o) (there:∀ b∈wr,∃ o,h'.get? b=some o):Inv X pins σ (upd (upd H T (.tup xs)) U (.tup ys)) { s with heap:=h',toks:=tk }:=by
 have hTn:H T=none:=I.hok.fresh hT;have hUn:H U=none:=I.hok.fresh hU;have nT:∀ b o,s.heap.get? b=some o->b≠T:=fun b o e=>Zn' (Zd' (Zc' e) hT);have nU:∀ b o,s.heap.get? b=some o->b≠U:=fun b o e=>Zn' (Zd' (Zc' e) hU);have up:∀{b:Addr} {o:HO},H b=some o->upd (upd H T (.tup xs)) U (.tup ys) b=some o:=fun e=>by
  rw[ak (ao e hUn),ak (ao e hTn)];exact e
 refine I.step (g':=s.gens) (d':=s.drawn) (ch:=wr) (fun b hb=>?_) (fun b o _ _ hc e _=>kk b o hc e) (fun b o _ _ hc e _=>⟨o.slots,kk b o hc e⟩) (fun b o _ e n=>by rw[ak (nU b o e),ak (nT b o e)];exact n)
  (fun b o hc e=>⟨o,kk b o hc e⟩) (fun b ys e=>up e) (fun b o u e=>up e) (fun b ps e=>⟨#[],by rw[up e];simp⟩) (fun m hm=>?_) (fun b u e=>?_) I.bare
 ·obtain⟨_,f1,_,f3,f4,f5⟩:=hw b hb;exact⟨f3,f1,f4,f5⟩
 ·obtain⟨o,es,ep,ho,r⟩:=hm;exact⟨o,es,ep,kk _ o (fun z=>(hw _ z).2.1 rfl) ho,r⟩
 ·by_cases hb:b=U
  ·subst hb;rw[ah]at e;cases e;exact⟨hz2,vals2,rv2,hu⟩
  ·rw[ak hb]at e
   by_cases hb2:b=T
   ·subst hb2;rw[ah]at e;cases e;exact⟨hz,vals,rv,ht⟩
   ·rw[ak hb2]at e;refine(I.hok b u e).stay (fun c v hc q=>kk c v (fun z=>?_) q) (fun c q=>up q) fun c ys q=>up q;have hn:=(hw c z).1;rcases hc with hc|hc
    ·rw[hc,e]at hn;cases hn
    ·rw[hc]at hn;cases hn
def aeg (K:Frag)(a b:Addr):It :=
 ⟨fun i H=>∃ xs ys x y,bh K H a xs/\bh K H b ys/\xs[i]? = some x/\ys[i]? = some y,
  fun i H p H'=>∃ x y t0 t1,p=.ref t1/\H t0=none/\H t1=none/\t0≠t1/\(∀ xs,bh K H a xs->xs[i]? = some x)/\(∀ ys,bh K H b ys->ys[i]? = some y)/\H'=upd (upd H t0 (.tup [x,y])) t1 (.tup [.int i,.ref t0]),
  fun i H=>∃ xs ys,bh K H a xs/\bh K H b ys/\xs.length<=i⟩
theorem ajc {P:Program}{w:World}{K:Frag}{es:List Expr}{k:Nat}{tp:Pos}{e z TI TO i1 i2:Addr}(a b:Addr)(O:CN z TI TO i1 i2)(hne:∀ c∈[z,TI,TO,i1,i2],e≠c) :
  Turn P w K (.Tuple es k tp) (aeg K a b) [e,z,TI,TO,i1,i2] e (fun i h=>(∃ old,IsEnum h e z i old)/\agS z TI TO i1 i2 a b i h) where
 mem:=by simp
 obj:=fun i h st c hc=>by
  obtain⟨⟨old,he⟩,⟨f0,f1,hz,_⟩,hTI,⟨x,y,hTO⟩,⟨o1,e1,_,d1⟩,⟨o2,e2,_,d2⟩⟩:=st;have hc':c=e\/c=z\/c=TI\/c=TO\/c=i1\/c=i2:=by simpa using hc
  rcases hc' with rfl|rfl|rfl|rfl|rfl|rfl
  ·exact⟨_,he,fun v q=>by
    have q':Data.fields _=Data.cell v:=q;cases q'⟩
  ·exact⟨_,hz,fun v q=>by
    have q':Data.fields _=Data.cell v:=q;cases q'⟩
  ·exact⟨_,hTI,fun v q=>by
    have q':Data.seq _ _=Data.cell v:=q;cases q'⟩
  ·exact⟨_,hTO,fun v q=>by
    have q':Data.seq _ _=Data.cell v:=q;cases q'⟩
  ·exact⟨o1,e1,fun v q=>by rw[d1]at q;cases q⟩
  ·exact⟨o2,e2,fun v q=>by rw[d2]at q;cases q⟩
 keep:=fun i h h' st kp=>by
  obtain⟨⟨old,he⟩,⟨f0,f1,hz,hl⟩,hTI,⟨x,y,hTO⟩,h1,h2⟩:=st;exact⟨⟨old,kp e (by simp) _ he⟩,⟨f0,f1,kp z (by simp) _ hz,hl⟩,kp TI (by simp) _ hTI,⟨x,y,kp TO (by simp) _ hTO⟩,h1.at fun o q=>kp i1 (by simp) o q,h2.at fun o q=>kp i2 (by simp) o q⟩
 item:=by
  intro X hP hw hK hc i pins s σ H E I hf st hg;subst hP hw hK;obtain⟨xs,ys,x,y,hq,hq2,hx,hy⟩:=hg;obtain⟨⟨old,he⟩,stz⟩:=st;have D:ZipApart z TI TO i1 i2 a b:=by
   obtain⟨⟨f0,f1,hz,_⟩,hTI,⟨x,y,hTO⟩,⟨o1,e1,c1,_⟩,⟨o2,e2,c2,_⟩⟩:=stz;have nz:∀{c:Addr} {zs:List V},bh X.K H c zs->c≠z:=fun h=>c6 (K:=X.K) I h hz (by intro q;injection q with q;exact P' q (by decide));have nT:∀{c:Addr} {zs:List V},bh X.K H c zs->c≠TO:=fun h=>c6 (K:=X.K) I h hTO (by intro q;injection q with q;exact P' q (by decide));have n1:∀{c:Addr} {zs:List V},bh X.K H c zs->c≠i1:=fun h=>c6 (K:=X.K) I h e1 (by rw[c1];intro q;injection q with q;exact P' q (by decide));have n2:∀{c:Addr} {zs:List V},bh X.K H c zs->c≠i2:=fun h=>c6 (K:=X.K) I h e2 (by rw[c2];intro q;injection q with q;exact P' q (by decide));exact⟨O.TIz,O.TOz,O.i1z,O.i2z,O.TITO,O.TIi1,O.TIi2,O.TOi1,O.TOi2,O.i12,nz hq,nT hq,n1 hq,n2 hq,nz hq2,nT hq2,n1 hq2,n2 hq2⟩
  obtain⟨its,rv,p,_⟩:=I.list hq;obtain⟨its2,rv2,p2,_⟩:=I.list hq2;obtain⟨u,hu,ru⟩:=rv.get hx;obtain⟨u2,hu2,ru2⟩:=rv2.get hy;refine aja D hne he stz p.isList p2.isList (x:=u) (y:=u2) (by simpa using hu) (by simpa using hu2) fun h' tk q1 q2 q3 q4 kk=>?_;refine⟨_,rfl,?_⟩;have sub:∀ c∈[e,z,TO,i1,i2],c∈[e,z,TI,TO,i1,i2]:=fun c hc=>by
   have:c=e\/c=z\/c=TO\/c=i1\/c=i2:=by simpa using hc
   simp;rcases this with r|r|r|r|r <;> simp[r]
  have fw:∀ c∈[e,z,TO,i1,i2],qF X pins H c:=fun c hc=>hf c (sub c hc);have I1:Inv X pins σ (upd (upd H s.heap.objs.size (.tup [x,y])) (s.heap.objs.size+1) (.tup [.int i,.ref s.heap.objs.size])) { s with heap:=h',toks:=tk+1 }:=by
   refine I.ajb (vals:=[u,u2]) (vals2:=[.int i tk,.ref s.heap.objs.size]) fw (Zi' _) (Nat.le_succ _) (Zn' (Nat.lt_succ_self _)) ⟨_,q3,rfl,_,rfl⟩ (.cons ru (.cons ru2 .nil)) (by show 2<=sizeLine;decide)
    ⟨_,q4,rfl,_,rfl⟩ (.cons ⟨tk,rfl⟩ (.cons rfl .nil)) (by show 2<=sizeLine;decide) kk fun c hc=>?_
   obtain⟨⟨f0,f1,m1,_⟩,_,⟨_,_,m2⟩,⟨o1,m3,_⟩,⟨o2,m4,_⟩⟩:=q2;have:c=e\/c=z\/c=TO\/c=i1\/c=i2:=by simpa using hc
   rcases this with rfl|rfl|rfl|rfl|rfl
   ·exact⟨_,q1⟩
   ·exact⟨_,m1⟩
   ·exact⟨_,m2⟩
   ·exact⟨_,m3⟩
   ·exact⟨_,m4⟩
  have hT0:H s.heap.objs.size=none:=I.hok.fresh (Zi' _);have hT1:H (s.heap.objs.size+1)=none:=I.hok.fresh (Nat.le_succ _);have lt:∀ c∈[e,z,TI,TO,i1,i2],c<s.heap.objs.size:=fun c hc=>by
   obtain⟨⟨f0,f1,m1,_⟩,m5,⟨_,_,m2⟩,⟨o1,m3,_⟩,⟨o2,m4,_⟩⟩:=stz;have hc':c=e\/c=z\/c=TI\/c=TO\/c=i1\/c=i2:=by simpa using hc
   rcases hc' with rfl|rfl|rfl|rfl|rfl|rfl
   ·exact Zc' he
   ·exact Zc' m1
   ·exact Zc' m5
   ·exact Zc' m2
   ·exact Zc' m3
   ·exact Zc' m4
  refine wpAny_letOwnedTupleGo_enum q1 fun h'' apV hs''=>?_;have hf2:∀ c∈[e,z,TI,TO,i1,i2],qF X pins (upd (upd H s.heap.objs.size (.tup [x,y])) (s.heap.objs.size+1) (.tup [.int i,.ref s.heap.objs.size])) c:=fun c hc=>by
   obtain⟨f0,fr⟩:=hf c hc;have l:=lt c hc;exact⟨by rw[ak (Zn' (Nat.lt_succ_of_lt l)),ak (Zn' l)];exact f0,fr⟩
  have kk2:∀ c o,c ∉ [e]->h'.get? c=some o->h''.get? c=some o:=fun c o hc q=>hs''.extBut c o (fun r=>hc (by simp[r])) q;have up:∀{c:Addr} {o:Obj},c∈[z,TI,TO,i1,i2]->h'.get? c=some o->h''.get? c=some o:=fun hc q=>hs''.extBut _ _ (hne _ hc).symm q;have fe:∀ c∈[e],qF X pins (upd (upd H s.heap.objs.size (.tup [x,y])) (s.heap.objs.size+1) (.tup [.int i,.ref s.heap.objs.size])) c:=fun c hc=>by
   have:c=e:=by simpa using hc
   exact hf2 c (by simp[this])
  refine⟨.ref (s.heap.objs.size+1),_,I1.lW (tk:=tk+1) (wr:=[e]) fe kk2,rfl,⟨x,y,s.heap.objs.size,s.heap.objs.size+1,rfl,hT0,hT1,Zn' (Nat.lt_succ_self _),wm I hq hx,wm I hq2 hy,rfl⟩,?_,fun c hc=>(hf2 c hc).1⟩;obtain⟨⟨f0,f1,m1,m1'⟩,m5,⟨_,_,m2⟩,m3,m4⟩:=q2;exact⟨⟨_,by simpa using apV⟩,⟨f0,f1,up (by simp) m1,m1'⟩,up (by simp) m5,⟨_,_,up (by simp) m2⟩,m3.at fun o q=>up (by simp) q,m4.at fun o q=>up (by simp) q⟩
 done:=by
  intro X hP hw hK hc i pins s σ H E I hf st hg;subst hP hw hK;obtain⟨xs,ys,hq,hq2,hx⟩:=hg;obtain⟨⟨old,he⟩,stz⟩:=st;have D:ZipApart z TI TO i1 i2 a b:=by
   obtain⟨⟨f0,f1,hz,_⟩,hTI,⟨x,y,hTO⟩,⟨o1,e1,c1,_⟩,⟨o2,e2,c2,_⟩⟩:=stz;have nz:∀{c:Addr} {zs:List V},bh X.K H c zs->c≠z:=fun h=>c6 (K:=X.K) I h hz (by intro q;injection q with q;exact P' q (by decide));have nT:∀{c:Addr} {zs:List V},bh X.K H c zs->c≠TO:=fun h=>c6 (K:=X.K) I h hTO (by intro q;injection q with q;exact P' q (by decide));have n1:∀{c:Addr} {zs:List V},bh X.K H c zs->c≠i1:=fun h=>c6 (K:=X.K) I h e1 (by rw[c1];intro q;injection q with q;exact P' q (by decide));have n2:∀{c:Addr} {zs:List V},bh X.K H c zs->c≠i2:=fun h=>c6 (K:=X.K) I h e2 (by rw[c2];intro q;injection q with q;exact P' q (by decide));exact⟨O.TIz,O.TOz,O.i1z,O.i2z,O.TITO,O.TIi1,O.TIi2,O.TOi1,O.TOi2,O.i12,nz hq,nT hq,n1 hq,n2 hq,nz hq2,nT hq2,n1 hq2,n2 hq2⟩
  obtain⟨its,rv,p,_⟩:=I.list hq;have hl:=rv.length;refine alx (I.ok.hd hc) D he stz p.isList (Array.getElem?_eq_none (by simp;omega)) fun h' kk=>?_;refine⟨rfl,I.lW (tk:=s.toks) (wr:=[e,z,TO,i1,i2]) (fun c hc=>hf c ?_) kk⟩;have:c=e\/c=z\/c=TO\/c=i1\/c=i2:=by simpa using hc
  simp;rcases this with r|r|r|r|r <;> simp[r]
 self:=fun _ _ _ _ _ st h=>by
  obtain⟨⟨old,he⟩,_⟩:=st;exact wpAny_pyIter_enum he h
inductive anq (K:Frag)(R:(It->Hp->Prop))(x:V)(y:V)(H2:Hp):Prop
 |mk (a:_) (b:_) (eE:x=.ref a) (eF:y=.ref b) (h8:(∃ xs,bh K H2 a xs)/\(∃ ys,bh K H2 b ys)/\R (aeg K a b) H2):anq K R x y H2
def iEz (K:Frag)(tl tm:TE):TI:=fun σ H R=>tl σ H fun x H1=>tm σ H1 fun y H2=>anq K R x y H2
theorem ajd {l m:Expr}{tl tm:TE}{p pos:Pos}(hg:Gl X "zip")(hz:X.mg "zip"=none)(hl:PE X l tl)(hm:PE X m tm)(hs:starEach [l,m] X.env=[(false,eval l X.env),(false,eval m X.env)])(hs2:starEach [m] X.env=[(false,eval m X.env)])
  {R:V->V->Hp->Prop} (I:Inv X pins σ H s) (h:tl σ H fun x H1=>tm σ H1 fun y H2=>R x y H2) (hR:∀ x y H1,R x y H1->∃ a b,x=.ref a/\y=.ref b/\(∃ xs,bh X.K H1 a xs)/\∃ ys,bh X.K H1 b ys) :
  wpAny (model X.prog X.w) X.A (eval (.Call (.Name "zip" p) [l,m] [] pos) X.env) (fun v s1=>∃ a b z TI TO i1 i2 H1,R (.ref a) (.ref b) H1/\v=.ref z/\Inv X pins σ H1 s1/\CN z TI TO i1 i2/\IsZip s1.heap z TI TO .none/\adn z TI TO i1 i2 a b 0 s1.heap/\∀ c∈[z,TI,TO,i1,i2],qF X pins H1 c) X.xe s:=by
 refine Call_ (vG I hg hz agH (PyProof.Rows.callWith_type1 (cU (agN hl hm hs hs2 pos pins s σ H I h) fun us s1 ⟨x,y,u,v,H1,I1,e1,r1,r2,q1⟩=>?_) (by rw[hs,hs2]) (by rw[hs2];rfl)));obtain⟨a,b,rfl,rfl,⟨xs,hq⟩,⟨ys,hq2⟩⟩:=hR _ _ _ q1;subst e1;cases r1;cases r2;obtain⟨its,rv,pl,_⟩:=I1.list hq;obtain⟨its2,rv2,pl2,_⟩:=I1.list hq2;refine call_zip_2 pl.isList pl2.isList fun h' z1 z2 z3 z4 z5 hsz kk=>?_;have O:CN (s1.heap.objs.size+4) (s1.heap.objs.size+2) (s1.heap.objs.size+3) s1.heap.objs.size (s1.heap.objs.size+1):=by
  constructor <;> exact(by intro q;have q':(_:Nat)=_:=q;omega)
 refine⟨a,b,_,_,_,_,_,H1,q1,rfl,I1.kept (t':=s1.toks) kk,O,z1,⟨z1,z2,⟨_,_,z3⟩,z4,z5⟩,fun c hc=>?_⟩;have hc':s1.heap.objs.size<=c:=by
  have:c=s1.heap.objs.size+4\/c=s1.heap.objs.size+2\/c=s1.heap.objs.size+3\/c=s1.heap.objs.size\/c=s1.heap.objs.size+1:=by simpa using hc
  rcases this with r|r|r|r|r <;> (rw[r];first|exact Nat.le_add_right _ _|exact Zi' _)
 exact I1.Tp hc' (I1.hok.fresh hc')
theorem anr {l m:Expr}{tl tm:TE}{p p2 pos pos2 tp:Pos}{es:List Expr}{k:Nat}(hg:Gl X "zip")(hz:X.mg "zip"=none)(hg2:Gl X "enumerate")(hm2:X.mg "enumerate"=none)(hl:PE X l tl)(hm:PE X m tm)
  (hs:starEach [l,m] X.env=[(false,eval l X.env),(false,eval m X.env)]:=by rfl) (hs2:starEach [m] X.env=[(false,eval m X.env)]:=by rfl)
  (hs3:starEach [Expr.Call (.Name "zip" p) [l,m] [] pos] X.env=[(false,eval (.Call (.Name "zip" p) [l,m] [] pos) X.env)]:=by rfl) :
  PI X (.Tuple es k tp) (.Call (.Name "enumerate" p2) [.Call (.Name "zip" p) [l,m] [] pos] [] pos2) (iEz X.K tl tm):=by
 intro pins s σ H R I h;have hev:wpAny (model X.prog X.w) X.A (spliced (backTo pos2 (starEach [Expr.Call (.Name "zip" p) [l,m] [] pos] X.env))) (fun us s1=>∃ a b z TI TO i1 i2 H1,R (aeg X.K a b) H1/\us=[.ref z]/\Inv X pins σ H1 s1/\CN z TI TO i1 i2/\IsZip s1.heap z TI TO .none/\adn z TI TO i1 i2 a b 0 s1.heap/\∀ c∈[z,TI,TO,i1,i2],qF X pins H1 c) X.xe s:=by
  rw[hs3];refine Calls.spliced_cons (cU (ajd hg hz hl hm hs hs2 I h fun x y H1 ⟨a,b,e1,e2,q1,q2,_⟩=>⟨a,b,e1,e2,q1,q2⟩) fun v s1 ⟨a,b,z,TI,TO,i1,i2,H1,q,e,I1,O,g1,g2,g3⟩=>Calls.spliced_nil ?_);obtain⟨a',b',e1,e2,_,_,q⟩:=q;cases e1;cases e2;exact⟨a,b,z,TI,TO,i1,i2,H1,q,by rw[e],I1,O,g1,g2,g3⟩
 refine Call_ (vG I hg2 hm2 Fx (PyProof.Rows.callWith_type1 (cU hev fun us s1 ⟨a,b,z,TI,TO,i1,i2,H1,q,e,I1,O,g1,g2,g3⟩=>?_) (by rw[hs3];rfl) (by rfl)));subst e;refine CP g1 fun h' he kk=>?_;refine wpAny_pyIter_enum he ?_;obtain⟨y1,y2,⟨y3,y4,y5⟩,y6,y7⟩:=g2;have hne:∀ c∈[z,TI,TO,i1,i2],s1.heap.objs.size≠c:=fun c hc=>by
  have hc':c=z\/c=TI\/c=TO\/c=i1\/c=i2:=by simpa using hc
  rcases hc' with rfl|rfl|rfl|rfl|rfl
  ·exact Nat.ne_of_gt (Zc' y1)
  ·exact Nat.ne_of_gt (Zc' y2)
  ·exact Nat.ne_of_gt (Zc' y5)
  ·obtain⟨_,y,_⟩:=y6;exact Nat.ne_of_gt (Zc' y)
  ·obtain⟨_,y,_⟩:=y7;exact Nat.ne_of_gt (Zc' y)
 refine⟨s1.heap.objs.size,[s1.heap.objs.size,z,TI,TO,i1,i2],_,_,H1,rfl,I1.kept (t':=s1.toks) kk,ajc a b O hne,⟨⟨.none,he⟩,⟨.none,.bool false,kk _ _ y1,.inl rfl,false,rfl⟩,kk _ _ y2,⟨y3,y4,kk _ _ y5⟩,y6.at fun o q=>kk _ _ q,y7.at fun o q=>kk _ _ q⟩,fun c hc=>?_,q⟩;rcases List.mem_cons.mp hc with rfl|hc
 ·exact I1.Tp (Zi' _) (I1.hok.fresh (Zi' _))
 ·exact g3 c hc
end
theorem aly {K:Frag}{a b:Addr}{xs ys:List V}{g:TG}{tb:TS}{D:Ends}{σ:St}{H:Hp}(Pv:Nat->St->Hp->Prop)(he:xs.length=ys.length)(h0:Pv 0 σ H)(hl:∀ i σ H,Pv i σ H->bh K H a xs/\bh K H b ys)
  (hs:∀ i x y t u σ H,xs[i]? = some x->ys[i]? = some y->Pv i σ H->H t=none->H u=none->t≠u->g (.ref u) σ (upd (upd H t (.tup [x,y])) u (.tup [.int i,.ref t])) fun σ2 H2=>tb { D with nx:=Pv (i+1),ct:=Pv (i+1),bk:=D.nx } σ2 H2) (hd:∀ σ H,Pv xs.length σ H->D.nx σ H) :
  ∃ W:Nat->Nat->St->Hp->Prop,(∃ m,W 0 m σ H)/\∀ i m σ H,W i m σ H ->
   ((aeg K a b).stop i H/\D.nx σ H)\/((aeg K a b).go i H/\∃ N:St->Hp->Prop,(∀ σ' H',N σ' H'->∃ m',m'<m/\W (i+1) m' σ' H')/\∀ x H',(aeg K a b).yld i H x H'->g x σ H' fun σ2 H2=>tb { D with nx:=N,ct:=N,bk:=D.nx } σ2 H2):=by
 refine⟨fun i m σ H=>m=xs.length-i/\i<=xs.length/\Pv i σ H,⟨xs.length,by simp,Zj' _,h0⟩,?_⟩;rintro i m σ H ⟨rfl,hi,p⟩;obtain⟨q,q2⟩:=hl i σ H p
 by_cases hlt:i<xs.length
 ·have hlt2:i<ys.length:=by omega
  refine .inr ⟨⟨xs,ys,xs[i],ys[i],q,q2,by simp[hlt],by simp[hlt2]⟩,Pv (i+1),fun σ' H' p'=>⟨xs.length-(i+1),by omega,rfl,hlt,p'⟩,fun x H' y=>?_⟩;obtain⟨x0,y0,t,u,rfl,hn,hn2,tu,hx,hy,rfl⟩:=y;exact hs i x0 y0 t u σ H (hx xs q) (hy ys q2) p hn hn2 tu
 ·have e:i=xs.length:=by omega
  subst e;exact .inl ⟨⟨xs,ys,q,q2,Zi' _⟩,hd σ H p⟩
end L2
namespace L2
open PySem PySem.Spec PyProof.Rows
structure N9 (K:Frag)(x qual:Str)(st:Stmt)(f:Addr)(fd:FuncData)(dV:Value):Prop where
 ex:∃(oc:Value)(od:Option Addr)(kV doc pm:Value)(an:Option Addr)(cdv ct:Value)(osl:Array (Option Value)),
  fd=fnOf x qual (aH st) (ax st) (ae st) dV kV doc pm an cdv ct/\K.lookup f=some ⟨oc,od,.func fd,osl⟩/\codeIn K cdv qual=true
 kp:keepIn K (.ref f)=true
section
variable {P:Program} {w:World} {K:Frag} {mg:Str->Option Value} {base:Heap}
theorem N9.ok {x qual:Str}{st:Stmt}{f:Addr}{fd:FuncData}{dV:Value}{N ps:List Str}{k:Nat}{sp:Sp}(F:N9 K x qual st f fd dV)(S:aI N ps (ae st))(len:∀ vs H Q E,sp vs H Q E->vs.length=ps.length)
  (hbody:∀(cdv:Value)(A:Around)(outer:List Env)(s:Shared)(H:Hp)(vs:List V)(Q:VK)(E:XK),kI k (A.deeper (envOfC qual (ae st) s.heap.objs.size f cdv))->sp vs H Q E ->
   ∃ t,Mv (cj lB P w K mg base N qual (ae st) f cdv A outer s H E).nox (ax st) t/\t { nx:=fun _ H'=>Q .non H',rt:=Q } (start N vs) H):bI P w K mg base lB (k+1) f fd ps sp:=by
 obtain⟨oc,od,kV,doc,pm,an,cdv,ct,osl,rfl,lk,hcd⟩:=F.ex;refine ac8 lk hcd S len fun A outer s H vs Q E hr hsp=>?_;obtain⟨t,h,q⟩:=hbody cdv A outer s H vs Q E hr hsp;exact⟨t,h.nox,q⟩
theorem N9.binds {x qual:Str}{st:Stmt}{f:Addr}{fd:FuncData}{T:Addr}{o:Obj}{items:Array Value}{n:Nat}{ps:List Str}{ds:List Value}(F:N9 K x qual st f fd (.ref T))(lk:K.lookup T=some o)(hs:o.data=.seq items n)
  (h:∀(kV doc pm:Value)(an:Option Addr)(cdv ct:Value)(us:List Value),(us++ds).length=ps.length->∃ k,bindArgs (fnOf x qual (aH st) (ax st) (ae st) (.ref T) kV doc pm an cdv ct) ⟨us,[]⟩=seqItems? (.ref T) >>= k/\k (some items)=pure (ps.zip (us++ds))):Binds K fd ps ds:=by
 obtain⟨oc,od,kV,doc,pm,an,cdv,ct,osl,rfl,lkf,hcd⟩:=F.ex;intro s us KI hl;obtain⟨k,h1,h2⟩:=h kV doc pm an cdv ct us hl;exact BindsTo.of_defaults rfl (KI _ _ lk) hs h1 h2
theorem NT {x qual:Str}{st:Stmt}{f:Addr}{oc:Value}{od an:Option Addr}{osl:Array (Option Value)}{dV kV doc pm cdv ct:Value}(l:K.lookup f=some ⟨oc,od,.func (fnOf x qual (aH st) (ax st) (ae st) dV kV doc pm an cdv ct),osl⟩)
  (c:codeIn K cdv qual=true) (k:keepIn K (.ref f)=true):N9 K x qual st f (fnOf x qual (aH st) (ax st) (ae st) dV kV doc pm an cdv ct) dV:=⟨⟨oc,od,kV,doc,pm,an,cdv,ct,osl,rfl,l,c⟩,k⟩
end
inductive ZL (w:World):List DictEntry->List (Str×V)->Prop
 |nil:ZL w [] []
 |cons {x:Str} {t:Tok} {u:Value} {v:V} {es:List DictEntry} {kvs:List (Str×V)}:RelV v u->ZL w es kvs->ZL w (⟨PyData.keyHash w.params x,.str x t,u⟩::es) ((x,v)::kvs)
structure KD (K:Frag)(w:World)(a:Addr)(kvs:List (Str×V)):Prop where
 sys:(a==sysModules)=false
 ok:∃ es n,K.lookup a=some ⟨.type "dict",none,.dict es n,#[]⟩/\ZL w es.toList kvs/\(kvs.map (·.1)).Nodup
theorem ZL.vs (P:Program){w:World}:∀{es:List DictEntry} {kvs:List (Str×V)},ZL w es kvs->∃ vs:List (Key×Value),Pairs (cQ P w) es vs/\vs.map (·.1)=kvs.map (fun p=>(Sum.inr p.1:Key)) /\
  (∀ e∈es,∃ k,(cQ P w).is k e.key=true/\e.hash=(cQ P w).hash k)/\∀ x,qE (kvs.lookup x) (valueAt vs (Sum.inr x))
 |_,_,.nil=>⟨[],.nil,rfl,fun e h=>by simp at h,fun x=>True.intro⟩
 |_,_,.cons (x:=x) (t:=t) (u:=u) (v:=v) r q=>by
  obtain⟨vs,h1,h2,h3,h4⟩:=ZL.vs P q;refine⟨(Sum.inr x,u)::vs,.cons (mr P w x t) rfl h1,by rw[map_cons,map_cons,h2],fun e he=>?_,fun y=>?_⟩
  ·rcases List.mem_cons.mp he with rfl|he
   ·exact⟨Sum.inr x,mr P w x t,rfl⟩
   ·exact h3 e he
  ·by_cases hy:y=x
   ·subst hy;unfold valueAt;simp only [List.lookup_cons,List.find?_cons];simp;exact r
   ·unfold valueAt;have h5:=h4 y;unfold valueAt at h5;have e1:(y==x)=false:=by simpa using hy
    have e2:decide ((Sum.inr x:Key)=Sum.inr y)=false:=X' fun e=>hy (Sum.inr.inj e).symm;simp only [List.lookup_cons,e1,List.find?_cons,e2];exact h5
theorem Su:∀{l:List Str},l.Nodup->(l.map (fun p=>(Sum.inr p:Key))).Nodup
 |[],_=>.nil
 |x::l,h=>by
  rw[map_cons,List.nodup_cons];obtain⟨h1,h2⟩:=List.nodup_cons.mp h;refine⟨fun z=>?_,Su h2⟩;obtain⟨y,hy,e⟩:=mem_map.mp z;cases e;exact h1 hy
theorem KD.dict (P:Program){K:Frag}{w:World}{a:Addr}{kvs:List (Str×V)}{h:Heap}(d:KD K w a kvs)(hi:K.In h):∃ vs,h.DictOf (cQ P w) a vs/\∀ x,qE (kvs.lookup x) (valueAt vs (Sum.inr x)):=by
 obtain⟨es,n,lk,ok,nd⟩:=d.ok;obtain⟨vs,h1,h2,h3,h4⟩:=ok.vs P;refine⟨vs,⟨_,es,n,hi _ _ lk,⟨rfl,rfl,rfl⟩,rfl,fun e he=>h3 e (by simpa using he),h1,?_⟩,h4⟩;rw[h2];have:=Su nd;rw[List.map_map]at this;exact this
theorem qE.aje {o:Option V}{u:Option Value}(r:qE o u):o.isSome=u.isSome:=by
 cases o <;> cases u <;> first|rfl|exact False.elim r
theorem qE.ans {o:Option V}{u:Option Value}{d:V}{d':Value}(r:qE o u)(rd:RelV d d'):RelV (o.getD d) (u.getD d'):=by
 cases o with
 |none=>cases u with
  |none=>exact rd
  |some _=>exact False.elim r
 |some v=>cases u with
  |none=>exact False.elim r
  |some _=>exact r
section
variable {X:Cx}
theorem agT:xt X (compareOp .In) (fun x y H Q=>∃ a z kvs,x=.str z/\y=.ref a/\KD X.K X.w a kvs/\Q (.bl (kvs.lookup z).isSome) H):=by
 intro pins s σ H x y v u Q I rx ry h;obtain⟨a,z,kvs,rfl,rfl,d,q⟩:=h;obtain⟨t,rfl⟩:=rx;cases ry;obtain⟨vs,dd,rel⟩:=d.dict X.prog I.xr;refine wpAny_in_of (knd:=cQ X.prog X.w) (k:=Sum.inr z) (mr _ _ z t) d.sys dd.mapOf ?_;rw[<-(rel z).aje];exact⟨.bl _,H,I.tok _,rfl,q⟩
theorem akE:IxR X (fun x y H Q=>∃ a z kvs r,x=.ref a/\y=.str z/\KD X.K X.w a kvs/\kvs.lookup z=some r/\Q r H):=by
 intro value slice pins s σ H x y v u Q I rx ry h hs;obtain⟨a,z,kvs,r,rfl,rfl,d,l,q⟩:=h;cases rx;obtain⟨t,rfl⟩:=ry;obtain⟨vs,dd,rel⟩:=d.dict X.prog I.xr;have hr:=rel z;rw[l]at hr;cases hv:valueAt vs (Sum.inr z) with
 |none=>rw[hv]at hr;exact False.elim hr
 |some rv =>
  rw[hv]at hr;exact subscriptTail_builtinR (x:=rv) dd.typeIs PySem.F.slot_dict_getitem.lookup
   (wpAny_getItem_of (knd:=cQ X.prog X.w) (k:=Sum.inr z) (mr _ _ z t) dd.mapOf hv ⟨rfl,⟨r,H,I.tok _,hr,q⟩⟩) hs
def alz (K:Frag)(w:World)(td ty tx:TE):TE:=fun σ H Q=>td σ H fun x H1=>∃ a kvs,x=.ref a/\KD K w a kvs/\ty σ H1 fun y H2=>tx σ H2 fun z H3=>∃ k,y=.str k/\Q ((kvs.lookup k).getD z) H3
theorem agU {o e f:Expr}{apos cpos:Pos}{td ty tx:TE}(ho:PE X o td)(he:PE X e ty)(hf:PE X f tx)
  (base:attributeBase o "get" X.env (eval o X.env)=eval o X.env:=by rfl)
  (few:((backTo cpos (starEach [e,f] X.env)).all (fun x=>!x.1)&&(backToKw cpos (keywordEach [] X.env)).all (fun x=>x.1.isSome)
   && decide (([e,f]:List Expr).length+([]:List Keyword).length+(if([]:List Keyword).isEmpty then 0 else 1)<30))=true:=by rfl)
  (line:(apos.endLine==cpos.line)=true:=by rfl) (trees:backTo cpos (starEach [e,f] X.env)=[(false,eval e X.env),(false,eval f X.env)]:=by rfl) :
  PE X (.Call (.Attribute o "get" apos) [e,f] [] cpos) (alz X.K X.w td ty tx):=by
 intro pins s σ H Q I h;refine wpAny_Call_method base few line plainAttrs_dict slot_dict_get type_dict_get (cU (ho pins s σ H _ I h) fun u s1 ⟨x,H1,I1,rx,a,kvs,ex,d,q1⟩=>?_);subst ex;obtain rfl:u=Value.ref a:=rx;obtain⟨vs,dd,rel⟩:=d.dict X.prog I1.xr;refine⟨dd.typeIs,fun b q=>?_,?_⟩
 ·cases q;obtain⟨ob,_,_,h1,h2,_⟩:=dd;exact⟨ob,h1,h2.2.1⟩
 rw[trees];refine Calls.callWith_builtin rfl (Calls.evalArgs_plain (Calls.spliced_cons (cU (he pins s1 σ H1 _ I1 q1) fun iv s2 ⟨y,H2,I2,ry,q2⟩ =>
  Calls.spliced_cons (cU (hf pins s2 σ H2 _ I2 q2) fun fv s3 ⟨z,H3,I3,rz,k,ek,q3⟩=>Calls.spliced_nil ?_))))
 subst ek;obtain⟨t,rfl⟩:=ry;obtain⟨vs3,dd3,apW⟩:=d.dict X.prog I3.xr;exact call_meetsIn slot_dict_get dd3.typeIs entry_dict_get (args_dict_get_3 _ _ _) (meets_dict_get_default (cQ X.prog X.w) a (mr _ _ k t) d.sys fv) ⟨_,dd3.mapOf,_,H3,I3.tok _,(apW k).ans rz,q3⟩
def IP:List Int->Int
 |[]=>0
 |x::l=>x+IP l
theorem aeh (l:List Int)(x:Int):IP (l++[x])=IP l+x:=by
 induction l with
 |nil=>simp[IP]
 |cons y l ih=>simp only [List.cons_append,IP,ih];omega
theorem zJ (ns:List Int):∀ k,k<=ns.length->preSum (fun i=>ns.getD i 0) k=IP (ns.take k)
 |0,_=>by simp[preSum,IP]
 |k+1,h=>by
  have e:ns.take (k+1)=ns.take k++[ns.getD k 0]:=by
   rw[List.take_succ_eq_append_getElem (by omega)];rw[List.getD_eq_getElem?_getD,T' (by omega)];rfl
  rw[e,aeh,preSum,zJ ns k (by omega)]
theorem Oa:∀(ns:List Int),(∀ x∈ns,0<=x/\x<=1000)->0<=IP ns/\IP ns<=1000 * ns.length
 |[],_=>by simp[IP]
 |x::l,h=>by
  have h1:=h x mem_cons_self;have h2:=Oa l fun y hy=>h y (mem_cons_of_mem _ hy);simp only [IP,Zp'];omega
theorem agV:lj X (.builtin "sum") (fun xs H Q=>X.calm=true/\∃(a:Addr)(ns:List Int),xs=[.ref a]/\bh X.K H a (ns.map V.int)/\(∀ x∈ns,0<=x/\x<=1000)/\ns.length<=1000/\Q (.int (IP ns)) H):=by
 intro pins s σ H xs us Q I r h;obtain⟨hc,a,ns,rfl,hq,hb,hlen,q⟩:=h;obtain⟨u,rfl,rfl⟩:=r.one;obtain⟨its,rv,p,hz⟩:=I.list hq;have hl:=rv.length;rw[j']at hl;have at_:∀(i:Nat)(v:Value),its.toArray[i]? = some v->∃ t,v=Value.int (ns.getD i 0) t:=by
  intro i v hv;have hv':its[i]? = some v:=by simpa using hv
  have hi:i<its.length:=(S'.mp hv').1;have hn:i<ns.length:=by omega
  obtain⟨u,hu,ru⟩:=rv.get (i:=i) (x:=.int (ns[i])) (by rw[Zf',T' hn];rfl);rw[hv']at hu;cases hu;obtain⟨t,rfl⟩:=ru;refine⟨t,?_⟩;rw[List.getD_eq_getElem?_getD,T' hn];rfl
 have ane:a≠s.heap.objs.size:=by
  obtain⟨o,ho,_⟩:=p.isList;exact Zn' (Zc' ho)
 have hd:X.A.in1.handled=none:=I.ok.hd hc;refine call_sum_walk (wpAny_pyIter_list p.isList ?_);refine⟨s.heap.objs.size,_,_,_,_,_,fun i=>ns.getD i 0,rfl,Walks.list hd s.heap.objs.size a ane its.toArray,⟨⟨_,Zo' _ rfl,rfl,rfl⟩,p.isList.push _⟩,?_,?_,?_,?_⟩
 ·intro b hb;obtain⟨o,ho,_⟩:=p.isList;have e:b=s.heap.objs.size\/b=a:=by simpa using hb
  have z:(s.heap.push { cls:=.type "list_iterator",data:=.fields #[.ref a,.int 0 0] }).objs.size=s.heap.objs.size+1:=Heap.size_push ..;show b<(s.heap.push _).objs.size;rw[z];rcases e with rfl|rfl
  ·exact Nat.lt_succ_self _
  ·exact Nat.lt_succ_of_lt (Zc' ho)
 ·intro i v hP;exact at_ i v hP
 ·intro j hj;have hj':j<ns.length:=by rw[Ya']at hj;omega
  have b1:0<=ns.getD j 0/\ns.getD j 0<=1000:=by
   rw[List.getD_eq_getElem?_getD,T' hj'];exact hb _ (List.getElem_mem hj')
  have b2:=Oa (ns.take (j+1)) fun x hx=>hb x (List.mem_of_mem_take hx);have b3:(ns.take (j+1)).length<=1000:=by rw[Ze'];omega
  rw[zJ ns (j+1) hj'];show InLong (ns.getD j 0)/\_;constructor
  ·constructor <;> (have:(2:Int) ^ 63=9223372036854775808:=by decide) <;> (try rw[this]) <;> omega
  ·constructor <;> (have:(2:Int) ^ 63=9223372036854775808:=by decide) <;> (try rw[this]) <;> omega
 ·intro h' tk t' kk;have e:preSum (fun i=>ns.getD i 0) its.toArray.size=IP ns:=by
   rw[Ya',<-hl,zJ ns _ (Zi' _),take_length]
  rw[e];refine⟨.int _,H,I.kept (t':=tk) fun b o e=>kk b o (fun z=>?_) (V' _ e),⟨t',rfl⟩,q⟩;have:b=s.heap.objs.size:=by simpa using z
  exact P' (Zc' e) (by rw[this];exact Nat.lt_irrefl _)
end
end L2
namespace L2
open PySem PySem.Spec PyProof.Rows
def ant (t:TE):TE:=fun σ H Q=>∃ R:V->Hp->Prop,t σ H R/\∀ v H',R v H'->Q v H'
def anu (t:TT):TT:=fun σ H Q=>∃ R:Bool->Hp->Prop,t σ H R/\∀ v H',R v H'->Q v H'
def anv (t:TS):TS:=fun D σ H=>∃ R:St->Hp->Prop,t { D with nx:=R } σ H/\∀ σ' H',R σ' H'->D.nx σ' H'
section
variable {X:Cx}
theorem cS {e:Expr}{t:TE}(h:PE X e t):PE X e (ant t):=by
 intro pins s σ H Q I ⟨R,hR,hQ⟩;exact cU (h pins s σ H R I hR) fun u s1 ⟨v,H1,I1,r,q⟩=>⟨v,H1,I1,r,hQ v H1 q⟩
theorem cz {e:Expr}{t:TT}(h:PT X e t):PT X e (anu t):=by
 intro pins s σ H Q I ⟨R,hR,hQ⟩;exact cU (h pins s σ H R I hR) fun u s1 ⟨H1,I1,q⟩=>⟨H1,I1,hQ u H1 q⟩
theorem gp {st:Stmt}{t:TS}(h:PS X st t):PS X st (anv t):=by
 intro pins s σ H D I ⟨R,hR,hQ⟩;refine cU (h pins s σ H _ I hR) fun f s1 q=>?_;cases f with
 |next=>exact let ⟨σ',H',I',q'⟩:=q;⟨σ',H',I',hQ _ _ q'⟩
 |brk=>exact q
 |cont=>exact q
 |ret u=>exact q
end
theorem Cd {t:TE}{σ:St}{H:Hp}{Q:VK}(v:V)(h:t σ H fun x H1=>x=v/\H1=H)(q:Q v H):∃ R:V->Hp->Prop,t σ H R/\∀ v H',R v H'->Q v H':=⟨_,h,by rintro _ _ ⟨rfl,rfl⟩;exact q⟩
theorem lD {t:TT}{σ:St}{H:Hp}{Q:Bool->Hp->Prop}(b:Bool)(h:t σ H fun x H1=>x=b/\H1=H)(q:Q b H):∃ R:Bool->Hp->Prop,t σ H R/\∀ v H',R v H'->Q v H':=⟨_,h,by rintro _ _ ⟨rfl,rfl⟩;exact q⟩
theorem agW {t:TS}{σ:St}{H:Hp}{D:Ends}(σ':St)(H':Hp)(h:t { D with nx:=fun σ1 H1=>σ1=σ'/\H1=H' } σ H)(q:D.nx σ' H'):∃ R:St->Hp->Prop,t { D with nx:=R } σ H/\∀ σ' H',R σ' H'->D.nx σ' H' :=
 ⟨_,h,by rintro _ _ ⟨rfl,rfl⟩;exact q⟩
theorem rK {x v:V}{H:Hp}(e:x=v):x=v/\H=H:=⟨e,rfl⟩
theorem gm {x v:Bool}{H:Hp}(e:x=v):x=v/\H=H:=⟨e,rfl⟩
end L2
namespace L2
open PySem PySem.Spec PyProof.Rows
abbrev Cx.names (X:Cx)(N:List Str):Cx:={ X with N:=N }
section
variable {X:Cx} {pins:List (Addr×Obj)} {σ:St} {H:Hp} {s:Shared}
end
end L2
namespace L2
open PySem PySem.Spec PyProof.Rows
section
variable {X:Cx} {tg iter elt:Expr} {ifs:List Expr} {scope:Scope} {pos:Pos} {cn:List Str} {wi:TI} {g:Bk->TG} {tc:Bk->TT} {te:Bk->TE}
theorem ZM {i:Nat}{x:Str}{pos' spos:Pos}(hN:X.N.Nodup)(hix:X.N[i]? = some x)(hx:X.env.scope.names.lookup x=some .local)(hcalm:X.calm=true)(F:il X.env.scope X.N scope)(hi:PI X tg iter wi)
  (hg:∀ b,PG (dG X cn scope b) tg (g b)) (ht:∀ b,PF (dG X cn scope b) ifs (tc b)) (he:∀ b,PE (dG X cn scope b) elt (te b))
  (hsw:swapsWith (.ListComp elt [⟨tg,iter,ifs,0⟩] scope pos) (some (.Name x pos')) spos.line X.env=pure true:=by rfl)
  (hs:∀ x,foldedSetIterable iter X.env x=pure x:=by intro _;rfl):PS X (.Assign [.Name x pos'] (.ListComp elt [⟨tg,iter,ifs,0⟩] scope pos) spos) (aiZ (agB cn.length wi g tc te) (Sh i)):=by
 intro pins s σ H D I h;rw[exec_Assign_Name_used _ _ _ _ hsw];refine L' (wpAny_standAt (L' ?_));rw[arm_evalThenUse_ListComp];refine L' ?_;have hcl:closureFor scope X.env=pure (jI X.env scope.names []):=adj fun p hp e=>I.ok.has p.1 (F.free p hp e);refine wpAny_comprehension_free (use:=some (assign (.Name x pos') X.env)) rfl hs hcl F.kind F.loc (cU (hi pins s σ H _ I h) fun xv s₁ h₁=>cU h₁ fun itv s₂ h₂=>?_);obtain⟨it,fp,tn,J,H2,rfl,I2,T,st,f2,R⟩:=h₂;refine Xx (TH:=fun _=>True) (QQ:=fun D' H'=>D.nx (σ.set i (some (.ref D'))) H') (RR:=fun acc C=>compPost (model X.prog X.w) X.A X.xe (some (assign (.Name x pos') X.env)) _ acc C) hcalm F (fun b _=>hg b) (fun b _=>ht b) (fun b _=>he b) (fun _ _=>trivial) I2 T st f2 R ?_ ?_
 ·intro C D' σ' H' s' hC I' q;obtain⟨m,hm,_⟩:=I'.loc;have hCn:H' C=none:=I'.free;have fC:qF X pins H' C:=I2.Tp hC hCn;have I3:Inv X pins σ H' s':=I2.adl f2 hC I' ⟨rfl,fun _ _=>rfl⟩;show wpAny (model X.prog X.w) X.A (assign (.Name x pos') X.env (.ref D')) _ X.xe s';refine wpAny_assign_Name (Sf I3 hN hix (.inl hx) (v:=.ref D') rfl (fun s'' I4 ⟨a,sa,ha⟩=>?_) (.inr hx));have hne:C≠a:=by
   rcases ha with e|e
   ·rw[e];exact fC.2.1
   ·exact fun z=>fC.2.2.2.2.1 _ _ e z.symm
  obtain⟨o,es,ep,ho,r⟩:=hm;refine⟨m,⟨o,es,ep,(sa.2 C hne).trans ho,r⟩,fun h' sb=>?_⟩;refine N' (N' ⟨_,H',?_,q⟩);exact I4.lW (tk:=s''.toks) (wr:=[C]) (fun b hb=>by
   have:b=C:=by simpa using hb
   rw[this];exact fC) fun b o hb e=>(sb.2 b (fun z=>hb (by simp[z]))).trans e
 ·intro C D' e s' z;exact z
end
end L2
namespace L2
open PySem PySem.Spec PyProof.Rows PySem.SeqAt
section
variable {X:Cx}
inductive akF (K:Frag)(neg:Bool)(x:V)(y:V)(H:Hp)(Q:VK):Prop
 |mk (a:_) (c:_) (xs:_) (eE:x=.ref a) (eF:y=.ref c) (h8:bh K H a xs) (lh:bh K H c []) (rJ:Q (.bl (if neg then !xs.isEmpty else xs.isEmpty)) H):akF K neg x y H Q
def apX (K:Frag)(neg:Bool):R2:=fun x y H Q=>akF K neg x y H Q
theorem alB {pins:List (Addr×Obj)}{σ:St}{H:Hp}{s:Shared}{a c:Addr}{xs:List V}(hu:X.A.units+64<cLine)(I:Inv X pins σ H s)(ha:bh X.K H a xs)(hc:bh X.K H c []):RcAt X.A s (.ref a) (.ref c) xs.isEmpty/\RcNeAt X.A s (.ref a) (.ref c) (!xs.isEmpty):=by
 obtain⟨its,r,p,_⟩:=I.list ha;obtain⟨its',r',p',_⟩:=I.list hc;have e1:=r.length;have e2:=r'.length;simp at e2;cases xs with
 |nil =>
  simp at e1;have z1:its=[]:=by simpa using e1.symm
  have z2:its'=[]:=by simpa using e2.symm
  subst z1 z2;constructor
  ·have:=RcAt.lists (A:=X.A) (e:=fun _=>true) p.isList p'.isList rfl (by omega) (fun j h1 _=>P' h1 (by simp))
   simpa using this
  ·have:=RcNeAt.lists (A:=X.A) (e:=fun _=>true) p.isList p'.isList rfl (by omega) (fun j h1 _=>P' h1 (by simp))
   simpa using this
 |cons x t =>
  have hne:(its.toArray.size != its'.toArray.size)=true:=by
   simp at e1;have z2:its'=[]:=by simpa using e2.symm
   subst z2;have:its.length≠0:=by omega
   simpa using this
  exact⟨RcAt.lists_lengths p.isList p'.isList hne (by omega),RcNeAt.lists_lengths p.isList p'.isList hne (by omega)⟩
theorem Ob (hu:X.A.units+64<cLine):xt X (compareOp .Eq) (apX X.K false):=by
 intro pins s σ H x y v u Q I r1 r2 h;obtain⟨a,c,xs,rfl,rfl,ha,hc,q⟩:=h;cases r1;cases r2;exact(alB hu I ha hc).1 X.prog X.w X.xe _ ⟨.bl _,H,I,rfl,q⟩
end
end L2
namespace L2
open PySem PySem.Spec PyProof.Rows
structure Nc (X:Cx)(e:Expr)(t:TE):Prop where
 out:PE X e t
structure BO (X:Cx)(es:List Expr)(t:TA):Prop where
 out:PA X es t
theorem vJ {X:Cx}:BO X [] bD:=⟨ag⟩
theorem XE {X:Cx}{es' es:List Expr}{p:Pos}{te:TE}{t:TA}(h:Nc X (.List es' p) te)(hr:BO X es t):BO X (.List es' p::es) (av te t):=⟨aa h.out hr.out⟩
theorem wo {X:Cx}{es' es:List Expr}{k:Nat}{p:Pos}{te:TE}{t:TA}(h:Nc X (.Tuple es' k p) te)(hr:BO X es t):BO X (.Tuple es' k p::es) (av te t):=⟨aa h.out hr.out⟩
theorem kg {X:Cx}{es:List Expr}{c:Const}{k:Nat}{p:Pos}{te:TE}{t:TA}(h:Nc X (.Constant c k p) te)(hr:BO X es t):BO X (.Constant c k p::es) (av te t):=⟨aa h.out hr.out⟩
theorem IQ {X:Cx}{x:Str}{j:Nat}{pos:Pos}:Nc X (.Constant (.str x) j pos) (tC (.str x)):=⟨aD⟩
theorem Oc {X:Cx}{i:Int}{j:Nat}{pos:Pos}:Nc X (.Constant (.int i) j pos) (tC (.int i)):=⟨ai⟩
theorem ZN {X:Cx}{es:List Expr}{pos:Pos}{t:TA}(h:BO X es t):Nc X (.List es pos) (uk t):=⟨bN h.out⟩
theorem CQ {X:Cx}{es:List Expr}{k:Nat}{pos:Pos}{t:TA}(h:BO X es t):Nc X (.Tuple es k pos) (dz t):=⟨cw h.out⟩
end L2
namespace L2
open PySem PySem.Spec PyProof.Rows
def Fly (l:List Env)(G:Heap)(e:Addr)(cls:Value)(h:Heap):Prop :=
 ∃ B a0,(∀ b o,G.get? b=some o->b ∉ frs l->B.get? b=some o)/\Heap.FlyingW B l e cls a0 h/\G.UpToSlots h/\G.get? e=none
def fA (P:Program)(w:World):CXT:=fun outer H s E ev s' =>
 ∃ a cls H' G,ev=.ref a/\s'.os=s.os/\AllBare s'.gens/\Un (frs outer) [] H H' s.heap G/\zx P w H' G/\Fly outer G a cls s'.heap/\E cls none H'
abbrev XSt:=St->Value->Hp->Prop
def WX (X:Cx)(XS:XSt):Value->Shared->Prop:=fun ev s' =>
 ∃ pins σ H' G a cls,ev=.ref a/\Inv X pins σ H' { s' with heap:=G }/\Fly X.stack G a cls s'.heap/\XS σ cls H'
def WD (X:Cx)(XS:XSt):Value->Shared->Prop:=fun ev s'=>WX X XS ev s' \/
 ∃ pins σ H' G a cls args,ev=.ref a/\Inv X pins σ H' { s' with heap:=G }/\Heap.MadeExcOf G s'.heap a cls args/\XS σ cls H'
section
variable {X:Cx} {pins:List (Addr×Obj)} {σ:St} {H H':Hp} {s s':Shared}
theorem anw {XS:XSt}{ev:Value}(I:Inv X pins σ H s)(h:fA X.prog X.w X.stack H s (fun cls _ H'=>XS σ cls H') ev s'):WX X XS ev s':=by
 obtain⟨a,cls,H',G,e,os,bare,un,hok,fly,q⟩:=h;refine⟨pins,σ,H',G,a,cls,e,?_,fly,q⟩;exact I.call' (s':={ s' with heap:=G }) (ch:=[]) os un hok bare fun b z=>P' z (by simp)
theorem strike {P:Program}{w:World}{h G:Heap}{L:Addr}{fs:List Addr}(un:Un fs [] H H' h G)(hok:zx P w H' G)(hL:h.objs.size<=L)(hf:H' L=none):Un fs [] H H' h (hideAll G [L])/\zx P w H' (hideAll G [L]):=by
 have get:∀{b o},G.get? b=some o->b≠L->(hideAll G [L]).get? b=some o:=fun e hn=>hideAll_get _ e (by simpa using hn);have ne:∀{b o},h.get? b=some o->b≠L:=fun e z=>P' (z ▸ Zc' e) (Nat.not_lt.mpr hL);refine⟨⟨fun b o e n hb hx=>get (un.keep b o e n hb hx) (ne e),fun b o e n hb hx=>?_,un.free,fun b o e hx=>?_,un.tups,un.II,un.Na⟩,fun b u e=>?_⟩
 ·obtain⟨sl,z⟩:=un.slot b o e n hb hx;exact⟨sl,get z (ne e)⟩
 ·obtain⟨o',z⟩:=un.there b o e hx;exact⟨o',get z (ne e)⟩
 ·refine(hok b u e).stay (fun c v hc q=>get q ?_) (fun _ q=>q) fun _ _ q=>q;rintro rfl;rcases hc with rfl|hc
  ·rw[hf]at e;cases e
  ·rw[hf]at hc;cases hc
theorem Fly.strike {env:Env}{outer:List Env}{G h:Heap}{B:Heap}{e L:Addr}{cls a0:Value}(hf:env.frame=some L)(cov:∀ b o,G.get? b=some o->b ∉ frs (env::outer)->B.get? b=some o)(fl:Heap.FlyingW B outer e cls a0 h)(up:G.UpToSlots h)(hn:G.get? e=none):Fly outer (hideAll G [L]) e cls h:=by
 have back:∀{b o},(hideAll G [L]).get? b=some o->G.get? b=some o/\b≠L:=fun {b o} q=>⟨of_hideAll _ q,fun z=>by
  rw[hideAll_none [L] (by rw[z];simp)]at q;cases q⟩
 refine⟨B,a0,fun b o q hb=>?_,fl,fun b o q hd=>up b o (back q).1 hd,?_⟩
 ·obtain⟨q1,q2⟩:=back q;refine cov b o q1 ?_;unfold frs;rw[List.filterMap_cons,hf];intro z;rcases List.mem_cons.mp z with z|z
  ·exact q2 z
  ·exact hb z
 ·cases q:(hideAll G [L]).get? e with
  |none=>rfl
  |some o=>rw[(back q).1]at hn;cases hn
end
theorem leaveX {P:Program}{w:World}{K:Frag}{mg:Str->Option Value}{base:Heap}{N:List Str}{qual:Str}{scope:Scope}{f:Addr}{cdv:Value}{A:Around}{outer:List Env}{s:Shared}{H:Hp}{E:XK}{ev:Value}{s':Shared}
  (h:WD (cj (fA P w) P w K mg base N qual scope f cdv A outer s H E) (fun _ cls H'=>E cls none H') ev s'):(cj (fA P w) P w K mg base N qual scope f cdv A outer s H E).xe ev s':=by
 rcases h with ⟨pins,σ,H',G,a,cls,rfl,I,⟨B,a0,cov,fl,up,hn⟩,q⟩|⟨pins,σ,H',G,a,cls,args,rfl,I,hm,q⟩
 ·show wpAny (model P w) _ (leaving _ (.ref a)) _ _ s';refine wpAny_leaves_onW I.ok.frames rfl fl fun h' fl' up'=>?_;obtain⟨un,hok⟩:=strike I.base I.hok I.ok.above I.free;exact⟨a,cls,H',_,rfl,I.os,I.bare,un,hok,Fly.strike rfl cov fl' (up.trans up') hn,q⟩
 ·show wpAny (model P w) _ (leaving _ (.ref a)) _ _ s';have hin:∀ env∈(cj (fA P w) P w K mg base N qual scope f cdv A outer s H E).stack,∀ b,env.frame=some b->b∈frs (cj (fA P w) P w K mg base N qual scope f cdv A outer s H E).stack:=fun env he b hb=>List.mem_filterMap.mpr ⟨env,he,hb⟩;refine wpAny_leaves_madeW (base:=hideAll G (frs (cj (fA P w) P w K mg base N qual scope f cdv A outer s H E).stack)) (h:=G) I.ok.frames rfl (fun b o z=>of_hideAll _ z) (PySem.W.funFrames_hide I.stack hin) hm fun h' t fl' _ _ up'=>?_;obtain⟨un,hok⟩:=strike I.base I.hok I.ok.above I.free;exact⟨a,cls,H',_,rfl,I.os,I.bare,un,hok,Fly.strike rfl (fun b o z hb=>hideAll_get _ z hb) fl' ((Heap.UpToSlots.of_keeps hm.keeps).trans up') hm.new,q⟩
theorem Mv.agX {X:Cx}{E1:Value->Shared->Prop}{st:List Stmt}{t:TS}(h:Mv (X.wish E1) st t)(hE:∀ e s,E1 e s->X.xe e s):Mv X st t:=fun pins s σ H D I hw =>
 wpAny_mono (h pins s σ H D (I.wish _) hw) (fun _ _ q=>q.mR) hE
section
variable {P:Program} {w:World} {K:Frag} {mg:Str->Option Value} {base:Heap}
theorem iZ.Od {x qual:Str}{st:Stmt}{f:Addr}{fd:FuncData}{N ps:List Str}{k:Nat}{sp:Sp}(F:iZ K x qual st f fd)(S:aI N ps (ae st))(len:∀ vs H Q E,sp vs H Q E->vs.length=ps.length)
  (hbody:∀(cdv:Value)(A:Around)(outer:List Env)(s:Shared)(H:Hp)(vs:List V)(Q:VK)(E:XK),kI k (A.deeper (envOfC qual (ae st) s.heap.objs.size f cdv))->sp vs H Q E ->
   ∃ t,Mv ((cj (fA P w) P w K mg base N qual (ae st) f cdv A outer s H E).wish (WD (cj (fA P w) P w K mg base N qual (ae st) f cdv A outer s H E) fun _ cls H'=>E cls none H')) (ax st) t/\t { nx:=fun _ H'=>Q .non H',rt:=Q } (start N vs) H):bI P w K mg base (fA P w) (k+1) f fd ps sp:=by
 obtain⟨oc,od,kV,doc,pm,an,cdv,ct,osl,rfl,lk,hcd⟩:=F.ex;refine ac8 lk hcd S len fun A outer s H vs Q E hr hsp=>?_;obtain⟨t,h,q⟩:=hbody cdv A outer s H vs Q E hr hsp;exact⟨t,h.agX fun _ _ z=>leaveX z,q⟩
end
def alC (sp:Sp)(um:List V)(XS:XSt)(t:TA):TE:=fun σ H Q=>t σ H fun vs H1=>sp (vs++um) H1 Q fun cls _ H'=>XS σ cls H'
inductive ado (C:Addr)(m:Str)(sp:Sp)(um:List V)(XS:XSt)(t:TA)(σ:St)(Q:VK)(x:V)(H1:Hp):Prop
 |mk (a:_) (dx:_) (fs:_) (eE:x=.ref a) (eF:H1 a=some (.ins C dx fs)) (h8:fs.lookup m=none) (lh:t σ H1 fun vs H2=>sp (x::(vs++um)) H2 Q fun cls _ H'=>XS σ cls H'):ado C m sp um XS t σ Q x H1
def agY (C:Addr)(m:Str)(sp:Sp)(um:List V)(XS:XSt)(ta:TE)(t:TA):TE:=fun σ H Q=>ta σ H fun x H1=>ado C m sp um XS t σ Q x H1
section
variable {X:Cx} {W:Value->Shared->Prop} {XS:XSt} {k:Nat} {f C:Addr} {fd:FuncData} {ps:List Str} {sp:Sp} {um:List V} {ds:List Value} {x m:Str} {p pos apos:Pos} {e o:Expr} {es:List Expr} {ta:TE} {t:TA}
theorem TC {pins:List (Addr×Obj)}{σ:St}{H:Hp}{s:Shared}{Q:VK}{us:List Value}{vs:List V}(F:bI X.prog X.w X.K X.mg X.base (fA X.prog X.w) k f fd ps sp)(hr:kI k X.A)(hb:Binds X.K fd ps ds)(hd:Vals um ds)(hx:∀ ev s',WX X XS ev s'->W ev s')
  (I:Inv (X.wish W) pins σ H s) (r:Vals vs us) (h:sp (vs++um) H Q fun cls _ H'=>XS σ cls H'):wpAny (model X.prog X.w) X.A (call (.ref f) us) (EP (X.wish W) pins σ Q) W s:=by
 have I0:=I.mR;have r2:Vals (vs++um) (us++ds):=r.append hd;have hl:(us++ds).length=ps.length:=by rw[<-r2.length];exact F.len _ _ _ _ h
 refine wpAny_call (codeAny_mono (F.run X.A X.stack s H ⟨us,[]⟩ (us++ds) (vs++um) Q _ hr I0.env0 (hb s us I0.xr hl) r2 h) fun r s' hq=>?_);cases r with
 |error e=>exact hx _ _ (anw I0 hq)
 |ok fl =>
  cases fl with
  |ret u=>exact I.after hq
  |next=>exact False.elim hq
  |brk=>exact False.elim hq
  |cont=>exact False.elim hq
theorem kh (F:bI X.prog X.w X.K X.mg X.base (fA X.prog X.w) k f fd ps sp)(hr:kI k X.A)(hg:Gl (X.wish W) x)(hm:X.mg x=some (.ref f))(hk:keepIn X.K (.ref f)=true)(hb:Binds X.K fd ps ds)(hd:Vals um ds)(hx:∀ ev s',WX X XS ev s'->W ev s')
  (ha:PA (X.wish W) (e::es) t) (hdb:(x==("__debug__":Str))=false:=by decide) (he:starEach (e::es) X.env=(false,eval e X.env)::starEach es X.env:=by rfl) (hpl:(backTo pos (starEach es X.env)).any (·.1)=false:=by rfl) :
  PE (X.wish W) (.Call (.Name x p) (e::es) [] pos) (alC sp um XS t):=by
 intro pins s σ H Q I h;refine wpAny_Call_Name_kw (ur I hg hm ?_ hdb);refine callWith_K (h₀:=X.base) I.ok.mod.kin hk (cU (ha pos pins s σ H _ I h) fun us s1 ⟨vs,H1,I1,r,q⟩=>⟨I1.xr,?_⟩) he hpl;exact TC (X:=X) F hr hb hd hx I1 r q
theorem bC {pl:Sem Bool}(ho:PE (X.wish W) o ta)(c:Zu X.K C)(hm:Meth X.K C m f)(F:bI X.prog X.w X.K X.mg X.base (fA X.prog X.w) k f fd ps sp)(hr:kI k X.A)(hb:Binds X.K fd ps ds)(hd:Vals um ds)(hx:∀ ev s',WX X XS ev s'->W ev s')(ha:PA (X.wish W) (e::es) t)
  (hst:starEach (e::es) X.env=(false,eval e X.env)::starEach es X.env:=by rfl) (hpl:(backTo pos (starEach es X.env)).any (·.1)=false:=by rfl)
  (ht:eval (.Call (.Attribute o m apos) (e::es) [] pos) X.env=(do
   let ov <-eval o X.env
   standAt apos.atName
   let (f,first) <-holding [ov] (getMethod ov m pl)
   callWith pos f first (backTo pos (starEach (e::es) X.env)) (backToKw pos (keywordEach [] X.env))):=by rfl) :
  PE (X.wish W) (.Call (.Attribute o m apos) (e::es) [] pos) (agY C m sp um XS ta t):=by
 intro pins s σ H Q I h;refine methodCall_KW (pl:=pl) (cU (ho pins s σ H _ I h) fun u s1 ⟨x,H1,I1,rx,a,dx,fs,ex,ea,l,q⟩=>?_) ht;subst ex;obtain rfl:u=Value.ref a:=rx;refine xA I1 ea c hm l ?_;refine callWith_K (first:=[.ref a]) (h₀:=X.base) I.ok.mod.kin hm.kp (cU (ha pos pins s1 σ H1 _ I1 q) fun us s2 ⟨vs,H2,I2,r,q2⟩=>⟨I2.xr,?_⟩) hst hpl;exact TC (X:=X) (us:=.ref a::us) (vs:=.ref a::vs) F hr hb hd hx I2 (.cons rfl r) q2
theorem Sv {pl:Sem Bool}(ho:PE (X.wish W) o ta)(c:Zu X.K C)(hm:Meth X.K C m f)(F:bI X.prog X.w X.K X.mg X.base (fA X.prog X.w) k f fd ps sp)(hr:kI k X.A)(hb:Binds X.K fd ps ds)(hd:Vals um ds)(hx:∀ ev s',WX X XS ev s'->W ev s')
  (ht:eval (.Call (.Attribute o m apos) [] [] pos) X.env=(do
   let ov <-eval o X.env
   standAt apos.atName
   let (f,first) <-holding [ov] (getMethod ov m pl)
   callWith pos f first (backTo pos (starEach [] X.env)) (backToKw pos (keywordEach [] X.env))):=by rfl) :
  PE (X.wish W) (.Call (.Attribute o m apos) [] [] pos) (agY C m sp um XS ta bD):=by
 intro pins s σ H Q I h;refine methodCall_KW (pl:=pl) (cU (ho pins s σ H _ I h) fun u s1 ⟨x,H1,I1,rx,a,dx,fs,ex,ea,l,q⟩=>?_) ht;subst ex;obtain rfl:u=Value.ref a:=rx;refine xA I1 ea c hm l ?_;exact callWith_K0 (first:=[.ref a]) I1.xr hm.kp (TC (X:=X) (us:=[.ref a]) (vs:=[.ref a]) F hr hb hd hx I1 (.cons rfl .nil) q)
end
abbrev mT:List Value:=[.type "ValueError",.type "Exception",.type "BaseException",.type "object"]
def ExC (K:Frag)(C:Addr):Prop:=excIn K C mT "ValueError.__new__" = true
theorem ExC.obj {K:Frag}{C:Addr}{h:Heap}(q:ExC K C)(X:K.In h):∃ bm N nm qn bs hdct sn sub ab col dd k0 k1 k2 k3 k5 mN,h.get? C=some (excClassObj nm qn C N bs bm hdct sn sub ab col dd k0 k1 k2 k3 k5 "ValueError.__new__")/\h.Ns N mN/\mN "__init__"=none/\OwnTail h mT bm:=by
 have q:excIn K C mT "ValueError.__new__" = true:=q;unfold excIn at q;split at q
 ·next dd cd sl ho =>
  split at q
  ·next C' bm k0 k1 k2 k3 n k5 hm hs =>
   simp only [Bool.and_eq_true,beq_iff_eq,Bool.not_eq_true']at q;obtain⟨⟨⟨⟨⟨rfl,rfl⟩,hdel⟩,ht⟩,hok⟩,hni⟩:=q;obtain⟨nm,bs,mro,ns,qn,hd,sn,sub,ab,col,del⟩:=cd;dsimp only at hm hdel hok hni;subst hm;subst hdel;obtain⟨l⟩:=sl;have hl:l=[k0,k1,k2,k3,some (.builtin "ValueError.__new__"),k5]:=hs;subst hl;refine⟨bm,ns,nm,qn,bs,hd,sn,sub,ab,col,dd,k0,k1,k2,k3,k5,h.nsMap ns,X _ _ ho,?_,?_,PySem.W.tail_of_in X ht⟩
   ·exact .of_isNs (PySem.W.isNs_of_in X hok)
   ·exact PySem.W.nsMap_none_of_in X hok hni
  ·cases q
 ·cases q
def alD (C:Addr)(XS:XSt)(te:TA):TS:=fun _ σ H=>te σ H fun vs H1=>vs.length<=sizeLine/\XS σ (.ref C) H1
theorem jr {X:Cx}{XS:XSt}{W:Value->Shared->Prop}{C:Addr}{x:Str}{np cpos pos:Pos}{e:Expr}{es:List Expr}{t:TA}(hx:∀ ev s',WD X XS ev s'->W ev s')(hc:X.calm=true)(q:ExC X.K C)(hg:Gl (X.wish W) x)(hm:X.mg x=some (.ref C))(ha:PA (X.wish W) (e::es) t)
  (hdb:(x==("__debug__":Str))=false:=by decide) (he:starEach (e::es) X.env=(false,eval e X.env)::starEach es X.env:=by rfl) (hpl:(backTo cpos (starEach es X.env)).any (·.1)=false:=by rfl) :
  PS (X.wish W) (.Raise (some (.Call (.Name x np) (e::es) [] cpos)) none pos) (alD C XS t):=by
 intro pins s σ H D I h;obtain⟨bm,N,nm,qn,bs,hdct,sn,sub,ab,col,dd,k0,k1,k2,k3,k5,mN,hC,hN,hni,T⟩:=q.obj I.mod.kin;refine wpAny_Raise_call_subT (C:=C) (nm:=nm) (q:=qn) (N:=N) (bs:=bs) (bm:=bm) (hdct:=hdct) (sn:=sn) (sub:=sub) (ab:=ab) (col:=col) (dd:=dd) (k0:=k0) (k1:=k1) (k2:=k2) (k3:=k3) (k5:=k5) (mN:=mN)
  PySem.F.excBase_ValueError (T.hasType PySem.F.excBase_ValueError.hasBase) (I.ok.hd hc) ?_ hni (ur I hg hm ⟨rfl,?_⟩ hdb)
 ·show(backTo cpos (starEach (e::es) X.env)).any (·.1)=false;rw[he];show(false||(backTo cpos (starEach es X.env)).any (·.1))=false;rw[hpl];rfl
 ·have h1:=ha cpos pins s σ H _ I h;show wpAny (model X.prog X.w) X.A (evalArgs (.ref C) true (backTo cpos (starEach (e::es) X.env)) []) _ W s;have h1:wpAny (model X.prog X.w) X.A (spliced (backTo cpos (starEach (e::es) X.env))) _ W s:=h1;rw[he]at h1 ⊢;refine Calls.evalArgs_plain (wpAny_mono h1 (fun us s1 ⟨vs,H1,I1,r,hz,q1⟩=>?_) fun _ _ z=>z);refine⟨rfl,by rw[<-r.length];exact hz,I1.bk _ _ hC,hN.keeps I1.bk,T.keeps I1.bk,fun h' a hm'=>hx _ _ (.inr ?_)⟩;exact⟨pins,σ,H1,s1.heap,a,.ref C,us,rfl,I1.mR,hm',q1⟩
abbrev Cx.Mz (X:Cx)(pn:List (Addr×Obj)):Cx:={ X with pn:=pn }
abbrev Cx.hand (X:Cx)(a:Addr):Cx:={ X with A:=X.A.mark (some (.ref a)),calm:=false,xe:=fun _ _=>False }
theorem Cx.Ok.Mz {X:Cx}(ok:X.Ok)(pn:List (Addr×Obj)):(X.Mz pn).Ok :=
 ⟨ok.mod,ok.kind,ok.glob,ok.blt,ok.above,ok.inj,ok.has,ok.cab,ok.hd,ok.frames,ok.stk,ok.exf,ok.bs,ok.bsz,ok.Zp,ok.Zq,ok.Fo,ok.frf⟩
theorem Cx.Ok.hand {X:Cx}(ok:X.Ok)(a:Addr):(X.hand a).Ok :=
 ⟨ok.mod,ok.kind,ok.glob,ok.blt,ok.above,ok.inj,ok.has,ok.cab,(fun z=>nomatch z),ok.frames,ok.stk,ok.exf,ok.bs,ok.bsz,ok.Zp,ok.Zq,ok.Fo,ok.frf⟩
section
variable {X:Cx} {pins Se:List (Addr×Obj)} {σ:St} {H H':Hp} {s:Shared}
theorem Inv.Mz (I:Inv X pins σ H s):Inv (X.Mz (X.pn++pins)) [] σ H s:=⟨I.ok.Mz _,I.os,I.bare,I.base,I.loc,I.cell,I.free,I.rD,fun p hp=>I.pin p (by simpa using hp),I.hok,I.len⟩
theorem Inv.uz (I:Inv (X.Mz (X.pn++pins)) Se σ H s)(ok:X.Ok):Inv X pins σ H s:=⟨ok,I.os,I.bare,I.base,I.loc,I.cell,I.free,I.rD,fun p hp=>I.pin p (Zq' _ hp),I.hok,I.len⟩
theorem SP.uz {D:Ends}{f:Flow}{s':Shared}(ok:X.Ok)(h:SP (X.Mz (X.pn++pins)) [] D f s'):SP X pins D f s':=by
 cases f with
 |next=>obtain⟨σ',H',I,q⟩:=h;exact⟨σ',H',I.uz ok,q⟩
 |brk=>obtain⟨σ',H',I,q⟩:=h;exact⟨σ',H',I.uz ok,q⟩
 |cont=>obtain⟨σ',H',I,q⟩:=h;exact⟨σ',H',I.uz ok,q⟩
 |ret u=>obtain⟨v,σ',H',I,r,q⟩:=h;exact⟨v,σ',H',I.uz ok,r,q⟩
theorem Inv.hand (I:Inv X pins σ H s)(a:Addr):Inv (X.hand a) pins σ H s:=⟨I.ok.hand a,I.os,I.bare,I.base,I.loc,I.cell,I.free,I.rD,I.pin,I.hok,I.len⟩
theorem Inv.Oe {a:Addr}(I:Inv (X.hand a) pins σ H s)(ok:X.Ok):Inv X pins σ H s:=⟨ok,I.os,I.bare,I.base,I.loc,I.cell,I.free,I.rD,I.pin,I.hok,I.len⟩
theorem Inv.flown {G h' B:Heap}(I:Inv X pins σ H { s with heap:=G })(cov:∀ b o,G.get? b=some o->b ∉ frs X.stack->B.get? b=some o)(st:B.StaysIn h')(up:G.UpToSlots h'):Inv X pins σ H { s with heap:=h' }:=by
 have keep:∀ b o,G.get? b=some o->b ∉ frs X.stack->h'.get? b=some o:=fun b o e hb=>st b o (cov b o e hb);have slot:∀ b o,G.get? b=some o->b∈frs X.stack->∃ sl,h'.get? b=some { o with slots:=sl }:=fun b o e hb=>by
  obtain⟨_,o',e',hd⟩:=I.stack.mem hb;have:o'=o:=Zb' (e'.symm.trans e);subst this;exact up b o' e hd
 refine I.call' (s':={ s with heap:=h' }) (ch:=[]) rfl ⟨fun b o e _ hb _=>keep b o e hb,fun b o e _ hb _=>slot b o e hb,fun _ _ _ n _=>n,fun b o e _=>?_,fun _ _ q=>q,fun _ _ _ q=>q,fun _ ps q=>⟨#[],by rw[q];simp⟩⟩ (fun b u e=>?_) I.bare fun b z=>P' z (by simp)
 ·by_cases hb:b∈frs X.stack
  ·obtain⟨sl,z⟩:=slot b o e hb;exact⟨_,z⟩
  ·exact⟨o,keep b o e hb⟩
 ·refine(I.hok b u e).stay (fun c v hc q=>keep c v q fun hm=>?_) (fun _ q=>q) fun _ _ q=>q;have hf:=I.To c hm;rcases hc with rfl|hc
  ·rw[hf]at e;cases e
  ·rw[hf]at hc;cases hc
theorem fu.is {P:Program}{w:World}{h:Heap}{a:Addr}{o:HO}(x:fu P w H h a o):∃ ob,h.get? a=some ob:=by
 cases o with
 |lst xs=>obtain⟨_,_,_,_,e⟩:=x;exact⟨_,e⟩
 |tup xs=>obtain⟨_,_,_,p⟩:=x;obtain⟨ob,e,_⟩:=p;exact⟨ob,e⟩
 |dK kvs=>obtain⟨_,_,_,_,o,_,_,e,_⟩:=x;exact⟨_,e⟩
 |dT kvs=>obtain⟨_,_,_,_,o,_,_,e,_⟩:=x;exact⟨_,e⟩
 |set S n=>obtain⟨o,_,_,_,e,_⟩:=x;exact⟨_,e⟩
 |ins C dx fs=>obtain⟨_,_,_,e,_⟩:=x;exact⟨_,e⟩
 |own y=>exact x
 |xd fs=>obtain⟨_,⟨_,_,_,e,_⟩,_⟩:=x;exact⟨_,e⟩
 |rng lo hi=>obtain⟨_,_,_,e⟩:=x;exact⟨_,e⟩
 |Zo ob u=>obtain⟨e,_⟩:=x;exact⟨_,e⟩
 |tbl ps=>exact⟨_,show h.get? a=some _ from x⟩
 |met f y=>exact⟨_,show h.get? a=some _ from x⟩
 |ext φ=>obtain⟨_,e,_⟩:=x;exact e
theorem Inv.Sw {G:Heap}{a:Addr}(I0:Inv X pins σ H { s with heap:=G })(hn:G.get? a=none):H a=none:=by
 cases q:H a with
 |none=>rfl
 |some u =>
  obtain⟨ob,e⟩:=(I0.hok a u q).is;have e:G.get? a=some ob:=e;rw[hn]at e;cases e
theorem Inv.track {G:Heap}{a:Addr}{o:HO}(I0:Inv X pins σ H { s with heap:=G })(hn:G.get? a=none)(I:Inv X pins σ H s)(new:fu X.prog X.w (upd H a o) s.heap a o):Inv X pins σ (upd H a o) s:=by
 have hH:=I0.Sw hn;have ne:∀{b ob},G.get? b=some ob->b≠a:=fun e z=>by rw[z,hn]at e;cases e
 have neS:∀{b ob},X.s₀.heap.get? b=some ob->b ∉ X.ex->b≠a:=fun {b ob} e hx=>by
  obtain⟨o',z⟩:=I0.base.there b ob e hx;exact ne z
 refine⟨I.ok,I.os,I.bare,⟨I.base.keep,I.base.slot,fun b ob e n hx=>?_,I.base.there,fun b xs q=>?_,fun b ob u q=>?_,fun b ps q=>?_⟩,I.loc,I.cell,?_,fun x c e=>?_,fun p hp=>?_,fun b u e=>?_,I.len⟩
 ·rw[ak (neS e hx)];exact I.base.free b ob e n hx
 ·have:=I.base.tups b xs q;rw[ak (ao this hH)];exact this
 ·have:=I.base.II b ob u q;rw[ak (ao this hH)];exact this
 ·obtain⟨m,this⟩:=I.base.Na b ps q;exact⟨m,by rw[ak (ao this hH)];exact this⟩
 ·obtain⟨m,⟨ob,_,_,e,_⟩,_⟩:=I0.loc;rw[ak (ne e)];exact I.free
 ·obtain⟨v,ob,z,_⟩:=I0.cell x c e;rw[ak (ne z)];exact I.rD x c e
 ·obtain⟨e,n,r⟩:=I.pin p hp;refine⟨e,?_,r⟩;rw[ak (ne (I0.pin p hp).1)];exact n
 ·by_cases hb:b=a
  ·subst hb;rw[ah]at e;cases e;exact new
  ·rw[ak hb]at e;refine(I.hok b u e).stay (fun _ _ _ q=>q) (fun c q=>?_) fun c xs q=>?_
   ·rw[ak (ao q hH)];exact q
   ·rw[ak (ao q hH)];exact q
theorem aej {M:Model}{A:Around}{E:Value->Shared->Prop}{i:Nat}{n:Str}{pos:Pos}{Q:Unit->Shared->Prop}(I:Inv X pins σ H s)(hN:X.N.Nodup)(hi:X.N[i]? = some n)(hl:X.env.kindOf n=some .local)
  (h:∀ s',Inv X pins (σ.set i none) H s'->Q () s'):wpAny M A (do bindName X.env n .none;unbindBehindTheSuite X.env n pos) Q E s:=by
 obtain⟨m,hn,hm⟩:=id I.loc;have aoK:i<σ.length:=by rw[I.len];exact(S'.mp hi).1
 refine wpAny_nameGoes_keeps hl hn (by rw[I.ok.kind];rfl) fun h' v hn' hs=>h _ ?_;obtain⟨oL,_,_,hoL,_⟩:=id hn;have old:∀{b o},X.s₀.heap.get? b=some o->b≠X.env.locals:=fun e=>Zn' (Zd' (Zc' e) I.ok.above);refine⟨I.ok,I.os,I.bare,⟨fun b o e n hb hx=>(hs.2 b (old e)).trans (I.base.keep b o e n hb hx),fun b o e n hb hx=>?_,I.base.free,fun b o e hx=>?_,I.base.tups,I.base.II,I.base.Na⟩,⟨_,hn',fun j y v' e1 e2 e3=>?_⟩,fun y c e=>?_,I.free,I.rD,fun p hp=>?_,fun b ob e=>?_,by simpa using I.len⟩
 ·obtain⟨sl,z⟩:=I.base.slot b o e n hb hx;exact⟨sl,(hs.2 b (old e)).trans z⟩
 ·obtain⟨o',z⟩:=I.base.there b o e hx;exact⟨o',(hs.2 b (old e)).trans z⟩
 ·by_cases hj:j=i
  ·subst hj;rw[List.getElem?_set_self aoK]at e2;cases e2
  ·rw[List.getElem?_set_ne (Yb' hj)]at e2;obtain⟨u',r',q⟩:=hm j y v' e1 e2 e3;refine⟨u',r',?_⟩;rcases q with ⟨k,z⟩|⟨k,c,z1,z2⟩
   ·have:y≠n:=fun z=>hj (N0 hN e1 (z ▸ hi));exact .inl ⟨k,by simp[this,z]⟩
   ·exact .inr ⟨k,c,z1,z2.sameBut hs (I.cne y c z1)⟩
 ·obtain⟨w',z⟩:=I.cell y c e;exact⟨w',z.sameBut hs (I.cne y c e)⟩
 ·obtain⟨e,n,ne,nf,d⟩:=I.pin p hp;exact⟨(hs.2 p.1 ne).trans e,n,ne,nf,d⟩
 ·refine(I.hok b ob e).stay (fun c w' hc q=>(hs.2 c ?_).trans q) (fun _ q=>q) fun _ _ q=>q;rintro rfl;rcases hc with rfl|hc
  ·rw[I.free]at e;cases e
  ·rw[I.free]at hc;cases hc
end
def TF (a:Addr)(cls:Value):HO:=.ext fun h=>∃ o,h.get? a=some o/\o.cls=cls/\∃ vs,o.data=.fields vs
theorem ajf {P:Program}{w:World}{H:Hp}{h:Heap}{a:Addr}{cls:Value}{o:Obj}{vs:Array Value}(e:h.get? a=some o)(hc:o.cls=cls)(hd:o.data=.fields vs):fu P w H h a (TF a cls) :=
 ⟨⟨o,e,hc,vs,hd⟩,⟨o,e⟩,fun h1 h2 ⟨o1,e1,c1,d1⟩ k=>⟨o1,k o1 e1,c1,d1⟩⟩
def Ends.gone (D:Ends)(i:Nat):Ends:={ nx:=fun σ H=>D.nx (σ.set i none) H,rt:=D.rt,bk:=fun σ H=>D.bk (σ.set i none) H,ct:=fun σ H=>D.ct (σ.set i none) H }
def alE (K:Frag)(CT:Addr)(i:Nat)(tb:XSt->TS)(ts:TS):TS:=fun D σ H =>
 tb (fun σ' cls H'=>exmOne K cls (.ref CT)=some true/\∀ a,H' a=none->ts (D.gone i) (σ'.set i (some (.ref a))) (upd H' a (TF a cls))) D σ H
theorem agZ {X:Cx}{CT:Addr}{i:Nat}{x n:Str}{body:List Stmt}{b₀:Stmt}{suite:List Stmt}{np hpos pos:Pos}{tb:XSt->TS}{ts:TS}
  (hb:∀ pn XS,Mv ((X.Mz pn).wish (WX (X.Mz pn) XS)) body (tb XS)) (hs:∀ pn a,Mv ((X.Mz pn).hand a) (b₀::suite) ts) (hN:X.N.Nodup) (hi:X.N[i]? = some n) (hl:X.env.scope.names.lookup n=some .local) (hst:X.stack=X.env::X.outer) (hfr:X.env.frame=some X.env.locals)
  (hg:Gl X x) (hm:X.mg x=some (.ref CT)) (hd:(x==("__debug__":Str))=false:=by decide) :
  PS X (.Try body [.ExceptHandler (some (.Name x np)) (some n) (b₀::suite) hpos] [] [] pos) (alE X.K CT i tb ts):=by
 intro pins s σ H D I h;refine wpAny_Try_except (wpAny_mono (hb (X.pn++pins) _ [] s σ H D (I.Mz.wish _) h) (fun f s1 q=>?_) fun ev s1 z=>?_)
 ·have q':SP X pins D f s1:=q.mR.uz I.ok;cases f with
  |next=>exact wpAny_execs_nil q'
  |brk=>exact q'
  |cont=>exact q'
  |ret u=>exact q'
 ·obtain⟨Se,σ',H',G,a,cls,rfl,I',⟨B,a0,cov,fl,up,hn⟩,hx,q⟩:=z;have I1:Inv X pins σ' H' { s1 with heap:=G }:=I'.uz I.ok;have hH:=I1.Sw hn;have q:=q a hH;have hF:X.A.frames=some (X.env::X.outer):=by rw[<-hst];exact I.ok.frames
  have fl:Heap.FlyingW B (X.env::X.outer) a cls a0 s1.heap:=by rw[<-hst];exact fl
  refine wpAny_looks_onW hF hfr fl fun h4 ag0 up4=>?_;refine wpAny_landsW ag0 fun h5 fl5 up5=>?_;have U5:=(up.trans up4).trans up5;have I5:Inv X pins σ' H' { s1 with heap:=h5 }:=I1.flown cov fl5.1 U5;have I5h:=I5.hand a;refine wpAny_handleBy_cons (codeAny_handlers_test (ur I5h hg hm ?_ hd)) (by intro q;cases q);obtain⟨ob,hob,hobc⟩:=fl5.there;refine(exm_one (M:=model X.prog X.w) I5.xr (hobc ▸ (PySem.W.Looks.ld hob).andThen .now) hx).here ?_;refine codeAny_handlers_suite_as ?_;refine lands_againW fl5 fun h6 fl6 up6=>?_;have U6:=U5.trans up6;have I6:Inv X pins σ' H' { s1 with heap:=h6 }:=I1.flown cov fl6.1 U6;obtain⟨oe,vs,hoe,hoec,hoed,_⟩:=fl6.first;have I7:=Inv.track (s:={ s1 with heap:=h6 }) I1 hn I6 (ajf hoe hoec hoed);refine mQ I7 hN hi (.inl hl) (show RelV (.ref a) (.ref a) from rfl) (fun s8 I8=>?_) (.inr hl);refine wpAny_mono ((hs (X.pn++pins) a) [] s8 _ _ _ (I8.Mz.hand a) q) (fun f s9 z=>?_) fun _ _ z=>z.elim;have gone:∀{σ9:St} {H9:Hp} {R:Prop},Inv ((X.Mz (X.pn++pins)).hand a) [] σ9 H9 s9->(∀ s',Inv X pins (σ9.set i none) H9 s'->SP X pins D f s')->wpAny (model X.prog X.w) X.A (do bindName X.env n .none;unbindBehindTheSuite X.env n hpos) (fun _ s'=>SP X pins D f s') X.xe s9:=fun {σ9 H9 _} J k =>
   aej (X:=X) ((J.Oe (I.ok.Mz _)).uz I.ok) hN hi hl fun s' J'=>k s' J'
  cases f with
  |next=>obtain⟨σ9,H9,J,w⟩:=z;exact gone (R:=True) J fun s' J'=>⟨_,H9,J',w⟩
  |brk=>obtain⟨σ9,H9,J,w⟩:=z;exact gone (R:=True) J fun s' J'=>⟨_,H9,J',w⟩
  |cont=>obtain⟨σ9,H9,J,w⟩:=z;exact gone (R:=True) J fun s' J'=>⟨_,H9,J',w⟩
  |ret u=>obtain⟨v,σ9,H9,J,r,w⟩:=z;exact gone (R:=True) J fun s' J'=>⟨v,_,H9,J',r,w⟩
end L2
namespace L2
open PySem PySem.Spec PyProof.Rows
structure XF (K:Frag)(C:Addr):Prop where
 exc:ExC K C
 ga:findIn K (.ref C) "__getattribute__"=some (some (.builtin "BaseException.__getattribute__"))
 ap4:findIn K (.ref C) "__getattr__"=some none
 cl:findIn K (.ref C) "__class__"=some (some (.builtin "object.__class__"))
section
variable {prog:Program} {w:World} {A:Around} {E:Value->Shared->Prop} {h:Heap} {g:Array GenState} {d:Drawn} {t:Nat} {os:OsState} {a:Addr} {o:Obj} {vs:Array Value} {K:Frag}
 {nm q:Str} {C N:Addr} {bs bm:List Value} {hdct:Bool} {sn:List Str} {sub:List Value} {ab:Bool} {col:Option Bool} {dd:Option Addr} {k0 k1 k2 k3 k5:Option Value} {newId:String}
theorem ZO {R:Result->Shared->Prop}(hC:h.get? C=some (excClassObj nm q C N bs bm hdct sn sub ab col dd k0 k1 k2 k3 k5 newId))(T:OwnTail h mT bm)(hx:h.get? a=some o)(hc:o.cls=.ref C)(hq:R (.ok (.ret (.ref C))) ⟨h,g,d,t,os⟩) :
  codeAny (model prog w) A (.call (.builtin "getset_descriptor.__get__") ⟨[.builtin "object.__class__",.ref a,.ref C],[]⟩) R ⟨h,g,d,t,os⟩:=by
 have hG:(⟨h,g,d,t,os⟩:Shared).TypeIs (.builtin "object.__class__") "getset_descriptor":=F.typeOf_object_class;have own:(Value.ref C::bm).contains (.type (".".intercalate ("object.__class__".cutAt '.').dropLast))=true:=by
  rw[F.owner_object_class,List.contains_cons,T.hasType (show mT.contains (.type "object")=true from rfl)];rfl
 refine codeAny_call_builtin F.slot_gs_get.plain F.entry_gs_get (F.slot_gs_get.check _ _ _ _ _ _ _ _ hG (F.args_gs_get _ _ _) ?_)
 repeat (any_goals (first|assumption|(with_reducible refine wpAny_loadPart_at hx ?_;rw[hc])|(with_reducible refine wpAny_isSubtype_exc hC ?_;rw[own])|wp_step))
 refine⟨Code.quiet_builtin _ (by lk),codeAny_builtin F.entry_object_class ?_⟩
 repeat (any_goals (first|assumption|(with_reducible refine wpAny_loadPart_at hx ?_;rw[hc])|wp_step))
theorem TJ {tk:Tok}{Q:Fin->Shared->Prop}(X:K.In h)(F0:XF K C)(hC:h.get? C=some (excClassObj nm q C N bs bm hdct sn sub ab col dd k0 k1 k2 k3 k5 newId))(T:OwnTail h mT bm)(hx:h.get? a=some o)(hc:o.cls=.ref C)(hq:Q (.done (.ret (.ref C))) ⟨h,g,d,t,os⟩) :
  wpAny (model prog w) A (Builtin.«object.__getattribute__» ⟨[.ref a,.str "__class__" tk],[]⟩) Q E ⟨h,g,d,t,os⟩:=by
 have hG:(⟨h,g,d,t,os⟩:Shared).TypeIs (.builtin "object.__class__") "getset_descriptor":=F.typeOf_object_class;have g1:=F.typeOf_object_class;have g2:=F.slot_gs_get.lookup;have g3:=F.slot_gs_set.lookup;have lk:Looks (model prog w) h (typeLookup (.ref C) "__class__") (some (.builtin "object.__class__")):=looks_findIn X F0.cl
 repeat (any_goals (first|assumption|(with_reducible refine wpAny_loadPart_at hx ?_;rw[hc])|with_reducible refine lk.at ?_|wp_step))
 refine ZO hC T hx hc ?_
 repeat (any_goals (first|assumption|wp_step))
theorem XG {M:Model}{nameV:Value}{Q:Unit->Shared->Prop}(hC:h.get? C=some (excClassObj nm q C N bs bm hdct sn sub ab col dd k0 k1 k2 k3 k5 newId))(T:OwnTail h mT bm)
  (hx:h.get? a=some o) (hc:o.cls=.ref C) (hq:Q () ⟨h,g,d,t,os⟩):wpAny M A (checkBuiltinCall "BaseException.__getattribute__" ⟨[.ref a,nameV],[]⟩) Q E ⟨h,g,d,t,os⟩:=by
 have kd:builtinKind "BaseException.__getattribute__" = some .slot:=by lk
 have sp:splitId "BaseException.__getattribute__" = some ("BaseException","__getattribute__"):=by lk
 have own:(Value.ref C::bm).contains (.type "BaseException")=true:=by rw[List.contains_cons,T.hasType (show mT.contains (.type "BaseException")=true from rfl)];rfl
 have ar:=F.args_bexc_ga (.ref a) nameV;simp only [checkBuiltinCall,kd,sp];refine L' ?_;unfold isInstance
 repeat (first|(with_reducible refine wpAny_loadPart_at hx ?_;rw[hc])|(with_reducible refine wpAny_isSubtype_exc hC ?_;rw[own])|wp_step)
 exact hq
theorem aek {tk:Tok}{Q:Value->Shared->Prop}(X:K.In h)(F0:XF K C)(hC:h.get? C=some (excClassObj nm q C N bs bm hdct sn sub ab col dd k0 k1 k2 k3 k5 newId))(T:OwnTail h mT bm)(hx:h.get? a=some o)(hc:o.cls=.ref C)(hq:Q (.ref C) ⟨h,g,d,t,os⟩) :
  wpAny (model prog w) A (getAttrBy (.ref a) (.str "__class__" tk) false) Q E ⟨h,g,d,t,os⟩:=by
 have f3:=PySem.F.attrBase_ValueError.ga.bind (.ref a);have n2:(Value.builtin "BaseException.__getattribute__" == Value.builtin "object.__getattribute__")=false:=by lk
 have n1:(onTheHeap (Value.ref C)&&Value.builtin "BaseException.__getattribute__" == Value.builtin "object.__getattribute__")=false:=by rw[n2];rfl
 have l1:Looks (model prog w) h (typeLookup (.ref C) "__getattribute__") (some (.builtin "BaseException.__getattribute__")):=looks_findIn X F0.ga;have l2:Looks (model prog w) h (typeLookup (.ref C) "__getattr__") none:=looks_findIn X F0.ap4
 repeat (any_goals (first|assumption|(with_reducible refine wpAny_loadPart_at hx ?_;rw[hc])|with_reducible refine l1.at ?_|with_reducible refine l2.at ?_|wp_step))
 refine codeAny_call_builtin PySem.F.attrBase_ValueError.ga.plain F.entry_bexc_ga (XG hC T hx hc (TJ X F0 hC T hx hc ?_))
 repeat (any_goals (first|assumption|wp_step))
theorem ajg {Q:Option Value->Shared->Prop}(X:K.In h)(F0:XF K C)(hx:h.get? a=some o)(hc:o.cls=.ref C)(hq:Q (some (.ref C)) ⟨h,g,d,t+1,os⟩):wpAny (model prog w) A (getAttr? (.ref a) "__class__") Q E ⟨h,g,d,t,os⟩:=by
 obtain⟨bm,N,nm,qn,bs,hdct,sn,sub,ab,col,dd,k0,k1,k2,k3,k5,mN,hC,hN,hni,T⟩:=F0.exc.obj X;unfold getAttr? getAttrBy?
 repeat (any_goals (first|assumption|with_reducible apply aek X F0 hC T hx hc|wp_step))
end
theorem Of {K:Frag}{a C:Addr}(F0:XF K C):KitX K (.ref a) (.ref C) (fun h=>∃ o,h.get? a=some o/\o.cls=.ref C) where
 ty:=fun M h _ ⟨o,e,c⟩=>c ▸ (PySem.W.Looks.ld e).andThen .now
 it:=fun M h X _=>by
  obtain⟨bm,N,nm,qn,bs,hdct,sn,sub,ab,col,dd,k0,k1,k2,k3,k5,mN,hC,_⟩:=F0.exc.obj X;intro A' Q' E' s' k q;unfold isType loadHead;exact L' (wpAny_loadPart (k _ _ hC) (N' q))
 ne:=fun h tp dd its n sl X htp=>by
  obtain⟨bm,N,nm,qn,bs,hdct,sn,sub,ab,col,dd,k0,k1,k2,k3,k5,mN,hC,_⟩:=F0.exc.obj X;refine Y'.mpr fun q=>?_;have e:C=tp:=Value.ref.inj (beq_iff_eq.mp q);subst e;rw[hC]at htp;have z:=R' Obj.cls (Zb' htp);exact P' (Value.type.inj z) (by decide)
 ca:=fun {prog w A E Q s} X ⟨o,e,c⟩ k=>by
  obtain⟨h,g,d,t,os⟩:=s;exact ajg X F0 e c k
section
variable {X:Cx}
def anx (K:Frag):List V->Hp->VK->Prop:=fun xs H Q =>
 (∃ x T t b,xs=[x,.ty T]/\jq K H x t/\kitOne K t (.type T)=some b/\Q (.bl b) H) \/
 (∃ a C T b,xs=[.ref a,.ty T]/\H a=some (TF a (.ref C))/\XF K C/\kitOne K (.ref C) (.type T)=some b/\Q (.bl b) H) \/
 (∃ a C C' b,xs=[.ref a,.ref C']/\H a=some (TF a (.ref C))/\XF K C/\kitOne K (.ref C) (.ref C')=some b/\Q (.bl b) H) \/
 (∃(a C p:Addr)(cs:List Addr)(b:Bool),xs=[.ref a,.ref p]/\H a=some (TF a (.ref C))/\XF K C/\H p=some (.tup (cs.map V.ref))/\kitAny K (.ref C) (cs.map Value.ref)=some b/\Q (.bl b) H)
theorem adp:∀{cs:List Addr} {us:List Value},Vals (cs.map V.ref) us->us=cs.map Value.ref
 |[],_,.nil=>rfl
 |c::t,_,.cons r s=>by
  have:_=Value.ref c:=r;rw[this,adp s];rfl
theorem ael:lj X (.builtin "isinstance") (anx X.K):=by
 intro pins s σ H xs us Q I r h;rcases h with h|h|h|h
 ·exact dS pins s σ H xs us Q I r h
 ·obtain⟨a,C,T,b,rfl,hH,F0,e,q⟩:=h;cases r with
  |cons r1 r2=>cases r2 with
   |cons r2 r3 =>
    cases r3;cases (show _=Value.ref a from r1);cases (show _=Value.type T from r2);obtain⟨⟨o,e1,e2,_⟩,_⟩:=I.hok a _ hH;exact kia_one (Of F0) I.xr ⟨o,e1,e2⟩ e (fun z=>nomatch z) fun tk=>⟨.bl b,H,I.tok _,rfl,q⟩
 ·obtain⟨a,C,C',b,rfl,hH,F0,e,q⟩:=h;cases r with
  |cons r1 r2=>cases r2 with
   |cons r2 r3 =>
    cases r3;cases (show _=Value.ref a from r1);cases (show _=Value.ref C' from r2);obtain⟨⟨o,e1,e2,_⟩,_⟩:=I.hok a _ hH;exact kia_one (Of F0) I.xr ⟨o,e1,e2⟩ e (fun z=>nomatch z) fun tk=>⟨.bl b,H,I.tok _,rfl,q⟩
 ·obtain⟨a,C,p,cs,b,rfl,hH,F0,hp,e,q⟩:=h;cases r with
  |cons r1 r2=>cases r2 with
   |cons r2 r3 =>
    cases r3;cases (show _=Value.ref a from r1);cases (show _=Value.ref p from r2);obtain⟨⟨o,e1,e2,_⟩,_⟩:=I.hok a _ hH;obtain⟨_,its,rv,ob,h1,h2,n,h3⟩:=I.hok p _ hp;have:=adp rv;subst this;obtain⟨oc,od,odt,osl⟩:=ob;dsimp only at h2 h3;subst h2 h3;exact PySem.W.kia_tup (Of F0) I.xr ⟨o,e1,e2⟩ h1 e (fun z=>nomatch z) fun tk=>⟨.bl b,H,I.tok _,rfl,q⟩
theorem Og {K:Frag}(h:X.K=K):lj X (.builtin "isinstance") (anx K):=h ▸ ael
theorem XH:Passes (fA X.prog X.w) X E0:=fun _ _ _ _ _ _ _ ⟨_,_,_,_,_,_,_,_,_,_,z⟩=>z.elim
theorem Rk:bootBuiltins "ValueError"=some (.type "ValueError"):=PyProof.Rows.Boot.«ValueError»
end
end L2
namespace L2
open PySem PySem.Spec PyProof.Rows
section
variable {P:Program} {w:World} {K:Frag} {mg:Str->Option Value} {base:Heap}
end
section
variable {X:Cx} {tg iter elt:Expr} {ifs:List Expr} {scope:Scope} {pos:Pos} {cn:List Str} {wi:TI} {g:Bk->TG} {tc:Bk->TT} {te:Bk->TE} {TH:Bk->Prop}
end
end L2
namespace L2
open PySem PySem.Spec PyProof.Rows
def alF (to:TE)(tl th:St->Hp->(Option Int->Hp->Prop)->Prop):TG:=fun v σ H Q=>to σ H fun x H1=>tl σ H1 fun l H2=>th σ H2 fun u H3 =>
 ∃(p b:Addr)(xs ys:List V)(a c:Int),x=.ref p/\v=.ref b/\l=some a/\u=some c/\H3 p=some (.lst xs)/\H3 b=some (.lst ys)/\p≠b/\0<=a/\a<=c/\c<=xs.length/\xs.length+ys.length<=sizeLine/\Q σ (upd H3 p (.lst (xs.take a.toNat++ys++xs.drop c.toNat)))
theorem XI {X:Cx}{o:Expr}{lo hi:Option Expr}{p2 pos:Pos}{to:TE}{tl th:St->Hp->(Option Int->Hp->Prop)->Prop}(ho:PE X o to)(hl:PO X lo tl)(hu:PO X hi th)
  (ha:∀ v,assign (.Subscript o (.Slice lo hi none p2) pos) X.env v=(do
   let ov <-holding [v] (eval o X.env)
   let iv <-holding [v,ov] (eval (.Slice lo hi none p2) X.env)
   standAt pos
   holding [v,ov,iv] (setItem ov iv v)
   release [iv,v,ov] []):=by intro _;rfl):PG X (.Subscript o (.Slice lo hi none p2) pos) (alF to tl th):=by
 intro pins s σ H v u Q I r h;rw[ha];refine L' (wpAny_holding (cU (ho pins s σ H _ I h) fun ov s1 ⟨x,H1,I1,r1,q1⟩=>?_));refine L' (wpAny_holding ?_);refine wpAny_Slice (cU (hl pins s1 σ H1 _ I1 q1) fun vl s2 ⟨l,H2,I2,pl,q2⟩=>cU (hu pins s2 σ H2 _ I2 q2) fun vu s3 ⟨uu,H3,I3,pu,q3⟩=>?_);rw[evalPart_none];refine N' ?_;have I4:Inv X pins σ H3 { s3 with heap:=s3.heap.push { cls:=.type "slice",data:=.fields #[vl,vu,.none] } }:=I3.kept (t':=s3.toks) fun b ob q=>V' _ q;obtain⟨p,b,xs,ys,a,c,rfl,rfl,rfl,rfl,hp,hb,hne,h0,hac,hc,hz,q4⟩:=q3;cases r1;cases r;refine L' (wpAny_standAt (L' (wpAny_holding ?_)));refine ad9 I4 hp hb hne (Heap.IsSliceOf.new ..) (by cases pl;exact⟨_,rfl⟩) (by cases pu;exact⟨_,rfl⟩) h0 hac hc hz fun s5 I5=>?_;exact wpAny_release ⟨σ,_,I5,q4⟩
end L2
namespace L2
open PySem PySem.Spec PyProof.Rows
section
variable {X:Cx}
theorem all_range:∀ bs:List Bool,(List.range bs.length).all (fun i=>bs.getD i false)=bs.all id
 |[]=>rfl
 |b::bs=>by
  rw[Zp',List.range_succ_eq_map,List.all_cons,List.all_map,List.all_cons];have:((fun i=>(b::bs).getD i false) ∘ Nat.succ)=fun i=>bs.getD i false:=by
   funext i
   rfl
  rw[this,all_range bs];rfl
theorem ag1:lj X (.builtin "all") (fun xs H Q=>X.calm=true/\∃(a:Addr)(bs:List Bool),xs=[.ref a]/\bh X.K H a (bs.map V.bl)/\Q (.bl (bs.all id)) H):=by
 intro pins s σ H xs us Q I r h;obtain⟨hc,a,bs,rfl,hq,q⟩:=h;obtain⟨u,rfl,rfl⟩:=r.one;obtain⟨its,rv,p,hz⟩:=I.list hq;have hl:=rv.length;rw[j']at hl;have aln:∀(i:Nat)(v:Value),its.toArray[i]? = some v->v=Value.bool (bs.getD i false):=by
  intro i v hv;have hv':its[i]? = some v:=by simpa using hv
  have hi:i<its.length:=(S'.mp hv').1;have hb:i<bs.length:=by omega
  obtain⟨u,hu,ru⟩:=rv.get (i:=i) (x:=.bl (bs[i])) (by rw[Zf',T' hb];rfl);rw[hv']at hu;cases hu;have:v=.bool bs[i]:=ru;rw[this,List.getD_eq_getElem?_getD,T' hb];rfl
 refine call_all_walk (wpAny_pyIter_list p.isList ?_);have ane:a≠s.heap.objs.size:=by
  obtain⟨o,ho,_⟩:=p.isList;exact Zn' (Zc' ho)
 have hd:X.A.in1.handled=none:=I.ok.hd hc;refine⟨s.heap.objs.size,_,_,_,_,_,fun i=>bs.getD i false,rfl,Walks.list hd s.heap.objs.size a ane its.toArray,⟨⟨_,Zo' _ rfl,rfl,rfl⟩,p.isList.push _⟩,?_,?_⟩
 ·intro i v s' Q' E' hP hQ';rw[aln i v hP];exact wpAny_truthy_bool hQ'
 ·intro h' tk kk;have e:(List.range its.toArray.size).all (fun i=>bs.getD i false)=bs.all id:=by
   rw[Ya',<-hl];exact all_range bs
  rw[e];refine⟨.bl _,H,I.kept (t':=tk) fun b o e=>kk b o (fun z=>?_) (V' _ e),rfl,q⟩;have:b=s.heap.objs.size:=by simpa using z
  exact P' (Zc' e) (by rw[this];exact Nat.lt_irrefl _)
def Itd (lo:Int)(n:Nat):It:={ go:=fun i _=>i<n,yld:=fun i H x H'=>H'=H/\x=V.int (lo-(i:Int)),stop:=fun i _=>n<=i }
theorem aem {P:Program}{w:World}{K:Frag}{tg:Expr}(it:Addr)(lo:Int)(n:Nat):Turn P w K tg (Itd lo n) [it] it (fun i h=>IsRangeIter h it (lo+(i:Nat) * (-1)) ((n:Int)-(i:Nat)) (-1)) where
 mem:=by simp
 obj:=fun i h st b hb=>by
  have e:b=it:=by simpa using hb
  subst e;exact⟨_,st,fun v z=>by
   have z':Data.fields _=Data.cell v:=z;cases z'⟩
 keep:=fun i h h' st k=>k it (by simp) _ st
 item:=by
  intro X hP hw hK hc i pins s σ H E I hf st hg;subst hP hw hK;obtain⟨f0,f1,f2,f3,f4,f5⟩:=hf it (by simp);have W:=Walks.range (prog:=X.prog) (w:=X.w) (I.ok.hd hc) it lo (-1) n;refine W.item i s _ _ hg st fun v h' tk hv st' kk=>?_;obtain⟨t,rfl⟩:=hv;have I1:Inv X pins σ H { s with heap:=h',toks:=tk }:=I.turned (fun b o hb e=>kk b o (by simpa using hb) e) f0 f1 f3 f4 f5;refine⟨_,rfl,ac2 (s:={ s with heap:=h',toks:=tk }) (n:="range_iterator") st' rfl rfl (by decide) ⟨.int (lo-i),H,I1,⟨t,?_⟩,⟨rfl,rfl⟩,st',fun b hb=>(hf b hb).1⟩⟩;have:lo+(i:Int) * (-1)=lo-i:=by omega
  rw[this]
 done:=by
  intro X hP hw hK hc i pins s σ H E I hf st hg;subst hP hw hK;obtain⟨f0,f1,f2,f3,f4,f5⟩:=hf it (by simp);exact wpAny_pyNext_range_end (I.ok.hd hc) st (by have:n<=i:=hg;omega) fun h' eb=>⟨rfl,I.turned (t':=s.toks) (fun b o hb e=>eb b o hb e) f0 f1 f3 f4 f5⟩
 self:=fun _ _ _ _ _ st h=>wpAny_pyIter_rangeiter st h
theorem rangeSize_down (a b:Int):Builtin.Range.rangeSize a b (-1)=if b<a then a-b else 0:=by
 unfold Builtin.Range.rangeSize;rw[G' (by decide)]
 by_cases h:a > b
 ·rw[K' h,K' h];show(a-b-1) / 1+1=a-b;omega
 ·rw[G' h,G' h]
theorem small_down {a b:Int}(h1:-(2 ^ 62)<=a)(h2:a<2 ^ 62)(h3:-(2 ^ 62)<=b)(h4:b<2 ^ 62):Builtin.Range.small a b (-1)=true:=by
 unfold Builtin.Range.small;rw[rangeSize_down];have f:∀ x:Int,-(2 ^ 63)<=x->x<2 ^ 63->Builtin.Range.rangeFitsLong x=true:=fun x p q=>by
  unfold Builtin.Range.rangeFitsLong;simp;omega
 rw[f a (by omega) (by omega),f b (by omega) (by omega),f (-1) (by omega) (by omega),f _ (by split <;> omega) (by split <;> omega),G' (show ¬((-1:Int) > 0) by decide),f (b+(-1+1)) (by omega) (by omega)];simp
theorem ajh {tg:Expr}{pins:List (Addr×Obj)}{σ:St}{H:Hp}{s:Shared}{R:It->Hp->Prop}{E:Value->Shared->Prop}{lo hi:Int}{t u v:Tok}{tk:Nat}(I:Inv X pins σ H s)(h1:-(2 ^ 62)<=lo)(h2:lo<2 ^ 62)(h3:-(2 ^ 62)<=hi)(h4:hi<2 ^ 62)
  (q:R (Itd lo (lo-hi).toNat) H):wpAny (model X.prog X.w) X.A (pyIter (.ref s.heap.objs.size)) (PIE X pins σ tg R) E { s with heap:=s.heap.push { cls:=.type "range",data:=.fields #[.int lo t,.int hi u,.int (-1) v] },toks:=tk }:=by
 refine wpAny_pyIter_range (IsRange.new ..) (small_down h1 h2 h3 h4) ?_;have I1:Inv X pins σ H { s with heap:=s.heap.push { cls:=.type "range",data:=.fields #[.int lo t,.int hi u,.int (-1) v] },toks:=tk }:=I.kept fun b o e=>V' _ e;refine⟨(s.heap.push { cls:=.type "range",data:=.fields #[.int lo t,.int hi u,.int (-1) v] }).objs.size,[(s.heap.push { cls:=.type "range",data:=.fields #[.int lo t,.int hi u,.int (-1) v] }).objs.size],_,_,H,rfl,
  I1.kept (t':=tk) fun b o e=>V' _ e,aem _ lo (lo-hi).toNat,?_,fun b hb=>?_,q⟩
 ·have e1:lo+((0:Nat):Int) * (-1)=lo:=by simp
  have e2:(((lo-hi).toNat:Nat):Int)-((0:Nat):Int)=Builtin.Range.rangeSize lo hi (-1):=by rw[rangeSize_down];split <;> omega
  show IsRangeIter _ _ (lo+((0:Nat):Int) * (-1)) ((((lo-hi).toNat:Nat):Int)-((0:Nat):Int)) (-1);rw[e1,e2];exact Zo' _ rfl
 ·have e:b=(s.heap.push { cls:=.type "range",data:=.fields #[.int lo t,.int hi u,.int (-1) v] }).objs.size:=by simpa using hb
  subst e;exact I1.Tp (Zi' _) (I1.hok.fresh (Zi' _))
def anz (ta:TA):TI:=fun σ H R=>ta σ H fun vs H1=>∃ i j:Int,vs=[.int i,.int j,.int (-1)]/\(-(2 ^ 62)<=i/\i<2 ^ 62/\-(2 ^ 62)<=j/\j<2 ^ 62)/\R (Itd i (i-j).toNat) H1
theorem aen {tg:Expr}{a b c:Expr}{ta:TA}{p pos:Pos}(hg:Gl X "range")(hm:X.mg "range"=none)(ha:PA X [a,b,c] ta)(hs:starEach [a,b,c] X.env=[(false,eval a X.env),(false,eval b X.env),(false,eval c X.env)]:=by rfl)(hs2:starEach [b,c] X.env=[(false,eval b X.env),(false,eval c X.env)]:=by rfl) :
  PI X tg (.Call (.Name "range" p) [a,b,c] [] pos) (anz ta):=by
 intro pins s σ H R I h;refine Call_ (vG I hg hm boot_range (PyProof.Rows.callWith_type1 (cU (ha pos pins s σ H _ I h) fun us s1 ⟨vs,H1,I1,r1,q1⟩=>?_) (by rw[hs,hs2]) (by rw[hs2];rfl)));obtain⟨i,j,e,⟨q1,q2,q3,q4⟩,q⟩:=q1;subst e;cases r1 with
 |cons r rr =>
  cases rr with
  |cons r' rr =>
   cases rr with
   |cons r'' rr =>
    cases rr;obtain⟨t,rfl⟩:=r;obtain⟨t',rfl⟩:=r';obtain⟨t'',rfl⟩:=r'';exact call_range_3 (by decide) (ajh I1 q1 q2 q3 q4 q) (.inl rfl)
theorem ag2 {lo:Int}{n:Nat}{g:TG}{tb:TS}{D:Ends}{σ:St}{H:Hp}(Pv:Nat->St->Hp->Prop)(h0:Pv 0 σ H)
  (hs:∀ i σ H,i<n->Pv i σ H->g (.int (lo-i)) σ H fun σ2 H2=>tb { D with nx:=Pv (i+1),ct:=Pv (i+1),bk:=D.nx } σ2 H2) (hd:∀ σ H,Pv n σ H->D.nx σ H) :
  ∃ W:Nat->Nat->St->Hp->Prop,(∃ m,W 0 m σ H)/\∀ i m σ H,W i m σ H ->
   ((Itd lo n).stop i H/\D.nx σ H)\/((Itd lo n).go i H/\∃ N:St->Hp->Prop,(∀ σ' H',N σ' H'->∃ m',m'<m/\W (i+1) m' σ' H')/\∀ x H',(Itd lo n).yld i H x H'->g x σ H' fun σ2 H2=>tb { D with nx:=N,ct:=N,bk:=D.nx } σ2 H2):=by
 refine⟨fun i m σ H=>m=n-i/\i<=n/\Pv i σ H,⟨n,by simp,Zj' _,h0⟩,?_⟩;rintro i m σ H ⟨rfl,hi,p⟩
 by_cases hlt:i<n
 ·refine .inr ⟨hlt,Pv (i+1),fun σ' H' p'=>⟨n-(i+1),by omega,rfl,hlt,p'⟩,fun x H' y=>?_⟩;obtain⟨e,y⟩:=y;subst e y;exact hs i σ _ hlt p
 ·have e:i=n:=by omega
  subst e;exact .inl ⟨Zi' _,hd _ _ p⟩
def aji:TE:=fun _ _ _=>False
theorem ag3 {e:Expr}:PE X e aji:=fun _ _ _ _ _ _ h=>h.elim
end
end L2
namespace L2
open PySem PySem.Spec PyProof.Rows
section
variable {κ:Type} [DecidableEq κ]
def uo (kvs:List (κ×V))(k:κ):Option V:=(kvs.find? fun kv=>decide (kv.1=k)).map (·.2)
def putK (kvs:List (κ×V))(k:κ)(v:V):List (κ×V) :=
 if(kvs.any fun kv=>decide (kv.1=k))=true then kvs.map (fun kv=>if kv.1=k then(kv.1,v) else kv) else kvs++[(k,v)]
def Oh (kvs:List (κ×V))(k:κ):List (κ×V):=kvs.filter fun kv=>decide (kv.1≠k)
theorem Oi {p:κ×V}{r:List (κ×V)}{k:κ}(e:p.1=k):uo (p::r) k=some p.2:=by simp[uo,List.find?_cons,e]
theorem Oj {p:κ×V}{r:List (κ×V)}{k:κ}(e:¬ p.1=k):uo (p::r) k=uo r k:=by simp[uo,List.find?_cons,e]
theorem zK (k:κ):∀ kvs:List (κ×V),(kvs.any fun kv=>decide (kv.1=k))=(uo kvs k).isSome
 |[]=>rfl
 |p::r=>by
  rw[List.any_cons]
  by_cases e:p.1=k
  ·simp only [Oi e,W' e,Bool.true_or,Option.isSome_some]
  ·rw[Oj e,X' e,Bool.false_or];exact zK k r
theorem MA (kvs:List (κ×V))(k:κ)(v:V):(putK kvs k v).length<=kvs.length+1:=by
 unfold putK;split
 ·rw[j'];omega
 ·rw[Z',Zp',List.length_nil];omega
theorem XJ {kvs:List (κ×V)}{k:κ}(v:V)(h:uo kvs k=none):putK kvs k v=kvs++[(k,v)]:=by
 unfold putK;rw[zK,h];exact G' (by decide)
theorem qE.wq {o:Option V}{u:Option Value}(r:qE o u):o.isSome=u.isSome:=by
 cases o with
 |none=>cases u with
  |none=>rfl
  |some _=>exact(show False from r).elim
 |some _=>cases u with
  |none=>exact(show False from r).elim
  |some _=>rfl
theorem qE.getD {o:Option V}{u:Option Value}{d:V}{d':Value}(r:qE o u)(rd:RelV d d'):RelV (o.getD d) (u.getD d'):=by
 cases o with
 |none=>cases u with
  |none=>exact rd
  |some _=>exact(show False from r).elim
 |some _=>cases u with
  |none=>exact(show False from r).elim
  |some _=>exact r
theorem KV.val {kvs:List (κ×V)}{vs:List (κ×Value)}(r:KV kvs vs)(k:κ):qE (uo kvs k) (valueAt vs k):=by
 unfold KV at r
 induction r with
 |nil=>exact True.intro
 | @cons p q ps qs h t ih =>
  obtain⟨h1,h2⟩:=h
  by_cases e:p.1=k
  ·have e':q.1=k:=h1.symm.trans e;have b:valueAt (q::qs) k=some q.2:=by simp[valueAt,List.find?_cons,e']
   rw[Oi e,b];exact h2
  ·have e':¬ q.1=k:=fun z=>e (h1.trans z);have b:valueAt (q::qs) k=valueAt qs k:=by simp[valueAt,List.find?_cons,e']
   rw[Oj e,b];exact ih
theorem KV.any {kvs:List (κ×V)}{vs:List (κ×Value)}(r:KV kvs vs)(k:κ):(kvs.any fun kv=>decide (kv.1=k))=vs.any fun kv=>decide (kv.1=k):=by
 unfold KV at r
 induction r with
 |nil=>rfl
 |cons h t ih=>rw[List.any_cons,List.any_cons,ih,h.1]
theorem KV.repl {kvs:List (κ×V)}{vs:List (κ×Value)}(r:KV kvs vs)(k:κ){y:V}{u:Value}(ry:RelV y u) :
  KV (kvs.map fun kv=>if kv.1=k then(kv.1,y) else kv) (vs.map fun kv=>if kv.1=k then(kv.1,u) else kv):=by
 unfold KV at r ⊢
 induction r with
 |nil=>exact .nil
 | @cons p q ps qs h t ih =>
  rw[map_cons,map_cons];refine .cons ?_ ih;obtain⟨h1,h2⟩:=h
  by_cases e:p.1=k
  ·rw[K' e,K' (h1.symm.trans e)];exact⟨h1,ry⟩
  ·rw[G' e,G' (fun z=>e (h1.trans z))];exact⟨h1,h2⟩
theorem KV.put {kvs:List (κ×V)}{vs:List (κ×Value)}(r:KV kvs vs)(k:κ){y:V}{u:Value}(ry:RelV y u):KV (putK kvs k y) (stored vs k u):=by
 unfold putK stored;rw[r.any k]
 by_cases e:(vs.any fun kv=>decide (kv.1=k))=true
 ·rw[K' e,K' e];exact r.repl k ry
 ·rw[G' e,G' e];exact Paired.snoc r ⟨rfl,ry⟩
theorem KV.drop {kvs:List (κ×V)}{vs:List (κ×Value)}(r:KV kvs vs)(k:κ):KV (Oh kvs k) (without vs k):=by
 unfold KV at r ⊢;unfold Oh without
 induction r with
 |nil=>exact .nil
 | @cons p q ps qs h t ih =>
  obtain⟨h1,h2⟩:=h;rw[List.filter_cons,List.filter_cons]
  by_cases e:p.1=k
  ·have a:¬ decide (p.1≠k)=true:=by simp[e]
   have b:¬ decide (q.1≠k)=true:=by simp[h1.symm.trans e]
   rw[G' a,G' b];exact ih
  ·have e':¬ q.1=k:=fun z=>e (h1.trans z);have a:decide (p.1≠k)=true:=by simp[e]
   have b:decide (q.1≠k)=true:=by simp[e']
   rw[K' a,K' b];exact .cons ⟨h1,h2⟩ ih
theorem KV.keys {kvs:List (κ×V)}{vs:List (κ×Value)}(r:KV kvs vs):kvs.map (·.1)=vs.map (·.1):=by
 unfold KV at r
 induction r with
 |nil=>rfl
 |cons h t ih=>rw[map_cons,map_cons,ih,h.1]
theorem KV.length {kvs:List (κ×V)}{vs:List (κ×Value)}(r:KV kvs vs):kvs.length=vs.length:=Paired.length r
theorem ag4 (kvs:List (κ×V))(k:κ):(Oh kvs k).length<=kvs.length:=List.length_filter_le _ _
end
theorem Ol {P:Program}{w:World}{k:Key}{u:Value}(r:RelV (kV k) u):(cQ P w).is k u=true:=by
 cases k with
 |inl i=>obtain⟨t,e⟩:=(show ∃ t,u=Value.int i t from r);subst e;exact Xn P w i t
 |inr x=>obtain⟨t,e⟩:=(show ∃ t,u=Value.str x t from r);subst e;exact mr P w x t
theorem Sx {P:Program}{w:World}:∀{ks:List Key} {us:List Value},Vals (ks.map kV) us->ItemsAre (cQ P w) ks us
 |[],_,r=>by rw[List.map_nil]at r;cases r;exact .nil
 |k::ks,_,r=>by
  rw[map_cons]at r;cases r with
  |cons h t=>exact .cons (Ol h) (Sx t)
abbrev KT (H:Hp):List (List Key×V)->List (List Key×Addr×Value)->Prop:=Paired fun p q=>p.1=q.1/\H q.2.1=some (.tup (p.1.map kV))/\RelV p.2 q.2.2
theorem KT.val {H:Hp}{kvs:List (List Key×V)}{xs:List (List Key×Addr×Value)}(r:KT H kvs xs)(k:List Key):qE (uo kvs k) ((atKey xs k).map (·.2)):=by
 induction r with
 |nil=>exact True.intro
 | @cons p q ps qs h t ih =>
  obtain⟨h1,_,h2⟩:=h
  by_cases e:p.1=k
  ·have e':q.1=k:=h1.symm.trans e;have b:atKey (q::qs) k=some q.2:=by simp[atKey,List.find?_cons,e']
   rw[Oi e,b];exact h2
  ·have e':¬ q.1=k:=fun z=>e (h1.trans z);have b:atKey (q::qs) k=atKey qs k:=by simp[atKey,List.find?_cons,e']
   rw[Oj e,b];exact ih
theorem KT.repl {H:Hp}{kvs:List (List Key×V)}{xs:List (List Key×Addr×Value)}(r:KT H kvs xs)(k:List Key){y:V}{u:Value}(ry:RelV y u) :
  KT H (kvs.map fun kv=>if kv.1=k then(kv.1,y) else kv) (xs.map (putAt k u)):=by
 induction r with
 |nil=>exact .nil
 | @cons p q ps qs h t ih =>
  rw[map_cons,map_cons];refine .cons ?_ ih;obtain⟨h1,h2,h3⟩:=h;unfold putAt
  by_cases e:p.1=k
  ·rw[K' e,K' (h1.symm.trans e)];exact⟨h1,h2,ry⟩
  ·rw[G' e,G' (fun z=>e (h1.trans z))];exact⟨h1,h2,h3⟩
theorem KT.put {H:Hp}{kvs:List (List Key×V)}{xs:List (List Key×Addr×Value)}(r:KT H kvs xs)(k:List Key){b:Addr}{y:V}{u:Value}(hb:H b=some (.tup (k.map kV)))(ry:RelV y u) :
  KT H (putK kvs k y) (storedH xs k b u):=by
 have e:(kvs.any fun kv=>decide (kv.1=k))=(atKey xs k).isSome:=by
  rw[zK,(r.val k).wq,Option.isSome_map]
 unfold putK storedH;rw[e]
 by_cases q:(atKey xs k).isSome=true
 ·rw[K' q,K' q];exact r.repl k ry
 ·rw[G' q,G' q];exact Paired.snoc r ⟨rfl,hb,ry⟩
theorem KT.keeps {H H':Hp}{kvs:List (List Key×V)}{xs:List (List Key×Addr×Value)}(r:KT H kvs xs)(ht:∀ b ys,H b=some (.tup ys)->H' b=some (.tup ys)):KT H' kvs xs :=
 Paired.ak1 r fun _ _ z=>⟨z.1,ht _ _ z.2.1,z.2.2⟩
section
variable {P:Program} {w:World} {H:Hp} {h:Heap} {a:Addr}
theorem akG {u:HO}(ok:zx P w H h)(e:Rd H a u):fu P w H h a u:=e.ok ok
theorem Cq {kvs:List (Key×V)}(ok:zx P w H h)(e:Rd H a (.dK kvs)):kvs.length<=sizeLine/\(a==sysModules)=false/\∃ vs,KV kvs vs/\h.DictOf (cQ P w) a vs :=
 show fu P w H h a (.dK kvs) from akG ok e
theorem akH {kvs:List (Key×V)}(ok:zx P w H h)(e:H a=some (.dK kvs)):kvs.length<=sizeLine/\(a==sysModules)=false/\∃ vs,KV kvs vs/\h.DictOf (cQ P w) a vs:=Cq ok (.inl e)
theorem IS {ks:List Key}(ok:zx P w H h)(e:H a=some (.tup (ks.map kV))):(tupleKind (cQ P w)).is h ks a:=by
 obtain⟨_,its,r,o,h1,h2,n,h3⟩:=(show fu P w H h a (.tup (ks.map kV)) from ok a _ e);exact⟨o,its.toArray,n,h1,h2,h3,by simpa using Sx r⟩
theorem Om {kvs:List (List Key×V)}(ok:zx P w H h)(e:Rd H a (.dT kvs)):kvs.length<=sizeLine/\(a==sysModules)=false /\
  ∃ xs,KT H kvs xs/\h.DictOfH (tupleKind (cQ P w)) a xs:=by
 obtain⟨z,y,xs,r,o,es,ep,h1,h2,h3,h4,h5⟩:=(show fu P w H h a (.dT kvs) from akG ok e);refine⟨z,y,xs,r,o,es,ep,h1,h2,h3,h4,fun x hx=>?_,h5⟩;have all:∀{l:List (List Key×V)} {m:List (List Key×Addr×Value)},KT H l m->∀ x∈m,(tupleKind (cQ P w)).is h x.1 x.2.1:=by
  intro l m q
  induction q with
  |nil=>intro x hx;exact nomatch hx
  | @cons p q ps qs hq t ih =>
   intro x hx;rcases List.mem_cons.mp hx with e|hx
   ·subst e;exact IS ok (by rw[<-hq.1];exact hq.2.1)
   ·exact ih x hx
 exact all r x hx
theorem anA {kvs:List (List Key×V)}(ok:zx P w H h)(e:H a=some (.dT kvs)):kvs.length<=sizeLine/\(a==sysModules)=false /\
  ∃ xs,KT H kvs xs/\h.DictOfH (tupleKind (cQ P w)) a xs:=Om ok (.inl e)
end
def uq (H:Hp)(a:Addr)(y:V)(r:Option V):Prop :=
 (∃ kvs k,Rd H a (.dK kvs)/\y=kV k/\r=uo kvs k)\/∃ kvs k b,Rd H a (.dT kvs)/\y=.ref b/\H b=some (.tup (k.map kV))/\r=uo kvs k
def ZP (H:Hp)(a:Addr)(y v:V)(H':Hp):Prop :=
 (∃ kvs k,H a=some (.dK kvs)/\y=kV k/\kvs.length<sizeLine/\H'=upd H a (.dK (putK kvs k v))) \/
 ∃ kvs k b,H a=some (.dT kvs)/\y=.ref b/\H b=some (.tup (k.map kV))/\kvs.length<sizeLine/\H'=upd H a (.dT (putK kvs k v))
theorem uq.k {H:Hp}{a:Addr}{kvs:List (Key×V)}{k:Key}(e:H a=some (.dK kvs)):uq H a (kV k) (uo kvs k):=.inl ⟨kvs,k,.inl e,rfl,rfl⟩
theorem ZP.k {H:Hp}{a:Addr}{kvs:List (Key×V)}{k:Key}{v:V}(e:H a=some (.dK kvs))(hl:kvs.length<sizeLine):ZP H a (kV k) v (upd H a (.dK (putK kvs k v))):=.inl ⟨kvs,k,e,rfl,hl,rfl⟩
section
variable {X:Cx} {pins:List (Addr×Obj)} {σ:St} {H:Hp} {s:Shared} {a:Addr} {y v:V} {u r:Value} {o:Option V} {A:Around} {E:Value->Shared->Prop}
theorem Inv.big (I:Inv X pins σ H s):sysModules<s.heap.objs.size:=by
 have h:mainGlobals<s.heap.objs.size:=(I.mod.glob.keeps I.bk).lt;exact Nat.lt_trans (by decide) h
theorem aeo {Q:Value->Shared->Prop}(hu:A.units+1<cLine)(I:Inv X pins σ H s)(g:uq H a y (some v))(ry:RelV y u)(h:∀ w' s',Inv X pins σ H s'->RelV v w'->Q w' s') :
  wpAny (model X.prog X.w) A (getItem (.ref a) u) Q E s:=by
 rcases g with ⟨kvs,k,e,ey,l⟩|⟨kvs,k,b,e,ey,eb,l⟩
 ·subst ey;obtain⟨z,hd,vs,rel,dd⟩:=Cq I.hok e;obtain⟨w',hw,Xp⟩:=qE.some_of (v:=v) (o:=valueAt vs k) (by rw[l];exact rel.val k);exact wpAny_getItem_of (Ol ry) dd.mapOf hw (h w' _ (I.tok _) Xp)
 ·subst ey;cases (show u=Value.ref b from ry);obtain⟨z,hd,xs,rel,dd⟩:=Om I.hok e;obtain⟨w',hw,Xp⟩:=qE.some_of (v:=v) (o:=(atKey xs k).map (·.2)) (by rw[l];exact rel.val k);obtain⟨p,hp,hp2⟩:=Option.map_eq_some_iff.mp hw;refine wpAny_getItem_heap (tupleKind_room_in1 hu) (IS I.hok eb) dd hp ?_;rw[hp2];exact h w' _ (I.tok _) Xp
theorem ap5 {Q:Value->Shared->Prop}(hu:A.units+1<cLine)(I:Inv X pins σ H s)(g:uq H a y o)(ry:RelV y u)(h:∀ s',Inv X pins σ H s'->Q (.bool o.isSome) s') :
  wpAny (model X.prog X.w) A (compareOp .In u (.ref a)) Q E s:=by
 rcases g with ⟨kvs,k,e,ey,l⟩|⟨kvs,k,b,e,ey,eb,l⟩
 ·subst ey;obtain⟨z,hd,vs,rel,dd⟩:=Cq I.hok e;refine wpAny_in_of (Ol ry) hd dd.mapOf ?_;rw[<-(rel.val k).wq,<-l];exact h _ (I.tok _)
 ·subst ey;cases (show u=Value.ref b from ry);obtain⟨z,hd,xs,rel,dd⟩:=Om I.hok e;refine wpAny_in_heap (tupleKind_room_in1 hu) (IS I.hok eb) hd dd ?_;have q:=(rel.val k).wq;rw[Option.isSome_map]at q;rw[<-q,<-l];exact h _ (I.tok _)
theorem ajj {Q:Value->Shared->Prop}(hu:A.units+1<cLine)(I:Inv X pins σ H s)(g:uq H a y o)(ry:RelV y u)(h:∀ s',Inv X pins σ H s'->Q (.bool (!o.isSome)) s') :
  wpAny (model X.prog X.w) A (compareOp .NotIn u (.ref a)) Q E s:=by
 rcases g with ⟨kvs,k,e,ey,l⟩|⟨kvs,k,b,e,ey,eb,l⟩
 ·subst ey;obtain⟨z,hd,vs,rel,dd⟩:=Cq I.hok e;refine wpAny_notIn_of (Ol ry) hd dd.mapOf ?_;rw[<-(rel.val k).wq,<-l];exact h _ (I.tok _)
 ·subst ey;cases (show u=Value.ref b from ry);obtain⟨z,hd,xs,rel,dd⟩:=Om I.hok e;refine wpAny_notIn_heap (tupleKind_room_in1 hu) (IS I.hok eb) hd dd ?_;have q:=(rel.val k).wq;rw[Option.isSome_map]at q;rw[<-q,<-l];exact h _ (I.tok _)
theorem TK {h':Heap}{t':Nat}{ob:HO}(I:Inv X pins σ H s)(mu:Mut (H a))(hs:Heap.SameBut a s.heap h')(he:∃ q,h'.get? a=some q)(new:fu X.prog X.w (upd H a ob) h' a ob) :
  Inv X pins σ (upd H a ob) { s with heap:=h',toks:=t' } :=
 I.write (x:=a) (e:=a) mu (.inl rfl) (fun b q hb z=>(hs.2 b hb).trans z) he new
theorem ZQ {P:Program}{w:World}{H':Hp}{h':Heap}{kvs:List (Key×V)}{vs:List (Key×Value)}(z:kvs.length<=sizeLine)(hd:(a==sysModules)=false)(rel:KV kvs vs)(dd:h'.DictOf (cQ P w) a vs) :
  fu P w H' h' a (.dK kvs):=⟨z,hd,vs,rel,dd⟩
theorem aep {H':Hp}{Q:Unit->Shared->Prop}(hu:A.units+1<cLine)(I:Inv X pins σ H s)(g:ZP H a y v H')(ry:RelV y u)(rv:RelV v r)(h:∀ s',Inv X pins σ H' s'->Q () s') :
  wpAny (model X.prog X.w) A (setItem (.ref a) u r) Q E s:=by
 rcases g with ⟨kvs,k,e,ey,l,eH⟩|⟨kvs,k,b,e,ey,eb,l,eH⟩
 ·subst ey eH;obtain⟨z,hd,vs,rel,dd⟩:=akH I.hok e;have hz:vs.length<=sizeLine:=by rw[<-rel.length];exact z
  have hl:(putK kvs k v).length<=sizeLine:=by have:=MA kvs k v;omega
  refine wpAny_setItem_pairs (hsz:=hz) (Ol ry) dd fun h' dd' hs=>h _ ?_;have he:∃ q,h'.get? a=some q:=let ⟨q,_,_,hq,_⟩:=dd';⟨q,hq⟩;exact TK I (by rw[e];exact True.intro) hs he (ZQ hl hd (rel.put k rv) dd')
 ·subst ey eH;cases (show u=Value.ref b from ry);obtain⟨z,hd,xs,rel,dd⟩:=anA I.hok e;have hz:xs.length<=sizeLine:=by rw[<-Paired.length rel];exact z
  have hl:(putK kvs k v).length<=sizeLine:=by have:=MA kvs k v;omega
  refine wpAny_setItem_heap (hsz:=hz) (tupleKind_room_in1 hu) (IS I.hok eb) dd fun h' dd' hs=>h _ ?_;obtain⟨q,es,ep,hq,h2,h3,h4,_,h5⟩:=dd';refine TK I (by rw[e];exact True.intro) hs ⟨q,hq⟩ ⟨hl,hd,_,(rel.put k eb rv).keeps fun c ys ec=>?_,q,es,ep,hq,h2,h3,h4,h5⟩;rw[ak (lg ec e (fun z=>nomatch z))];exact ec
end
section
variable {X:Cx} {pins:List (Addr×Obj)} {σ:St} {H:Hp} {s:Shared} {a:Addr} {kvs:List (Key×V)} {k:Key} {u:Value} {A:Around} {E:Value->Shared->Prop}
theorem anB {v:V}{more:List Value}{Q:Value->Shared->Prop}(I:Inv X pins σ H s)(e:H a=some (.dK kvs))(ry:RelV (kV k) u)(l:uo kvs k=some v)(hm:more=[]\/∃ x,more=[x])
  (h:∀ w' s',Inv X pins σ (upd H a (.dK (Oh kvs k))) s'->RelV v w'->Q w' s'):wpAny (model X.prog X.w) A (call (.builtin "dict.pop") (.ref a::u::more)) Q E s:=by
 obtain⟨z,hd,vs,rel,dd⟩:=akH I.hok e;obtain⟨w',hw,Xp⟩:=qE.some_of (v:=v) (o:=valueAt vs k) (by rw[<-l];exact rel.val k);have hp:(keyPart u).isSome=true:=by
  cases k with
  |inl i=>obtain⟨t,q⟩:=(show ∃ t,u=Value.int i t from ry);subst q;rfl
  |inr x=>obtain⟨t,q⟩:=(show ∃ t,u=Value.str x t from ry);subst q;rfl
 have ha:argsOk "dict.pop" ⟨.ref a::u::more,[]⟩:=by
  rcases hm with q|⟨x,q⟩
  ·subst q;exact PySem.F.args_dict_pop_2 _ _
  ·subst q;exact PySem.F.args_dict_pop_3 _ _ _
 refine call_meetsIn slot_dict_pop dd.typeIs PySem.F.entry_dict_pop ha (meets_dict_pop_there (cQ X.prog X.w) a (Ol ry) more hm hp)
  ⟨vs,w',dd,by rw[<-rel.length];exact z,hw,fun h' dd' hs=>h w' _ ?_ Xp⟩
 have he:∃ q,h'.get? a=some q:=let ⟨q,_,_,hq,_⟩:=dd';⟨q,hq⟩;exact TK I (by rw[e];exact True.intro) hs he (ZQ (Zh' (ag4 kvs k) z) hd (rel.drop k) dd')
theorem anC {Q:Value->Shared->Prop}(I:Inv X pins σ H s)(e:Rd H a (.dK kvs))(h:∀ t s',Inv X pins σ H s'->Q (.int kvs.length t) s'):wpAny (model X.prog X.w) A (call (.builtin "len") [.ref a]) Q E s:=by
 obtain⟨z,hd,vs,rel,dd⟩:=Cq I.hok e;refine call_len_dict hd dd (by rw[<-rel.length];rw[sizeLine_eq]at z;omega) ?_;rw[<-rel.length];exact h _ _ (I.tok _)
end
def anD (i:Expr):Prop:=∀ ov iv,subscripted i false ov iv=operate [ov,iv] (getItem ov iv)
theorem ajk {prog:Program}{w:World}{A:Around}{E:Value->Shared->Prop}{s:Shared}{env:Env}{value slice:Expr}{pos:Pos}{T id:String}{Q:Value->Shared->Prop}
  (hl:typeLookup (.type T) "__getitem__"=pure (some (.builtin id))) (hs:anD slice)
  (h:wpAny (model prog w) A (eval value env) (fun o s₁=>wpAny (model prog w) A (eval slice env) (fun i s₂=>s₂.TypeIs o T/\wpAny (model prog w) A (getItem o i) Q E s₂) E s₁) E s) :
  wpAny (model prog w) A (eval (.Subscript value slice pos) env) Q E s:=by
 refine Subscript_ (wpAny_mono h (fun o s₁ h₁=>wpAny_mono h₁ (fun i s₂ h₂=>?_) fun _ _ x=>x) fun _ _ x=>x);obtain⟨hT,h₂⟩:=h₂;unfold subscriptTail;refine L' ?_;rw[getitemInPython_of_ne hT.not_modules];refine L' (wpAny_specialOf hT hl ?_);have fin:wpAny (model prog w) A (subscripted slice false o i) (fun r s₃=>wpAny (model prog w) A (letTemporaryGo value o r >>= fun _=>pure r) Q E s₃) E s₂:=by
  rw[hs o i];exact wpAny_operating (wpAny_mono h₂ (fun r s₃ h₃=>L' (wpAny_letTemporaryGo (N' h₃))) fun _ _ x=>x)
 first
  |exact N' (L' fin)
  |exact L' (N' (L' fin))
  |exact L' fin
theorem XM {X:Cx}{pins:List (Addr×Obj)}{σ:St}{H:Hp}{s:Shared}{a:Addr}{y:V}{o:Option V}(I:Inv X pins σ H s)(g:uq H a y o):s.TypeIs (.ref a) "dict":=by
 rcases g with ⟨kvs,k,e,_,_⟩|⟨kvs,k,b,e,_,_,_⟩
 ·obtain⟨_,_,vs,_,dd⟩:=Cq I.hok e;exact dd.typeIs
 ·obtain⟨_,_,xs,_,dd⟩:=Om I.hok e;exact dd.typeIs
def anE (td ty:TE):TE:=fun σ H Q=>td σ H fun x H1=>ty σ H1 fun y H2=>∃ a v,x=.ref a/\uq H2 a y (some v)/\Q v H2
def ap6 (ty td:TE):TE:=fun σ H Q=>ty σ H fun y H1=>td σ H1 fun x H2=>∃ a o,x=.ref a/\uq H2 a y o/\Q (.bl o.isSome) H2
def ajl (ty td:TE):TE:=fun σ H Q=>ty σ H fun y H1=>td σ H1 fun x H2=>∃ a o,x=.ref a/\uq H2 a y o/\Q (.bl (!o.isSome)) H2
def anF (td ty tv:TE):TS:=fun D σ H=>tv σ H fun v H1=>td σ H1 fun x H2=>ty σ H2 fun y H3=>∃ a H4,x=.ref a/\ZP H3 a y v H4/\D.nx σ H4
section
variable {X:Cx} {o i e value:Expr} {pos pos' tpos:Pos} {td ty tv:TE}
theorem jU (hu:X.A.units+1<cLine)(ho:PE X o td)(hi:PE X i ty)(hs:anD i):PE X (.Subscript o i pos) (anE td ty):=by
 intro pins s σ H Q I h;refine ajk PySem.F.slot_dict_getitem.lookup hs (cU (ho pins s σ H _ I h) fun u s1 ⟨x,H1,I1,rx,q1⟩=>cU (hi pins s1 σ H1 _ I1 q1) fun iv s2 ⟨y,H2,I2,ry,a,v,ex,g,q2⟩=>?_);subst ex;obtain rfl:u=Value.ref a:=rx;exact⟨XM I2 g,aeo hu I2 g ry fun w' s3 I3 Xp=>⟨v,H2,I3,Xp,q2⟩⟩
theorem ag5 (hu:X.A.units+1<cLine)(hi:PE X i ty)(ho:PE X o td):PC X .In i o (ap6 ty td):=by
 intro pins s σ H Q I h;refine cU (hi pins s σ H _ I h) fun iv s1 ⟨y,H1,I1,ry,q1⟩=>cU (ho pins s1 σ H1 _ I1 q1) fun u s2 ⟨x,H2,I2,rx,a,ov,ex,g,q2⟩=>?_;subst ex;obtain rfl:u=Value.ref a:=rx;exact ap5 hu I2 g ry fun s3 I3=>⟨.bl ov.isSome,H2,I3,rfl,q2⟩
theorem IT (hu:X.A.units+1<cLine)(hi:PE X i ty)(ho:PE X o td):PC X .NotIn i o (ajl ty td):=by
 intro pins s σ H Q I h;refine cU (hi pins s σ H _ I h) fun iv s1 ⟨y,H1,I1,ry,q1⟩=>cU (ho pins s1 σ H1 _ I1 q1) fun u s2 ⟨x,H2,I2,rx,a,ov,ex,g,q2⟩=>?_;subst ex;obtain rfl:u=Value.ref a:=rx;exact ajj hu I2 g ry fun s3 I3=>⟨.bl (!ov.isSome),H2,I3,rfl,q2⟩
theorem TL (hu:X.A.units+1<cLine)(ho:PE X o td)(hi:PE X i ty)(hv:PE X value tv)(hs:swapsWith value (some (.Subscript o i pos')) pos.line X.env=pure false) :
  PS X (.Assign [.Subscript o i pos'] value pos) (anF td ty tv):=by
 intro pins s σ H D I h;refine wpAny_Assign_Subscript (cU (hv pins s σ H _ I h) fun r s1 ⟨v,H1,I1,rv,q1⟩=>cU (ho pins s1 σ H1 _ I1 q1) fun u s2 ⟨x,H2,I2,rx,q2⟩=>cU (hi pins s2 σ H2 _ I2 q2) fun iv s3 ⟨y,H3,I3,ry,a,H4,ex,g,q3⟩=>?_) hs;subst ex;obtain rfl:u=Value.ref a:=rx;exact aep hu I3 g ry rv fun s4 I4=>⟨σ,H4,I4,q3⟩
end
theorem ag6 {P:Program}{w:World}{H:Hp}(h:Heap)(hb:sysModules<h.objs.size):fu P w H (h.push { cls:=.type "dict",data:=.dict #[] }) h.objs.size (.dK []) :=
 ⟨Zj' _,beq_eq_false_iff_ne.mpr (Yb' (Zn' hb)),[],.nil,Heap.DictOf.new h⟩
def CS:TE:=fun _ H Q=>∀ p,H p=none->Q (.ref p) (upd H p (.dK []))
section
variable {X:Cx} {pos:Pos}
theorem ag7:PE X (.Dict [] [] pos) CS:=fun pins s σ H Q I h =>
 wpAny_Dict_empty ⟨.ref s.heap.objs.size,_,I.laid (a:=s.heap.objs.size) (o:=.dK []) (t':=s.toks) (fun _ _ q=>V' _ q) (Zi' _) (ag6 s.heap I.big),rfl,h _ (I.hok.fresh (Zi' _))⟩
end
def ag8:List (TE×TE)->St->Hp->(List (V×V)->Hp->Prop)->Prop
 |[],_,H,Q=>Q [] H
 |(tk,tv)::r,σ,H,Q=>tk σ H fun x H1=>tv σ H1 fun y H2=>ag8 r σ H2 fun ps H3=>Q ((x,y)::ps) H3
abbrev VV:List (V×V)->List (Value×Value)->Prop:=Paired fun p q=>RelV p.1 q.1/\RelV p.2 q.2
def PDs (X:Cx)(pos:Pos)(keys:List (Option Expr))(values:List Expr)(trs:List (TE×TE)):Prop :=
 ∀(pins:List (Addr×Obj)) (s:Shared) (σ:St) (H:Hp) (Q:List (V×V)->Hp->Prop),Inv X pins σ H s->ag8 trs σ H Q ->
  wpAny (model X.prog X.w) X.A (evalPairs (pairTrees keys values X.env pos)) (fun vs s'=>∃ ps H',Inv X pins σ H' s'/\VV ps vs/\Q ps H') X.xe s
structure M1 (X:Cx)(o:Expr)(m:Str)(apos:Pos)(e:Expr)(cpos:Pos):Prop where
 base:attributeBase o m X.env (eval o X.env)=eval o X.env
 few:((backTo cpos (starEach [e] X.env)).all (fun x=>!x.1)&&(backToKw cpos (keywordEach [] X.env)).all (fun x=>x.1.isSome)
  && decide (([e]:List Expr).length+([]:List Keyword).length+(if([]:List Keyword).isEmpty then 0 else 1)<30))=true
 line:(apos.endLine==cpos.line)=true
 trees:backTo cpos (starEach [e] X.env)=[(false,eval e X.env)]
structure M2 (X:Cx)(o:Expr)(m:Str)(apos:Pos)(e f:Expr)(cpos:Pos):Prop where
 base:attributeBase o m X.env (eval o X.env)=eval o X.env
 few:((backTo cpos (starEach [e,f] X.env)).all (fun x=>!x.1)&&(backToKw cpos (keywordEach [] X.env)).all (fun x=>x.1.isSome)
  && decide (([e,f]:List Expr).length+([]:List Keyword).length+(if([]:List Keyword).isEmpty then 0 else 1)<30))=true
 line:(apos.endLine==cpos.line)=true
 trees:backTo cpos (starEach [e,f] X.env)=[(false,eval e X.env),(false,eval f X.env)]
def IsD (H:Hp)(a:Addr):Prop:=(∃ kvs,Rd H a (.dK kvs))\/∃ kvs,Rd H a (.dT kvs)
theorem ag9 {X:Cx}{pins:List (Addr×Obj)}{σ:St}{H:Hp}{s:Shared}{a:Addr}(I:Inv X pins σ H s)(d:IsD H a) :
  s.TypeIs (.ref a) "dict"/\(∀ b,Value.ref a=.ref b->∃ ob,s.heap.get? b=some ob/\ob.dict=none)/\(a==sysModules)=false:=by
 rcases d with ⟨kvs,e⟩|⟨kvs,e⟩
 ·obtain⟨_,hd,vs,_,dd⟩:=Cq I.hok e;refine⟨dd.typeIs,fun b q=>?_,hd⟩;cases q;obtain⟨ob,_,_,h1,h2,_⟩:=dd;exact⟨ob,h1,h2.2.1⟩
 ·obtain⟨_,hd,xs,_,dd⟩:=Om I.hok e;refine⟨dd.typeIs,fun b q=>?_,hd⟩;cases q;obtain⟨ob,_,_,h1,h2,_⟩:=dd;exact⟨ob,h1,h2.2.1⟩
section
variable {X:Cx} {pins:List (Addr×Obj)} {σ:St} {H:Hp} {s:Shared} {a:Addr} {y d:V} {u r:Value} {o:Option V} {A:Around} {E:Value->Shared->Prop}
theorem alG {Q:Value->Shared->Prop}(hu:A.units+1<cLine)(I:Inv X pins σ H s)(g:uq H a y o)(ry:RelV y u)(rd:RelV d r)(h:∀ w' s',Inv X pins σ H s'->RelV (o.getD d) w'->Q w' s') :
  wpAny (model X.prog X.w) A (call (.builtin "dict.get") [.ref a,u,r]) Q E s:=by
 rcases g with ⟨kvs,k,e,ey,l⟩|⟨kvs,k,b,e,ey,eb,l⟩
 ·subst ey;obtain⟨z,hd,vs,rel,dd⟩:=Cq I.hok e;refine call_meetsIn slot_dict_get dd.typeIs entry_dict_get (args_dict_get_3 _ _ _) (meets_dict_get_default (cQ X.prog X.w) a (Ol ry) hd r) ⟨_,dd.mapOf,h _ _ (I.tok _) ?_⟩;rw[l];exact(rel.val k).getD rd
 ·subst ey;cases (show u=Value.ref b from ry);obtain⟨z,hd,xs,rel,dd⟩:=Om I.hok e;refine call_meetsIn slot_dict_get dd.typeIs entry_dict_get (args_dict_get_3 _ _ _) (meetsH_dict_get_default (tupleKind (cQ X.prog X.w)) a b hd r) ⟨tupleKind_room_in1 hu,k,xs,IS I.hok eb,dd,h _ _ (I.tok _) ?_⟩;rw[l];exact(rel.val k).getD rd
end
def alH (td ty tx:TE):TE:=fun σ H Q=>td σ H fun x H1=>∃ a,x=.ref a/\IsD H1 a/\ty σ H1 fun y H2=>tx σ H2 fun z H3=>∃ o,uq H3 a y o/\Q (o.getD z) H3
def alI (td ty:TE):TE:=fun σ H Q=>td σ H fun x H1=>∃ a,x=.ref a/\IsD H1 a/\ty σ H1 fun y H2=>∃ kvs k v,H2 a=some (.dK kvs)/\y=kV k/\uo kvs k=some v/\Q v (upd H2 a (.dK (Oh kvs k)))
section
variable {X:Cx} {o e f:Expr} {apos cpos:Pos} {td ty tx:TE}
theorem aha (hu:X.A.units+1<cLine)(ho:PE X o td)(he:PE X e ty)(hf:PE X f tx)(m:M2 X o "get" apos e f cpos):PE X (.Call (.Attribute o "get" apos) [e,f] [] cpos) (alH td ty tx):=by
 intro pins s σ H Q I h;refine wpAny_Call_method m.base m.few m.line plainAttrs_dict slot_dict_get type_dict_get (cU (ho pins s σ H _ I h) fun u s1 ⟨x,H1,I1,rx,a,ex,d,q1⟩=>?_);subst ex;obtain rfl:u=Value.ref a:=rx;obtain⟨t1,t2,_⟩:=ag9 I1 d;refine⟨t1,t2,?_⟩;rw[m.trees];refine Calls.callWith_builtin rfl (Calls.evalArgs_plain (Calls.spliced_cons (cU (he pins s1 σ H1 _ I1 q1) fun iv s2 ⟨y,H2,I2,ry,q2⟩ =>
  Calls.spliced_cons (cU (hf pins s2 σ H2 _ I2 q2) fun fv s3 ⟨z,H3,I3,rz,ov,g,q3⟩=>Calls.spliced_nil ?_))))
 exact alG hu I3 g ry rz fun w' s4 I4 Xp=>⟨_,H3,I4,Xp,q3⟩
theorem ahb (ho:PE X o td)(he:PE X e ty)(m:M1 X o "pop" apos e cpos):PE X (.Call (.Attribute o "pop" apos) [e] [] cpos) (alI td ty):=by
 intro pins s σ H Q I h;refine wpAny_Call_method m.base m.few m.line plainAttrs_dict slot_dict_pop PySem.F.type_dict_pop (cU (ho pins s σ H _ I h) fun u s1 ⟨x,H1,I1,rx,a,ex,d,q1⟩=>?_);subst ex;obtain rfl:u=Value.ref a:=rx;obtain⟨t1,t2,_⟩:=ag9 I1 d;refine⟨t1,t2,?_⟩;rw[m.trees];refine Calls.callWith_builtin rfl (Calls.evalArgs_plain (Calls.spliced_cons (cU (he pins s1 σ H1 _ I1 q1) fun iv s2 ⟨y,H2,I2,ry,kvs,k,v,ea,ey,l,q2⟩=>Calls.spliced_nil ?_)));subst ey;exact anB I2 ea ry l (.inl rfl) fun w' s3 I3 Xp=>⟨v,_,I3,Xp,q2⟩
end
section
variable {X:Cx} {pins:List (Addr×Obj)} {σ:St} {H:Hp} {s:Shared} {a:Addr} {kvs:List (Key×V)} {A:Around} {E:Value->Shared->Prop}
theorem ahc {Q:Value->Shared->Prop}(I:Inv X pins σ H s)(e:Rd H a (.dK kvs))(h:∀ p s',H p=none->Inv X pins σ (upd H p (.dK kvs)) s'->Q (.ref p) s'):wpAny (model X.prog X.w) A (call (.type "dict") [.ref a]) Q E s:=by
 obtain⟨z,hd,vs,rel,dd⟩:=Cq I.hok e;refine kt_call_dict hd dd (by rw[<-rel.length];exact z) fun h' dd' hs=>?_;refine h _ _ (I.hok.fresh (Zi' _)) (I.laid (a:=s.heap.objs.size) (o:=.dK kvs) (t':=s.toks) (fun b q hq=>?_) (Zi' _) (ZQ z (beq_eq_false_iff_ne.mpr (Yb' (Zn' I.big))) rel dd'));exact(hs.2 b (Zn' (Zc' hq))).trans (V' _ hq)
end
section
variable {X:Cx} {pins:List (Addr×Obj)} {σ:St} {H:Hp} {s:Shared} {a:Addr} {y:V} {u:Value} {A:Around} {E:Value->Shared->Prop}
end
end L2
namespace L2
open PySem PySem.Spec PyProof.Rows
section
variable {X:Cx}
theorem aer:lj X (.builtin "len") (fun xs H Q=>∃ a kvs,xs=[V.ref a]/\H a=some (.dK kvs)/\Q (.int kvs.length) H):=by
 intro pins s σ H xs us Q I r h;obtain⟨a,kvs,rfl,ha,q⟩:=h;obtain⟨u,rfl,ru⟩:=vals1 r;cases ru;exact anC I (.inl ha) fun t s' I'=>⟨.int kvs.length,H,I',⟨t,rfl⟩,q⟩
end
section
variable {κ:Type} [DecidableEq κ]
theorem ajm {kvs:List (κ×V)}{k:κ}{v:V}(h:uo kvs k=some v):k∈kvs.map (·.1):=by
 have q:(kvs.any fun kv=>decide (kv.1=k))=true:=by
  rw[zK,h]
  all_goals rfl
 obtain⟨p,hp,e⟩:=any_eq_true.mp q;exact mem_map.mpr ⟨p,hp,U' e⟩
end
end L2
namespace L2
open PySem PySem.Spec PyProof.Rows
theorem anG {P:Program}{w:World}{k:Key}{u:Value}(h:(cQ P w).is k u=true):RelV (kV k) u:=by
 rcases fc (show NZ k u=true from h) with ⟨i,t,rfl,rfl⟩|⟨x,t,rfl,rfl⟩
 ·exact⟨t,rfl⟩
 ·exact⟨t,rfl⟩
theorem akI:∀{xs:List V} {us:List Value},xs.length=us.length->(∀(i:Nat)(x:V)(u:Value),xs[i]? = some x->us[i]? = some u->RelV x u)->Vals xs us
 |[],[],_,_=>.nil
 |x::xs,u::us,hl,h=>.cons (h 0 x u rfl rfl) (akI (by simpa using hl) fun i y v e1 e2=>h (i+1) y v (by simpa using e1) (by simpa using e2))
 |[],_::_,hl,_=>by simp at hl
 |_::_,[],hl,_=>by simp at hl
section
variable {X:Cx}
theorem xG:lj X (.type "list") (fun xs H Q=>X.calm=true/\∃ p kvs,xs=[.ref p]/\Rd H p (.dK kvs)/\∀ l,H l=none->Q (.ref l) (upd H l (.lst (kvs.map fun kv=>kV kv.1)))):=by
 intro pins s σ H xs us Q I r h;obtain⟨hc,p,kvs,rfl,hp,q⟩:=h;obtain⟨u,rfl,rx⟩:=vals1 r;cases rx;obtain⟨z,hd,vs,rel,dd⟩:=Cq I.hok hp;obtain⟨ep,da⟩:=dd.dictAt;have hl:=rel.length;refine PySem.W.kdl_call (PySem.W.kdl_dict (knd:=cQ X.prog X.w) (kvs:=vs) (ep:=ep) hd) (I.ok.hd hc) da (by omega) fun h' tk acc' c' kp e it=>?_;refine⟨.ref s.heap.objs.size,_,I.laid (t':=tk) kp (Zi' _) (show fu X.prog X.w _ h' _ (.lst (kvs.map fun kv=>kV kv.1)) from⟨by rw[j'];exact z,acc'.toList,c',?_,by rw[Array.toArray_toList];exact e⟩),rfl,q _ (I.hok.fresh (Zi' _))⟩;have hk:=rel.keys;have h1:acc'.toList.length=vs.length:=by rw[Array.length_toList];exact it.1
 refine akI (by rw[j',h1,hl]) fun i x u e1 e2=>?_;obtain⟨k,y,e3,e4⟩:=it.2 i u (by rw[<-Array.getElem?_toList];exact e2);have e5:(kvs.map (·.1))[i]? = some k:=by rw[hk,Zf',e3];rfl
 have e6:(kvs.map fun kv=>kV kv.1)[i]? = some (kV k):=by
  rw[Zf']at e5 ⊢;cases e7:kvs[i]? with
  |none=>rw[e7]at e5;cases e5
  |some w=>rw[e7]at e5;cases e5;rfl
 rw[e6]at e1;cases e1;exact anG e4
theorem ZR:lj X (.type "dict") (fun xs H Q=>∃ p kvs,xs=[.ref p]/\Rd H p (.dK kvs)/\∀ l,H l=none->Q (.ref l) (upd H l (.dK kvs))):=by
 intro pins s σ H xs us Q I r h;obtain⟨p,kvs,rfl,hp,q⟩:=h;obtain⟨u,rfl,rx⟩:=vals1 r;cases rx;exact ahc I hp fun l s' hl I'=>⟨.ref l,_,I',rfl,q l hl⟩
end
section
variable {P:Program} {w:World} {K:Frag} {mg:Str->Option Value} {base:Heap}
theorem N9.Od {x qual:Str}{st:Stmt}{f:Addr}{fd:FuncData}{dV:Value}{N ps:List Str}{k:Nat}{sp:Sp}(F:N9 K x qual st f fd dV)(S:aI N ps (ae st))(len:∀ vs H Q E,sp vs H Q E->vs.length=ps.length)
  (hbody:∀(cdv:Value)(A:Around)(outer:List Env)(s:Shared)(H:Hp)(vs:List V)(Q:VK)(E:XK),kI k (A.deeper (envOfC qual (ae st) s.heap.objs.size f cdv))->sp vs H Q E ->
   ∃ t,Mv ((cj (fA P w) P w K mg base N qual (ae st) f cdv A outer s H E).wish (WD (cj (fA P w) P w K mg base N qual (ae st) f cdv A outer s H E) fun _ cls H'=>E cls none H')) (ax st) t/\t { nx:=fun _ H'=>Q .non H',rt:=Q } (start N vs) H):bI P w K mg base (fA P w) (k+1) f fd ps sp:=by
 obtain⟨oc,od,kV,doc,pm,an,cdv,ct,osl,rfl,lk,hcd⟩:=F.ex;refine ac8 lk hcd S len fun A outer s H vs Q E hr hsp=>?_;obtain⟨t,h,q⟩:=hbody cdv A outer s H vs Q E hr hsp;exact⟨t,h.agX fun _ _ z=>leaveX z,q⟩
end
end L2
namespace L2
open PySem PySem.Spec PyProof.Rows
section
variable {prog:Program} {w:World} {A:Around} {E:Value->Shared->Prop} {s:Shared}
end
section
variable {X:Cx}
end
end L2
namespace L2
open PySem PySem.Spec PyProof.Rows
section
variable {X:Cx}
def anH (i j:Int):Prop:=0<j/\j<18446744073709551616
theorem ahd:xt X (binaryOp .FloorDiv) (rI anH fun i j=>.int (i / j)):=opI fun i j _ _ _ _ _ hc q=>by
 have h1:(0:Int)<j:=hc.1;have h2:j<18446744073709551616:=hc.2;refine floordiv_int (by omega) (by rw[Int.fdiv_eq_ediv_of_nonneg i (by omega)];exact q) (.inl (PyProof.noPylong_of_log2 ?_));have h64:j.natAbs.log2<64:=(Nat.log2_lt (by omega)).mpr (by omega);omega
structure PDw (X:Cx)(pos:Pos)(keys:List (Option Expr))(values:List Expr)(trs:List (TE×TE)):Prop where
 out:PDs X pos keys values trs
theorem ajn {pos:Pos}:Nc X (.Dict [] [] pos) CS:=⟨ag7⟩
theorem ahe {es:List Expr}{ks:List (Option Expr)}{vs:List Expr}{p:Pos}{te:TE}{t:TA}(h:Nc X (.Dict ks vs p) te)(hr:BO X es t):BO X (.Dict ks vs p::es) (av te t):=⟨aa h.out hr.out⟩
theorem alJ {i:Int}{j:Nat}{p pos:Pos}:Nc X (.UnaryOp .USub (.Constant (.int i) j p) pos) (tUn (rU fun i=>V.int (-i)) (tC (.int i))):=⟨zB sF ai⟩
theorem ahf {es:List Expr}{o:UnaryOp}{e:Expr}{p:Pos}{te:TE}{t:TA}(h:Nc X (.UnaryOp o e p) te)(hr:BO X es t):BO X (.UnaryOp o e p::es) (av te t):=⟨aa h.out hr.out⟩
def alK (s:Stmt)(e:Expr):Stmt:=match s with
 |.If t [.Assign ts (.Subscript _ i sp) ap] o p=>.If t [.Assign ts (.Subscript e i sp) ap] o p
 |s=>s
def alL (s:Stmt)(e:Expr):Stmt:=match s with
 |.Assign ts _ p=>.Assign ts e p
 |s=>s
theorem alM {st:Stmt}{t:TS}(h:PS X.nox st t):PS X st t:=fun pins s σ H D I hw=>wpAny_mono (h pins s σ H D (I.wish _) hw) (fun _ _ q=>q.mR) fun _ _ z=>z.elim
def anI (i j k:Nat)(ta:TA):TS:=fun D σ H=>ta σ H fun vs H1=>∃ u v w,vs=[u,v,w]/\D.nx (((σ.set i (some u)).set j (some v)).set k (some w)) H1
theorem ajo {i j k:Nat}{x y z:Str}{a b c:Expr}{ta:TA}{px py pz pt pos:Pos}{kt k2 pt2}(hc:X.calm=true)(hN:X.N.Nodup)(hi:X.N[i]? = some x)(hj:X.N[j]? = some y)(hk:X.N[k]? = some z)(hij:i≠j)(hik:i≠k)(hjk:j≠k)
  (hx:X.env.scope.names.lookup x=some .local) (hy:X.env.scope.names.lookup y=some .local) (hz:X.env.scope.names.lookup z=some .local) (ha:PA X [a,b,c] ta)
  (hw:swappedStores [.Tuple [.Name x px,.Name y py,.Name z pz] kt pt] (.Tuple [a,b,c] k2 pt2) X.env=pure (some [x,y,z]))
  (hs:swapsWithSole [.Tuple [.Name x px,.Name y py,.Name z pz] kt pt] (.Tuple [a,b,c] k2 pt2) pos.line X.env=pure false:=by rfl) :
  PS X (.Assign [.Tuple [.Name x px,.Name y py,.Name z pz] kt pt] (.Tuple [a,b,c] k2 pt2) pos) (anI i j k ta):=by
 intro pins s σ H D I h;rw[exec_Assign_arm];refine L' (wpAny_standAt ?_);rw[hs];refine L' (N' ?_);rw[G' (by decide)];refine L' (Tuple_ (cU (ha _ pins s σ H _ I h) fun us s1 ⟨vs,H1,I1,r1,q1⟩=>?_));obtain⟨v1,v2,v3,e1,q1⟩:=q1;subst e1;obtain⟨u1,u2,u3,rfl,rv1,rv2,rv3⟩:∃ u1 u2 u3,us=[u1,u2,u3]/\RelV v1 u1/\RelV v2 u2/\RelV v3 u3:=by
  cases r1 with
  |cons p q=>cases q with
   |cons p' q'=>cases q' with
    |cons p2 q2 =>
     cases q2;exact⟨_,_,_,rfl,p,p',p2⟩
 refine wpAny_newObj_type ?_ (by show 3<=sizeLine;decide);have I2:Inv X pins σ H1 { s1 with heap:=s1.heap.push { cls:=.type "tuple",data:=.seq [u1,u2,u3].toArray } }:=I1.kept (t':=s1.toks) fun b o e=>V' _ e;rw[hw];refine L' (N' ?_);show wpAny (model X.prog X.w) X.A (do rule "assign.swapped-stores";let items <-unpackItems (.ref s1.heap.objs.size) 3 none;assignInOrder [fun v=>bindName X.env z v,fun v=>bindName X.env y v,fun v=>bindName X.env x v] items.reverse;pure Flow.next) _ _ _;refine L' (wpAny_rule (L' (unpackItems_tuple (items:=#[u1,u2,u3]) (I.ok.hd hc) (IsTup.new s1.heap _) fun h' hx'=>?_)));have I3:=I2.kept (h':=h') (t':=s1.toks) fun b o e=>hx' b o (Zn' (Zc' e)) e;show wpAny _ _ (assignInOrder [fun v=>bindName X.env z v,fun v=>bindName X.env y v,fun v=>bindName X.env x v] [u3,u2,u1] >>= fun _=>pure Flow.next) _ _ _;refine L' (assignInOrder_cons (wpAny_bindName (mQ I3 hN hk (.inl hz) rv3 (fun s2 I4=>?_) (.inr hz))));refine assignInOrder_cons (wpAny_bindName (mQ I4 hN hj (.inl hy) rv2 (fun s3 I5=>?_) (.inr hy)));refine assignInOrder_cons (wpAny_bindName (mQ I5 hN hi (.inl hx) rv1 (fun s4 I6=>assignInOrder_nil (N' ?_)) (.inr hx)));rw[List.set_comm _ _ (Yb' hij),List.set_comm _ _ (Yb' hik),List.set_comm _ _ (Yb' hjk)]at I6;exact⟨_,H1,I6,q1⟩
def ahg (K:Frag)(cls:Value)(D:Ends)(σ:St)(H:Hp):List (Addr×TS)->Prop
 |[]=>False
 |c::r=>(exmOne K cls (.ref c.1)=some true/\c.2 D σ H)\/(exmOne K cls (.ref c.1)=some false/\ahg K cls D σ H r)
def PH (X:Cx)(h:ExceptHandler)(c:Addr×TS):Prop:=∃ x np b₀ suite hpos,h=.ExceptHandler (some (.Name x np)) none (b₀::suite) hpos/\Gl X x/\X.mg x=some (.ref c.1)/\(x==("__debug__":Str))=false/\∀ pn a,Mv ((X.Mz pn).hand a) (b₀::suite) c.2
inductive PHs (X:Cx):List ExceptHandler->List (Addr×TS)->Prop
 |nil:PHs X [] []
 |cons {h:ExceptHandler} {c:Addr×TS} {hs:List ExceptHandler} {cs:List (Addr×TS)}:PH X h c->PHs X hs cs->PHs X (h::hs) (c::cs)
theorem ajp:PHs X [] []:=.nil
theorem lE {CT:Addr}{x:Str}{b₀:Stmt}{suite:List Stmt}{np hpos:Pos}{ts:TS}{hs:List ExceptHandler}{cs:List (Addr×TS)}(h:∀ pn a,Mv ((X.Mz pn).hand a) (b₀::suite) ts)(hg:Gl X x)(hm:X.mg x=some (.ref CT))(r:PHs X hs cs)(hd:(x==("__debug__":Str))=false:=by decide) :
  PHs X (.ExceptHandler (some (.Name x np)) none (b₀::suite) hpos::hs) ((CT,ts)::cs):=.cons ⟨x,np,b₀,suite,hpos,rfl,hg,hm,hd,h⟩ r
theorem handles {pins:List (Addr×Obj)}{σ:St}{H:Hp}{G B:Heap}{s1:Shared}{a:Addr}{cls a0:Value}{l:List Env}{D:Ends}(I1:Inv X pins σ H { s1 with heap:=G })(cov:∀ b o,G.get? b=some o->b ∉ frs X.stack->B.get? b=some o)(hok:X.Ok) :
  ∀{hs:List ExceptHandler} {cs:List (Addr×TS)},PHs X hs cs->∀ h5,Heap.FlyingW B l a cls a0 h5->G.UpToSlots h5->ahg X.K cls D σ H cs->wpAny (model X.prog X.w) X.A (handleBy (.ref a) X.env hs) (fun f s'=>SP X pins D f s') X.xe { s1 with heap:=h5 }:=by
 intro hs cs hh
 induction hh with
 |nil=>intro h5 _ _ p;exact p.elim
 | @cons h c hs cs h0 _ ih =>
  intro h5 fl5 U5 p;obtain⟨x,np,b₀,suite,hpos,rfl,hg,hm,hd,hsu⟩:=h0;have I5:Inv X pins σ H { s1 with heap:=h5 }:=I1.flown cov fl5.1 U5;have I5h:=I5.hand a;refine wpAny_handleBy_cons (codeAny_handlers_test (ur I5h hg hm ?_ hd)) (by intro q;cases q);obtain⟨ob,hob,hobc⟩:=fl5.there;rcases p with ⟨hx,q⟩|⟨hx,q⟩
  ·refine(exm_one (M:=model X.prog X.w) I5.xr (hobc ▸ (PySem.W.Looks.ld hob).andThen .now) hx).here ?_;refine codeAny_handlers_suite ?_;refine lands_againW fl5 fun h6 fl6 up6=>?_;have U6:=U5.trans up6;have I6:Inv X pins σ H { s1 with heap:=h6 }:=I1.flown cov fl6.1 U6;refine wpAny_mono ((hsu (X.pn++pins) a) [] _ _ _ D (I6.Mz.hand a) q) (fun f s9 z=>?_) fun _ _ z=>z.elim;cases f with
   |next=>obtain⟨σ9,H9,J,w⟩:=z;exact⟨_,H9,(J.Oe (hok.Mz _)).uz hok,w⟩
   |brk=>obtain⟨σ9,H9,J,w⟩:=z;exact⟨_,H9,(J.Oe (hok.Mz _)).uz hok,w⟩
   |cont=>obtain⟨σ9,H9,J,w⟩:=z;exact⟨_,H9,(J.Oe (hok.Mz _)).uz hok,w⟩
   |ret u=>obtain⟨v,σ9,H9,J,r,w⟩:=z;exact⟨v,_,H9,(J.Oe (hok.Mz _)).uz hok,r,w⟩
  ·refine(exm_one (M:=model X.prog X.w) I5.xr (hobc ▸ (PySem.W.Looks.ld hob).andThen .now) hx).here ?_;exact ih h5 fl5 U5 q
def anJ (K:Frag)(cs:List (Addr×TS))(tb:XSt->TS):TS:=fun D σ H=>tb (fun σ' cls H'=>ahg K cls D σ' H' cs) D σ H
theorem ajq {body:List Stmt}{h₀:ExceptHandler}{hs:List ExceptHandler}{cs:List (Addr×TS)}{pos:Pos}{tb:XSt->TS}
  (hb:∀ pn XS,Mv ((X.Mz pn).wish (WX (X.Mz pn) XS)) body (tb XS)) (hh:PHs X (h₀::hs) cs) (hst:X.stack=X.env::X.outer) (hfr:X.env.frame=some X.env.locals) :
  PS X (.Try body (h₀::hs) [] [] pos) (anJ X.K cs tb):=by
 intro pins s σ H D I h;refine wpAny_Try_except (wpAny_mono (hb (X.pn++pins) _ [] s σ H D (I.Mz.wish _) h) (fun f s1 q=>?_) fun ev s1 z=>?_)
 ·have q':SP X pins D f s1:=q.mR.uz I.ok;cases f with
  |next=>exact wpAny_execs_nil q'
  |brk=>exact q'
  |cont=>exact q'
  |ret u=>exact q'
 ·obtain⟨Se,σ',H',G,a,cls,rfl,I',⟨B,a0,cov,fl,up,hn⟩,q⟩:=z;have I1:Inv X pins σ' H' { s1 with heap:=G }:=I'.uz I.ok;have hF:X.A.frames=some (X.env::X.outer):=by rw[<-hst];exact I.ok.frames
  have fl:Heap.FlyingW B (X.env::X.outer) a cls a0 s1.heap:=by rw[<-hst];exact fl
  refine wpAny_looks_onW hF hfr fl fun h4 ag0 up4=>?_;refine wpAny_landsW ag0 fun h5 fl5 up5=>?_;exact handles I1 cov I.ok hh h5 fl5 ((up.trans up4).trans up5) q
end
end L2
set_option maxHeartbeats 1000000
namespace IU
open PySem L2
inductive Kd where
 |G|D|R|s|d|r|dot|three|two
 deriving DecidableEq,Repr
def Kd.str:Kd->Str
 |.G=>"G" | .D=>"D" | .R=>"R" | .s=>"s" | .d=>"d" | .r=>"r" | .dot=>"." | .three=>"3" | .two=>"2"
def Kd.cp:Kd->Nat
 |.G=>71|.D=>68|.R=>82|.s=>115|.d=>100|.r=>114|.dot=>46|.three=>51|.two=>50
def Kd.great:Kd->Bool
 |.G=>true|.D=>true|.R=>true|_=>false
def Kd.small:Kd->Bool
 |.s=>true|.d=>true|.r=>true|_=>false
def Kd.parting:Kd->Bool
 |.dot=>true|.three=>true|.two=>true|_=>false
def Kd.meas:Kd->Bool
 |.three=>true|.two=>true|_=>false
def Kd.sI:Kd->Bool
 |.G=>true|.D=>true|.s=>true|.d=>true|_=>false
def uA:Option Kd->Str
 |some k=>k.str
 |none=>""
abbrev Sg:=Kd×Int
def Rl (x y:Str):Bool:=!(Builtin.Str.occurrences y x 0 y.length 1).isEmpty
theorem anK (k:Kd):k.str=⟨#[k.cp]⟩:=by cases k <;> decide +kernel
theorem str_inj {a b:Kd}:a.str=b.str ↔ a=b:=by
 constructor
 ·revert a b
  have:∀ a b:Kd,a.str=b.str->a=b:=by
   intro a b;cases a <;> cases b <;> first|(intro _;rfl)|(intro h;exact P' h (by lk))
  exact fun {a b}=>this a b
 ·exact fun h=>by rw[h]
theorem XN {a b:Option Kd}:uA a=uA b ↔ a=b:=by
 constructor
 ·have:∀ a b:Option Kd,uA a=uA b->a=b:=by
   intro a b;cases a with
   |none=>cases b with
    |none=>intro _;rfl
    |some b=>cases b <;> (intro h;exact P' h (by lk))
   |some a=>cases b with
    |none=>cases a <;> (intro h;exact P' h (by lk))
    |some b=>intro h;exact R' some (str_inj.mp h)
  exact fun h=>this a b h
 ·exact fun h=>by rw[h]
theorem ajr (a b:Str):decide (V.str a=V.str b)=decide (a=b):=by
 by_cases h:a=b
 ·rw[h];simp
 ·rw[X' h];exact X' fun e=>h (V.str.inj e)
theorem aes (a b:Kd):decide (V.str a.str=V.str b.str)=decide (a=b):=by
 rw[ajr];exact decide_eq_decide.mpr str_inj
theorem anL (a b:Option Kd):decide (V.str (uA a)=V.str (uA b))=decide (a=b):=by
 rw[ajr];exact decide_eq_decide.mpr XN
theorem o_G (o:Option Kd):decide (V.str (uA o)=V.str "G")=decide (o=some .G):=anL o (some .G)
theorem k_G (k:Kd):decide (V.str k.str=V.str "G")=decide (k=.G):=aes k .G
theorem k_D (k:Kd):decide (V.str k.str=V.str "D")=decide (k=.D):=aes k .D
theorem o_s (o:Option Kd):decide (V.str (uA o)=V.str "s")=decide (o=some .s):=anL o (some .s)
theorem k_s (k:Kd):decide (V.str k.str=V.str "s")=decide (k=.s):=aes k .s
theorem anM (k:Kd):decide (V.str k.str=V.str ".")=decide (k=.dot):=aes k .dot
theorem TM (k:Kd):decide (V.str k.str=V.str "3")=decide (k=.three):=aes k .three
theorem ahh (k:Kd):decide (V.str k.str=V.str "2")=decide (k=.two):=aes k .two
def XO (H:Hp)(v:V)(s:Sg):Prop:=∃ p,v=.ref p/\H p=some (.tup [.str s.1.str,.int s.2])
theorem XO.same {H H':Hp}{v:V}{s:Sg}(e:aq H H')(h:XO H v s):XO H' v s:=by
 obtain⟨p,rfl,q⟩:=h;exact⟨p,rfl,e _ _ q⟩
abbrev qo (H:Hp):List V->List Sg->Prop:=Paired (XO H)
theorem qo.same {H H':Hp}(e:aq H H'):∀{xs:List V} {ss:List Sg},qo H xs ss->qo H' xs ss
 |_,_,.nil=>.nil
 |_,_,.cons a b=>.cons (a.same e) (qo.same e b)
theorem zL {α β:Type}{F:α->β->Prop}:∀{xs:List α} {ys:List β} {i:Nat} {x:α},Paired F xs ys->xs[i]? = some x->∃ y,ys[i]? = some y/\F x y
 |_,_,_,_,.nil,e=>by simp at e
 |_,_,0,_,.cons r _,e=>by simp at e;subst e;exact⟨_,rfl,r⟩
 |_,_,i+1,x,.cons _ t,e=>by
  obtain⟨u,h1,h2⟩:=zL (i:=i) (x:=x) t (by simpa using e);exact⟨u,by simpa using h1,h2⟩
theorem wt {α β:Type}{F:α->β->Prop}:∀{xs:List α} {ys:List β} {i:Nat} {y:β},Paired F xs ys->ys[i]? = some y->∃ x,xs[i]? = some x/\F x y
 |_,_,_,_,.nil,e=>by simp at e
 |_,_,0,_,.cons r _,e=>by simp at e;subst e;exact⟨_,rfl,r⟩
 |_,_,i+1,x,.cons _ t,e=>by
  obtain⟨u,h1,h2⟩:=wt (i:=i) t (by simpa using e);exact⟨u,by simpa using h1,h2⟩
theorem ck {α β:Type}{F:α->β->Prop}{xs:List α}{ys:List β}(h:Paired F xs ys):xs.length=ys.length:=Paired.length h
theorem lF {α β:Type}{F:α->β->Prop}:∀{xs:List α} {ys:List β} {x:α} {y:β},Paired F xs ys->F x y->Paired F (xs++[x]) (ys++[y])
 |_,_,_,_,.nil,h=>.cons h .nil
 |_,_,_,_,.cons a b,h=>.cons a (lF b h)
theorem IV {α β:Type}{F:α->β->Prop}:∀{xs:List α} {ys:List β} {xs':List α} {ys':List β},Paired F xs ys->Paired F xs' ys'->Paired F (xs++xs') (ys++ys')
 |_,_,_,_,.nil,h=>h
 |_,_,_,_,.cons a b,h=>.cons a (IV b h)
theorem MB {α β:Type}{F:α->β->Prop}:∀{xs:List α} {ys:List β} (n:Nat),Paired F xs ys->Paired F (xs.drop n) (ys.drop n)
 |_,_,0,h=>h
 |_,_,n+1,.nil=>.nil
 |_,_,n+1,.cons a b=>MB n b
theorem MC {α β:Type}{F:α->β->Prop}:∀{xs:List α} {ys:List β} (n:Nat),Paired F xs ys->Paired F (xs.take n) (ys.take n)
 |_,_,0,h=>.nil
 |_,_,n+1,.nil=>.nil
 |_,_,n+1,.cons a b=>.cons a (MC n b)
theorem cK {α β:Type}{F G:α->β->Prop}(h:∀ x y,F x y->G x y):∀{xs:List α} {ys:List β},Paired F xs ys->Paired G xs ys
 |_,_,.nil=>.nil
 |_,_,.cons a b=>.cons (h _ _ a) (cK h b)
theorem gb {H0 H:Hp}{l:Addr}{o:HO}(s:aq H0 H)(hl:H0 l=none):aq H0 (upd H l o):=fun b u e=>by
 rw[ak (ao e hl)];exact s b u e
theorem ahi {H:Hp}{D:Addr}{o:HO}{zs:List V}{v:V}{s:Sg}(hD:H D=some (.lst zs))(h:XO H v s):XO (upd H D o) v s:=by
 obtain⟨p,e,q⟩:=h;exact⟨p,e,by rw[ak (lg q hD (by intro z;cases z))];exact q⟩
theorem ahj {H:Hp}{D:Addr}{o:HO}{zs:List V}{xs:List V}{ss:List Sg}(hD:H D=some (.lst zs))(h:qo H xs ss):qo (upd H D o) xs ss:=cK (fun _ _ q=>ahi hD q) h
theorem TN {ms:List Int}{i:Nat}{x:V}(h:(ms.map V.int)[i]? = some x):∃ z,ms[i]? = some z/\x=V.int z:=by
 rw[Zf']at h;cases e:ms[i]? with
 |none=>rw[e]at h;cases h
 |some z=>rw[e]at h;exact⟨z,rfl,(Zb' h).symm⟩
section
variable {K:Frag} {H:Hp} {p:Addr} {Q:VK}
theorem ix0 {a b:V}(h:H p=some (.tup [a,b]))(q:Q a H):Tu K (.ref p) (.int 0) H Q\/Tv K (.ref p) (.int 0) H Q\/Tw (.ref p) (.int 0) H Q:=.inr (.inl ⟨p,_,0,a,rfl,rfl,vH.of h,rfl,q⟩)
theorem ix1 {a b:V}(h:H p=some (.tup [a,b]))(q:Q b H):Tu K (.ref p) (.int 1) H Q\/Tv K (.ref p) (.int 1) H Q\/Tw (.ref p) (.int 1) H Q:=.inr (.inl ⟨p,_,1,b,rfl,rfl,vH.of h,rfl,q⟩)
theorem Xk {xs:List V}{i:Int}{n:Nat}{v:V}(h:bh K H p xs)(hn:i=n)(e:xs[n]? = some v)(q:Q v H):Tu K (.ref p) (.int i) H Q\/Tv K (.ref p) (.int i) H Q\/Tw (.ref p) (.int i) H Q:=.inl ⟨p,xs,i,v,rfl,rfl,h,by rw[hn];exact Fu e,q⟩
theorem Rm {xs:List V}{ss:List Sg}{i:Int}{n:Nat}{s:Sg}(h:bh K H p xs)(g:qo H xs ss)(hn:i=n)(e:ss[n]? = some s)(q:∀ b,H b=some (.tup [.str s.1.str,.int s.2])->Q (.ref b) H) :
  Tu K (.ref p) (.int i) H Q\/Tv K (.ref p) (.int i) H Q\/Tw (.ref p) (.int i) H Q:=by
 obtain⟨x,hx,b,rfl,hb⟩:=wt g e;exact Xk h hn hx (q b hb)
theorem ahk {ns:List Int}{i:Int}{n:Nat}{z:Int}(h:bh K H p (ns.map V.int))(hn:i=n)(e:ns[n]? = some z)(q:Q (.int z) H):Tu K (.ref p) (.int i) H Q\/Tv K (.ref p) (.int i) H Q\/Tw (.ref p) (.int i) H Q :=
 Xk h hn (by rw[Zf',e];rfl) q
end
def nm (m:Int):Kd->Int
 |.three=>3
 |.two=>2
 |_=>m
def Ms (m:Int):Prop:=m=3\/m=2
theorem Ms.nm {m:Int}(h:Ms m)(k:Kd):Ms (nm m k):=by
 cases k <;> first|exact h|exact .inl rfl|exact .inr rfl
def jV (m:Int):List Kd->List Int
 |[]=>[]
 |k::t=>nm m k::jV (nm m k) t
theorem IW (m:Int)(ks:List Kd):(jV m ks).length=ks.length:=by
 induction ks generalizing m with
 |nil=>rfl
 |cons k t ih=>simp[jV,ih]
def pw:Kd->Int->Int
 |.G,m=>if m=2 then 2 else 3
 |.R,m=>if m=2 then 2 else 3
 |.D,_=>2
 |.s,_=>1
 |.d,_=>1
 |.r,_=>1
 |_,_=>0
def bw (m:Int)(k:Kd)(n:Option Kd):Int:=if m=2/\k=.G/\n=some .dot then 3 else pw k m
def ki (m:Int):List Kd->List Int
 |[]=>[]
 |k::t=>bw (nm m k) k t.head? :: ki (nm m k) t
def CU:List Kd->List Int->List Int
 |k::t,m::ms=>bw m k t.head? :: CU t ms
 |_,_=>[]
theorem XQ (m:Int)(ks:List Kd):CU ks (jV m ks)=ki m ks:=by
 induction ks generalizing m with
 |nil=>rfl
 |cons k t ih=>simp[jV,CU,ki,ih]
theorem wu (m:Int)(ks:List Kd):(ki m ks).length=ks.length:=by
 induction ks generalizing m with
 |nil=>rfl
 |cons k t ih=>simp[ki,ih]
def inR (m:Int)(k:Kd):Bool:=decide (m≠2)&&k.small
def lG (m:Int):List Kd->List Bool
 |[]=>[]
 |k::t=>inR (nm m k) k::lG (nm m k) t
theorem sJ (m:Int)(ks:List Kd):(lG m ks).length=ks.length:=by
 induction ks generalizing m with
 |nil=>rfl
 |cons k t ih=>simp[lG,ih]
def XR:List Kd->List Int->List Bool
 |k::t,m::ms=>inR m k::XR t ms
 |_,_=>[]
theorem ZS (m:Int)(ks:List Kd):XR ks (jV m ks)=lG m ks:=by
 induction ks generalizing m with
 |nil=>rfl
 |cons k t ih=>simp[jV,XR,lG,ih]
def gn (at' first:Nat):List Bool->List (Nat×Nat)
 |[]=>if first<at' then [(first,at')] else []
 |true::t=>gn (at'+1) first t
 |false::t=>(if first<at' then [(first,at')] else [])++gn (at'+1) (at'+1) t
def zd (m:Int)(ks:List Kd):List (Nat×Nat):=gn 0 0 (lG m ks)
def TQ (ks:List Kd)(i:Int):Option Kd:=if 0<=i then ks[i.toNat]? else none
theorem uB (ks:List Kd)(n:Nat):TQ ks (n:Int)=ks[n]?:=by
 unfold TQ;rw[K' (by omega)];rfl
def vK:Option Kd->Bool
 |some k=>k.great
 |none=>false
def lH (ks:List Kd)(f:List Int)(a:Nat):Bool:=decide (TQ ks ((a:Int)-1)=some .G)&&decide (f.getD (a-1) 0=3)
def i4 (ks:List Kd)(z:Nat):Bool:=decide (ks[z]? = some .G) && !vK ks[z+1]?
def Fy (ks:List Kd)(f:List Int)(a z:Nat):Bool×List Int:=if lH ks f a then(true,f.set (a-1) 2) else if i4 ks z then(true,f.set z 2) else(false,f)
def Fz (ks:List Kd)(f:List Int)(a z:Nat):Bool×List Int:=if vK ks[z]? && decide (ks[z-1]? = some .s) then(true,f.set (z-1) 2) else if lH ks f a&&i4 ks z then(true,(f.set (a-1) 2).set z 2) else(false,f)
def settle (ks:List Kd)(f:List Int)(a z:Nat):Bool×List Int:=if(z-a) % 3=1 then Fy ks f a z else if(z-a) % 3=2 then Fz ks f a z else(true,f)
theorem CW (ks:List Kd)(f:List Int)(a z:Nat):(settle ks f a z).2.length=f.length:=by
 unfold settle Fy Fz
 repeat' split
 all_goals simp
abbrev RdS:=List Int×List (Nat×Nat)
def vL (ks:List Kd)(c:RdS)(p:Nat×Nat):RdS:=((settle ks c.1 p.1 p.2).2,if(settle ks c.1 p.1 p.2).1 then c.2 else c.2++[p])
def mx (m:Int)(ks:List Kd):RdS:=(zd m ks).foldl (vL ks) (ki m ks,[])
theorem ahl (ks:List Kd)(rs:List (Nat×Nat))(c:RdS):(rs.foldl (vL ks) c).1.length=c.1.length:=by
 induction rs generalizing c with
 |nil=>rfl
 |cons p t ih=>rw[List.foldl_cons,ih];exact CW ..
theorem BP (m:Int)(ks:List Kd):(mx m ks).1.length=ks.length:=by
 unfold mx;rw[ahl,wu]
theorem Oo:∀(bs:List Bool)(at' first:Nat),first<=at'->∀ p∈gn at' first bs,first<=p.1/\p.1<p.2/\p.2<=at'+bs.length
 |[],at',first,h,p,hp=>by
  unfold gn at hp;split at hp
  ·have:p=(first,at'):=by simpa using hp
   subst this;exact⟨Zi' _,by assumption,by simp⟩
  ·cases hp
 |true::t,at',first,h,p,hp=>by
  have:=Oo t (at'+1) first (by omega) p hp
  simp only [Zp'];omega
 |false::t,at',first,h,p,hp=>by
  unfold gn at hp;simp only [Zp'];rcases Zk'.mp hp with hp|hp
  ·split at hp
   ·have:p=(first,at'):=by simpa using hp
    subst this;exact⟨Zi' _,by assumption,by simp⟩
   ·cases hp
  ·have:=Oo t (at'+1) (at'+1) (Zi' _) p hp;omega
theorem ahm (m:Int)(ks:List Kd):∀ p∈zd m ks,p.1<p.2/\p.2<=ks.length:=by
 intro p hp;have:=Oo (lG m ks) 0 0 (Zi' _) p hp;rw[sJ]at this;omega
theorem qp:∀(bs:List Bool)(at' first:Nat),(gn at' first bs).length<=bs.length+1
 |[],at',first=>by unfold gn;split <;> simp
 |true::t,at',first=>by
  unfold gn;have:=qp t (at'+1) first
  simp only [Zp'];omega
 |false::t,at',first=>by
  unfold gn;have:=qp t (at'+1) (at'+1);simp only [Zp',Z'];split <;> simp <;> omega
def aet (H:Hp)(v:V)(q:Nat×Nat):Prop:=∃ p,v=.ref p/\H p=some (.tup [.int (q.1:Int),.int (q.2:Int)])
abbrev ZT (H:Hp):List V->List (Nat×Nat)->Prop:=Paired (aet H)
theorem aet.same {H H':Hp}{v:V}{q:Nat×Nat}(e:aq H H')(h:aet H v q):aet H' v q:=by
 obtain⟨p,rfl,z⟩:=h;exact⟨p,rfl,e _ _ z⟩
theorem uC {H H':Hp}(e:aq H H'){xs:List V}{qs:List (Nat×Nat)}(h:ZT H xs qs):ZT H' xs qs:=cK (fun _ _ z=>z.same e) h
theorem XT {H:Hp}{D:Addr}{o:HO}{zs:List V}{v:V}{q:Nat×Nat}(hD:H D=some (.lst zs))(h:aet H v q):aet (upd H D o) v q:=by
 obtain⟨p,e,z⟩:=h;exact⟨p,e,by rw[ak (lg z hD (by intro z;cases z))];exact z⟩
theorem sL {H:Hp}{D:Addr}{o:HO}{zs:List V}{xs:List V}{qs:List (Nat×Nat)}(hD:H D=some (.lst zs))(h:ZT H xs qs):ZT (upd H D o) xs qs:=cK (fun _ _ q=>XT hD q) h
theorem FA {H:Hp}{a:Addr}{o:HO}(h:H a=some o):upd H a o=H:=by
 funext b
 unfold upd;split
 ·rename_i e;rw[e,h]
 ·rfl
theorem IX {ks:List Kd}{f:List Int}{a:Nat}(h:lH ks f a=true):1<=a/\a-1<ks.length:=by
 unfold lH at h;have h1:=U' (Bool.and_eq_true_iff.mp h).1;unfold TQ at h1;split at h1
 ·have:=(S'.mp h1).1;omega
 ·cases h1
theorem CY {ks:List Kd}{z:Nat}(h:i4 ks z=true):z<ks.length:=by
 unfold i4 at h;have h1:=U' (Bool.and_eq_true_iff.mp h).1;exact(S'.mp h1).1
theorem uD {n:Nat}{i:Int}{j:Nat}(e:i=j)(h:j<n):ixN n i=some j:=by
 unfold ixN;subst e;rw[K' (by omega),K' (by omega)];rfl
theorem rL {α:Type}{l:List α}{i:Nat}{x:α}(h:l[i]? = some x):l.drop i=x::l.drop (i+1):=by
 obtain⟨hi,e⟩:=S'.mp h;rw[List.drop_eq_getElem_cons hi,e]
theorem zM {α β:Type}{l:List α}{f:α->β}{i:Nat}{x:α}(h:l[i]? = some x):(l.map f)[i]? = some (f x):=by rw[Zf',h];rfl
abbrev bO (ss:List Sg):List Kd:=ss.map Prod.fst
theorem qc {fs:List Int}{j:Nat}{v:Int}:(fs.map V.int).set j (V.int v)=(fs.set j v).map V.int:=by rw[List.map_set]
theorem big {n:Nat}(h:n<=1000):n<=sizeLine:=Nat.le_of_lt (ba h)
theorem head_drop {α:Type}(l:List α)(i:Nat):(l.drop i).head? = l[i]?:=by
 rw[List.head?_drop]
def lY (m:Int):List Kd->List Bool
 |[]=>[]
 |k::t=>decide (nm m k=3)::lY (nm m k) t
theorem ZU (m:Int)(ks:List Kd):(lY m ks).length=ks.length:=by
 induction ks generalizing m with
 |nil=>rfl
 |cons k t ih=>simp[lY,ih]
def lead:List Bool->Nat
 |true::t=>lead t+1
 |_=>0
theorem adq:∀ bs:List Bool,lead bs<=bs.length
 |[]=>Zi' _
 |true::t=>by simp only [lead,Zp'];have:=adq t;omega
 |false::t=>Zj' _
theorem Oq:∀(bs:List Bool)(at' first:Nat),first<at'+lead bs\/lead bs=0->first<=at'->gn at' first bs=(if first<at'+lead bs then [(first,at'+lead bs)] else [])++gn (at'+lead bs) (at'+lead bs) (bs.drop (lead bs))
 |[],at',first,_,h=>by
  show(if first<at' then [(first,at')] else [])=(if first<at' then [(first,at')] else [])++gn at' at' [];rw[show gn at' at' []=[] by unfold gn;rw[G' (Nat.lt_irrefl _)],append_nil]
 |true::t,at',first,h0,h=>by
  have ih:=Oq t (at'+1) first (.inl (by omega)) (by omega)
  have e:at'+1+lead t=at'+(lead t+1):=by omega
  rw[e]at ih;simp only [gn,lead,List.drop_succ_cons];exact ih
 |false::t,at',first,_,h=>by
  show(if first<at' then [(first,at')] else [])++gn (at'+1) (at'+1) t=(if first<at' then [(first,at')] else [])++((if at'<at' then [(at',at')] else [])++gn (at'+1) (at'+1) t);rw[G' (Nat.lt_irrefl at'),nil_append]
theorem ads {m:Int}(h:Ms m):∀(ks:List Kd)(i:Nat)(k:Kd),ks[i]? = some k->∃ b,(lY m ks)[i]? = some b/\(lG m ks)[i]? = some (k.small&&b)
 |[],i,k,e=>by simp at e
 |c::t,0,k,e=>by
  have:c=k:=by simpa using e
  subst this;refine⟨decide (nm m c=3),rfl,?_⟩;simp only [lG,List.getElem?_cons_zero,inR];have hm:=h.nm c;rcases hm with e|e <;> rw[e] <;> cases c <;> rfl
 |c::t,i+1,k,e=>by
  obtain⟨b,h1,h2⟩:=ads (h.nm c) t i k (by simpa using e);exact⟨b,by simpa [lY] using h1,by simpa [lG] using h2⟩
theorem adt:∀(bs:List Bool)(j:Nat),j<=lead bs->(j<lead bs ↔ bs[j]? = some true)
 |[],j,h=>by simp[lead]
 |true::t,0,h=>by simp[lead]
 |true::t,j+1,h=>by
  have:=adt t j (by simp only [lead]at h;omega);simp only [lead,List.getElem?_cons_succ];rw[<-this];omega
 |false::t,j,h=>by
  have:j=0:=by simp only [lead]at h;omega
  subst this;simp[lead]
theorem alN {m:Int}{ks:List Kd}{low j:Nat}:((lG m ks).drop low)[j]? = (lG m ks)[low+j]?:=by rw[getElem?_drop]
theorem ahn (xs:List V)(n:Nat):Ft xs none (some (n:Int))=xs.take n:=by
 unfold Ft;have e:HT.oB xs.length xs.length (some (n:Int))=min n xs.length:=HT.ac9 xs.length xs.length n;rw[HT.N4,e,Nat.sub_zero,List.drop_zero];rcases Nat.le_total n xs.length with h|h
 ·rw[Nat.min_eq_left h]
 ·rw[Nat.min_eq_right h,take_length,List.take_of_length_le h]
theorem adu (xs:List V)(n:Nat)(h:n<=xs.length):Ft xs (some (n:Int)) none=xs.drop n:=by
 unfold Ft;have e:HT.oB xs.length 0 (some (n:Int))=min n xs.length:=HT.ac9 xs.length 0 n;rw[HT.N4,e,Nat.min_eq_left h];exact List.take_of_length_le (by rw[length_drop];omega)
theorem anN {K:Frag}{H:Hp}{p p2:Addr}{s:Sg}(n:Nat)(h1:H p=some (.tup [.str s.1.str,.int s.2]))(h2:H p2=some (.tup [.str s.1.str,.int s.2])):Deq K H (n+1) (.ref p) (.ref p2):=by
 refine .tup (vH.of h1) (vH.of h2) rfl fun i x y e1 e2=>?_;have e:x=y:=Zb' (e1.symm.trans e2);subst e
 match i,e1 with
 |0,e1=>cases e1;exact .flat rfl
 |1,e1=>cases e1;exact .flat rfl
 |n+2,e1=>simp at e1
def PrI (H:Hp)(v:V)(q:Int×Int):Prop:=∃ p,v=.ref p/\H p=some (.tup [.int q.1,.int q.2])
abbrev asr (H:Hp):List V->List (Int×Int)->Prop:=Paired (PrI H)
structure aqa (H0 H:Hp)(l:Addr)(xs:List V)(ss:List Sg):Prop where
 same:aq H0 H
 new:H0 l=none
 at':H l=some (.lst xs)
 sg:qo H xs ss
def Ot (K:Frag):Sp:=fun vs H Q _=>∃(a:Addr)(ns:List Int),vs=[.ref a]/\bh K H a (ns.map V.int)/\ns.length<=63/\∀ H',Q (.bl true) H'
theorem aeu {K:Frag}{H:Hp}{a:Addr}{ns:List Int}(hl:ns.length<=63)(_:Only H)(hS:bh K H a (ns.map V.int)):Ot K [.ref a] H (fun v _=>v=.bl true) fun _ _ _=>False :=
 ⟨a,ns,rfl,hS,hl,fun _=>rfl⟩
theorem vM {k:Str}{v:V}{r:List (Str×V)}:((k,v)::r).lookup k=some v:=by simp[List.lookup]
theorem aS {k g:Str}{v:V}{r:List (Str×V)}(h:¬ g=k):((k,v)::r).lookup g=r.lookup g:=by
 have:(g==k)=false:=beq_eq_false_iff_ne.mpr h;simp[List.lookup,this]
theorem lN {k g:Str}{x y:V}{r:List (Str×V)}(h:¬ g=k):oC k y ((g,x)::r)=(g,x)::oC k y r:=G' h
def voF (n:Str)(tm:V)(L:Addr):List (Str×V):=[("name",V.str n),("terms",tm),("signs",V.ref L)]
theorem XU (n:Str)(tm:V)(L:Addr):(voF n tm L).lookup ("name":Str)=some (V.str n):=vM
theorem BQ (n:Str)(tm:V)(L:Addr):(voF n tm L).lookup ("terms":Str)=some (tm):=(aS (by lk)).trans (vM)
theorem wx (n:Str)(tm:V)(L:Addr):(voF n tm L).lookup ("signs":Str)=some (V.ref L):=(aS (by lk)).trans ((aS (by lk)).trans (vM))
theorem TR (v0:V):oC "name" v0 ([]:List (Str×V))=([("name",v0)]:List (Str×V)):=rfl
theorem adv (v0 v1:V):oC "terms" v1 ([("name",v0)]:List (Str×V))=([("name",v0),("terms",v1)]:List (Str×V)):=(lN (by lk)).trans (R' _ (rfl))
theorem ajs (v0 v1 v2:V):oC "signs" v2 ([("name",v0),("terms",v1)]:List (Str×V))=([("name",v0),("terms",v1),("signs",v2)]:List (Str×V)):=(lN (by lk)).trans (R' _ ((lN (by lk)).trans (R' _ (rfl))))
def MD (T:Addr)(at_:Int)(B A:Addr):List (Str×V):=[("things",V.ref T),("at",V.int at_),("before",V.ref B),("after",V.ref A)]
theorem Ou (T:Addr)(at_:Int)(B A:Addr):(MD T at_ B A).lookup ("things":Str)=some (V.ref T):=vM
theorem TV (T:Addr)(at_:Int)(B A:Addr):(MD T at_ B A).lookup ("at":Str)=some (V.int at_):=(aS (by lk)).trans (vM)
theorem Ov (T:Addr)(at_:Int)(B A:Addr):(MD T at_ B A).lookup ("before":Str)=some (V.ref B):=(aS (by lk)).trans ((aS (by lk)).trans (vM))
theorem Sy (T:Addr)(at_:Int)(B A:Addr):(MD T at_ B A).lookup ("after":Str)=some (V.ref A):=(aS (by lk)).trans ((aS (by lk)).trans ((aS (by lk)).trans (vM)))
theorem Sz (T:Addr)(at_:Int)(B A:Addr):(MD T at_ B A).lookup ("do":Str)=none:=(aS (by lk)).trans ((aS (by lk)).trans ((aS (by lk)).trans ((aS (by lk)).trans (rfl))))
theorem XW (T:Addr)(at_:Int)(B A:Addr):(MD T at_ B A).lookup ("undo":Str)=none:=(aS (by lk)).trans ((aS (by lk)).trans ((aS (by lk)).trans ((aS (by lk)).trans (rfl))))
theorem NU (v0:V):oC "things" v0 ([]:List (Str×V))=([("things",v0)]:List (Str×V)):=rfl
theorem TX (v0 v1:V):oC "at" v1 ([("things",v0)]:List (Str×V))=([("things",v0),("at",v1)]:List (Str×V)):=(lN (by lk)).trans (R' _ (rfl))
theorem adw (v0 v1 v2:V):oC "before" v2 ([("things",v0),("at",v1)]:List (Str×V))=([("things",v0),("at",v1),("before",v2)]:List (Str×V)):=(lN (by lk)).trans (R' _ ((lN (by lk)).trans (R' _ (rfl))))
theorem ajt (v0 v1 v2 v3:V):oC "after" v3 ([("things",v0),("at",v1),("before",v2)]:List (Str×V))=([("things",v0),("at",v1),("before",v2),("after",v3)]:List (Str×V)):=(lN (by lk)).trans (R' _ ((lN (by lk)).trans (R' _ ((lN (by lk)).trans (R' _ (rfl))))))
def Fn (V_ D U:Addr):List (Str×V):=[("voices",V.ref V_),("done",V.ref D),("undone",V.ref U)]
theorem lZ (V_ D U:Addr):(Fn V_ D U).lookup ("voices":Str)=some (V.ref V_):=vM
theorem FC (V_ D U:Addr):(Fn V_ D U).lookup ("done":Str)=some (V.ref D):=(aS (by lk)).trans (vM)
theorem xH (V_ D U:Addr):(Fn V_ D U).lookup ("undone":Str)=some (V.ref U):=(aS (by lk)).trans ((aS (by lk)).trans (vM))
theorem IY (V_ D U:Addr):(Fn V_ D U).lookup ("add_voice":Str)=none:=(aS (by lk)).trans ((aS (by lk)).trans ((aS (by lk)).trans (rfl)))
theorem wz (V_ D U:Addr):(Fn V_ D U).lookup ("add_canon":Str)=none:=(aS (by lk)).trans ((aS (by lk)).trans ((aS (by lk)).trans (rfl)))
theorem ME (V_ D U:Addr):(Fn V_ D U).lookup ("drop":Str)=none:=(aS (by lk)).trans ((aS (by lk)).trans ((aS (by lk)).trans (rfl)))
theorem Ow (V_ D U:Addr):(Fn V_ D U).lookup ("put":Str)=none:=(aS (by lk)).trans ((aS (by lk)).trans ((aS (by lk)).trans (rfl)))
theorem Ox (V_ D U:Addr):(Fn V_ D U).lookup ("cut":Str)=none:=(aS (by lk)).trans ((aS (by lk)).trans ((aS (by lk)).trans (rfl)))
theorem MF (V_ D U:Addr):(Fn V_ D U).lookup ("swap":Str)=none:=(aS (by lk)).trans ((aS (by lk)).trans ((aS (by lk)).trans (rfl)))
theorem XX (V_ D U:Addr):(Fn V_ D U).lookup ("undo":Str)=none:=(aS (by lk)).trans ((aS (by lk)).trans ((aS (by lk)).trans (rfl)))
theorem XY (V_ D U:Addr):(Fn V_ D U).lookup ("redo":Str)=none:=(aS (by lk)).trans ((aS (by lk)).trans ((aS (by lk)).trans (rfl)))
theorem rM (V_ D U:Addr):(Fn V_ D U).lookup ("names":Str)=none:=(aS (by lk)).trans ((aS (by lk)).trans ((aS (by lk)).trans (rfl)))
theorem my (V_ D U:Addr):(Fn V_ D U).lookup ("line":Str)=none:=(aS (by lk)).trans ((aS (by lk)).trans ((aS (by lk)).trans (rfl)))
theorem zN (V_ D U:Addr):(Fn V_ D U).lookup ("kept":Str)=none:=(aS (by lk)).trans ((aS (by lk)).trans ((aS (by lk)).trans (rfl)))
theorem kK (V_ D U:Addr):(Fn V_ D U).lookup ("canon":Str)=none:=(aS (by lk)).trans ((aS (by lk)).trans ((aS (by lk)).trans (rfl)))
theorem kj (V_ D U:Addr):(Fn V_ D U).lookup ("perform":Str)=none:=(aS (by lk)).trans ((aS (by lk)).trans ((aS (by lk)).trans (rfl)))
theorem Cr (V_ D U:Addr):(Fn V_ D U).lookup ("put_in":Str)=none:=(aS (by lk)).trans ((aS (by lk)).trans ((aS (by lk)).trans (rfl)))
theorem uE (V_ D U:Addr):(Fn V_ D U).lookup ("refuse_new":Str)=none:=(aS (by lk)).trans ((aS (by lk)).trans ((aS (by lk)).trans (rfl)))
theorem eN (V_ D U:Addr):(Fn V_ D U).lookup ("voice_called":Str)=none:=(aS (by lk)).trans ((aS (by lk)).trans ((aS (by lk)).trans (rfl)))
theorem i5 (V_ D U:Addr):(Fn V_ D U).lookup ("plain_voice":Str)=none:=(aS (by lk)).trans ((aS (by lk)).trans ((aS (by lk)).trans (rfl)))
theorem TY (v0:V):oC "voices" v0 ([]:List (Str×V))=([("voices",v0)]:List (Str×V)):=rfl
theorem adx (v0 v1:V):oC "done" v1 ([("voices",v0)]:List (Str×V))=([("voices",v0),("done",v1)]:List (Str×V)):=(lN (by lk)).trans (R' _ (rfl))
theorem aju (v0 v1 v2:V):oC "undone" v2 ([("voices",v0),("done",v1)]:List (Str×V))=([("voices",v0),("done",v1),("undone",v2)]:List (Str×V)):=(lN (by lk)).trans (R' _ ((lN (by lk)).trans (R' _ (rfl))))
theorem eX {a b:TS}{D:Ends}{σ:St}{H:Hp}(h:∀ N:St->Hp->Prop,(∀ σ H,b D σ H->N σ H)->a { D with nx:=N } σ H):aiX a b D σ H:=h (b D) fun _ _ z=>z
structure Vx where
 o:Addr
 d:Addr
 n:Str
 tm:V
 l:Addr
def ajv (C:Addr)(H:Hp)(v:V)(a:Vx):Prop:=v=.ref a.o/\H a.o=some (.ins C a.d (voF a.n a.tm a.l))
structure Dd where
 o:Addr
 d:Addr
 T:Addr
 i:Nat
 B:Addr
 A:Addr
 bs:List V
 as:List V
def qq (C:Addr)(H:Hp)(v:V)(e:Dd):Prop:=v=.ref e.o/\H e.o=some (.ins C e.d (MD e.T (e.i:Int) e.B e.A))/\H e.B=some (.lst e.bs)/\H e.A=some (.lst e.as)
abbrev MM:=Addr->List V
def putAt (S:MM)(T:Addr)(zs:List V):MM:=fun b=>if b=T then zs else S b
theorem h9 {S:MM}{T:Addr}{zs:List V}:putAt S T zs T=zs:=K' rfl
theorem qr {S:MM}{T b:Addr}{zs:List V}(h:b≠T):putAt S T zs b=S b:=G' h
def xu (e:Dd)(S:MM):MM:=putAt S e.T ((S e.T).take e.i++e.as++(S e.T).drop (e.i+e.bs.length))
def unD (e:Dd)(S:MM):MM:=putAt S e.T ((S e.T).take e.i++e.bs++(S e.T).drop (e.i+e.as.length))
def Fits (e:Dd)(S:MM):Prop:=e.i+e.bs.length<=(S e.T).length/\((S e.T).drop e.i).take e.bs.length=e.bs
theorem anO {α:Type}{xs bs as:List α}{i:Nat}(h:i+bs.length<=xs.length):(xs.take i++as++xs.drop (i+bs.length)).take i=xs.take i/\(xs.take i++as++xs.drop (i+bs.length)).drop (i+as.length)=xs.drop (i+bs.length):=by
 have h1:(xs.take i).length=i:=by rw[Ze'];omega
 constructor
 ·rw[List.append_assoc];exact List.take_left' h1
 ·exact List.drop_left' (by rw[Z',h1])
theorem anP {e:Dd}{S:MM}(h:Fits e S):unD e (xu e S)=S:=by
 funext b
 unfold unD
 by_cases hb:b=e.T
 ·subst hb;rw[h9];unfold xu;rw[h9,(anO h.1).1,(anO h.1).2];have h2:e.bs++(S e.T).drop (e.i+e.bs.length)=(S e.T).drop e.i:=by
   rw[<-List.drop_drop];have:=List.take_append_drop e.bs.length ((S e.T).drop e.i);rw[h.2]at this;exact this
  rw[List.append_assoc,h2,List.take_append_drop]
 ·rw[qr hb];unfold xu;rw[qr hb]
theorem ajw {e:Dd}{S:MM}(h:Fits e S):e.i+e.as.length<=(xu e S e.T).length:=by
 unfold xu;rw[h9,Z',Z',Ze'];have:=h.1;omega
inductive Path:List MM->List Dd->MM->Prop
 |nil {M:MM}:Path [] [] M
 |snoc {Ps:List MM} {es:List Dd} {S:MM} {e:Dd}:Path Ps es S->Fits e S->Path (Ps++[S]) (es++[e]) (xu e S)
inductive Fut:MM->List Dd->List MM->Prop
 |nil {M:MM}:Fut M [] []
 |snoc {M:MM} {us:List Dd} {Fs:List MM} {e:Dd}:Fits e M->Fut (xu e M) us Fs->Fut M (us++[e]) (Fs++[xu e M])
theorem XZ {α:Type}{a b:List α}{x y:α}(h:a++[x]=b++[y]):a=b/\x=y:=by
 have:=List.append_inj' h rfl;exact⟨this.1,by simpa using this.2⟩
theorem Path.last {Ps:List MM}{es:List Dd}{e:Dd}{M:MM}(h:Path Ps (es++[e]) M):∃ Ps' S,Ps=Ps'++[S]/\Path Ps' es S/\Fits e S/\M=xu e S:=by
 generalize he:es++[e]=es' at h;cases h with
 |nil=>simp at he
 |snoc p f =>
  obtain⟨rfl,rfl⟩:=XZ he;exact⟨_,_,rfl,p,f,rfl⟩
theorem Fut.last {us:List Dd}{e:Dd}{M:MM}{Fs:List MM}(h:Fut M (us++[e]) Fs):∃ Fs',Fs=Fs'++[xu e M]/\Fits e M/\Fut (xu e M) us Fs':=by
 generalize he:us++[e]=us' at h;cases h with
 |nil=>simp at he
 |snoc f p =>
  obtain⟨rfl,rfl⟩:=XZ he;exact⟨_,rfl,f,p⟩
theorem Path.len {Ps:List MM}{es:List Dd}{M:MM}(h:Path Ps es M):Ps.length=es.length:=by
 induction h with
 |nil=>rfl
 |snoc _ _ ih=>rw[Z',Z',ih];rfl
theorem Fut.len {us:List Dd}{M:MM}{Fs:List MM}(h:Fut M us Fs):Fs.length=us.length:=by
 induction h with
 |nil=>rfl
 |snoc _ _ ih=>rw[Z',Z',ih];rfl
def Oy (s:Sg):Prop:=(s.1.sI=true->0<=s.2/\s.2<100)/\(s.1.sI=false->s.2=0)
def GV (H:Hp)(v:V):Prop:=∃ s,XO H v s/\Oy s
structure WF (H:Hp)(L:Addr)(all:List Vx)(S:MM):Prop where
 vs:∃ vx:List Vx,Paired (fun v a=>v=V.ref a.o/\a∈all) (S L) vx
 ln:∀ a∈all,(S a.l).length<=200/\∀ v∈S a.l,GV H v
 len:(S L).length<=12
 out:∀ b,b≠L->(∀ a∈all,b≠a.l)->S b=[]
inductive Th where
 |pl (ss:List Sg)
 |cn (ld:Str) (lt sl:Int) (tn:Bool)
abbrev Vw:=List (Str×Th)
def ahp (H:Hp)(S:MM)(a:Vx):Th->Prop
 |.pl ss=>a.tm=.non/\qo H (S a.l) ss
 |.cn ld lt sl tn=>∃ p,a.tm=.ref p/\H p=some (.tup [.str ld,.int lt,.int sl,.bl tn])
def ZV (H:Hp)(all:List Vx)(S:MM)(v:V)(q:Str×Th):Prop:=∃ a∈all,v=.ref a.o/\a.n=q.1/\ahp H S a q.2
abbrev Is (H:Hp)(L:Addr)(all:List Vx)(S:MM)(vw:Vw):Prop:=Paired (ZV H all S) (S L) vw
structure zw (vw:Vw):Prop where
 nd:(vw.map (·.1)).Nodup
 ld:∀ n ld lt sl tn,(n,Th.cn ld lt sl tn)∈vw->(∃ ss,(ld,Th.pl ss)∈vw)/\0<=lt/\lt<=999/\1<=sl/\sl<=9
 gd:∀ n ss,(n,Th.pl ss)∈vw->ss.length<=200/\∀ s∈ss,Oy s
 len:vw.length<=12
structure Rn (CB CV CD:Addr)(H:Hp)(x L D U:Addr)(all:List Vx)(M:MM)(Ps Fs:List MM)(es us:List Dd):Prop where
 hx:∃ dx,H x=some (.ins CB dx (Fn L D U))
 hL:H L=some (.lst (M L))
 hD:∃ xs,H D=some (.lst xs)/\Paired (qq CD H) xs es
 hU:∃ xs,H U=some (.lst xs)/\Paired (qq CD H) xs us
 ha:∀ a∈all,H a.o=some (.ins CV a.d (voF a.n a.tm a.l))/\H a.l=some (.lst (M a.l))
 LD:L≠D
 LU:L≠U
 DU:D≠U
 nl:∀ a∈all,a.l≠L/\a.l≠D/\a.l≠U
 ni:∀ a∈all,∀ b∈all,a.l=b.l->a=b
 no:∀ a∈all,∀ b∈all,a.o=b.o->a=b
 dd:∀ e,e∈es\/e∈us->(e.T=L\/∃ a∈all,e.T=a.l)/\(e.B≠L/\e.B≠D/\e.B≠U/\∀ a∈all,e.B≠a.l)/\(e.A≠L/\e.A≠D/\e.A≠U/\∀ a∈all,e.A≠a.l)/\e.bs.length<=1/\e.as.length<=1
 past:Path Ps es M
 fut:Fut M us Fs
 wf:∀ S,S∈Ps\/S=M\/S∈Fs->WF H L all S
structure X0 (F:Addr->Prop)(L D U:Addr)(all:List Vx)(es us:List Dd):Prop where
 L:F L
 D:F D
 U:F U
 l:∀ a∈all,F a.l
 d:∀ e,e∈es\/e∈us->F e.B/\F e.A
structure Bk (CB CV CD:Addr)(H:Hp)(x:Addr)(F:Addr->Prop)(vw:Vw)(ps fs:List Vw):Prop where
 ex:∃(L D U:Addr)(all:List Vx)(M:MM)(Ps Fs:List MM)(es us:List Dd),Rn CB CV CD H x L D U all M Ps Fs es us/\Is H L all M vw/\Paired (Is H L all) Ps ps/\Paired (Is H L all) Fs fs/\X0 F L D U all es us
 wv:∀ v,v∈ps\/v=vw\/v∈fs->zw v
def Kept (F:Addr->Prop)(H H':Hp):Prop:=∀ y o,H y=some o->(F y\/∀ xs,o≠.lst xs)->H' y=some o
theorem Kept.same {F:Addr->Prop}{H H':Hp}(s:aq H H'):Kept F H H':=fun y o e _=>s y o e
section
variable {CB CV CD:Addr} {H H':Hp} {x L D U:Addr} {all:List Vx} {M S:MM} {Ps Fs:List MM} {es us:List Dd} {F:Addr->Prop} {vw:Vw} {ps fs:List Vw}
theorem Kept.sgs (k:Kept F H H'){xs:List V}{ss:List Sg}(h:qo H xs ss):qo H' xs ss:=cK (fun _ _ ⟨p,e1,e2⟩=>⟨p,e1,k _ _ e2 (.inr fun _ z=>nomatch z)⟩) h
theorem Kept.gv (k:Kept F H H'){v:V}(h:GV H v):GV H' v:=by
 obtain⟨s,⟨p,e1,e2⟩,g⟩:=h;exact⟨s,⟨p,e1,k _ _ e2 (.inr fun _ z=>nomatch z)⟩,g⟩
theorem WF.kept (k:Kept F H H')(h:WF H L all S):WF H' L all S:=⟨h.vs,fun a ha=>⟨(h.ln a ha).1,fun v hv=>k.gv ((h.ln a ha).2 v hv)⟩,h.len,h.out⟩
theorem ZV.kept (k:Kept F H H'){v:V}{q:Str×Th}(h:ZV H all S v q):ZV H' all S v q:=by
 obtain⟨a,ha,e1,e2,t⟩:=h;refine⟨a,ha,e1,e2,?_⟩;cases hq:q.2 with
 |pl ss=>rw[hq]at t;exact⟨t.1,k.sgs t.2⟩
 |cn ld lt sl tn =>
  rw[hq]at t;obtain⟨p,e3,e4⟩:=t;exact⟨p,e3,k _ _ e4 (.inr fun _ z=>nomatch z)⟩
theorem Is.kept (k:Kept F H H')(h:Is H L all S vw):Is H' L all S vw:=cK (fun _ _ q=>ZV.kept k q) h
theorem kL (k:Kept F H H'){v:V}{e:Dd}(f:F e.B/\F e.A)(h:qq CD H v e):qq CD H' v e:=⟨h.1,k _ _ h.2.1 (.inr fun _ z=>nomatch z),k _ _ h.2.2.1 (.inl f.1),k _ _ h.2.2.2 (.inl f.2)⟩
theorem vN {α β:Type}{F G:α->β->Prop}:∀{xs:List α} {ys:List β},(∀ x y,y∈ys->F x y->G x y)->Paired F xs ys->Paired G xs ys
 |_,_,_,.nil=>.nil
 |_,_,h,.cons a b=>.cons (h _ _ (mem_cons_self ..) a) (vN (fun x y hy=>h x y (mem_cons_of_mem _ hy)) b)
theorem Rn.kept (h:Rn CB CV CD H x L D U all M Ps Fs es us)(f:X0 F L D U all es us)(k:Kept F H H'):Rn CB CV CD H' x L D U all M Ps Fs es us :=
 {
  h with
  hx:=let ⟨dx,e⟩:=h.hx;⟨dx,k _ _ e (.inr fun _ z=>nomatch z)⟩
  hL:=k _ _ h.hL (.inl f.L)
  hD:=let ⟨xs,e,p⟩:=h.hD;⟨xs,k _ _ e (.inl f.D),vN (fun _ e he q=>kL k (f.d e (.inl he)) q) p⟩
  hU:=let ⟨xs,e,p⟩:=h.hU;⟨xs,k _ _ e (.inl f.U),vN (fun _ e he q=>kL k (f.d e (.inr he)) q) p⟩
  ha:=fun a m=>⟨k _ _ (h.ha a m).1 (.inr fun _ z=>nomatch z),k _ _ (h.ha a m).2 (.inl (f.l a m))⟩
  wf:=fun S hS=>(h.wf S hS).kept k }
theorem Bk.kept (h:Bk CB CV CD H x F vw ps fs)(k:Kept F H H'):Bk CB CV CD H' x F vw ps fs:=by
 obtain⟨L,D,U,all,M,Ps,Fs,es,us,b,i,pp,pf,f⟩:=h.ex;exact⟨⟨L,D,U,all,M,Ps,Fs,es,us,b.kept f k,Is.kept k i,cK (fun _ _ q=>Is.kept k q) pp,cK (fun _ _ q=>Is.kept k q) pf,f⟩,h.wv⟩
theorem Bk.same (h:Bk CB CV CD H x F vw ps fs)(s:aq H H'):Bk CB CV CD H' x F vw ps fs:=h.kept (.same s)
theorem Rn.xI (b:Rn CB CV CD H x L D U all M Ps Fs es us)(i:Is H L all M vw):∃ vx:List Vx,Paired (ajv CV H) (M L) vx/\Paired (fun a q=>a∈all/\a.n=q.1/\ahp H M a q.2) vx vw:=by
 have go:∀{xs:List V} {vw:Vw},Paired (ZV H all M) xs vw->∃ vx:List Vx,Paired (ajv CV H) xs vx/\Paired (fun a q=>a∈all/\a.n=q.1/\ahp H M a q.2) vx vw:=by
  intro xs vw h
  induction h with
  |nil=>exact⟨[],.nil,.nil⟩
  |cons q _ ih =>
   obtain⟨a,ha,e1,e2,e3⟩:=q;obtain⟨vx,p1,p2⟩:=ih;exact⟨a::vx,.cons ⟨e1,(b.ha a ha).1⟩ p1,.cons ⟨ha,e2,e3⟩ p2⟩
 exact go i
def aev (L D U:Addr)(all:List Vx)(e:Dd):Prop:=(e.T=L\/∃ a∈all,e.T=a.l)/\(e.B≠L/\e.B≠D/\e.B≠U/\∀ a∈all,e.B≠a.l)/\(e.A≠L/\e.A≠D/\e.A≠U/\∀ a∈all,e.A≠a.l)/\e.bs.length<=1/\e.as.length<=1
theorem Rn.lists (b:Rn CB CV CD H x L D U all M Ps Fs es us){T:Addr}(tg:T=L\/∃ a∈all,T=a.l):H T=some (.lst (M T))/\T≠D/\T≠U:=by
 rcases tg with rfl|⟨a,ha,rfl⟩
 ·exact⟨b.hL,b.LD,b.LU⟩
 ·exact⟨(b.ha a ha).2,(b.nl a ha).2.1,(b.nl a ha).2.2⟩
theorem Rn.chg (b:Rn CB CV CD H x L D U all M Ps Fs es us){T:Addr}(tg:T=L\/∃ a∈all,T=a.l){H2:Hp}(fr:∀ y o,H y=some o->y≠T->y≠D->y≠U->H2 y=some o){M':MM}(m1:∀ c,c≠T->M' c=M c)(hT:H2 T=some (.lst (M' T)))
  {dx:List V} {es':List Dd} (hD:H2 D=some (.lst dx)) (pD:Paired (qq CD H) dx es') {ux:List V} {us':List Dd} (hU:H2 U=some (.lst ux)) (pU:Paired (qq CD H) ux us') (dd':∀ e,e∈es'\/e∈us'->aev L D U all e)
  {Ps' Fs':List MM} (anQ:Path Ps' es' M') (aqc:Fut M' us' Fs') (wf':∀ S,S∈Ps'\/S=M'\/S∈Fs'->WF H L all S):Rn CB CV CD H2 x L D U all M' Ps' Fs' es' us'/\Kept (fun _=>False) H H2:=by
 obtain⟨hT0,TD,TU⟩:=b.lists tg;obtain⟨dx0,hD0,_⟩:=b.hD;obtain⟨ux0,Xl,_⟩:=b.hU;have kN:∀ y o,H y=some o->(∀ zs,o≠.lst zs)->H2 y=some o:=fun y o hy hn=>fr y o hy
  (fun e=>by rw[e,hT0]at hy;cases hy;exact hn _ rfl) (fun e=>by rw[e,hD0]at hy;cases hy;exact hn _ rfl) (fun e=>by rw[e,Xl]at hy;cases hy;exact hn _ rfl)
 have k:Kept (fun _=>False) H H2:=fun y o hy h=>kN y o hy (h.elim False.elim id);have dk:∀{v e},aev L D U all e->qq CD H v e->qq CD H2 v e:=fun {v e} ok h=>by
  have nT:∀{c:Addr},c≠L/\c≠D/\c≠U/\(∀ a∈all,c≠a.l)->c≠T:=fun {c} q z=>by
   rcases tg with rfl|⟨a,ha,rfl⟩
   ·exact q.1 z
   ·exact q.2.2.2 a ha z
  exact⟨h.1,kN _ _ h.2.1 (fun _ z=>nomatch z),fr _ _ h.2.2.1 (nT ok.2.1) ok.2.1.2.1 ok.2.1.2.2.1,fr _ _ h.2.2.2 (nT ok.2.2.1) ok.2.2.1.2.1 ok.2.2.1.2.2.1⟩
 have at_:∀{c:Addr},(c=L\/∃ a∈all,c=a.l)->H2 c=some (.lst (M' c)):=fun {c} hc=>by
  by_cases e:c=T
  ·rw[e];exact hT
  ·obtain⟨h1,h2,h3⟩:=b.lists hc;rw[m1 c e];exact fr _ _ h1 e h2 h3
 refine⟨{
      hx:=let ⟨dx,e⟩:=b.hx;⟨dx,kN _ _ e (fun _ z=>nomatch z)⟩
      hL:=at_ (.inl rfl)
      hD:=⟨_,hD,vN (fun _ e he q=>dk (dd' e (.inl he)) q) pD⟩
      hU:=⟨_,hU,vN (fun _ e he q=>dk (dd' e (.inr he)) q) pU⟩
      ha:=fun a ha=>⟨kN _ _ (b.ha a ha).1 (fun _ z=>nomatch z),at_ (.inr ⟨a,ha,rfl⟩)⟩
      LD:=b.LD,LU:=b.LU,DU:=b.DU,nl:=b.nl,ni:=b.ni,no:=b.no,dd:=dd'
      past:=anQ
      fut:=aqc
      wf:=fun S hS=>(wf' S hS).kept k },k⟩
theorem Rn.grow (b:Rn CB CV CD H x L D U all M Ps Fs es us){a:Vx}{H1:Hp}(s:aq H H1)(n1:H a.o=none)(n2:H a.l=none)(h1:H1 a.o=some (.ins CV a.d (voF a.n a.tm a.l)))(h2:H1 a.l=some (.lst [])):Rn CB CV CD H1 x L D U (all++[a]) M Ps Fs es us:=by
 have b1:=b.kept (F:=fun _=>True) ⟨trivial,trivial,trivial,fun _ _=>trivial,fun _ _=>⟨trivial,trivial⟩⟩ (.same s);obtain⟨dx0,hD0,pD0⟩:=b.hD;obtain⟨ux0,Xl,pU0⟩:=b.hU;have nL:a.l≠L:=Yb' (ao b.hL n2);have nD:a.l≠D:=Yb' (ao hD0 n2);have nU:a.l≠U:=Yb' (ao Xl n2);have nA:∀ c∈all,a.l≠c.l:=fun c hc=>Yb' (ao (b.ha c hc).2 n2);have nO:∀ c∈all,a.o≠c.o:=fun c hc=>Yb' (ao (b.ha c hc).1 n1);have mem:∀{c:Vx},c∈all++[a]->c∈all\/c=a:=fun h=>by simpa using h
 have wf2:∀ S,WF H1 L all S->WF H1 L (all++[a]) S:=fun S w =>
  {
   vs:=let ⟨vx,p⟩:=w.vs;⟨vx,cK (fun _ _ q=>⟨q.1,Zq' _ q.2⟩) p⟩
   ln:=fun c hc=>by
    rcases mem hc with hc|rfl
    ·exact w.ln c hc
    ·have e:S c.l=[]:=w.out c.l nL fun d hd=>nA d hd;rw[e];exact⟨Zj' _,fun _ z=>nomatch z⟩
   len:=w.len
   out:=fun c h h'=>w.out c h fun d hd=>h' d (Zq' _ hd) }
 have dds:∀{v e},qq CD H v e->e.B≠a.l/\e.A≠a.l:=fun h=>⟨ao h.2.2.1 n2,ao h.2.2.2 n2⟩;have ddn:∀ e,e∈es\/e∈us->e.B≠a.l/\e.A≠a.l:=fun e he=>by
  rcases he with he|he
  ·obtain⟨i,hi⟩:=getElem?_of_mem he;obtain⟨v,_,q⟩:=wt pD0 hi;exact dds q
  ·obtain⟨i,hi⟩:=getElem?_of_mem he;obtain⟨v,_,q⟩:=wt pU0 hi;exact dds q
 exact { b1 with
  ha:=fun c hc=>by
   rcases mem hc with hc|rfl
   ·exact b1.ha c hc
   ·refine⟨h1,?_⟩;rw[(b.wf M (.inr (.inl rfl))).out c.l nL fun d hd=>nA d hd];exact h2
  nl:=fun c hc=>by
   rcases mem hc with hc|rfl
   ·exact b1.nl c hc
   ·exact⟨nL,nD,nU⟩
  ni:=fun c hc d hd e=>by
   rcases mem hc with z1|z1 <;> rcases mem hd with z2|z2
   ·exact b1.ni c z1 d z2 e
   ·rw[z2]at e;exact P' e.symm (nA c z1)
   ·rw[z1]at e;exact P' e (nA d z2)
   ·rw[z1,z2]
  no:=fun c hc d hd e=>by
   rcases mem hc with z1|z1 <;> rcases mem hd with z2|z2
   ·exact b1.no c z1 d z2 e
   ·rw[z2]at e;exact P' e.symm (nO c z1)
   ·rw[z1]at e;exact P' e (nO d z2)
   ·rw[z1,z2]
  dd:=fun e he=>by
   obtain⟨q1,q2,q3,q4⟩:=b1.dd e he;refine⟨q1.imp id fun⟨c,hc,z⟩=>⟨c,Zq' _ hc,z⟩,⟨q2.1,q2.2.1,q2.2.2.1,fun c hc=>?_⟩,⟨q3.1,q3.2.1,q3.2.2.1,fun c hc=>?_⟩,q4⟩
   ·rcases mem hc with hc|rfl
    ·exact q2.2.2.2 c hc
    ·exact(ddn e he).1
   ·rcases mem hc with hc|rfl
    ·exact q3.2.2.2 c hc
    ·exact(ddn e he).2
  wf:=fun S hS=>wf2 S (b1.wf S hS) }
theorem Is.grow {a:Vx}(h:Is H L all S vw):Is H L (all++[a]) S vw:=cK (fun _ _ ⟨c,hc,q⟩=>⟨c,Zq' _ hc,q⟩) h
end
section
variable {CB CV CD:Addr} {H H1 H2 H':Hp} {x L D U:Addr} {all:List Vx} {M S:MM} {Ps Fs:List MM} {es us:List Dd} {F:Addr->Prop} {vw vw':Vw} {ps fs:List Vw}
theorem Bk.deed (b:Rn CB CV CD H1 x L D U all M Ps Fs es us)(i:Is H1 L all M vw)(pp:Paired (Is H1 L all) Ps ps)(f:X0 F L D U all es us)(wv:∀ v,v∈ps\/v=vw->zw v){e:Dd}(hd:qq CD H1 (.ref e.o) e)(ok:aev L D U all e)(ft:Fits e M)(w:WF H1 L all (xu e M))
  (i':Is H1 L all (xu e M) vw') (wv':zw vw') {dx:List V} (pD:Paired (qq CD H1) dx es) (fr:∀ y o,H1 y=some o->y≠e.T->y≠D->y≠U->H2 y=some o) (hT:H2 e.T=some (.lst (xu e M e.T))) (hD2:H2 D=some (.lst (dx++[.ref e.o]))) (hU2:H2 U=some (.lst [])) :
  Bk CB CV CD H2 x (fun y=>F y\/y=e.B\/y=e.A) vw' (ps++[vw]) []:=by
 obtain⟨b2,k⟩:=b.chg ok.1 fr (M':=xu e M) (fun c hc=>qr hc) hT hD2 (lF pD hd) hU2 .nil (fun e' he=>by
  rcases he with he|he
  ·rcases Zk'.mp he with he|he
   ·exact b.dd e' (.inl he)
   ·rw[Zg'.mp he];exact ok
  ·cases he) (b.past.snoc ft) .nil (fun S hS=>by
  rcases hS with hS|hS|hS
  ·rcases Zk'.mp hS with hS|hS
   ·exact b.wf S (.inl hS)
   ·exact b.wf S (.inr (.inl (Zg'.mp hS)))
  ·rw[hS];exact w
  ·cases hS)
 refine⟨⟨L,D,U,all,_,_,_,_,_,b2,Is.kept k i',lF (cK (fun _ _ q=>Is.kept k q) pp) (Is.kept k i),.nil,⟨.inl f.L,.inl f.D,.inl f.U,fun a ha=>.inl (f.l a ha),fun e' he=>?_⟩⟩,fun v hv=>?_⟩
 ·rcases he with he|he
  ·rcases Zk'.mp he with he|he
   ·exact⟨.inl (f.d e' (.inl he)).1,.inl (f.d e' (.inl he)).2⟩
   ·rw[Zg'.mp he];exact⟨.inr (.inl rfl),.inr (.inr rfl)⟩
  ·cases he
 ·rcases hv with hv|hv|hv
  ·rcases Zk'.mp hv with hv|hv
   ·exact wv v (.inl hv)
   ·exact wv v (.inr (Zg'.mp hv))
  ·rw[hv];exact wv'
  ·cases hv
theorem Oz {α β:Type}{F:α->β->Prop}:∀{xs:List α} {x:α} {zs:List β},Paired F (xs++[x]) zs->∃ ys y,zs=ys++[y]/\Paired F xs ys/\F x y
 |[],_,_,.cons r .nil=>⟨[],_,rfl,.nil,r⟩
 |_::_,_,_,.cons r t=>by
  obtain⟨ys,y,rfl,p,q⟩:=Oz t;exact⟨_::ys,y,rfl,.cons r p,q⟩
theorem Bk.alQ (b:Rn CB CV CD H x L D U all M Ps Fs es us)(i:Is H L all M vw)(pp:Paired (Is H L all) Ps ps)(pf:Paired (Is H L all) Fs fs)(f:X0 F L D U all es us)(wv:∀ v,v∈ps\/v=vw\/v∈fs->zw v){e:Dd}{es0:List Dd}(he:es=es0++[e]){dx ux:List V}(pD:Paired (qq CD H) dx es0)(hd:qq CD H (.ref e.o) e)(pU:Paired (qq CD H) ux us)
  (fr:∀ y o,H y=some o->y≠e.T->y≠D->y≠U->H2 y=some o) (hT:H2 e.T=some (.lst (unD e M e.T))) (hD2:H2 D=some (.lst dx)) (hU2:H2 U=some (.lst (ux++[.ref e.o]))) :
  ∃ ps0 v,ps=ps0++[v]/\Bk CB CV CD H2 x F v ps0 (fs++[vw]):=by
 subst he;obtain⟨Ps0,S,rfl,p0,ft,rfl⟩:=b.past.last;have ok:=b.dd e (.inl (Zm' _ (List.mem_singleton_self _)));rw[anP ft]at hT;obtain⟨b2,k⟩:=b.chg ok.1 fr (M':=S) (fun c hc=>(qr hc).symm) hT hD2 pD hU2 (lF pU hd) (fun e' he=>by
  rcases he with he|he
  ·exact b.dd e' (.inl (Zq' _ he))
  ·rcases Zk'.mp he with he|he
   ·exact b.dd e' (.inr he)
   ·rw[Zg'.mp he];exact ok) p0 (Fut.snoc ft b.fut) (fun T hT=>by
  rcases hT with hT|hT|hT
  ·exact b.wf T (.inl (Zq' _ hT))
  ·exact b.wf T (.inl (Zm' _ (Zg'.mpr hT)))
  ·rcases Zk'.mp hT with hT|hT
   ·exact b.wf T (.inr (.inr hT))
   ·exact b.wf T (.inr (.inl (Zg'.mp hT))))
 obtain⟨ps0,v,rfl,pp0,iv⟩:=Oz pp;refine⟨ps0,v,rfl,⟨⟨L,D,U,all,_,_,_,_,_,b2,Is.kept k iv,cK (fun _ _ q=>Is.kept k q) pp0,lF (cK (fun _ _ q=>Is.kept k q) pf) (Is.kept k i),⟨f.L,f.D,f.U,f.l,fun e' he=>?_⟩⟩,fun u hu=>?_⟩⟩
 ·rcases he with he|he
  ·exact f.d e' (.inl (Zq' _ he))
  ·rcases Zk'.mp he with he|he
   ·exact f.d e' (.inr he)
   ·rw[Zg'.mp he];exact f.d e (.inl (Zm' _ (List.mem_singleton_self _)))
 ·rcases hu with hu|hu|hu
  ·exact wv u (.inl (Zq' _ hu))
  ·exact wv u (.inl (Zm' _ (Zg'.mpr hu)))
  ·rcases Zk'.mp hu with hu|hu
   ·exact wv u (.inr (.inr hu))
   ·exact wv u (.inr (.inl (Zg'.mp hu)))
theorem Bk.alR (b:Rn CB CV CD H x L D U all M Ps Fs es us)(i:Is H L all M vw)(pp:Paired (Is H L all) Ps ps)(pf:Paired (Is H L all) Fs fs)(f:X0 F L D U all es us)(wv:∀ v,v∈ps\/v=vw\/v∈fs->zw v){e:Dd}{us0:List Dd}(he:us=us0++[e]){dx ux:List V}(pD:Paired (qq CD H) dx es)(hd:qq CD H (.ref e.o) e)(pU:Paired (qq CD H) ux us0)
  (fr:∀ y o,H y=some o->y≠e.T->y≠D->y≠U->H2 y=some o) (hT:H2 e.T=some (.lst (xu e M e.T))) (hD2:H2 D=some (.lst (dx++[.ref e.o]))) (hU2:H2 U=some (.lst ux)) :
  ∃ fs0 v,fs=fs0++[v]/\Bk CB CV CD H2 x F v (ps++[vw]) fs0:=by
 subst he;obtain⟨Fs0,rfl,ft,p0⟩:=b.fut.last;have ok:=b.dd e (.inr (Zm' _ (List.mem_singleton_self _)));obtain⟨b2,k⟩:=b.chg ok.1 fr (M':=xu e M) (fun c hc=>qr hc) hT hD2 (lF pD hd) hU2 pU (fun e' he=>by
  rcases he with he|he
  ·rcases Zk'.mp he with he|he
   ·exact b.dd e' (.inl he)
   ·rw[Zg'.mp he];exact ok
  ·exact b.dd e' (.inr (Zq' _ he))) (b.past.snoc ft) p0 (fun T hT=>by
  rcases hT with hT|hT|hT
  ·rcases Zk'.mp hT with hT|hT
   ·exact b.wf T (.inl hT)
   ·exact b.wf T (.inr (.inl (Zg'.mp hT)))
  ·exact b.wf T (.inr (.inr (Zm' _ (Zg'.mpr hT))))
  ·exact b.wf T (.inr (.inr (Zq' _ hT))))
 obtain⟨fs0,v,rfl,pf0,iv⟩:=Oz pf;refine⟨fs0,v,rfl,⟨⟨L,D,U,all,_,_,_,_,_,b2,Is.kept k iv,lF (cK (fun _ _ q=>Is.kept k q) pp) (Is.kept k i),cK (fun _ _ q=>Is.kept k q) pf0,⟨f.L,f.D,f.U,f.l,fun e' he=>?_⟩⟩,fun u hu=>?_⟩⟩
 ·rcases he with he|he
  ·rcases Zk'.mp he with he|he
   ·exact f.d e' (.inl he)
   ·rw[Zg'.mp he];exact f.d e (.inr (Zm' _ (List.mem_singleton_self _)))
  ·exact f.d e' (.inr (Zq' _ he))
 ·rcases hu with hu|hu|hu
  ·rcases Zk'.mp hu with hu|hu
   ·exact wv u (.inl hu)
   ·exact wv u (.inr (.inl (Zg'.mp hu)))
  ·exact wv u (.inr (.inr (Zm' _ (Zg'.mpr hu))))
  ·exact wv u (.inr (.inr (Zq' _ hu)))
def bc (vw:Vw)(n:Str):Option Th:=(vw.find? fun q=>decide (q.1=n)).map (·.2)
def zO (vw:Vw)(n:Str)(th:Th):Vw:=vw.map fun q=>if q.1=n then(n,th) else q
theorem dm {n:Str}{th:Th}(h:bc vw n=some th):(n,th)∈vw:=by
 unfold bc at h;cases e:vw.find? (fun q=>decide (q.1=n)) with
 |none=>rw[e]at h;cases h
 |some q =>
  rw[e]at h;have h1:=List.mem_of_find?_eq_some e;have h2:=List.find?_some e;have h3:q.1=n:=U' h2;have h4:q.2=th:=Zb' h;rw[<-h3,<-h4];exact h1
theorem sM {n:Str}(h:bc vw n=none):∀ q∈vw,q.1≠n:=by
 unfold bc at h;rw[Option.map_eq_none_iff]at h;intro q hq e;exact List.find?_eq_none.mp h q hq (W' e)
theorem FD:∀{l:List Str} {i j:Nat} {n:Str},l.Nodup->l[i]? = some n->l[j]? = some n->i=j
 |[],_,_,_,_,h,_=>by simp at h
 |a::l,i,j,n,nd,h1,h2=>by
  obtain⟨na,nd'⟩:=List.nodup_cons.mp nd
  match i,j,h1,h2 with
  |0,0,_,_=>rfl
  |0,j+1,h1,h2 =>
   rw[List.getElem?_cons_zero]at h1;rw[List.getElem?_cons_succ]at h2;cases h1;exact P' (Za' h2) na
  |i+1,0,h1,h2 =>
   rw[List.getElem?_cons_zero]at h2;rw[List.getElem?_cons_succ]at h1;cases h2;exact P' (Za' h1) na
  |i+1,j+1,h1,h2 =>
   rw[List.getElem?_cons_succ]at h1 h2;rw[FD nd' h1 h2]
theorem zw.uniq (w:zw vw){q q':Str×Th}(h:q∈vw)(h':q'∈vw)(e:q.1=q'.1):q=q':=by
 obtain⟨i,hi⟩:=getElem?_of_mem h;obtain⟨j,hj⟩:=getElem?_of_mem h';have h1:(vw.map (·.1))[i]? = some q.1:=by rw[Zf',hi];rfl
 have h2:(vw.map (·.1))[j]? = some q.1:=by rw[Zf',hj,e];rfl
 have:=FD w.nd h1 h2;subst this;rw[hi]at hj;exact Zb' hj
theorem zw.find (w:zw vw){n:Str}{th:Th}(h:(n,th)∈vw):bc vw n=some th:=by
 cases e:bc vw n with
 |none=>exact P' rfl (sM e _ h)
 |some t =>
  have:=w.uniq (dm e) h rfl;rw[Prod.mk.injEq]at this;rw[this.2]
theorem CZ (n:Str)(th:Th):(zO vw n th).map (·.1)=vw.map (·.1):=by
 unfold zO;rw[List.map_map];refine List.map_congr_left fun q _=>?_;show(if q.1=n then(n,th) else q).1=q.1;split
 ·next h=>exact h.symm
 ·rfl
theorem X1 {n:Str}{th:Th}{q:Str×Th}(h:q∈zO vw n th):(q=(n,th)/\∃ q'∈vw,q'.1=n)\/(q∈vw/\q.1≠n):=by
 obtain⟨q',h1,h2⟩:=mem_map.mp h;split at h2
 ·next e=>exact .inl ⟨h2.symm,q',h1,e⟩
 ·next e=>rw[<-h2];exact .inr ⟨h1,e⟩
theorem ZW {n:Str}{th:Th}{q:Str×Th}(h:q∈vw)(hn:q.1≠n):q∈zO vw n th:=mem_map.mpr ⟨q,h,G' hn⟩
theorem ahq {n:Str}{th t:Th}(h:(n,t)∈vw):(n,th)∈zO vw n th:=mem_map.mpr ⟨(n,t),h,K' rfl⟩
theorem zw.set (w:zw vw){n:Str}{ss ss':List Sg}(h:(n,Th.pl ss)∈vw)(h1:ss'.length<=200)(h2:∀ s∈ss',Oy s):zw (zO vw n (.pl ss')) where
 nd:=by rw[CZ];exact w.nd
 ld:=fun m ld lt sl tn hm=>by
  rcases X1 hm with ⟨e,_⟩|⟨hm',_⟩
  ·cases e
  ·obtain⟨⟨s0,h0⟩,r⟩:=w.ld m ld lt sl tn hm';refine⟨?_,r⟩
   by_cases e:ld=n
   ·rw[e];exact⟨ss',ahq h⟩
   ·exact⟨s0,ZW h0 e⟩
 gd:=fun m s0 hm=>by
  rcases X1 hm with ⟨e,_⟩|⟨hm',_⟩
  ·cases e;exact⟨h1,h2⟩
  ·exact w.gd m s0 hm'
 len:=by
  have:=R' List.length (CZ (vw:=vw) n (.pl ss'));rw[j',j']at this;rw[this];exact w.len
theorem zw.anS (w:zw vw){n:Str}(hn:∀ q∈vw,q.1≠n)(hl:vw.length<12):zw (vw++[(n,.pl [])]) where
 nd:=by
  rw[map_append,List.nodup_append];refine⟨w.nd,by simp,?_⟩;intro a ha c hc e;obtain⟨q,hq,e1⟩:=mem_map.mp ha;have:c=n:=by simpa using hc
  exact hn q hq (by rw[e1,e,this])
 ld:=fun m ld lt sl tn hm=>by
  rcases Zk'.mp hm with hm|hm
  ·obtain⟨⟨s0,h0⟩,r⟩:=w.ld m ld lt sl tn hm;exact⟨⟨s0,Zq' _ h0⟩,r⟩
  ·have:=Zg'.mp hm;cases this
 gd:=fun m s0 hm=>by
  rcases Zk'.mp hm with hm|hm
  ·exact w.gd m s0 hm
  ·have:=Zg'.mp hm;cases this;exact⟨Zj' _,fun _ z=>nomatch z⟩
 len:=by rw[Z'];exact hl
theorem zw.anT (w:zw vw){n ld:Str}{lt sl:Int}{tn:Bool}{ss:List Sg}(hn:∀ q∈vw,q.1≠n)(hl:vw.length<12)(h:(ld,Th.pl ss)∈vw)(h1:0<=lt)(h2:lt<=999)(h3:1<=sl)(h4:sl<=9):zw (vw++[(n,.cn ld lt sl tn)]) where
 nd:=by
  rw[map_append,List.nodup_append];refine⟨w.nd,by simp,?_⟩;intro a ha c hc e;obtain⟨q,hq,e1⟩:=mem_map.mp ha;have:c=n:=by simpa using hc
  exact hn q hq (by rw[e1,e,this])
 ld:=fun m l2 t2 s2 n2 hm=>by
  rcases Zk'.mp hm with hm|hm
  ·obtain⟨⟨s0,h0⟩,r⟩:=w.ld m l2 t2 s2 n2 hm;exact⟨⟨s0,Zq' _ h0⟩,r⟩
  ·have:=Zg'.mp hm;cases this;exact⟨⟨ss,Zq' _ h⟩,h1,h2,h3,h4⟩
 gd:=fun m s0 hm=>by
  rcases Zk'.mp hm with hm|hm
  ·exact w.gd m s0 hm
  ·have:=Zg'.mp hm;cases this
 len:=by rw[Z'];exact hl
theorem akO {α β γ:Type}{F:α->β->Prop}{G:α->γ->Prop}{f:β->γ}:∀{xs:List α} {ys:List β},Paired F xs ys->(∀(k:Nat) x y,xs[k]? = some x->ys[k]? = some y->F x y->G x (f y))->Paired G xs (ys.map f)
 |_,_,.nil,_=>.nil
 |_,_,.cons a b,h=>.cons (h 0 _ _ rfl rfl a) (akO b fun k x y e1 e2=>h (k+1) x y (by simpa using e1) (by simpa using e2))
theorem Is.line (b:Rn CB CV CD H x L D U all M Ps Fs es us)(i:Is H L all M vw)(w:zw vw){a:Vx}(ha:a∈all){j:Nat}{th:Th}{ss':List Sg}(hj:(M L)[j]? = some (.ref a.o))(hm:vw[j]? = some (a.n,th))(Xm:a.tm=.non){M':MM}(m1:∀ c,c≠a.l->M' c=M c)(g:qo H (M' a.l) ss'):Is H L all M' (zO vw a.n (.pl ss')):=by
 show Paired _ (M' L) _;rw[m1 L (Yb' (b.nl a ha).1)];refine akO i fun k v q hk hq hvq=>?_;obtain⟨c,hc,rfl,e1,t⟩:=hvq;split
 ·next e =>
  have h1:(vw.map (·.1))[k]? = some a.n:=by rw[Zf',hq,<-e];rfl
  have h2:(vw.map (·.1))[j]? = some a.n:=by rw[Zf',hm];rfl
  have hkj:=FD w.nd h1 h2;subst hkj;rw[hj]at hk;have:a.o=c.o:=V.ref.inj (Zb' hk);have:=b.no a ha c hc this;subst this;exact⟨a,hc,rfl,rfl,Xm,g⟩
 ·next e =>
  refine⟨c,hc,rfl,e1,?_⟩;have ne:c.l≠a.l:=fun z=>e (by rw[<-e1,b.ni c hc a ha z]);cases hq2:q.2 with
  |pl s0=>rw[hq2]at t;exact⟨t.1,by rw[m1 _ ne];exact t.2⟩
  |cn ld lt sl tn=>rw[hq2]at t;exact t
end
abbrev Sn:=Str×Int
def oI:List V:=[.str "G",.str "D",.str "s",.str "d"]
def lO:List V:=[.str "R",.str "r",.str ".",.str "3",.str "2"]
def js (s:Sn):Bool:=if inV (.str s.1) oI=true then(if decide (0<=s.2)=true then decide (s.2<=99) else false) else(if inV (.str s.1) lO=true then decide (s.2=0) else false)
inductive Rf where
 |uF|NV|BR|Full|cC|iB|rN|uG|C0|oJ
structure Cs where
 B:Addr
 V:Addr
 D:Addr
 on:Bool
 x:Rf->Addr
def RX (E:XK)(c:Cs)(r:Rf)(H:Hp):Prop:=c.on=true/\E (.ref (c.x r)) none H
abbrev xw (c:Cs):=Bk c.B c.V c.D
def Fr (F:Addr->Prop)(H H':Hp):Prop:=∀ y o,H y=some o->¬ F y->H' y=some o
def Gr (F F':Addr->Prop)(H:Hp):Prop:=∀ y,F' y->F y\/H y=none
theorem Gr.refl (F:Addr->Prop)(H:Hp):Gr F F H:=fun _ h=>.inl h
theorem Gr.old {F F':Addr->Prop}{H H':Hp}(s:aq H H')(g:Gr F F' H'):Gr F F' H:=fun y z=>(g y z).imp id fun q=>s.free q
def nameB (x:Str):Bool:=decide (1<=x.length)&&(decide (x.length<=8)&&x.cps.toList.all fun c=>Rl ⟨#[c]⟩ "abcdefghijklmnopqrstuvwxyz")
theorem kinds_of {k:Str}(h:inV (.str k) oI=true\/inV (.str k) lO=true):∃ d:Kd,d.str=k:=by
 have go:∀ l:List V,(∀ v∈l,∃ d:Kd,v=.str d.str)->inV (.str k) l=true->∃ d:Kd,d.str=k:=fun l hl h=>by
  unfold inV at h;obtain⟨y,hy,e⟩:=any_eq_true.mp h;obtain⟨d,rfl⟩:=hl y hy;have:d.str=k:=by simpa [eqV] using e
  exact⟨d,this⟩
 have c:∀(l:List Kd),∀ v∈l.map (fun d=>V.str d.str),∃ d:Kd,v=.str d.str:=fun l v hv=>by
  obtain⟨d,_,e⟩:=mem_map.mp hv;exact⟨d,e.symm⟩
 rcases h with h|h
 ·exact go oI (c [.G,.D,.s,.d]) h
 ·exact go lO (c [.R,.r,.dot,.three,.two]) h
theorem anU (d:Kd):inV (.str d.str) oI=d.sI:=by cases d <;> decide +kernel
theorem anV (d:Kd):inV (.str d.str) lO = !d.sI:=by cases d <;> decide +kernel
theorem TZ {sn:Sn}(h:js sn=true):∃ s:Sg,s.1.str=sn.1/\s.2=sn.2/\Oy s:=by
 unfold js at h;split at h
 ·next h1 =>
  obtain⟨d,hd⟩:=kinds_of (.inl h1);rw[<-hd,anU]at h1;split at h
  ·next h2=>exact⟨(d,sn.2),hd,rfl,⟨(fun _=>⟨U' h2,by have:=U' h;show sn.2<100;omega⟩),fun z=>by rw[show d.sI=false from z]at h1;cases h1⟩⟩
  ·cases h
 ·next h1 =>
  split at h
  ·next h2 =>
   obtain⟨d,hd⟩:=kinds_of (.inr h2);rw[<-hd,anV]at h2;exact⟨(d,sn.2),hd,rfl,⟨(fun z=>by rw[show d.sI=true from z]at h2;cases h2),fun _=>U' h⟩⟩
  ·cases h
def SA:Kd->Kd
 |.three=>.two
 |.two=>.three
 |k=>k
def uH (s:Sg):Sg:=(SA s.1,s.2)
def FE (vw:Vw)(n:Str):List Sg:=match bc vw n with
 |some (.pl ss)=>ss
 |some (.cn ld _ _ tn)=>match bc vw ld with
  |some (.pl ss)=>if tn then ss.map uH else ss
  |_=>[]
 |none=>[]
def ze (vw:Vw)(n:Str):List Int:=match bc vw n with
 |some (.pl ss)=>(mx 3 (bO ss)).1
 |some (.cn ld _ sl tn)=>match bc vw ld with
  |some (.pl ss)=>(mx (if tn then 2 else 3) (bO (if tn then ss.map uH else ss))).1.map fun w=>sl * w
  |_=>[]
 |none=>[]
theorem zP {vw:Vw}{n:Str}{ss:List Sg}(h:bc vw n=some (.pl ss)):FE vw n=ss:=by
 unfold FE;rw[h]
theorem zQ {vw:Vw}{n ld:Str}{lt sl:Int}{tn:Bool}{ss:List Sg}(h:bc vw n=some (.cn ld lt sl tn))(h':bc vw ld=some (.pl ss)):FE vw n=if tn=true then ss.map uH else ss:=by
 unfold FE;rw[h];show(match bc vw ld with|some (.pl ss)=>if tn=true then ss.map uH else ss|_=>[])=_;rw[h']
theorem OA {vw:Vw}{n:Str}{ss:List Sg}(h:bc vw n=some (.pl ss)):ze vw n=(mx 3 (bO ss)).1:=by
 unfold ze;rw[h]
theorem OB {vw:Vw}{n ld:Str}{lt sl:Int}{tn:Bool}{ss:List Sg}(h:bc vw n=some (.cn ld lt sl tn))(h':bc vw ld=some (.pl ss)):ze vw n=(mx (if tn then 2 else 3) (bO (if tn then ss.map uH else ss))).1.map fun w=>sl * w:=by
 unfold ze;rw[h];show(match bc vw ld with|some (.pl ss)=>(mx (if tn then 2 else 3) (bO (if tn then ss.map uH else ss))).1.map fun w=>sl * w|_=>[])=_;rw[h']
theorem alS {H H':Hp}{x dx C:Addr}(hx:H x=none)(hdx:H dx=none)(kp:∀ y o,(upd (upd H dx (.own x)) x (.ins C dx [])) y=some o->y≠x->H' y=some o):aq H H':=fun y o hy =>
 kp y o (by rw[ak (ao hy hx),ak (ao hy hdx)];exact hy) (ao hy hx)
theorem OC {H:Hp}{x dx D:Addr}{o1 o2:HO}(h:upd (upd H dx o1) x o2 D=none):H D=none:=by
 unfold upd at h;split at h
 ·cases h
 ·split at h
  ·cases h
  ·exact h
theorem FF {H:Hp}{B A:Addr}{o:HO}(h:upd H B o A=none):H A=none:=by
 unfold upd at h;split at h
 ·cases h
 ·exact h
theorem Ro (z:Int){k:Int}(hk:0<k):∃ m:Nat,z % k=(m:Int)/\(m:Int)<k:=by
 have z1:=Int.emod_nonneg z (show k≠0 by omega);have z2:=Int.emod_lt_of_pos z hk;exact⟨(z % k).toNat,by omega,by omega⟩
theorem Bk.new {c:Cs}{H:Hp}{x dx L D U:Addr}(hx:H x=some (.ins c.B dx (Fn L D U)))(hL:H L=some (.lst []))(hD:H D=some (.lst []))(hU:H U=some (.lst []))(LD:L≠D)(LU:L≠U)(DU:D≠U):xw c H x (fun y=>y=L\/y=D\/y=U) [] [] [] where
 ex:=⟨L,D,U,[],fun _=>[],[],[],[],[],
  {
   hx:=⟨dx,hx⟩,hL:=hL,hD:=⟨[],hD,.nil⟩,hU:=⟨[],hU,.nil⟩,ha:=fun _ h=>(nomatch h),LD:=LD,LU:=LU,DU:=DU,nl:=fun _ h=>(nomatch h),ni:=fun _ h=>(nomatch h),no:=fun _ h=>(nomatch h)
   dd:=fun _ h=>h.elim (fun z=>(nomatch z)) fun z=>(nomatch z)
   past:=.nil
   fut:=.nil
   wf:=fun S hS=>by
    rcases hS with hS|hS|hS
    ·cases hS
    ·subst hS;exact⟨⟨[],.nil⟩,fun _ h=>(nomatch h),Zj' _,fun _ _ _=>rfl⟩
    ·cases hS },
  .nil,.nil,.nil,⟨.inl rfl,.inr (.inl rfl),.inr (.inr rfl),fun _ h=>(nomatch h),fun _ h=>h.elim (fun z=>(nomatch z)) fun z=>(nomatch z)⟩⟩
 wv:=fun v hv=>by
  rcases hv with hv|hv|hv
  ·cases hv
  ·subst hv;exact⟨.nil,fun _ _ _ _ _ h=>(nomatch h),fun _ _ h=>(nomatch h),Zj' _⟩
  ·cases hv
theorem alT {R:Vx->Str×Th->Prop}{vx:List Vx}{vw:Vw}(h:Paired R vx vw)(hn:∀ a q,R a q->a.n=q.1):vx.map (fun a=>V.str a.n)=vw.map (fun a=>V.str a.1):=by
 induction h with
 |nil=>rfl
 |cons r _ ih=>rw[map_cons,map_cons,ih,hn _ _ r]
theorem MG {vx:List Vx}{vw:Vw}{R:Vx->Str×Th->Prop}(h:Paired R vx vw)(hn:∀ a q,R a q->a.n=q.1)(n:Str) :
  (vx.find? (fun a=>decide (a.n=n))=none/\bc vw n=none)\/∃ a th,∃ j:Nat,vx.find? (fun a=>decide (a.n=n))=some a/\bc vw n=some th/\R a (n,th)/\a.n=n/\vx[j]? = some a/\vw[j]? = some (n,th):=by
 induction h with
 |nil=>exact .inl ⟨rfl,rfl⟩
 | @cons a q as qs r t ih =>
  have e:=hn a q r
  by_cases hq:q.1=n
  ·refine .inr ⟨a,q.2,0,?_,?_,?_,e.trans hq,rfl,by rw[<-hq];rfl⟩
   ·rw[List.find?_cons_of_pos];exact W' (e.trans hq)
   ·unfold bc;rw[List.find?_cons_of_pos (p:=fun q:Str×Th=>decide (q.1=n)) (W' hq)];rfl
   ·rw[<-hq];exact r
  ·have h1:¬ decide (a.n=n)=true:=fun z=>hq (e ▸ U' z);have h2:¬ decide (q.1=n)=true:=fun z=>hq (U' z);have f1:(a::as).find? (fun a=>decide (a.n=n))=as.find? (fun a=>decide (a.n=n)):=List.find?_cons_of_neg h1;have f2:bc (q::qs) n=bc qs n:=by
    unfold bc;rw[List.find?_cons_of_neg (p:=fun q:Str×Th=>decide (q.1=n)) h2]
   rw[f1,f2];exact ih.imp id fun⟨a,th,j,h1,h2,h3,h4,h5,h6⟩=>⟨a,th,j+1,h1,h2,h3,h4,by simpa using h5,by simpa using h6⟩
theorem Bk.added {c:Cs}{H H1 H2 H':Hp}{x L D U:Addr}{all:List Vx}{M:MM}{Ps Fs:List MM}{es us:List Dd}{F:Addr->Prop}{vw:Vw}{ps fs:List Vw}(b:Rn c.B c.V c.D H x L D U all M Ps Fs es us)(i:Is H L all M vw)(pp:Paired (Is H L all) Ps ps)(f:X0 F L D U all es us)(wv:∀ v,v∈ps\/v=vw\/v∈fs->zw v)
  {a:Vx} {th:Th} (s1:aq H H1) (n1:H a.o=none) (n2:H a.l=none) (h1:H1 a.o=some (.ins c.V a.d (voF a.n a.tm a.l))) (h2:H1 a.l=some (.lst [])) (ht:∀ M',M' a.l=[]->ahp H1 M' a th) (w':zw (vw++[(a.n,th)]))
  {e:Dd} (eT:e.T=L) (ei:e.i=(M L).length) (eb:e.bs=[]) (ea:e.as=[.ref a.o]) (s2:aq H1 H2) (nB:H1 e.B=none) (nA:H1 e.A=none) (hd:qq c.D H2 (.ref e.o) e) {ds:List V} (hD:H D=some (.lst ds)) (pD:Paired (qq c.D H) ds es)
  (fr:∀ y o,H2 y=some o->y≠L->y≠D->y≠U->H' y=some o) (hL':H' L=some (.lst (M L++[.ref a.o]))) (hD':H' D=some (.lst (ds++[.ref e.o]))) (hU':H' U=some (.lst [])) :
  ∃ F',Gr F F' H/\Fr F H H'/\xw c H' x F' (vw++[(a.n,th)]) (ps++[vw]) []:=by
 have s12:=s1.trans s2;have kT:Kept (fun _=>True) H H2:=.same s12;have b2:=(b.grow s1 n1 n2 h1 h2).kept (F:=fun _=>True) ⟨trivial,trivial,trivial,fun _ _=>trivial,fun _ _=>⟨trivial,trivial⟩⟩ (.same s2);have w2:=w'.len;rw[Z']at w2;have ll:=ck i;have w2':vw.length+1<=12:=w2;have hM:xu e M L=M L++[.ref a.o]:=by
  unfold xu;rw[eT,h9,ei,eb,ea];simp
 have mo:∀ y,y≠L->xu e M y=M y:=fun y hy=>by
  unfold xu;exact qr (by rw[eT];exact hy)
 have wM:=b2.wf M (.inr (.inl rfl));have naL:∀ z∈all++[a],z.l≠L:=fun z hz=>(b2.nl z hz).1;obtain⟨ux,hU,_⟩:=b2.hU;have old:∀{y:Addr},H1 y=none->∀{z o},H z=some o->y≠z:=fun {y} hy {z o} hz q=>by rw[q,s1 _ _ hz]at hy;cases hy
 have oA:∀{y:Addr},H1 y=none->y≠L/\y≠D/\y≠U/\∀ z∈all++[a],y≠z.l:=fun {y} hy=>by
  obtain⟨u0,Xl,_⟩:=b.hU;refine⟨old hy b.hL,old hy hD,old hy Xl,fun z hz=>?_⟩;rcases Zk'.mp hz with hz|hz
  ·exact old hy (b.ha z hz).2
  ·rw[Zg'.mp hz];exact fun q=>by rw[q,h2]at hy;cases hy
 have ok:aev L D U (all++[a]) e:=⟨.inl eT,oA nB,oA nA,by rw[eb];simp,by rw[ea];simp⟩;have ft:Fits e M:=⟨by rw[ei,eb,eT];simp,by rw[eb];simp⟩;have wf2:WF H2 L (all++[a]) (xu e M) :=
  {
   vs:=(let ⟨vx,p⟩:=wM.vs;⟨vx++[a],by rw[hM];exact lF p ⟨rfl,Zm' _ (List.mem_singleton_self _)⟩⟩)
   ln:=fun z hz=>by rw[mo _ (naL z hz)];exact wM.ln z hz
   len:=by rw[hM,Z',ll];exact w2'
   out:=fun y h1 h2=>by rw[mo y h1];exact wM.out y h1 h2 }
 have i2:Is H2 L (all++[a]) M vw:=Is.kept kT (Is.grow i);have i':Is H2 L (all++[a]) (xu e M) (vw++[(a.n,th)]):=by
  show Paired _ (xu e M L) _;rw[hM];refine lF ?_ ?_
  ·refine cK (fun v q hq=>?_) i2;obtain⟨z,hz,e1,e2,e3⟩:=hq;refine⟨z,hz,e1,e2,?_⟩;cases hq2:q.2 with
   |pl ss=>rw[hq2]at e3;exact⟨e3.1,by rw[mo _ (naL z hz)];exact e3.2⟩
   |cn ld lt sl tn=>rw[hq2]at e3;exact e3
  ·refine⟨a,Zm' _ (List.mem_singleton_self _),rfl,rfl,?_⟩;have nal:a.l≠L:=naL a (Zm' _ (List.mem_singleton_self _));have:=ht (xu e M) (by rw[mo _ nal];exact(b.wf M (.inr (.inl rfl))).out _ nal fun z hz q=>by rw[q,(b.ha z hz).2]at n2;cases n2);show ahp H2 (xu e M) a th;cases th with
   |pl ss=>exact⟨this.1,this.2.same s2⟩
   |cn ld lt sl tn=>obtain⟨p,e1,e2⟩:=this;exact⟨p,e1,s2 _ _ e2⟩
 have B:=Bk.deed b2 i2 (cK (fun _ _ q=>Is.kept kT (Is.grow q)) pp) (F:=fun y=>F y\/y=a.l) ⟨.inl f.L,.inl f.D,.inl f.U,fun z hz=>by
   rcases Zk'.mp hz with hz|hz
   ·exact .inl (f.l z hz)
   ·rw[Zg'.mp hz];exact .inr rfl,fun e' he=>⟨.inl (f.d e' he).1,.inl (f.d e' he).2⟩⟩ (fun v hv=>wv v (hv.imp id .inl)) hd ok ft wf2 i' w' (vN (fun _ e' he q=>kL (F:=fun _=>True) kT ⟨trivial,trivial⟩ q) pD) (H2:=H')
  (fun y o hy y1 y2 y3=>fr y o hy (by rw[<-eT];exact y1) y2 y3) (by rw[eT,hM];exact hL') hD' hU'
 refine⟨_,fun y hy=>?_,fun y o hy hn=>fr y o (s12 y o hy) (fun q=>hn (q ▸ f.L)) (fun q=>hn (q ▸ f.D)) (fun q=>hn (q ▸ f.U)),B⟩;rcases hy with (hy|hy)|hy|hy
 ·exact .inl hy
 ·rw[hy];exact .inr n2
 ·rw[hy];exact .inr (s1.free nB)
 ·rw[hy];exact .inr (s1.free nA)
theorem Bk.ahr {c:Cs}{H H1 H':Hp}{x L D U:Addr}{all:List Vx}{M:MM}{Ps Fs:List MM}{es us:List Dd}{F:Addr->Prop}{vw:Vw}{ps fs:List Vw}(b:Rn c.B c.V c.D H x L D U all M Ps Fs es us)(i:Is H L all M vw)(pp:Paired (Is H L all) Ps ps)(f:X0 F L D U all es us)(wv:∀ v,v∈ps\/v=vw\/v∈fs->zw v)
  {a:Vx} (ha:a∈all) {j:Nat} {ss ss':List Sg} (hj:(M L)[j]? = some (.ref a.o)) (hm:vw[j]? = some (a.n,.pl ss)) (Xm:a.tm=.non) {e:Dd} (eT:e.T=a.l) (ft:Fits e M) (lb:e.bs.length<=1) (la:e.as.length<=1) (s1:aq H H1) (nB:H e.B=none) (nA:H e.A=none) (hd:qq c.D H1 (.ref e.o) e)
  (g':qo H1 (xu e M a.l) ss') (gl:ss'.length<=200) (gg:∀ s∈ss',Oy s) {ds:List V} (hD:H D=some (.lst ds)) (pD:Paired (qq c.D H) ds es)
  (fr:∀ y o,H1 y=some o->y≠a.l->y≠D->y≠U->H' y=some o) (hl':H' a.l=some (.lst (xu e M a.l))) (hD':H' D=some (.lst (ds++[.ref e.o]))) (hU':H' U=some (.lst [])) :
  ∃ F',Gr F F' H/\Fr F H H'/\xw c H' x F' (zO vw a.n (.pl ss')) (ps++[vw]) []:=by
 have kT:Kept (fun _=>True) H H1:=.same s1;have b2:=b.kept (F:=fun _=>True) ⟨trivial,trivial,trivial,fun _ _=>trivial,fun _ _=>⟨trivial,trivial⟩⟩ kT;have mo:∀ y,y≠a.l->xu e M y=M y:=fun y hy=>qr (by rw[eT];exact hy);have wM:=b2.wf M (.inr (.inl rfl));have wvw:=wv vw (.inr (.inl rfl));have oA:∀{y:Addr},H y=none->y≠L/\y≠D/\y≠U/\∀ z∈all,y≠z.l:=fun {y} hy=>by
  obtain⟨u0,Xl,_⟩:=b.hU;exact⟨Yb' (ao b.hL hy),Yb' (ao hD hy),Yb' (ao Xl hy),fun z hz=>Yb' (ao (b.ha z hz).2 hy)⟩
 have ok:aev L D U all e:=⟨.inr ⟨a,ha,eT⟩,oA nB,oA nA,lb,la⟩;have nal:L≠a.l:=Yb' (b.nl a ha).1;have wf2:WF H1 L all (xu e M) :=
  {
   vs:=by rw[mo L nal];exact wM.vs
   ln:=fun z hz=>by
    by_cases hza:z.l=a.l
    ·rw[hza];refine⟨by rw[ck g'];exact gl,fun v hv=>?_⟩;obtain⟨k,hk⟩:=getElem?_of_mem hv;obtain⟨sg,e1,e2⟩:=zL g' hk;exact⟨sg,e2,gg sg (Za' e1)⟩
    ·rw[mo _ hza];exact wM.ln z hz
   len:=by rw[mo L nal];exact wM.len
   out:=fun y h1 h2=>by rw[mo y (h2 a ha)];exact wM.out y h1 h2 }
 have i2:Is H1 L all M vw:=Is.kept kT i;have B:=Bk.deed b2 i2 (cK (fun _ _ q=>Is.kept kT q) pp) f (fun v hv=>wv v (hv.imp id .inl)) hd ok ft wf2 (Is.line b2 i2 wvw ha hj hm Xm mo g') (wvw.set (Za' hm) gl gg) (vN (fun _ e' he q=>kL (F:=fun _=>True) kT ⟨trivial,trivial⟩ q) pD) (H2:=H')
  (fun y o hy y1 y2 y3=>fr y o hy (by rw[<-eT];exact y1) y2 y3) (by rw[eT];exact hl') hD' hU'
 refine⟨_,fun y hy=>?_,fun y o hy hn=>fr y o (s1 y o hy) (fun q=>hn (q ▸ f.l a ha)) (fun q=>hn (q ▸ f.D)) (fun q=>hn (q ▸ f.U)),B⟩;rcases hy with hy|hy|hy
 ·exact .inl hy
 ·rw[hy];exact .inr nB
 ·rw[hy];exact .inr nA
def ThV (H:Hp)(v:V):Th->Prop
 |.pl ss=>∃ l ys,v=.ref l/\H l=some (.lst ys)/\qo H ys ss
 |.cn ld lt sl tn=>∃ p,v=.ref p/\H p=some (.tup [.str ld,.int lt,.int sl,.bl tn])
def OD (H:Hp)(kv:Key×V)(q:Str×Th):Prop:=kv.1=Sum.inr q.1/\ThV H kv.2 q.2
def vO (H:Hp)(d:Addr)(vw:Vw):Prop:=∃ kvs,H d=some (.dK kvs)/\Paired (OD H) kvs vw
theorem ThV.same {H H':Hp}(s:aq H H'){v:V}{th:Th}(h:ThV H v th):ThV H' v th:=by
 cases th with
 |pl ss=>obtain⟨l,ys,e1,e2,e3⟩:=h;exact⟨l,ys,e1,s _ _ e2,e3.same s⟩
 |cn ld lt sl tn=>obtain⟨p,e1,e2⟩:=h;exact⟨p,e1,s _ _ e2⟩
theorem OD.same {H H':Hp}(s:aq H H'){kv:Key×V}{q:Str×Th}(h:OD H kv q):OD H' kv q:=⟨h.1,h.2.same s⟩
theorem vO.same {H H':Hp}(s:aq H H'){d:Addr}{vw:Vw}(h:vO H d vw):vO H' d vw:=by
 obtain⟨kvs,e,p⟩:=h;exact⟨kvs,s _ _ e,cK (fun _ _ q=>q.same s) p⟩
theorem ZX {H:Hp}{kvs:List (Key×V)}{vw:Vw}(h:Paired (OD H) kvs vw){n:Str}{th:Th}(hf:bc vw n=some th):∃ v,uo kvs (Sum.inr n)=some v/\ThV H v th:=by
 induction h with
 |nil=>cases hf
 | @cons kv q as qs r t ih =>
  by_cases hq:q.1=n
  ·have e:bc (q::qs) n=some q.2:=by
    unfold bc;rw[List.find?_cons_of_pos (p:=fun q:Str×Th=>decide (q.1=n)) (W' hq)];rfl
   rw[e]at hf;cases hf;refine⟨kv.2,?_,r.2⟩;unfold uo;rw[List.find?_cons_of_pos (p:=fun kv:Key×V=>decide (kv.1=Sum.inr n)) (W' (by rw[r.1,hq]))];rfl
  ·have e:bc (q::qs) n=bc qs n:=by
    unfold bc;rw[List.find?_cons_of_neg (p:=fun q:Str×Th=>decide (q.1=n)) (fun z=>hq (U' z))]
   rw[e]at hf;obtain⟨v,h1,h2⟩:=ih hf;refine⟨v,?_,h2⟩;unfold uo at h1 ⊢;rw[List.find?_cons_of_neg (p:=fun kv:Key×V=>decide (kv.1=Sum.inr n)) (fun z=>hq (Sum.inr.inj (r.1.symm.trans (U' z))))];exact h1
theorem vO.get {H:Hp}{d:Addr}{vw:Vw}(h:vO H d vw){n:Str}{th:Th}(hf:bc vw n=some th):∃ v,uq H d (.str n) (some v)/\ThV H v th:=by
 obtain⟨kvs,e,p⟩:=h;obtain⟨v,h1,h2⟩:=ZX p hf;refine⟨v,?_,h2⟩;have:=uq.k (k:=Sum.inr n) e;rw[h1]at this;exact this
theorem vO.keys {H:Hp}{d:Addr}{vw:Vw}(h:vO H d vw):∃ kvs,H d=some (.dK kvs)/\(kvs.map fun kv=>kV kv.1)=vw.map fun q=>V.str q.1:=by
 obtain⟨kvs,e,p⟩:=h;refine⟨kvs,e,?_⟩;clear e
 induction p with
 |nil=>rfl
 |cons r _ ih=>rw[map_cons,map_cons,ih,r.1];rfl
theorem Bk.anY {CB CV CD:Addr}{H:Hp}{x:Addr}{F:Addr->Prop}{vw:Vw}{ps fs:List Vw}(h:Bk CB CV CD H x F vw ps fs):∃ F0:Addr->Prop,(∀ y,F0 y->F y)/\(∀ y,F0 y->∃ xs,H y=some (.lst xs))/\Bk CB CV CD H x F0 vw ps fs:=by
 obtain⟨L,D,U,all,M,Ps,Fs,es,us,b,i,pp,pf,f⟩:=h.ex;obtain⟨ds,hD,pD⟩:=b.hD;obtain⟨ux,hU,pU⟩:=b.hU;have dd:∀ e,e∈es\/e∈us->H e.B=some (.lst e.bs)/\H e.A=some (.lst e.as):=fun e he=>by
  rcases he with he|he
  ·obtain⟨k,hk⟩:=getElem?_of_mem he;obtain⟨v,_,q⟩:=wt pD hk;exact⟨q.2.2.1,q.2.2.2⟩
  ·obtain⟨k,hk⟩:=getElem?_of_mem he;obtain⟨v,_,q⟩:=wt pU hk;exact⟨q.2.2.1,q.2.2.2⟩
 refine⟨fun y=>y=L\/y=D\/y=U\/(∃ a∈all,y=a.l)\/∃ e,(e∈es\/e∈us)/\(y=e.B\/y=e.A),fun y hy=>?_,fun y hy=>?_,⟨⟨L,D,U,all,M,Ps,Fs,es,us,b,i,pp,pf,⟨.inl rfl,.inr (.inl rfl),.inr (.inr (.inl rfl)),fun a ha=>.inr (.inr (.inr (.inl ⟨a,ha,rfl⟩))),fun e he=>⟨.inr (.inr (.inr (.inr ⟨e,he,.inl rfl⟩))),.inr (.inr (.inr (.inr ⟨e,he,.inr rfl⟩)))⟩⟩⟩,h.wv⟩⟩
 ·rcases hy with rfl|rfl|rfl|⟨a,ha,rfl⟩|⟨e,he,rfl|rfl⟩
  ·exact f.L
  ·exact f.D
  ·exact f.U
  ·exact f.l a ha
  ·exact(f.d e he).1
  ·exact(f.d e he).2
 ·rcases hy with rfl|rfl|rfl|⟨a,ha,rfl⟩|⟨e,he,rfl|rfl⟩
  ·exact⟨_,b.hL⟩
  ·exact⟨_,hD⟩
  ·exact⟨_,hU⟩
  ·exact⟨_,(b.ha a ha).2⟩
  ·exact⟨_,(dd e he).1⟩
  ·exact⟨_,(dd e he).2⟩
structure Bq (c:Cs)(H:Hp)(x:Addr)(own:List Addr)(vw:Vw)(ps fs:List Vw):Prop where
 ex:∃ F,xw c H x F vw ps fs/\(∀ y,F y->∃ xs,H y=some (.lst xs))/\∀ a∈own,¬ F a/\∃ o,H a=some o
def aqg (own:List Addr)(H H':Hp):Prop:=∀ y o,H y=some o->((∀ xs,o≠.lst xs)\/y∈own)->H' y=some o
section
variable {c:Cs} {H H' H1:Hp} {x:Addr} {own:List Addr} {vw vw':Vw} {ps ps' fs fs':List Vw} {F F':Addr->Prop}
end
structure ari (vw:Vw):Prop where
 w:zw vw
 nm:∀ q∈vw,nameB q.1=true/\q.1 ≠ "zed"/\q.1.length<=1000
 ld:∀(i:Nat) n ld lt sl tn,vw[i]? = some (n,Th.cn ld lt sl tn)->∃ ss,(ld,Th.pl ss)∈vw.take i
 sh:∀ n ss,(n,Th.pl ss)∈vw->ss.length<=24
end IU
namespace L2
open PySem PySem.Spec PyProof.Rows
variable {X:Cx}
def alU:V->List V->Hp->VK->Prop:=fun x vs H Q=>∃(l:Addr)(ys:List Str)(z:Str)(j:Nat),x=.ref l/\vs=[.str z]/\H l=some (.lst (ys.map V.str))/\ys[j]? = some z/\(∀ i,i<j->ys[i]? ≠ some z)/\Q (.int j) H
theorem ahs:MtM X "list.index" alU:=by
 intro pins s σ H x vs v us Q I rx rv h;obtain⟨l,ys,k,j,rfl,rfl,hH,hj,hno,q⟩:=h;cases rx;obtain⟨u,rfl,t,rfl⟩:=rv.one;obtain⟨z,its,n,r,hl,e⟩:=I.Ri hH;have ha:=ZK r;have at_:∀{i:Nat} {y:Str},ys[i]? = some y->∃ t',its[i]? = some (.str y t'):=fun {i y} hy=>by
  obtain⟨u,hu,t',rfl⟩:=r.get (i:=i) (x:=.str y) (by rw[Zf',hy];rfl);exact⟨t',hu⟩
 have ln:its.length=ys.length:=by rw[<-j' (f:=V.str) (as:=ys)];exact hl.symm
 have hjl:j<ys.length:=(S'.mp hj).1;obtain⟨tj,ej⟩:=at_ hj;have b:sizeLine<2 ^ 60:=by decide
 have z':ys.length<=sizeLine:=by rw[<-j' (f:=V.str) (as:=ys)];exact z
 refine call_meets F.slot_list_index ⟨_,e,rfl⟩ F.entry_list_index (F.args_list_index_2 _ _)
  (MeetsSeq.list_index l its.toArray n (.str k t) (isStrOf k) (fun y hy=>eq_isStrOf k t ha y (by simpa using hy)) j (by rw[Ya'];omega) (by omega) ?_ ?_) ⟨e,?_⟩
 ·have:its.toArray[j]'(by rw[Ya'];omega)=.str k tj:=by
   have:=(S'.mp ej).2
   simpa using this
  rw[this];exact beq_self_eq_true k
 ·intro i hi hlt;have hil:i<ys.length:=by omega
  have hy:ys[i]? = some ys[i]:=T' hil;obtain⟨ti,ei⟩:=at_ hy;have:its.toArray[i]'hi=.str ys[i] ti:=by
   have:=(S'.mp ei).2
   simpa using this
  rw[this];exact beq_eq_false_iff_ne.mpr fun z=>hno i hlt (by rw[hy,z])
 ·exact⟨.int j,H,I.tok _,⟨_,rfl⟩,q⟩
end L2
namespace IU
open PySem L2
theorem Bk.dropped {c:Cs}{H H1 H':Hp}{x L D U:Addr}{all:List Vx}{M:MM}{Ps Fs:List MM}{es us:List Dd}{F:Addr->Prop}{vw:Vw}{ps fs:List Vw}(b:Rn c.B c.V c.D H x L D U all M Ps Fs es us)(i:Is H L all M vw)(pp:Paired (Is H L all) Ps ps)(f:X0 F L D U all es us)(wv:∀ v,v∈ps\/v=vw\/v∈fs->zw v)
  {j:Nat} {v:V} (hj:(M L)[j]? = some v) (w':zw (vw.take j++vw.drop (j+1))) {e:Dd} (eT:e.T=L) (ei:e.i=j) (eb:e.bs=[v]) (ea:e.as=[]) (s1:aq H H1) (nB:H e.B=none) (nA:H e.A=none) (hd:qq c.D H1 (.ref e.o) e)
  {ds:List V} (hD:H D=some (.lst ds)) (pD:Paired (qq c.D H) ds es)
  (fr:∀ y o,H1 y=some o->y≠L->y≠D->y≠U->H' y=some o) (hL':H' L=some (.lst ((M L).take j++(M L).drop (j+1)))) (hD':H' D=some (.lst (ds++[.ref e.o]))) (hU':H' U=some (.lst [])) :
  ∃ F',Gr F F' H/\Fr F H H'/\xw c H' x F' (vw.take j++vw.drop (j+1)) (ps++[vw]) []:=by
 have kT:Kept (fun _=>True) H H1:=.same s1;have b2:=b.kept (F:=fun _=>True) ⟨trivial,trivial,trivial,fun _ _=>trivial,fun _ _=>⟨trivial,trivial⟩⟩ kT;have hjl:j<(M L).length:=(S'.mp hj).1;have hM:xu e M L=(M L).take j++(M L).drop (j+1):=by
  unfold xu;rw[eT,h9,ei,eb,ea];simp
 have mo:∀ y,y≠L->xu e M y=M y:=fun y hy=>qr (by rw[eT];exact hy);have wM:=b2.wf M (.inr (.inl rfl));have naL:∀ z∈all,z.l≠L:=fun z hz=>(b2.nl z hz).1;have oA:∀{y:Addr},H y=none->y≠L/\y≠D/\y≠U/\∀ z∈all,y≠z.l:=fun {y} hy=>by
  obtain⟨u0,Xl,_⟩:=b.hU;exact⟨Yb' (ao b.hL hy),Yb' (ao hD hy),Yb' (ao Xl hy),fun z hz=>Yb' (ao (b.ha z hz).2 hy)⟩
 have ok:aev L D U all e:=⟨.inl eT,oA nB,oA nA,by rw[eb];simp,by rw[ea];simp⟩;have ft:Fits e M:=by
  refine⟨by rw[ei,eb,eT];exact hjl,?_⟩;rw[eb,eT,ei];show((M L).drop j).take 1=[v];rw[List.drop_eq_getElem_cons hjl,List.take_succ_cons,List.take_zero];rw[(S'.mp hj).2]
 have wf2:WF H1 L all (xu e M) :=
  {
   vs:=(let ⟨vx,p⟩:=wM.vs;⟨vx.take j++vx.drop (j+1),by rw[hM];exact IV (MC j p) (MB (j+1) p)⟩)
   ln:=fun z hz=>by rw[mo _ (naL z hz)];exact wM.ln z hz
   len:=by rw[hM,Z',Ze',length_drop];have:=wM.len;omega
   out:=fun y h1 h2=>by rw[mo y h1];exact wM.out y h1 h2 }
 have i2:Is H1 L all M vw:=Is.kept kT i;have i3:Paired (ZV H1 all (xu e M)) (M L) vw:=by
  refine cK (fun v q hq=>?_) i2;obtain⟨z,hz,e1,e2,e3⟩:=hq;refine⟨z,hz,e1,e2,?_⟩;cases hq2:q.2 with
  |pl ss=>rw[hq2]at e3;exact⟨e3.1,by rw[mo _ (naL z hz)];exact e3.2⟩
  |cn ld lt sl tn=>rw[hq2]at e3;exact e3
 have i':Is H1 L all (xu e M) (vw.take j++vw.drop (j+1)):=by
  show Paired _ (xu e M L) _;rw[hM];exact IV (MC j i3) (MB (j+1) i3)
 have B:=Bk.deed b2 i2 (cK (fun _ _ q=>Is.kept kT q) pp) f (fun v hv=>wv v (hv.imp id .inl)) hd ok ft wf2 i' w' (vN (fun _ e' he q=>kL (F:=fun _=>True) kT ⟨trivial,trivial⟩ q) pD) (H2:=H')
  (fun y o hy y1 y2 y3=>fr y o hy (by rw[<-eT];exact y1) y2 y3) (by rw[eT,hM];exact hL') hD' hU'
 refine⟨_,fun y hy=>?_,fun y o hy hn=>fr y o (s1 y o hy) (fun q=>hn (q ▸ f.L)) (fun q=>hn (q ▸ f.D)) (fun q=>hn (q ▸ f.U)),B⟩;rcases hy with hy|hy|hy
 ·exact .inl hy
 ·rw[hy];exact .inr nB
 ·rw[hy];exact .inr nA
def sN (n:Str)(q:Str×Th):Bool:=match q.2 with
 |.cn ld _ _ _=>decide (ld=n)
 |.pl _=>false
def leans (vw:Vw)(n:Str):Bool:=vw.any (sN n)
def uI (vw:Vw)(n:Str):Vw:=vw.filter fun q=>!decide (q.1=n)
theorem ZY {n:Str}:∀{vw:Vw},(∀ q∈vw,q.1≠n)->uI vw n=vw:=fun {vw} h =>
 List.filter_eq_self.mpr fun q hq=>by rw[X' (h q hq)];rfl
theorem OE {n:Str}{th:Th}:∀{vw:Vw} {j:Nat},(vw.map (·.1)).Nodup->vw[j]? = some (n,th)->uI vw n=vw.take j++vw.drop (j+1)
 |[],_,_,h=>by simp at h
 |q::vw,0,nd,h=>by
  simp only [List.getElem?_cons_zero,Option.some.injEq]at h;rw[map_cons]at nd;obtain⟨n1,_⟩:=List.nodup_cons.mp nd;unfold uI;rw[List.filter_cons_of_neg (by rw[h];simp)];refine ZY fun q' hq' e=>n1 ?_;rw[h];exact e ▸ mem_map.mpr ⟨q',hq',rfl⟩
 |q::vw,j+1,nd,h=>by
  rw[List.getElem?_cons_succ]at h;rw[map_cons]at nd;obtain⟨n1,n2⟩:=List.nodup_cons.mp nd;have ne:q.1≠n:=fun e=>n1 (e ▸ mem_map.mpr ⟨(n,th),Za' h,rfl⟩);unfold uI;rw[List.filter_cons_of_pos (by rw[X' ne];rfl)];have:=OE n2 h;unfold uI at this;rw[this];rfl
theorem BS {vw:Vw}{n:Str}{q:Str×Th}:q∈uI vw n ↔ q∈vw/\q.1≠n:=by
 unfold uI;rw[List.mem_filter];simp
theorem zw.dropped {vw:Vw}(w:zw vw){n:Str}(h:leans vw n=false):zw (uI vw n) where
 nd:=List.Sublist.nodup (List.Sublist.map _ List.filter_sublist) w.nd
 ld:=fun m ld lt sl tn hm=>by
  obtain⟨hm,_⟩:=BS.mp hm;obtain⟨⟨ss,hs⟩,r⟩:=w.ld m ld lt sl tn hm;refine⟨⟨ss,BS.mpr ⟨hs,fun e=>?_⟩⟩,r⟩;have:=List.any_eq_false.mp h _ hm;exact this (W' e)
 gd:=fun m ss hm=>w.gd m ss (BS.mp hm).1
 len:=Zh' (List.length_filter_le _ _) w.len
end IU
namespace L2
open PySem PySem.Spec PyProof.Rows
theorem ajx {z:Str}{g:TG}{tb:TS}{D:Ends}{σ:St}{H:Hp}(Pv:Nat->St->Hp->Prop)(h0:Pv 0 σ H)
  (hs:∀ i c σ H,z.cps[i]? = some c->Pv i σ H->g (.str ⟨#[c]⟩) σ H fun σ2 H2=>tb { D with nx:=Pv (i+1),ct:=Pv (i+1),bk:=D.nx } σ2 H2) (hd:∀ σ H,Pv z.cps.size σ H->D.nx σ H) :
  ∃ W:Nat->Nat->St->Hp->Prop,(∃ m,W 0 m σ H)/\∀ i m σ H,W i m σ H ->
   ((Its z).stop i H/\D.nx σ H)\/((Its z).go i H/\∃ N:St->Hp->Prop,(∀ σ' H',N σ' H'->∃ m',m'<m/\W (i+1) m' σ' H')/\∀ x H',(Its z).yld i H x H'->g x σ H' fun σ2 H2=>tb { D with nx:=N,ct:=N,bk:=D.nx } σ2 H2):=by
 refine⟨fun i m σ H=>m=z.cps.size-i/\i<=z.cps.size/\Pv i σ H,⟨z.cps.size,by simp,Zj' _,h0⟩,?_⟩;rintro i m σ H ⟨rfl,hi,p⟩
 by_cases hlt:i<z.cps.size
 ·refine .inr ⟨hlt,Pv (i+1),fun σ' H' p'=>⟨z.cps.size-(i+1),by omega,rfl,hlt,p'⟩,fun x H' y=>?_⟩;obtain⟨e,c,hc,rfl⟩:=y;subst e;exact hs i c σ _ hc p
 ·have e:i=z.cps.size:=by omega
  subst e;exact .inl ⟨Zi' _,hd σ H p⟩
end L2
namespace IU
open PySem L2
def Ct (ks:List Kd):Nat->Nat->Nat
 |0,_=>0
 |p+1,met=>if(if(ks.getD p .dot).small=true then met else met+1)=2 then p else Ct ks p (if(ks.getD p .dot).small=true then met else met+1)
def SD (wide:Bool)(k:Kd):Bool:=if wide=true then k.meas else k.parting
def SE (ks:List Kd)(i:Nat)(wide:Bool):Nat:=i+((ks.drop i).takeWhile fun k=>!SD wide k).length
def ZZ (wide:Bool):List V:=if wide=true then [.str "3",.str "2"] else [.str ".",.str "3",.str "2"]
theorem aht (wide:Bool)(k:Kd):inV (.str k.str) (ZZ wide)=SD wide k:=by cases wide <;> cases k <;> decide +kernel
def Z0 (ss:List Sg)(i b:Nat)(ch:List Sg):List V:=[.int (Ct (bO ss) i 0:Nat),.int (SE (bO ss) b (ch.any fun s=>s.1.meas):Nat)]
theorem X2 {p:Kd->Bool}:∀{l:List Kd} {j:Nat} {k:Kd},(∀ m x,m<j->l[m]? = some x->p x=true)->l[j]? = some k->p k=false->(l.takeWhile p).length=j
 |[],_,_,_,h,_=>by simp at h
 |x::l,0,k,_,h,hk=>by
  simp only [List.getElem?_cons_zero,Option.some.injEq]at h;rw[h,List.takeWhile_cons_of_neg (by rw[hk];decide)];rfl
 |x::l,j+1,k,hi,h,hk=>by
  rw[List.takeWhile_cons_of_pos (hi 0 x (Nat.succ_pos _) rfl),Zp',X2 (l:=l) (j:=j) (fun m y hm hy=>hi (m+1) y (Nat.succ_lt_succ hm) (by simpa using hy)) (by simpa using h) hk]
theorem SF {p:Kd->Bool}:∀{l:List Kd},(∀(m:Nat)(x:Kd),l[m]? = some x->p x=true)->(l.takeWhile p).length=l.length
 |[],_=>rfl
 |x::l,h=>by
  rw[List.takeWhile_cons_of_pos (h 0 x rfl),Zp',Zp',SF (l:=l) fun m y hy=>h (m+1) y (by simpa using hy)]
theorem ajy {ks:List Kd}{i j:Nat}{wide:Bool}{k:Kd}(hi:∀ m x,m<j->ks[i+m]? = some x->SD wide x=false)(h:ks[i+j]? = some k)(hk:SD wide k=true):SE ks i wide=i+j:=by
 unfold SE;rw[X2 (j:=j) (k:=k) (fun m x hm hx=>by rw[getElem?_drop]at hx;rw[hi m x hm hx];rfl) (by rw[getElem?_drop];exact h) (by rw[hk];rfl)]
theorem ahu {ks:List Kd}{i:Nat}{wide:Bool}(hl:i<=ks.length)(hi:∀(m:Nat)(x:Kd),ks[i+m]? = some x->SD wide x=false):SE ks i wide=ks.length:=by
 unfold SE;rw[SF (fun m x hx=>by rw[getElem?_drop]at hx;rw[hi m x hx];rfl),length_drop];omega
def kdOf (k:Str):Kd:=if k = "G" then .G else if k = "D" then .D else if k = "R" then .R else if k = "s" then .s else if k = "d" then .d else if k = "r" then .r else if k = "." then .dot else if k = "3" then .three else .two
theorem ahv (k:Kd):kdOf k.str=k:=by cases k <;> decide +kernel
def OF (s:Sn):Sg:=(kdOf s.1,s.2)
theorem FG {s:Sg}{n:Sn}(h1:s.1.str=n.1)(h2:s.2=n.2):OF n=s:=by
 unfold OF;rw[<-h1,<-h2,ahv]
theorem ahw {n:Sn}(h:js n=true):(OF n).1.str=n.1/\(OF n).2=n.2/\Oy (OF n):=by
 obtain⟨s,h1,h2,g⟩:=TZ h;rw[FG h1 h2];exact⟨h1,h2,g⟩
inductive Wy where
 |put|cut|swap|add|canon|drop|undo|xJ
 deriving DecidableEq
def Wy.str:Wy->Str
 |.put=>"put" | .cut=>"cut" | .swap=>"swap" | .add=>"add" | .canon=>"canon" | .drop=>"drop" | .undo=>"undo" | .xJ=>"redo"
structure De where
 wy:Wy
 n:Str
 ld:Str
 pl:Int
 sg:Sn
 lt:Int
 sl:Int
 tn:Bool
structure DeS (H:Hp)(v:V)(d:De):Prop where
 ex:∃ p xs,v=.ref p/\H p=some (.tup xs)/\xs[0]? = some (.str d.wy.str)/\xs[1]? = some (.str d.n)/\(d.wy=.put\/d.wy=.swap->∃ ps,xs[4]? = some (.ref ps)/\H ps=some (.tup [.str d.sg.1,.int d.sg.2]))/\(d.wy=.canon->xs[2]? = some (.str d.ld)/\xs[5]? = some (.int d.lt)/\xs[6]? = some (.int d.sl)/\xs[7]? = some (.bl d.tn))
def zR (H:Hp)(v:V)(d:De):Prop:=∃ p ps,v=.ref p/\H p=some (.tup [.str d.wy.str,.str d.n,.str d.ld,.int d.pl,.ref ps,.int d.lt,.int d.sl,.bl d.tn])/\H ps=some (.tup [.str d.sg.1,.int d.sg.2])
theorem zR.short {H:Hp}{v:V}{d:De}(h:zR H v d):DeS H v d:=by
 obtain⟨p,ps,e,h1,h2⟩:=h;exact⟨p,_,e,h1,rfl,rfl,fun _=>⟨ps,rfl,h2⟩,fun _=>⟨rfl,rfl,rfl,rfl⟩⟩
theorem zR.same {H H':Hp}(s:aq H H'){v:V}{d:De}(h:zR H v d):zR H' v d:=by
 obtain⟨p,ps,e,h1,h2⟩:=h;exact⟨p,ps,e,s _ _ h1,s _ _ h2⟩
def DvR (H:Hp)(v:V)(vw:Vw):Prop:=∃ d,v=.ref d/\vO H d vw
theorem DvR.same {H H':Hp}(s:aq H H'){v:V}{vw:Vw}(h:DvR H v vw):DvR H' v vw:=by
 obtain⟨d,e,h⟩:=h;exact⟨d,e,h.same s⟩
structure Std where
 vw:Vw
 ps:List Vw
 fs:List Vw
def X3 (H:Hp)(v:V)(st:Std):Prop:=∃ p d a b xs ys,v=.ref p/\H p=some (.tup [.ref d,.ref a,.ref b])/\vO H d st.vw/\H a=some (.lst xs)/\Paired (DvR H) xs st.ps/\H b=some (.lst ys)/\Paired (DvR H) ys st.fs
theorem X3.same {H H':Hp}(s:aq H H'){v:V}{st:Std}(h:X3 H v st):X3 H' v st:=by
 obtain⟨p,d,a,b,xs,ys,e,h1,h2,h3,h4,h5,h6⟩:=h;exact⟨p,d,a,b,xs,ys,e,s _ _ h1,h2.same s,s _ _ h3,cK (fun _ _ q=>q.same s) h4,s _ _ h5,cK (fun _ _ q=>q.same s) h6⟩
def i6 (lt sl:Int):Prop:=0<=lt/\lt<=999/\1<=sl/\sl<=9
instance (lt sl:Int):Decidable (i6 lt sl):=by unfold i6;exact inferInstance
def dA (vw:Vw)(n:Str):Option Rf:=if nameB n=false then some .NV else if(bc vw n).isSome then some .BR else if 12<=vw.length then some .Full else none
def jt (vw:Vw)(ld:Str)(lt sl:Int):Option Rf:=match bc vw ld with
 |none=>some .cC
 |some (.cn _ _ _ _)=>some .iB
 |some (.pl _)=>if i6 lt sl then none else some .uG
def qd (vw:Vw)(n:Str):Option Rf:=match bc vw n with
 |none=>some .cC
 |some _=>if leans vw n=true then some .C0 else none
def rO (vw:Vw)(wy:Wy)(n:Str)(at_:Int)(sg:Sn):Option Rf:=match bc vw n with
 |none=>some .cC
 |some (.cn _ _ _ _)=>some .iB
 |some (.pl ss)=>if at_<0\/(ss.length:Int)+(if wy=.put then 1 else 0)<=at_ then some .rN else if wy≠.cut/\js sg=false then some .uF else if wy=.put/\200<=ss.length then some .Full else none
def j8 (st:Std)(d:De)(at_:Int):Option Rf:=match d.wy with
 |.undo=>if st.ps=[] then some .oJ else none
 |.xJ=>if st.fs=[] then some .oJ else none
 |.drop=>qd st.vw d.n
 |.add=>dA st.vw d.n
 |.canon=>match dA st.vw d.n with
  |some r=>some r
  |none=>jt st.vw d.ld d.lt d.sl
 |w=>rO st.vw w d.n at_ d.sg
def gD (ss:List Sg)(wy:Wy)(sg:Sn)(i:Nat):List Sg:=match wy with
 |.cut=>ss.take i++[]++ss.drop (i+1)
 |.swap=>ss.take i++[OF sg]++ss.drop (i+1)
 |_=>ss.take i++[OF sg]++ss.drop i
def sO (vw:Vw)(n:Str):List Sg:=match bc vw n with
 |some (.pl ss)=>ss
 |_=>[]
def iC (st:Std)(d:De)(at_:Int):Std:=match d.wy with
 |.undo=>⟨st.ps.getLast?.getD [],st.ps.dropLast,st.fs++[st.vw]⟩
 |.xJ=>⟨st.fs.getLast?.getD [],st.ps++[st.vw],st.fs.dropLast⟩
 |.drop=>⟨uI st.vw d.n,st.ps++[st.vw],[]⟩
 |.add=>⟨st.vw++[(d.n,.pl [])],st.ps++[st.vw],[]⟩
 |.canon=>⟨st.vw++[(d.n,.cn d.ld d.lt d.sl d.tn)],st.ps++[st.vw],[]⟩
 |w=>⟨zO st.vw d.n (.pl (gD (sO st.vw d.n) w d.sg at_.toNat)),st.ps++[st.vw],[]⟩
def sP (H:Hp)(st:Std)(d:De)(at_:Int)(v:V):Prop:=match d.wy with
 |.put=>∃ w,v=.ref w/\H w=some (.tup (Z0 (gD (sO st.vw d.n) .put d.sg at_.toNat) at_.toNat (at_.toNat+1) [OF d.sg]))
 |.cut=>∃ w,v=.ref w/\∃ s,(sO st.vw d.n)[at_.toNat]? = some s/\H w=some (.tup (Z0 (gD (sO st.vw d.n) .cut d.sg at_.toNat) at_.toNat at_.toNat [s]))
 |.swap=>∃ w,v=.ref w/\∃ s,(sO st.vw d.n)[at_.toNat]? = some s/\H w=some (.tup (Z0 (gD (sO st.vw d.n) .swap d.sg at_.toNat) at_.toNat (at_.toNat+1) [s,OF d.sg]))
 |_=>v=.non
def Rf.str:Rf->Str
 |.uF=>"BadSign" | .NV=>"BadName" | .BR=>"NameTaken" | .Full=>"Full" | .cC=>"NoVoice" | .iB=>"NotPlain" | .rN=>"NoPlace" | .uG=>"BadTerm" | .C0=>"Leaned" | .oJ=>"NoMore"
def Nd:Option Rf->Str
 |none=>""
 |some r=>r.str
def FH (vw:Vw)(n:Str):Int:=match bc vw n with
 |some (.pl ss)=>ss.length
 |_=>5
def cH (vw:Vw)(d:De):Int:=if d.pl % 16=7 then([-1,-FH vw d.n-1,FH vw d.n+40,10 ^ 12].getD (d.pl / 16 % 4).toNat 0) else d.pl / 16 % (FH vw d.n+2)
theorem cN {K:Frag}{H:Hp}{p:Addr}{xs:List V}{i:Nat}{v:V}{Q:VK}(h:H p=some (.tup xs))(e:xs[i]? = some v)(q:Q v H):Tu K (.ref p) (.int (i:Int)) H Q\/Tv K (.ref p) (.int (i:Int)) H Q\/Tw (.ref p) (.int (i:Int)) H Q:=.inr (.inl ⟨p,_,i,v,rfl,rfl,vH.of h,Fu e,q⟩)
theorem Z1 {H:Hp}{kvs:List (Key×V)}{vw:Vw}(h:Paired (OD H) kvs vw){n:Str}(hf:bc vw n=none):uo kvs (Sum.inr n)=none:=by
 cases e:uo kvs (Sum.inr n) with
 |none=>rfl
 |some v =>
  have hm:=ajm e;obtain⟨kv,hk,hk2⟩:=mem_map.mp hm;obtain⟨i,hi⟩:=getElem?_of_mem hk;obtain⟨q,hq,r⟩:=zL h hi;exact P' (Sum.inr.inj (r.1.symm.trans hk2)) (sM hf q (Za' hq))
theorem vO.look {H:Hp}{d:Addr}{vw:Vw}(h:vO H d vw)(n:Str):(bc vw n=none/\uq H d (.str n) none)\/∃ th v,bc vw n=some th/\uq H d (.str n) (some v)/\ThV H v th:=by
 cases e:bc vw n with
 |none =>
  obtain⟨kvs,e1,p⟩:=h;have:=uq.k (k:=Sum.inr n) e1;rw[Z1 p e]at this;exact .inl ⟨rfl,this⟩
 |some th =>
  obtain⟨v,h1,h2⟩:=h.get e;exact .inr ⟨th,v,rfl,h1,h2⟩
theorem vO.len {H:Hp}{d:Addr}{vw:Vw}(h:vO H d vw):∃ kvs,H d=some (.dK kvs)/\kvs.length=vw.length:=by
 obtain⟨kvs,e,p⟩:=h;exact⟨kvs,e,ck p⟩
theorem X4 {H H':Hp}{a:Addr}{y:V}{r:Option V}(s:aq H H')(h:uq H a y r):uq H' a y r:=by
 have rd:∀{u},Rd H a u->Rd H' a u:=fun z=>z.imp (fun e=>s _ _ e) fun⟨o,e⟩=>⟨o,s _ _ e⟩;rcases h with ⟨kvs,k,e,e2,e3⟩|⟨kvs,k,b,e,e2,e3,e4⟩
 ·exact .inl ⟨kvs,k,rd e,e2,e3⟩
 ·exact .inr ⟨kvs,k,b,rd e,e2,s _ _ e3,e4⟩
theorem mU {vw:Vw}{wy:Wy}{n:Str}{a:Int}{sg:Sn}(h:bc vw n=none):rO vw wy n a sg=some .cC:=by unfold rO;rw[h]
theorem sQ {vw:Vw}{wy:Wy}{n ld:Str}{a lt sl:Int}{tn:Bool}{sg:Sn}(h:bc vw n=some (.cn ld lt sl tn)):rO vw wy n a sg=some .iB:=by unfold rO;rw[h]
theorem sR {vw:Vw}{wy:Wy}{n:Str}{a:Int}{sg:Sn}{ss:List Sg}(h:bc vw n=some (.pl ss)):rO vw wy n a sg=if a<0\/(ss.length:Int)+(if wy=.put then 1 else 0)<=a then some .rN else if wy≠.cut/\js sg=false then some .uF else if wy=.put/\200<=ss.length then some .Full else none:=by unfold rO;rw[h]
theorem lI (a b:Wy):decide (V.str a.str=V.str b.str)=decide (a=b):=by cases a <;> cases b <;> decide +kernel
def qe:List Str:=["G","D","R","s","d","r",".","3","2","g",""]
theorem ahx {k:Str}(h:k∈qe):(decide (k.length=1)&&Rl k "GDRsdr.32")=(inV (.str k) oI||inV (.str k) lO)/\(inV (.str k) oI=true->Rl k "Rr.32" = false)/\(inV (.str k) lO=true->Rl k "Rr.32" = true/\inV (.str k) oI=false):=by
 have:qe.all (fun k=>decide ((decide (k.length=1)&&Rl k "GDRsdr.32")=(inV (.str k) oI||inV (.str k) lO))&&(!inV (.str k) oI || !Rl k "Rr.32")&&(!inV (.str k) lO||(Rl k "Rr.32" && !inV (.str k) oI)))=true:=by lk
 have:=all_eq_true.mp this k h;simp only [Bool.and_eq_true,decide_eq_true_eq,Bool.or_eq_true,Bool.not_eq_true']at this;obtain⟨⟨h1,h2⟩,h3⟩:=this;refine⟨h1,fun z=>?_,fun z=>?_⟩
 ·rcases h2 with h2|h2
  ·rw[z]at h2;cases h2
  ·exact h2
 ·rcases h3 with h3|h3
  ·rw[z]at h3;cases h3
  ·exact h3
theorem alV {k:Str}(h:k∈qe):k.length<=1:=by
 have:qe.all (fun k=>decide (k.length<=1))=true:=by lk
 exact U' (all_eq_true.mp this k h)
def X5 (s:Sn):Bool:=decide (s.1.length=1)&&(Rl s.1 "GDRsdr.32" && (decide (0<=s.2)&&decide (s.2<100)))
theorem aey {s:Sn}(h:s.1∈qe):(!X5 s||(!decide (s.2=0)&&Rl s.1 "Rr.32")) = !js s:=by
 obtain⟨h1,h2,h3⟩:=ahx h;unfold X5 js;rw[<-Bool.and_assoc,h1];cases e1:inV (.str s.1) oI with
 |true =>
  rw[h2 e1,Bool.and_false,Bool.or_false,Bool.true_or,Bool.true_and]
  by_cases a:0<=s.2
  ·rw[W' a,Bool.true_and];simp only [if_true]
   congr 1
   exact decide_eq_decide.mpr (by omega)
  ·rw[X' a];simp
 |false =>
  rw[Bool.false_or];cases e2:inV (.str s.1) lO with
  |true =>
   rw[(h3 e2).1,Bool.and_true,Bool.true_and]
   by_cases a:s.2=0
   ·rw[a];decide
   ·rw[X' a];simp[a]
  |false=>simp
def noX (n:Str):Bool:=!decide (n.cps[0]? = ("x":Str).cps[0]?)
structure Z2 (d:De):Prop where
 nl:d.n.length<=1000
 ll:d.ld.length<=1000
 sk:d.sg.1∈qe
 nx:noX d.n=true
end IU
local macro_rules | `(tactic| tm_up) => `(tactic| repeat w_up)
local macro_rules | `(tactic| w_up) => `(tactic| first
 |refine⟨_,rfl,?_⟩
 |refine⟨_,_,rfl,rfl,⟨by decide,by decide⟩,?_⟩
 |refine⟨_,_,rfl,rfl,(by first|decide|(show(0:Int)<_;decide)),?_⟩
 |refine .inl ⟨_,_,rfl,rfl,.inr ⟨by decide,by decide⟩,?_⟩
 |refine⟨_,_,rfl,rfl,?_⟩
 |refine .inl ⟨_,_,rfl,rfl,?_⟩
 |refine .inl ⟨rfl,?_⟩
 |refine .inr ⟨_,_,rfl,rfl,?_⟩
 |refine IU.ix0 (by assumption) ?_
 |refine IU.ix1 (by assumption) ?_)
namespace IU
open PySem L2
def top (i:Nat):Stmt:=PySem.Challenge.pw_noteworth_k35_doors_that_ask_a_voice.main.body.getD i (.Pass ⟨0,0,0,0⟩)
abbrev gs:Stmt:=inClass (top 62) 0
abbrev kM:Stmt:=inClass (top 62) 9
abbrev cI:Stmt:=inClass (top 62) 17
abbrev i7:Stmt:=inClass (top 62) 12
abbrev r0:Stmt:=top 89
abbrev r6:Stmt:=top 91
abbrev wA:Stmt:=top 90
abbrev iD:Stmt:=top 23
abbrev oK:Stmt:=top 27
abbrev r9:Stmt:=top 38
abbrev jC:Stmt:=top 37
abbrev cO:Stmt:=top 39
abbrev BU:Stmt:=top 22
abbrev IZ:Stmt:=top 28
abbrev gu:Stmt:=top 40
abbrev fi:Stmt:=top 41
abbrev et:Stmt:=top 42
abbrev eA:Stmt:=top 43
abbrev kO:Stmt:=top 44
abbrev sd:Stmt:=top 45
abbrev wB:Stmt:=top 46
abbrev wC:Stmt:=top 29
abbrev dU:Stmt:=inClass (top 62) 10
abbrev gE:Stmt:=inClass (top 62) 11
abbrev mz:Stmt:=top 83
abbrev wD:Stmt:=top 85
abbrev se:Stmt:=top 86
abbrev BV:Stmt:=top 87
abbrev wF:Stmt:=top 88
abbrev mB:Stmt:=top 84
abbrev oM:Stmt:=top 92
abbrev sf:Stmt:=top 73
abbrev mC:Stmt:=top 68
abbrev mD:Stmt:=top 70
abbrev bS:Stmt:=top 71
abbrev si:Stmt:=top 69
abbrev sj:Stmt:=top 72
abbrev sq:Stmt:=top 76
abbrev fk:Stmt:=top 74
abbrev eB:Stmt:=top 75
abbrev fm:Stmt:=top 77
abbrev mE:Stmt:=top 78
abbrev gw:Stmt:=top 79
abbrev oN:Stmt:=top 80
abbrev cb:Stmt:=top 57
abbrev Ja:Stmt:=top 21
abbrev c7:Stmt:=top 58
abbrev sr:Stmt:=inClass (top 55) 1
abbrev iE:Stmt:=inClass (top 62) 14
abbrev su:Stmt:=top 59
abbrev oO:Stmt:=top 60
abbrev wG:Stmt:=top 61
abbrev cB:Stmt:=inClass (top 62) 18
abbrev gx:Stmt:=inClass (top 55) 0
abbrev ia:Stmt:=inClass (top 62) 4
abbrev km:Stmt:=inClass (top 62) 5
abbrev gF:Stmt:=inClass (top 62) 6
abbrev iR:Stmt:=inClass (top 62) 3
abbrev kn:Stmt:=top 64
abbrev wH:Stmt:=top 24
abbrev xK:Stmt:=top 65
abbrev qt:Stmt:=top 66
abbrev dH:Stmt:=top 93
abbrev i8:Stmt:=top 94
abbrev sv:Stmt:=top 56
abbrev cm:Stmt:=inClass (top 62) 16
abbrev jD:Stmt:=inClass (top 62) 15
abbrev fo:Stmt:=inClass (top 54) 0
abbrev cD:Stmt:=inClass (top 62) 2
abbrev dJ:Stmt:=inClass (top 62) 1
abbrev mF:Stmt:=inClass (top 55) 2
abbrev ko:Stmt:=inClass (top 62) 7
abbrev kq:Stmt:=inClass (top 62) 8
abbrev l4:Stmt:=top 81
abbrev oP:Stmt:=top 82
abbrev zS:Stmt:=top 95
theorem Jb:aI ["self"] ["self"] (ae gs):=⟨rfl,rfl,rfl,by lk,rfl,by lk,by lk⟩
theorem Rp:aI ["self"] ["self"] (ae kM):=⟨rfl,rfl,rfl,by lk,rfl,by lk,by lk⟩
theorem qu:aI ["self","name","voice"] ["self","name"] (ae cI):=⟨rfl,rfl,rfl,by lk,rfl,by lk,by lk⟩
theorem Rq:aI ["self","name"] ["self","name"] (ae i7):=⟨rfl,rfl,rfl,by lk,rfl,by lk,by lk⟩
theorem Z3:aI ["_law_found"] ["_law_found"] (ae r0):=⟨rfl,rfl,rfl,by lk,rfl,by lk,by lk⟩
theorem C1:aI ["_law_found","_law_due","_law_one","_law_other"] ["_law_found","_law_due"] (ae r6):=⟨rfl,rfl,rfl,by lk,rfl,by lk,by lk⟩
theorem SG:aI ["_law_found","_law_due","_law_k"] ["_law_found","_law_due"] (ae wA):=⟨rfl,rfl,rfl,by lk,rfl,by lk,by lk⟩
theorem Nf:aI ["sign"] ["sign"] (ae iD):=⟨rfl,rfl,rfl,by lk,rfl,by lk,by lk⟩
theorem qv:aI ["line","begin","found","measure","sign"] ["line","begin"] (ae oK):=⟨rfl,rfl,rfl,by lk,rfl,by lk,by lk⟩
theorem Z4:aI ["line","at"] ["line","at"] (ae r9):=⟨rfl,rfl,rfl,by lk,rfl,by lk,by lk⟩
theorem OG:aI ["kind","measure"] ["kind","measure"] (ae jC):=⟨rfl,rfl,rfl,by lk,rfl,by lk,by lk⟩
theorem eY:aI ["line","begin","found","at","measure"] ["line","begin"] (ae cO):=⟨rfl,rfl,rfl,by lk,rfl,by lk,by lk⟩
theorem ahy:aI ["sign"] ["sign"] (ae BU):=⟨rfl,rfl,rfl,by lk,rfl,by lk,by lk⟩
theorem xM:aI ["line","begin","found","first","at","sign","measure"] ["line","begin"] (ae IZ):=⟨rfl,rfl,rfl,by lk,rfl,by lk,by lk⟩
theorem Jc:aI ["line","found","first"] ["line","found","first"] (ae gu):=⟨rfl,rfl,rfl,by lk,rfl,by lk,by lk⟩
theorem FI:aI ["line","behind"] ["line","behind"] (ae fi):=⟨rfl,rfl,rfl,by lk,rfl,by lk,by lk⟩
theorem C2:aI ["line","found","first","behind"] ["line","found","first","behind"] (ae et):=⟨rfl,rfl,rfl,by lk,rfl,by lk,by lk⟩
theorem C3:aI ["line","found","first","behind"] ["line","found","first","behind"] (ae eA):=⟨rfl,rfl,rfl,by lk,rfl,by lk,by lk⟩
theorem Cu:aI ["line","found","first","behind","rest"] ["line","found","first","behind"] (ae kO):=⟨rfl,rfl,rfl,by lk,rfl,by lk,by lk⟩
theorem sS:aI ["line","begin","found","loose_runs","first","behind"] ["line","begin"] (ae sd):=⟨rfl,rfl,rfl,by lk,rfl,by lk,by lk⟩
theorem aez:aI ["line","begin"] ["line","begin"] (ae wB):=⟨rfl,rfl,rfl,by lk,rfl,by lk,by lk⟩
theorem aeA:aI ["line"] ["line"] (ae wC):=⟨rfl,rfl,rfl,by lk,rfl,by lk,by lk⟩
theorem cq:aI ["self","name","terms","leader","later","slow","is_turned","heard"] ["self","name"] (ae dU):=⟨rfl,rfl,rfl,by lk,rfl,by lk,by lk⟩
theorem i9:aI ["self","name","terms","leader","later","slow","is_turned","begin"] ["self","name"] (ae gE):=⟨rfl,rfl,rfl,by lk,rfl,by lk,by lk⟩
theorem mV:aI ["_law_voices","_law_name","_law_thing","_law_told","_law_sign","_law_kind"] ["_law_voices","_law_name"] (ae mz):=⟨rfl,rfl,rfl,by lk,rfl,by lk,by lk⟩
theorem sx:aI ["_law_line","_law_begin","_law_told","_law_now","_law_at","_law_kind"] ["_law_line","_law_begin"] (ae wD):=⟨rfl,rfl,rfl,by lk,rfl,by lk,by lk⟩
theorem sU:aI ["_law_line","_law_begin","_law_told","_law_now","_law_sign"] ["_law_line","_law_begin"] (ae se):=⟨rfl,rfl,rfl,by lk,rfl,by lk,by lk⟩
theorem wI:aI ["_law_line","_law_told","_law_low","_law_high","_law_rest","_law_behind_here","_law_after","_law_left","_law_right"] ["_law_line","_law_told","_law_low","_law_high"] (ae BV):=⟨rfl,rfl,rfl,by lk,rfl,by lk,by lk⟩
theorem mG:aI ["_law_line","_law_begin","_law_told","_law_three_here","_law_left","_law_low","_law_high"] ["_law_line","_law_begin"] (ae wF):=⟨rfl,rfl,rfl,by lk,rfl,by lk,by lk⟩
theorem xN:aI ["_law_voices","_law_name","_law_thing","_law_line"] ["_law_voices","_law_name"] (ae mB):=⟨rfl,rfl,rfl,by lk,rfl,by lk,by lk⟩
theorem uJ:aI ["_law_book","_law_voices","_law_told","_law_name","_law_terms"] ["_law_book","_law_voices"] (ae oM):=⟨rfl,rfl,rfl,by lk,rfl,by lk,by lk⟩
theorem OH:aI ["_law_cell","_law_some"] ["_law_cell"] (ae sf):=⟨rfl,rfl,rfl,by lk,rfl,by lk,by lk⟩
theorem T7:aI ["_law_script","_law_k"] ["_law_script","_law_k"] (ae mC):=⟨rfl,rfl,rfl,by lk,rfl,by lk,by lk⟩
theorem FJ:aI ["_law_number","_law_kind"] ["_law_number"] (ae mD):=⟨rfl,rfl,rfl,by lk,rfl,by lk,by lk⟩
theorem cu:aI ["_law_number","_law_names","_law_ways","_law_way","_law_name","_law_leader","_law_sign","_law_later"] ["_law_number"] (ae bS):=⟨rfl,rfl,rfl,by lk,rfl,by lk,by lk⟩
theorem C4:aI ["_law_seed","_law_k","_law_one","_law_two"] ["_law_seed","_law_k"] (ae si):=⟨rfl,rfl,rfl,by lk,rfl,by lk,by lk⟩
theorem ja:aI ["_law_script","_law_at","_law_many","_law_seed","_law_base_here","_law_row","_law_left","_law_k","_law_cell","_law_number"] ["_law_script","_law_at","_law_many"] (ae sj):=⟨rfl,rfl,rfl,by lk,rfl,by lk,by lk⟩
theorem OI:aI ["_law_voices","_law_deed","_law_size"] ["_law_voices","_law_deed"] (ae sq):=⟨rfl,rfl,rfl,by lk,rfl,by lk,by lk⟩
theorem uK:aI ["_law_voices","_law_name","_law_sign"] ["_law_voices","_law_name"] (ae fk):=⟨rfl,rfl,rfl,by lk,rfl,by lk,by lk⟩
theorem sV:aI ["_law_voices","_law_deed","_law_fine"] ["_law_voices","_law_deed"] (ae eB):=⟨rfl,rfl,rfl,by lk,rfl,by lk,by lk⟩
theorem jW:aI ["_law_voices","_law_deed","_law_way","_law_name","_law_sign","_law_at","_law_fine"] ["_law_voices","_law_deed"] (ae fm):=⟨rfl,rfl,rfl,by lk,rfl,by lk,by lk⟩
theorem rP:aI ["_law_stand","_law_deed","_law_voices","_law_led","_law_why"] ["_law_stand","_law_deed"] (ae mE):=⟨rfl,rfl,rfl,by lk,rfl,by lk,by lk⟩
theorem Jd:aI ["_law_line","_law_deed","_law_at"] ["_law_line","_law_deed","_law_at"] (ae gw):=⟨rfl,rfl,rfl,by lk,rfl,by lk,by lk⟩
theorem qw:aI ["_law_stand","_law_deed","_law_voices","_law_past","_law_future","_law_other"] ["_law_stand","_law_deed"] (ae oN):=⟨rfl,rfl,rfl,by lk,rfl,by lk,by lk⟩
theorem xO:aI ["at","last"] ["at","last"] (ae cb):=⟨rfl,rfl,rfl,by lk,rfl,by lk,by lk⟩
theorem T8:aI ["sign","kind","tone"] ["sign"] (ae Ja):=⟨rfl,rfl,rfl,by lk,rfl,by lk,by lk⟩
theorem C5:aI ["sign"] ["sign"] (ae c7):=⟨rfl,rfl,rfl,by lk,rfl,by lk,by lk⟩
theorem Z5:aI ["self"] ["self"] (ae sr):=⟨rfl,rfl,rfl,by lk,rfl,by lk,by lk⟩
theorem Ng:aI ["self","deed"] ["self","deed"] (ae iE):=⟨rfl,rfl,rfl,by lk,rfl,by lk,by lk⟩
theorem xP:aI ["line","at","met","place"] ["line","at"] (ae su):=⟨rfl,rfl,rfl,by lk,rfl,by lk,by lk⟩
theorem MH:aI ["line","first","kinds","place"] ["line","first","kinds"] (ae oO):=⟨rfl,rfl,rfl,by lk,rfl,by lk,by lk⟩
theorem SH:aI ["line","at","behind","changed","kinds"] ["line","at","behind","changed"] (ae wG):=⟨rfl,rfl,rfl,by lk,rfl,by lk,by lk⟩
theorem rF:aI ["self","name","voice"] ["self","name"] (ae cB):=⟨rfl,rfl,rfl,by lk,rfl,by lk,by lk⟩
theorem Je:aI ["self","things","at","before","after"] ["self","things","at","before","after"] (ae gx):=⟨rfl,rfl,rfl,by lk,rfl,by lk,by lk⟩
theorem MI:aI ["self","name","at","sign","signs"] ["self","name","at","sign"] (ae ia):=⟨rfl,rfl,rfl,by lk,rfl,by lk,by lk⟩
theorem zT:aI ["self","name","at","signs","sign"] ["self","name","at"] (ae km):=⟨rfl,rfl,rfl,by lk,rfl,by lk,by lk⟩
theorem xQ:aI ["self","name","at","sign","signs","before"] ["self","name","at","sign"] (ae gF):=⟨rfl,rfl,rfl,by lk,rfl,by lk,by lk⟩
theorem FK:aI ["self","name","dropped"] ["self","name"] (ae iR):=⟨rfl,rfl,rfl,by lk,rfl,by lk,by lk⟩
theorem FL:aI ["book","name","terms"] ["book","name"] (ae kn):=⟨rfl,rfl,rfl,by lk,rfl,by lk,by lk⟩
theorem aeB:aI ["sign"] ["sign"] (ae wH):=⟨rfl,rfl,rfl,by lk,rfl,by lk,by lk⟩
theorem OJ:aI ["book","name","found","start","sign","worth"] ["book","name"] (ae xK):=⟨rfl,rfl,rfl,by lk,rfl,by lk,by lk⟩
theorem aeC:aI ["book","name"] ["book","name"] (ae qt):=⟨rfl,rfl,rfl,by lk,rfl,by lk,by lk⟩
theorem Z6:aI ["_law_book","_law_door","_law_name"] ["_law_book","_law_door","_law_name"] (ae dH):=⟨rfl,rfl,rfl,by lk,rfl,by lk,by lk⟩
theorem Cv:aI ["_law_book","_law_door","_law_name","e"] ["_law_book","_law_door","_law_name"] (ae i8):=⟨rfl,rfl,rfl,by lk,rfl,by lk,by lk⟩
theorem Z7:aI ["name"] ["name"] (ae sv):=⟨rfl,rfl,rfl,by lk,rfl,by lk,by lk⟩
theorem C6:aI ["self","name"] ["self","name"] (ae cm):=⟨rfl,rfl,rfl,by lk,rfl,by lk,by lk⟩
theorem OK:aI ["self","voice"] ["self","voice"] (ae jD):=⟨rfl,rfl,rfl,by lk,rfl,by lk,by lk⟩
theorem FN:aI ["self","name","terms"] ["self","name","terms"] (ae fo):=⟨rfl,rfl,rfl,by lk,rfl,by lk,by lk⟩
theorem FO:aI ["self","name","leader","later","slow","is_turned"] ["self","name","leader","later","slow","is_turned"] (ae cD):=⟨rfl,rfl,rfl,by lk,rfl,by lk,by lk⟩
theorem FP:aI ["self","name"] ["self","name"] (ae dJ):=⟨rfl,rfl,rfl,by lk,rfl,by lk,by lk⟩
theorem T9:aI ["self"] ["self"] (ae mF):=⟨rfl,rfl,rfl,by lk,rfl,by lk,by lk⟩
theorem FQ:aI ["self","deed"] ["self"] (ae ko):=⟨rfl,rfl,rfl,by lk,rfl,by lk,by lk⟩
theorem FR:aI ["self","deed"] ["self"] (ae kq):=⟨rfl,rfl,rfl,by lk,rfl,by lk,by lk⟩
theorem ady:aI ["_law_book","_law_deed","_law_at","_law_way","_law_name"] ["_law_book","_law_deed","_law_at"] (ae l4):=⟨rfl,rfl,rfl,by lk,rfl,by lk,by lk⟩
theorem Z8:aI ["_law_book","_law_deed","_law_at"] ["_law_book","_law_deed","_law_at"] (ae oP):=⟨rfl,rfl,rfl,by lk,rfl,by lk,by lk⟩
theorem sW:aI ["_law_script","_law_deeds_here","_law_book","_law_stand","_law_deed","_law_at","_law_why","_law_name","_law_door"] ["_law_script"] (ae zS):=⟨rfl,rfl,rfl,by lk,rfl,by lk,by lk⟩
theorem Nh:(["voice","self"]:List Str).Nodup:=by lk
theorem MJ:(["kind","tone","line"]:List Str).Nodup:=by lk
theorem OL:(["worth","self","name","terms","leader","later","slow","is_turned","begin"]:List Str).Nodup:=by lk
theorem OM:(["_law_worth","_law_voices","_law_name","_law_thing","_law_line"]:List Str).Nodup:=by lk
theorem Ua:(["_law_name","_law_cell","_law_some"]:List Str).Nodup:=by lk
theorem ON:(["_law_name","_law_stand","_law_deed","_law_voices","_law_led","_law_why"]:List Str).Nodup:=by lk
theorem X6:(["sign","line","at","behind","changed","kinds"]:List Str).Nodup:=by lk
theorem OO:(["voice","self","name","dropped"]:List Str).Nodup:=by lk
theorem Ub:(["letter","name"]:List Str).Nodup:=by lk
def zU:List (Str×Pos):=[("ann",⟨324,18,324,23⟩),("bo",⟨324,25,324,29⟩),("cy",⟨324,31,324,35⟩),("dora",⟨324,37,324,43⟩),("a",⟨324,45,324,48⟩),("zzzzzzzz",⟨324,50,324,60⟩),("ann",⟨324,62,324,67⟩),("Ann",⟨324,69,324,74⟩),("",⟨324,76,324,78⟩),("toolongby",⟨324,80,324,91⟩)]
def kr:List (Str×Pos):=[("put",⟨325,17,325,22⟩),("put",⟨325,24,325,29⟩),("put",⟨325,31,325,36⟩),("put",⟨325,38,325,43⟩),("put",⟨325,45,325,50⟩),("swap",⟨325,52,325,58⟩),("swap",⟨325,60,325,66⟩),("cut",⟨325,68,325,73⟩),("cut",⟨325,75,325,80⟩),("add",⟨325,82,325,87⟩),("canon",⟨325,89,325,96⟩),("canon",⟨325,98,325,105⟩),("drop",⟨325,107,325,113⟩)]
def X7:List (Str×Pos):=[("ann",⟨622,17,622,22⟩),("bo",⟨622,24,622,28⟩),("cy",⟨622,30,622,34⟩),("dora",⟨622,36,622,42⟩),("a",⟨622,44,622,47⟩),("zzzzzzzz",⟨622,49,622,59⟩),("eve",⟨622,61,622,66⟩),("Ann",⟨622,68,622,73⟩),("",⟨622,75,622,77⟩),("an",⟨622,79,622,83⟩)]
theorem Jf {X:Cx}:BO X [(Expr.Constant (.int 100) 0 ⟨338,27,338,30⟩)] (av (tC (V.int 100)) bD):=kg Oc vJ
theorem Jg {X:Cx}:BO X [(Expr.Constant (.str "G") 0 ⟨338,22,338,25⟩),(Expr.Constant (.int 100) 0 ⟨338,27,338,30⟩)] (av (tC (V.str "G")) (av (tC (V.int 100)) bD)):=kg IQ Jf
theorem Jh {X:Cx}:Nc X (Expr.Tuple [(Expr.Constant (.str "G") 0 ⟨338,22,338,25⟩),(Expr.Constant (.int 100) 0 ⟨338,27,338,30⟩)] 0 ⟨338,21,338,31⟩) (dz (av (tC (V.str "G")) (av (tC (V.int 100)) bD))):=CQ Jg
theorem Ji {X:Cx}:BO X [(Expr.Constant (.int 1) 0 ⟨338,39,338,40⟩)] (av (tC (V.int 1)) bD):=kg Oc vJ
theorem Jj {X:Cx}:BO X [(Expr.Constant (.str "R") 0 ⟨338,34,338,37⟩),(Expr.Constant (.int 1) 0 ⟨338,39,338,40⟩)] (av (tC (V.str "R")) (av (tC (V.int 1)) bD)):=kg IQ Ji
theorem Jk {X:Cx}:Nc X (Expr.Tuple [(Expr.Constant (.str "R") 0 ⟨338,34,338,37⟩),(Expr.Constant (.int 1) 0 ⟨338,39,338,40⟩)] 0 ⟨338,33,338,41⟩) (dz (av (tC (V.str "R")) (av (tC (V.int 1)) bD))):=CQ Jj
theorem Jl {X:Cx}:BO X [(Expr.Constant (.int 0) 0 ⟨338,49,338,50⟩)] (av (tC (V.int 0)) bD):=kg Oc vJ
theorem Jm {X:Cx}:BO X [(Expr.Constant (.str "g") 0 ⟨338,44,338,47⟩),(Expr.Constant (.int 0) 0 ⟨338,49,338,50⟩)] (av (tC (V.str "g")) (av (tC (V.int 0)) bD)):=kg IQ Jl
theorem Jn {X:Cx}:Nc X (Expr.Tuple [(Expr.Constant (.str "g") 0 ⟨338,44,338,47⟩),(Expr.Constant (.int 0) 0 ⟨338,49,338,50⟩)] 0 ⟨338,43,338,51⟩) (dz (av (tC (V.str "g")) (av (tC (V.int 0)) bD))):=CQ Jm
theorem FT {X:Cx}:BO X [(Expr.UnaryOp .USub (Expr.Constant (.int 1) 0 ⟨338,60,338,61⟩) ⟨338,59,338,61⟩)] (av (tUn (rU fun i=>V.int (-i)) (tC (V.int 1))) bD):=ahf alJ vJ
theorem FU {X:Cx}:BO X [(Expr.Constant (.str "s") 0 ⟨338,54,338,57⟩),(Expr.UnaryOp .USub (Expr.Constant (.int 1) 0 ⟨338,60,338,61⟩) ⟨338,59,338,61⟩)] (av (tC (V.str "s")) (av (tUn (rU fun i=>V.int (-i)) (tC (V.int 1))) bD)):=kg IQ FT
theorem FV {X:Cx}:Nc X (Expr.Tuple [(Expr.Constant (.str "s") 0 ⟨338,54,338,57⟩),(Expr.UnaryOp .USub (Expr.Constant (.int 1) 0 ⟨338,60,338,61⟩) ⟨338,59,338,61⟩)] 0 ⟨338,53,338,62⟩) (dz (av (tC (V.str "s")) (av (tUn (rU fun i=>V.int (-i)) (tC (V.int 1))) bD))):=CQ FU
theorem FW {X:Cx}:BO X [(Expr.Constant (.int 0) 0 ⟨338,69,338,70⟩)] (av (tC (V.int 0)) bD):=kg Oc vJ
theorem FX {X:Cx}:BO X [(Expr.Constant (.str "") 0 ⟨338,65,338,67⟩),(Expr.Constant (.int 0) 0 ⟨338,69,338,70⟩)] (av (tC (V.str "")) (av (tC (V.int 0)) bD)):=kg IQ FW
theorem FY {X:Cx}:Nc X (Expr.Tuple [(Expr.Constant (.str "") 0 ⟨338,65,338,67⟩),(Expr.Constant (.int 0) 0 ⟨338,69,338,70⟩)] 0 ⟨338,64,338,71⟩) (dz (av (tC (V.str "")) (av (tC (V.int 0)) bD))):=CQ FX
theorem FZ {X:Cx}:BO X [(Expr.Constant (.int 3) 0 ⟨338,79,338,80⟩)] (av (tC (V.int 3)) bD):=kg Oc vJ
theorem F1 {X:Cx}:BO X [(Expr.Constant (.str "3") 0 ⟨338,74,338,77⟩),(Expr.Constant (.int 3) 0 ⟨338,79,338,80⟩)] (av (tC (V.str "3")) (av (tC (V.int 3)) bD)):=kg IQ FZ
theorem F2 {X:Cx}:Nc X (Expr.Tuple [(Expr.Constant (.str "3") 0 ⟨338,74,338,77⟩),(Expr.Constant (.int 3) 0 ⟨338,79,338,80⟩)] 0 ⟨338,73,338,81⟩) (dz (av (tC (V.str "3")) (av (tC (V.int 3)) bD))):=CQ F1
theorem F5 {X:Cx}:BO X [(Expr.Tuple [(Expr.Constant (.str "3") 0 ⟨338,74,338,77⟩),(Expr.Constant (.int 3) 0 ⟨338,79,338,80⟩)] 0 ⟨338,73,338,81⟩)] (av (dz (av (tC (V.str "3")) (av (tC (V.int 3)) bD))) bD):=wo F2 vJ
theorem F6 {X:Cx}:BO X [(Expr.Tuple [(Expr.Constant (.str "") 0 ⟨338,65,338,67⟩),(Expr.Constant (.int 0) 0 ⟨338,69,338,70⟩)] 0 ⟨338,64,338,71⟩),(Expr.Tuple [(Expr.Constant (.str "3") 0 ⟨338,74,338,77⟩),(Expr.Constant (.int 3) 0 ⟨338,79,338,80⟩)] 0 ⟨338,73,338,81⟩)] (av (dz (av (tC (V.str "")) (av (tC (V.int 0)) bD))) (av (dz (av (tC (V.str "3")) (av (tC (V.int 3)) bD))) bD)):=wo FY F5
theorem F7 {X:Cx}:BO X [(Expr.Tuple [(Expr.Constant (.str "s") 0 ⟨338,54,338,57⟩),(Expr.UnaryOp .USub (Expr.Constant (.int 1) 0 ⟨338,60,338,61⟩) ⟨338,59,338,61⟩)] 0 ⟨338,53,338,62⟩),(Expr.Tuple [(Expr.Constant (.str "") 0 ⟨338,65,338,67⟩),(Expr.Constant (.int 0) 0 ⟨338,69,338,70⟩)] 0 ⟨338,64,338,71⟩),(Expr.Tuple [(Expr.Constant (.str "3") 0 ⟨338,74,338,77⟩),(Expr.Constant (.int 3) 0 ⟨338,79,338,80⟩)] 0 ⟨338,73,338,81⟩)] (av (dz (av (tC (V.str "s")) (av (tUn (rU fun i=>V.int (-i)) (tC (V.int 1))) bD))) (av (dz (av (tC (V.str "")) (av (tC (V.int 0)) bD))) (av (dz (av (tC (V.str "3")) (av (tC (V.int 3)) bD))) bD))):=wo FV F6
theorem F8 {X:Cx}:BO X [(Expr.Tuple [(Expr.Constant (.str "g") 0 ⟨338,44,338,47⟩),(Expr.Constant (.int 0) 0 ⟨338,49,338,50⟩)] 0 ⟨338,43,338,51⟩),(Expr.Tuple [(Expr.Constant (.str "s") 0 ⟨338,54,338,57⟩),(Expr.UnaryOp .USub (Expr.Constant (.int 1) 0 ⟨338,60,338,61⟩) ⟨338,59,338,61⟩)] 0 ⟨338,53,338,62⟩),(Expr.Tuple [(Expr.Constant (.str "") 0 ⟨338,65,338,67⟩),(Expr.Constant (.int 0) 0 ⟨338,69,338,70⟩)] 0 ⟨338,64,338,71⟩),(Expr.Tuple [(Expr.Constant (.str "3") 0 ⟨338,74,338,77⟩),(Expr.Constant (.int 3) 0 ⟨338,79,338,80⟩)] 0 ⟨338,73,338,81⟩)] (av (dz (av (tC (V.str "g")) (av (tC (V.int 0)) bD))) (av (dz (av (tC (V.str "s")) (av (tUn (rU fun i=>V.int (-i)) (tC (V.int 1))) bD))) (av (dz (av (tC (V.str "")) (av (tC (V.int 0)) bD))) (av (dz (av (tC (V.str "3")) (av (tC (V.int 3)) bD))) bD)))):=wo Jn F7
theorem F9 {X:Cx}:BO X [(Expr.Tuple [(Expr.Constant (.str "R") 0 ⟨338,34,338,37⟩),(Expr.Constant (.int 1) 0 ⟨338,39,338,40⟩)] 0 ⟨338,33,338,41⟩),(Expr.Tuple [(Expr.Constant (.str "g") 0 ⟨338,44,338,47⟩),(Expr.Constant (.int 0) 0 ⟨338,49,338,50⟩)] 0 ⟨338,43,338,51⟩),(Expr.Tuple [(Expr.Constant (.str "s") 0 ⟨338,54,338,57⟩),(Expr.UnaryOp .USub (Expr.Constant (.int 1) 0 ⟨338,60,338,61⟩) ⟨338,59,338,61⟩)] 0 ⟨338,53,338,62⟩),(Expr.Tuple [(Expr.Constant (.str "") 0 ⟨338,65,338,67⟩),(Expr.Constant (.int 0) 0 ⟨338,69,338,70⟩)] 0 ⟨338,64,338,71⟩),(Expr.Tuple [(Expr.Constant (.str "3") 0 ⟨338,74,338,77⟩),(Expr.Constant (.int 3) 0 ⟨338,79,338,80⟩)] 0 ⟨338,73,338,81⟩)] (av (dz (av (tC (V.str "R")) (av (tC (V.int 1)) bD))) (av (dz (av (tC (V.str "g")) (av (tC (V.int 0)) bD))) (av (dz (av (tC (V.str "s")) (av (tUn (rU fun i=>V.int (-i)) (tC (V.int 1))) bD))) (av (dz (av (tC (V.str "")) (av (tC (V.int 0)) bD))) (av (dz (av (tC (V.str "3")) (av (tC (V.int 3)) bD))) bD))))):=wo Jk F8
theorem Ga {X:Cx}:BO X [(Expr.Tuple [(Expr.Constant (.str "G") 0 ⟨338,22,338,25⟩),(Expr.Constant (.int 100) 0 ⟨338,27,338,30⟩)] 0 ⟨338,21,338,31⟩),(Expr.Tuple [(Expr.Constant (.str "R") 0 ⟨338,34,338,37⟩),(Expr.Constant (.int 1) 0 ⟨338,39,338,40⟩)] 0 ⟨338,33,338,41⟩),(Expr.Tuple [(Expr.Constant (.str "g") 0 ⟨338,44,338,47⟩),(Expr.Constant (.int 0) 0 ⟨338,49,338,50⟩)] 0 ⟨338,43,338,51⟩),(Expr.Tuple [(Expr.Constant (.str "s") 0 ⟨338,54,338,57⟩),(Expr.UnaryOp .USub (Expr.Constant (.int 1) 0 ⟨338,60,338,61⟩) ⟨338,59,338,61⟩)] 0 ⟨338,53,338,62⟩),(Expr.Tuple [(Expr.Constant (.str "") 0 ⟨338,65,338,67⟩),(Expr.Constant (.int 0) 0 ⟨338,69,338,70⟩)] 0 ⟨338,64,338,71⟩),(Expr.Tuple [(Expr.Constant (.str "3") 0 ⟨338,74,338,77⟩),(Expr.Constant (.int 3) 0 ⟨338,79,338,80⟩)] 0 ⟨338,73,338,81⟩)] (av (dz (av (tC (V.str "G")) (av (tC (V.int 100)) bD))) (av (dz (av (tC (V.str "R")) (av (tC (V.int 1)) bD))) (av (dz (av (tC (V.str "g")) (av (tC (V.int 0)) bD))) (av (dz (av (tC (V.str "s")) (av (tUn (rU fun i=>V.int (-i)) (tC (V.int 1))) bD))) (av (dz (av (tC (V.str "")) (av (tC (V.int 0)) bD))) (av (dz (av (tC (V.str "3")) (av (tC (V.int 3)) bD))) bD)))))):=wo Jh F9
theorem Gb {X:Cx}:Nc X (Expr.List [(Expr.Tuple [(Expr.Constant (.str "G") 0 ⟨338,22,338,25⟩),(Expr.Constant (.int 100) 0 ⟨338,27,338,30⟩)] 0 ⟨338,21,338,31⟩),(Expr.Tuple [(Expr.Constant (.str "R") 0 ⟨338,34,338,37⟩),(Expr.Constant (.int 1) 0 ⟨338,39,338,40⟩)] 0 ⟨338,33,338,41⟩),(Expr.Tuple [(Expr.Constant (.str "g") 0 ⟨338,44,338,47⟩),(Expr.Constant (.int 0) 0 ⟨338,49,338,50⟩)] 0 ⟨338,43,338,51⟩),(Expr.Tuple [(Expr.Constant (.str "s") 0 ⟨338,54,338,57⟩),(Expr.UnaryOp .USub (Expr.Constant (.int 1) 0 ⟨338,60,338,61⟩) ⟨338,59,338,61⟩)] 0 ⟨338,53,338,62⟩),(Expr.Tuple [(Expr.Constant (.str "") 0 ⟨338,65,338,67⟩),(Expr.Constant (.int 0) 0 ⟨338,69,338,70⟩)] 0 ⟨338,64,338,71⟩),(Expr.Tuple [(Expr.Constant (.str "3") 0 ⟨338,74,338,77⟩),(Expr.Constant (.int 3) 0 ⟨338,79,338,80⟩)] 0 ⟨338,73,338,81⟩)] ⟨338,20,338,82⟩) (uk (av (dz (av (tC (V.str "G")) (av (tC (V.int 100)) bD))) (av (dz (av (tC (V.str "R")) (av (tC (V.int 1)) bD))) (av (dz (av (tC (V.str "g")) (av (tC (V.int 0)) bD))) (av (dz (av (tC (V.str "s")) (av (tUn (rU fun i=>V.int (-i)) (tC (V.int 1))) bD))) (av (dz (av (tC (V.str "")) (av (tC (V.int 0)) bD))) (av (dz (av (tC (V.str "3")) (av (tC (V.int 3)) bD))) bD))))))):=ZN Ga
@[irreducible] def iF:Expr:=(Expr.List [(Expr.Tuple [(Expr.Constant (.str "G") 0 ⟨338,22,338,25⟩),(Expr.Constant (.int 100) 0 ⟨338,27,338,30⟩)] 0 ⟨338,21,338,31⟩),(Expr.Tuple [(Expr.Constant (.str "R") 0 ⟨338,34,338,37⟩),(Expr.Constant (.int 1) 0 ⟨338,39,338,40⟩)] 0 ⟨338,33,338,41⟩),(Expr.Tuple [(Expr.Constant (.str "g") 0 ⟨338,44,338,47⟩),(Expr.Constant (.int 0) 0 ⟨338,49,338,50⟩)] 0 ⟨338,43,338,51⟩),(Expr.Tuple [(Expr.Constant (.str "s") 0 ⟨338,54,338,57⟩),(Expr.UnaryOp .USub (Expr.Constant (.int 1) 0 ⟨338,60,338,61⟩) ⟨338,59,338,61⟩)] 0 ⟨338,53,338,62⟩),(Expr.Tuple [(Expr.Constant (.str "") 0 ⟨338,65,338,67⟩),(Expr.Constant (.int 0) 0 ⟨338,69,338,70⟩)] 0 ⟨338,64,338,71⟩),(Expr.Tuple [(Expr.Constant (.str "3") 0 ⟨338,74,338,77⟩),(Expr.Constant (.int 3) 0 ⟨338,79,338,80⟩)] 0 ⟨338,73,338,81⟩)] ⟨338,20,338,82⟩)
theorem OP {X:Cx}:Nc X iF (uk (av (dz (av (tC (V.str "G")) (av (tC (V.int 100)) bD))) (av (dz (av (tC (V.str "R")) (av (tC (V.int 1)) bD))) (av (dz (av (tC (V.str "g")) (av (tC (V.int 0)) bD))) (av (dz (av (tC (V.str "s")) (av (tUn (rU fun i=>V.int (-i)) (tC (V.int 1))) bD))) (av (dz (av (tC (V.str "")) (av (tC (V.int 0)) bD))) (av (dz (av (tC (V.str "3")) (av (tC (V.int 3)) bD))) bD))))))):=by unfold iF;exact Gb
@[irreducible] def mW:TE:=(uk (av (dz (av (tC (V.str "G")) (av (tC (V.int 100)) bD))) (av (dz (av (tC (V.str "R")) (av (tC (V.int 1)) bD))) (av (dz (av (tC (V.str "g")) (av (tC (V.int 0)) bD))) (av (dz (av (tC (V.str "s")) (av (tUn (rU fun i=>V.int (-i)) (tC (V.int 1))) bD))) (av (dz (av (tC (V.str "")) (av (tC (V.int 0)) bD))) (av (dz (av (tC (V.str "3")) (av (tC (V.int 3)) bD))) bD)))))))
theorem uL:mW=(uk (av (dz (av (tC (V.str "G")) (av (tC (V.int 100)) bD))) (av (dz (av (tC (V.str "R")) (av (tC (V.int 1)) bD))) (av (dz (av (tC (V.str "g")) (av (tC (V.int 0)) bD))) (av (dz (av (tC (V.str "s")) (av (tUn (rU fun i=>V.int (-i)) (tC (V.int 1))) bD))) (av (dz (av (tC (V.str "")) (av (tC (V.int 0)) bD))) (av (dz (av (tC (V.str "3")) (av (tC (V.int 3)) bD))) bD))))))):=by unfold mW;rfl
theorem OQ {X:Cx}:Nc X iF mW:=by rw[uL];exact OP
theorem OR {X:Cx}:PE X iF mW:=OQ.out
theorem Z9 {X:Cx}:Nc X (Expr.List [] ⟨614,22,614,24⟩) (uk bD):=ZN vJ
theorem aaa {X:Cx}:Nc X (Expr.List [] ⟨614,26,614,28⟩) (uk bD):=ZN vJ
theorem aab {X:Cx}:BO X [(Expr.List [] ⟨614,26,614,28⟩)] (av (uk bD) bD):=XE aaa vJ
theorem aac {X:Cx}:BO X [(Expr.List [] ⟨614,22,614,24⟩),(Expr.List [] ⟨614,26,614,28⟩)] (av (uk bD) (av (uk bD) bD)):=XE Z9 aab
theorem aad {X:Cx}:BO X [(Expr.Dict [] [] ⟨614,18,614,20⟩),(Expr.List [] ⟨614,22,614,24⟩),(Expr.List [] ⟨614,26,614,28⟩)] (av CS (av (uk bD) (av (uk bD) bD))):=ahe ajn aac
theorem aae {X:Cx}:Nc X (Expr.Tuple [(Expr.Dict [] [] ⟨614,18,614,20⟩),(Expr.List [] ⟨614,22,614,24⟩),(Expr.List [] ⟨614,26,614,28⟩)] 0 ⟨614,17,614,29⟩) (dz (av CS (av (uk bD) (av (uk bD) bD)))):=CQ aad
@[irreducible] def qx:Expr:=(Expr.Tuple [(Expr.Dict [] [] ⟨614,18,614,20⟩),(Expr.List [] ⟨614,22,614,24⟩),(Expr.List [] ⟨614,26,614,28⟩)] 0 ⟨614,17,614,29⟩)
theorem ahz {X:Cx}:Nc X qx (dz (av CS (av (uk bD) (av (uk bD) bD)))):=by unfold qx;exact aae
theorem Ce (p:Pos)(l:Nat)(env:Env):swapsWith qx (some (.Name "_law_stand" p)) l env=pure false:=by unfold qx;rfl
@[irreducible] def Gd:TE:=(dz (av CS (av (uk bD) (av (uk bD) bD))))
theorem MK:Gd=(dz (av CS (av (uk bD) (av (uk bD) bD)))):=by unfold Gd;rfl
theorem ahA {X:Cx}:Nc X qx Gd:=by rw[MK];exact ahz
theorem ahB {X:Cx}:PE X qx Gd:=ahA.out
set_option genInjectivity false in
set_option genSizeOf false in
structure Adr where
 dq:Addr
 qG:FuncData
 gG:Addr
 xR:FuncData
 bU:Addr
 lq:FuncData
 eZ:Addr
 xS:FuncData
 oQ:Addr
 Jo:FuncData
 oR:Addr
 Jp:FuncData
 sX:Addr
 OS:FuncData
 fB:Addr
 sY:FuncData
 l8:Addr
 xV:FuncData
 uM:Addr
 mX:Tok
 oS:Addr
 Jq:FuncData
 ib:Addr
 vP:FuncData
 cf:Addr
 jJ:FuncData
 xW:Addr
 Uc:FuncData
 C7:Addr
 Ud:FuncData
 NW:Addr
 zV:Tok
 eG:Addr
 qH:FuncData
 dM:Addr
 oT:FuncData
 c8:Addr
 mY:FuncData
 c9:Addr
 mZ:FuncData
 jb:Addr
 xX:FuncData
 oU:Addr
 Jr:FuncData
 sZ:Addr
 Ge:FuncData
 BW:Addr
 tf:Tok
 tq:Addr
 OT:FuncData
 cL:Addr
 uN:FuncData
 dW:Addr
 zW:FuncData
 ku:Addr
 zX:FuncData
 tw:Addr
 OU:FuncData
 oV:Addr
 Js:FuncData
 xY:Addr
 Ue:FuncData
 tD:Addr
 OV:FuncData
 kx:Addr
 zY:FuncData
 l9:Addr
 C8:FuncData
 oW:Addr
 Jt:FuncData
 ky:Addr
 zZ:FuncData
 kz:Addr
 z0:FuncData
 kA:Addr
 z9:FuncData
 oX:Addr
 Ju:FuncData
 oY:Addr
 Jv:FuncData
 oZ:Addr
 Jw:FuncData
 dN:Addr
 o4:FuncData
 dc:Addr
 m6:FuncData
 dO:Addr
 o5:FuncData
 kB:Addr
 Aa:FuncData
 eI:Addr
 qI:FuncData
 ma:Addr
 C9:FuncData
 bT:Addr
 jK:FuncData
 Dc:Addr
 aaf:FuncData
 cM:Addr
 m7:FuncData
 mH:Addr
 Jx:FuncData
 dX:Addr
 tE:FuncData
 o6:Addr
 Jy:FuncData
 md:Addr
 Df:FuncData
 tF:Addr
 OW:FuncData
 bR:Addr
 me:FuncData
 dr:Addr
 qJ:FuncData
 eJ:Addr
 Dg:FuncData
 ic:Addr
 Dh:FuncData
 dY:Addr
 Ab:FuncData
 ff:Addr
 Ac:FuncData
 iS:Addr
 Ad:FuncData
 tG:Addr
 OX:FuncData
 uO:Addr
 Ug:FuncData
 m8:Addr
 OY:FuncData
 dn:Addr
 Jz:FuncData
 gH:Addr
 xZ:FuncData
 o7:Addr
 JA:FuncData
 bQ:Addr
 m9:FuncData
 fg:Addr
 vQ:FuncData
 cX:Addr
 o8:FuncData
 bX:Addr
 kP:FuncData
 jX:Addr
 fD:Tok
 fE:Tok
 cE:Addr
 o9:FuncData
 iT:Addr
 Ae:FuncData
 gI:Addr
 Af:FuncData
 gJ:Addr
 Ag:FuncData
 lr:Addr
 aag:FuncData
 mI:Addr
 JB:FuncData
 OZ:Addr
 ahC:FuncData
 fh:Addr
 ie:Addr
 eK:Addr
 dt:Addr
 cY:Addr
 fF:Addr
 nc:Tok
 dZ:Addr
 d3:Addr
 cF:Addr
 rQ:Tok
 jY:Tok
 lP:Tok
 ng:Tok
 BX:Tok
 nh:Tok
 qf:Tok
 rR:Tok
 Gf:Tok
 BY:Tok
 dR:Addr
 bL:Addr
 bp:Addr
 aG:Addr
 aE:Addr
 aZ:Addr
 ay:Addr
 bY:Addr
 aK:Addr
 bq:Addr
 aF:Addr
 aN:Addr
 a6:Addr
 bf:Addr
structure Txt (K:Frag)(w:World)(mg:Str->Option Value)(t:Adr):Prop where
 lQ:iZ K "__init__" "Book.__init__" gs t.dq t.qG
 qK:Binds K t.qG ["self"] []
 rS:iZ K "names" "Book.names" kM t.gG t.xR
 kQ:Binds K t.xR ["self"] []
 qg:Meth K t.bp "names" t.gG
 ip:iZ K "voice_called" "Book.voice_called" cI t.bU t.lq
 cJ:Binds K t.lq ["self","name"] []
 d4:Meth K t.bp "voice_called" t.bU
 rT:iZ K "canon" "Book.canon" i7 t.eZ t.xS
 gK:Binds K t.xS ["self","name"] []
 jE:Meth K t.bp "canon" t.eZ
 mJ:iZ K "_law_whole" "_law_whole" r0 t.oQ t.Jo
 sy:Binds K t.Jo ["_law_found"] []
 x3:mg "_law_whole"=some (.ref t.oQ)
 wJ:iZ K "_law_signs" "_law_signs" r6 t.oR t.Jp
 JC:Binds K t.Jp ["_law_found","_law_due"] []
 aah:mg "_law_signs"=some (.ref t.oR)
 Ah:iZ K "_law_nums" "_law_nums" wA t.sX t.OS
 O0:Binds K t.OS ["_law_found","_law_due"] []
 aeD:mg "_law_nums"=some (.ref t.sX)
 iG:iZ K "sets_measure" "sets_measure" iD t.fB t.sY
 nj:Binds K t.sY ["sign"] []
 zf:mg "sets_measure"=some (.ref t.fB)
 mf:N9 K "measures" "measures" oK t.l8 t.xV (.ref t.uM)
 ML:Binds K t.xV ["line","begin"] [.int 3 t.mX]
 x6:Binds K t.xV ["line","begin"] []
 MN:mg "measures"=some (.ref t.l8)
 gy:iZ K "kind_at" "kind_at" r9 t.oS t.Jq
 jF:Binds K t.Jq ["line","at"] []
 kC:mg "kind_at"=some (.ref t.oS)
 lJ:iZ K "plain_worth" "plain_worth" jC t.ib t.vP
 vR:Binds K t.vP ["kind","measure"] []
 O1:mg "plain_worth"=some (.ref t.ib)
 dB:iZ K "worths_without_runs" "worths_without_runs" cO t.cf t.jJ
 jL:Binds K t.jJ ["line","begin"] []
 x8:mg "worths_without_runs"=some (.ref t.cf)
 BZ:iZ K "small" "small" BU t.xW t.Uc
 NX:Binds K t.Uc ["sign"] []
 X8:mg "small"=some (.ref t.xW)
 JD:N9 K "runs" "runs" IZ t.C7 t.Ud (.ref t.NW)
 adz:Binds K t.Ud ["line","begin"] [.int 3 t.zV]
 aai:Binds K t.Ud ["line","begin"] []
 ajz:mg "runs"=some (.ref t.C7)
 gA:iZ K "has_left_note" "has_left_note" gu t.eG t.qH
 lR:Binds K t.qH ["line","found","first"] []
 wK:mg "has_left_note"=some (.ref t.eG)
 fq:iZ K "has_right_note" "has_right_note" fi t.dM t.oT
 kR:Binds K t.oT ["line","behind"] []
 uP:mg "has_right_note"=some (.ref t.dM)
 gL:iZ K "settle_one_over" "settle_one_over" et t.c8 t.mY
 nk:Binds K t.mY ["line","found","first","behind"] []
 Di:mg "settle_one_over"=some (.ref t.c8)
 gM:iZ K "settle_two_over" "settle_two_over" eA t.c9 t.mZ
 nq:Binds K t.mZ ["line","found","first","behind"] []
 Dj:mg "settle_two_over"=some (.ref t.c9)
 nr:iZ K "settle_run" "settle_run" kO t.jb t.xX
 x9:Binds K t.xX ["line","found","first","behind"] []
 Rr:mg "settle_run"=some (.ref t.jb)
 wL:iZ K "reading" "reading" sd t.oU t.Jr
 JE:Binds K t.Jr ["line","begin"] []
 aaj:mg "reading"=some (.ref t.oU)
 tH:N9 K "worths" "worths" wB t.sZ t.Ge (.ref t.BW)
 SI:Binds K t.Ge ["line","begin"] [.int 3 t.tf]
 Gg:Binds K t.Ge ["line","begin"] []
 SJ:mg "worths"=some (.ref t.sZ)
 wN:iZ K "turned" "turned" wC t.tq t.OT
 Gh:Binds K t.OT ["line"] []
 SK:mg "turned"=some (.ref t.tq)
 qy:iZ K "line" "Book.line" dU t.cL t.uN
 iU:Binds K t.uN ["self","name"] []
 kS:Meth K t.bp "line" t.cL
 uQ:iZ K "kept" "Book.kept" gE t.dW t.zW
 mK:Binds K t.zW ["self","name"] []
 rV:Meth K t.bp "kept" t.dW
 mL:iZ K "_law_line_of" "_law_line_of" mz t.ku t.zX
 uR:Binds K t.zX ["_law_voices","_law_name"] []
 Gi:mg "_law_line_of"=some (.ref t.ku)
 Ai:iZ K "_law_base" "_law_base" wD t.tw t.OU
 O2:Binds K t.OU ["_law_line","_law_begin"] []
 aeE:mg "_law_base"=some (.ref t.tw)
 wO:iZ K "_law_three" "_law_three" se t.oV t.Js
 JF:Binds K t.Js ["_law_line","_law_begin"] []
 aak:mg "_law_three"=some (.ref t.oV)
 Gj:iZ K "_law_run" "_law_run" BV t.xY t.Ue
 Uh:Binds K t.Ue ["_law_line","_law_told","_law_low","_law_high"] []
 ahD:mg "_law_run"=some (.ref t.xY)
 wQ:iZ K "_law_read" "_law_read" wF t.tD t.OV
 Gk:Binds K t.OV ["_law_line","_law_begin"] []
 SM:mg "_law_read"=some (.ref t.tD)
 qz:iZ K "_law_kept_of" "_law_kept_of" mB t.kx t.zY
 Aj:Binds K t.zY ["_law_voices","_law_name"] []
 Ui:mg "_law_kept_of"=some (.ref t.kx)
 tI:iZ K "_law_stands" "_law_stands" oM t.l9 t.C8
 Dk:Binds K t.C8 ["_law_book","_law_voices"] []
 X9:mg "_law_stands"=some (.ref t.l9)
 wR:iZ K "_law_begun" "_law_begun" sf t.oW t.Jt
 JG:Binds K t.Jt ["_law_cell"] []
 aal:mg "_law_begun"=some (.ref t.oW)
 gN:iZ K "_law_cell_at" "_law_cell_at" mC t.ky t.zZ
 kD:Binds K t.zZ ["_law_script","_law_k"] []
 nt:mg "_law_cell_at"=some (.ref t.ky)
 qA:iZ K "_law_sign_by" "_law_sign_by" mD t.kz t.z0
 Ak:Binds K t.z0 ["_law_number"] []
 Uj:mg "_law_sign_by"=some (.ref t.kz)
 mM:iZ K "_law_deed_by" "_law_deed_by" bS t.kA t.z9
 uS:Binds K t.z9 ["_law_number"] []
 Gm:mg "_law_deed_by"=some (.ref t.kA)
 pb:iZ K "_law_mixed" "_law_mixed" si t.oX t.Ju
 wU:Binds K t.Ju ["_law_seed","_law_k"] []
 Dl:mg "_law_mixed"=some (.ref t.oX)
 wV:iZ K "_law_deeds" "_law_deeds" sj t.oY t.Jv
 JH:Binds K t.Jv ["_law_script","_law_at","_law_many"] []
 aam:mg "_law_deeds"=some (.ref t.oY)
 ph:iZ K "_law_place" "_law_place" sq t.oZ t.Jw
 wW:Binds K t.Jw ["_law_voices","_law_deed"] []
 Dm:mg "_law_place"=some (.ref t.oZ)
 iH:iZ K "_law_name_refused" "_law_name_refused" fk t.dN t.o4
 pj:Binds K t.o4 ["_law_voices","_law_name"] []
 Gn:mg "_law_name_refused"=some (.ref t.dN)
 gO:iZ K "_law_canon_refused" "_law_canon_refused" eB t.dc t.m6
 nu:Binds K t.m6 ["_law_voices","_law_deed"] []
 Dn:mg "_law_canon_refused"=some (.ref t.dc)
 iI:iZ K "_law_line_refused" "_law_line_refused" fm t.dO t.o5
 pq:Binds K t.o5 ["_law_voices","_law_deed"] []
 Gp:mg "_law_line_refused"=some (.ref t.dO)
 qB:iZ K "_law_refused" "_law_refused" mE t.kB t.Aa
 Al:Binds K t.Aa ["_law_stand","_law_deed"] []
 Uk:mg "_law_refused"=some (.ref t.kB)
 ju:iZ K "_law_line_behind" "_law_line_behind" gw t.eI t.qI
 qL:Binds K t.qI ["_law_line","_law_deed","_law_at"] []
 JI:mg "_law_line_behind"=some (.ref t.eI)
 tJ:iZ K "_law_behind" "_law_behind" oN t.ma t.C9
 Dp:Binds K t.C9 ["_law_stand","_law_deed"] []
 Ya:mg "_law_behind"=some (.ref t.ma)
 cg:iZ K "refuse_other_places" "refuse_other_places" cb t.bT t.jK
 dC:Binds K t.jK ["at","last"] []
 jc:mg "refuse_other_places"=some (.ref t.bT)
 O3:iZ K "good" "good" Ja t.Dc t.aaf
 aan:Binds K t.aaf ["sign"] []
 ajA:mg "good"=some (.ref t.Dc)
 eC:iZ K "refuse_bad_sign" "refuse_bad_sign" c7 t.cM t.m7
 jZ:Binds K t.m7 ["sign"] []
 tK:mg "refuse_bad_sign"=some (.ref t.cM)
 B6:iZ K "do" "Deed.do" sr t.mH t.Jx
 B7:Binds K t.Jx ["self"] []
 O4:Meth K t.bL "do" t.mH
 nC:iZ K "perform" "Book.perform" iE t.dX t.tE
 fG:Binds K t.tE ["self","deed"] []
 jv:Meth K t.bp "perform" t.dX
 wX:iZ K "low_end" "low_end" su t.o6 t.Jy
 JJ:Binds K t.Jy ["line","at"] []
 aao:mg "low_end"=some (.ref t.o6)
 tL:iZ K "high_end" "high_end" oO t.md t.Df
 Dq:Binds K t.Df ["line","first","kinds"] []
 Yb:mg "high_end"=some (.ref t.md)
 tM:iZ K "window" "window" wG t.tF t.OW
 Am:Binds K t.OW ["line","at","behind","changed"] []
 JK:mg "window"=some (.ref t.tF)
 jd:iZ K "plain_voice" "Book.plain_voice" cB t.bR t.me
 dP:Binds K t.me ["self","name"] []
 iq:Meth K t.bp "plain_voice" t.bR
 lS:iZ K "__init__" "Deed.__init__" gx t.dr t.qJ
 eL:Binds K t.qJ ["self","things","at","before","after"] []
 ya:iZ K "put" "Book.put" ia t.eJ t.Dg
 yb:Binds K t.Dg ["self","name","at","sign"] []
 MO:Meth K t.bp "put" t.eJ
 yc:iZ K "cut" "Book.cut" km t.ic t.Dh
 yd:Binds K t.Dh ["self","name","at"] []
 MP:Meth K t.bp "cut" t.ic
 uT:iZ K "swap" "Book.swap" gF t.dY t.Ab
 uU:Binds K t.Ab ["self","name","at","sign"] []
 Gq:Meth K t.bp "swap" t.dY
 uV:iZ K "drop" "Book.drop" iR t.ff t.Ac
 uW:Binds K t.Ac ["self","name"] []
 Gs:Meth K t.bp "drop" t.ff
 mO:iZ K "beginning" "beginning" kn t.iS t.Ad
 uX:Binds K t.Ad ["book","name"] []
 Gu:mg "beginning"=some (.ref t.iS)
 Gv:iZ K "sounds" "sounds" wH t.tG t.OX
 Yc:Binds K t.OX ["sign"] []
 amK:mg "sounds"=some (.ref t.tG)
 Gw:iZ K "spans" "spans" xK t.uO t.Ug
 Ul:Binds K t.Ug ["book","name"] []
 ahE:mg "spans"=some (.ref t.uO)
 An:iZ K "ending" "ending" qt t.m8 t.OY
 O5:Binds K t.OY ["book","name"] []
 aeF:mg "ending"=some (.ref t.m8)
 wY:iZ K "_law_asked" "_law_asked" dH t.dn t.Jz
 JL:Binds K t.Jz ["_law_book","_law_door","_law_name"] []
 aap:mg "_law_asked"=some (.ref t.dn)
 nE:iZ K "_law_no_voice" "_law_no_voice" i8 t.gH t.xZ
 ye:Binds K t.xZ ["_law_book","_law_door","_law_name"] []
 Rt:mg "_law_no_voice"=some (.ref t.gH)
 wZ:iZ K "is_name" "is_name" sv t.o7 t.JA
 JM:Binds K t.JA ["name"] []
 aaq:mg "is_name"=some (.ref t.o7)
 j0:iZ K "refuse_new" "Book.refuse_new" cm t.bQ t.m9
 j1:Binds K t.m9 ["self","name"] []
 tN:Meth K t.bp "refuse_new" t.bQ
 qh:iZ K "put_in" "Book.put_in" jD t.fg t.vQ
 qi:Binds K t.vQ ["self","voice"] []
 Ao:Meth K t.bp "put_in" t.fg
 kU:iZ K "__init__" "Voice.__init__" fo t.cX t.o8
 kW:Binds K t.o8 ["self","name","terms"] []
 iJ:N9 K "add_canon" "Book.add_canon" cD t.bX t.kP (.ref t.jX)
 nF:Binds K t.kP ["self","name","leader","later","slow","is_turned"] [.int 0 t.fD,.int 1 t.fE,.bool false]
 pA:Binds K t.kP ["self","name","leader","later","slow","is_turned"] []
 uY:Meth K t.bp "add_canon" t.bX
 kX:iZ K "add_voice" "Book.add_voice" dJ t.cE t.o9
 pB:Binds K t.o9 ["self","name"] []
 Gx:Meth K t.bp "add_voice" t.cE
 uZ:iZ K "undo" "Deed.undo" mF t.iT t.Ae
 Ap:Binds K t.Ae ["self"] []
 Um:Meth K t.bL "undo" t.iT
 va:iZ K "undo" "Book.undo" ko t.gI t.Af
 Aq:Binds K t.Af ["self"] []
 Uo:Meth K t.bp "undo" t.gI
 vb:iZ K "redo" "Book.redo" kq t.gJ t.Ag
 Ar:Binds K t.Ag ["self"] []
 Up:Meth K t.bp "redo" t.gJ
 O6:iZ K "_law_do" "_law_do" l4 t.lr t.aag
 aar:Binds K t.aag ["_law_book","_law_deed","_law_at"] []
 ajB:mg "_law_do"=some (.ref t.lr)
 w4:iZ K "_law_tried" "_law_tried" oP t.mI t.JB
 JN:Binds K t.JB ["_law_book","_law_deed","_law_at"] []
 aas:mg "_law_tried"=some (.ref t.mI)
 adA:iZ K "law" "law" zS t.OZ t.ahC
 akR:Binds K t.ahC ["_law_script"] []
 aqj:mg "law"=some (.ref t.OZ)
 Ru:mg "ValueError"=none
 alW:mg "all"=none
 ahF:mg "any"=none
 adB:mg "bool"=none
 ajC:mg "dict"=none
 Gy:mg "enumerate"=none
 JO:mg "int"=none
 bu:mg "isinstance"=none
 cA:mg "len"=none
 je:mg "list"=none
 alX:mg "max"=none
 alY:mg "min"=none
 w5:mg "range"=none
 alZ:mg "str"=none
 al0:mg "sum"=none
 O7:mg "tuple"=none
 ahG:mg "zip"=none
 Cw:mg "GREAT_KINDS"=some (.ref t.fh)
 Cy:∀ H,vH K H t.fh [.str "G",.str "D",.str "R"]
 Rv:mg "SMALL_KINDS"=some (.ref t.ie)
 Rw:∀ H,vH K H t.ie [.str "s",.str "d",.str "r"]
 Ni:mg "PARTING_KINDS"=some (.ref t.eK)
 Nj:∀ H,vH K H t.eK [.str ".",.str "3",.str "2"]
 zg:mg "MEASURE_KINDS"=some (.ref t.dt)
 zh:∀ H,vH K H t.dt [.str "3",.str "2"]
 w6:mg "SOUNDING_KINDS"=some (.ref t.cY)
 xa:∀ H,vH K H t.cY [.str "G",.str "D",.str "s",.str "d"]
 O8:mg "SILENT_KINDS"=some (.ref t.fF)
 O9:∀ H,vH K H t.fF [.str "R",.str "r",.str ".",.str "3",.str "2"]
 Pa:mg "HIGHEST_TONE"=some (.int 99 t.nc)
 Pb:mg "TURNED_KINDS"=some (.ref t.dZ)
 Nk:KD K w t.dZ [("3",.str "2"),("2",.str "3")]
 Pc:mg "PLAIN_WORTHS"=some (.ref t.d3)
 Nl:KD K w t.d3 [("G",.int 3),("D",.int 2),("R",.int 3),("s",.int 1),("d",.int 1),("r",.int 1),(".",.int 0),("3",.int 0),("2",.int 0)]
 xc:mg "TWOFOLD_WORTHS"=some (.ref t.cF)
 vc:KD K w t.cF [("G",.int 2),("R",.int 2)]
 Uq:mg "FULL_WORTH"=some (.int 3 t.rQ)
 j2:mg "SHORTENED_WORTH"=some (.int 2 t.jY)
 Nm:mg "DOUBLED_WORTH"=some (.int 2 t.lP)
 Pd:mg "DOTTED_WORTH"=some (.int 3 t.ng)
 aeG:mg "LETTERS"=some (.str "abcdefghijklmnopqrstuvwxyz" t.BX)
 Pe:mg "LONGEST_NAME"=some (.int 8 t.nh)
 Rx:mg "MOST_VOICES"=some (.int 12 t.qf)
 Ur:mg "MOST_SIGNS"=some (.int 200 t.rR)
 ahH:mg "LATEST"=some (.int 999 t.Gf)
 aeH:mg "SLOWEST"=some (.int 9 t.BY)
 Yd:mg "Voice"=some (.ref t.dR)
 Ye:Mk K t.dR t.cX
 gP:Zu K t.dR
 ig:lp K t.dR "name"
 df:lp K t.dR "terms"
 cP:lp K t.dR "signs"
 Gz:mg "Deed"=some (.ref t.bL)
 GA:Mk K t.bL t.dr
 gQ:Zu K t.bL
 fH:lp K t.bL "things"
 jf:lp K t.bL "at"
 fI:lp K t.bL "before"
 ij:lp K t.bL "after"
 ajD:mg "Book"=some (.ref t.bp)
 ajE:Mk K t.bp t.dq
 aT:Zu K t.bp
 b9:lp K t.bp "voices"
 e8:lp K t.bp "done"
 dg:lp K t.bp "undone"
 Dr:mg "NoVoice"=some (.ref t.aG)
 Ds:mg "NoPlace"=some (.ref t.aE)
 Pf:mg "BadSign"=some (.ref t.aZ)
 As:mg "NotPlain"=some (.ref t.ay)
 Us:mg "Full"=some (.ref t.bY)
 JP:mg "Leaned"=some (.ref t.aK)
 Ut:mg "NoteError"=some (.ref t.bq)
 Dt:mg "BadName"=some (.ref t.aF)
 GB:mg "NameTaken"=some (.ref t.aN)
 Pg:mg "BadTerm"=some (.ref t.a6)
 JQ:mg "NoMore"=some (.ref t.bf)
 yf:XF K t.aG
 aat:XF K t.aE
 aau:XF K t.aZ
 Yf:XF K t.ay
 adC:XF K t.bY
 aeI:XF K t.aK
 aav:XF K t.aF
 Uu:XF K t.aN
 aaw:XF K t.a6
 SN:XF K t.bf
 d5:exmOne K (.ref t.aG) (.ref t.bq)=some true
 gR:exmOne K (.ref t.aE) (.ref t.bq)=some true
 gS:exmOne K (.ref t.aZ) (.ref t.bq)=some true
 gf:exmOne K (.ref t.ay) (.ref t.bq)=some true
 j3:exmOne K (.ref t.bY) (.ref t.bq)=some true
 ir:exmOne K (.ref t.aK) (.ref t.bq)=some true
 gT:exmOne K (.ref t.aF) (.ref t.bq)=some true
 e9:exmOne K (.ref t.aN) (.ref t.bq)=some true
 gU:exmOne K (.ref t.a6) (.ref t.bq)=some true
 iu:exmOne K (.ref t.bf) (.ref t.bq)=some true
 bo:kitAny K (.ref t.aG) [.ref t.ay,.ref t.aE,.ref t.aF,.ref t.aK]=some false
 bE:kitAny K (.ref t.aE) [.ref t.ay,.ref t.aE,.ref t.aF,.ref t.aK]=some true
 bF:kitAny K (.ref t.aZ) [.ref t.ay,.ref t.aE,.ref t.aF,.ref t.aK]=some false
 bB:kitAny K (.ref t.ay) [.ref t.ay,.ref t.aE,.ref t.aF,.ref t.aK]=some true
 bM:kitAny K (.ref t.bY) [.ref t.ay,.ref t.aE,.ref t.aF,.ref t.aK]=some false
 bJ:kitAny K (.ref t.aK) [.ref t.ay,.ref t.aE,.ref t.aF,.ref t.aK]=some true
 bG:kitAny K (.ref t.aF) [.ref t.ay,.ref t.aE,.ref t.aF,.ref t.aK]=some true
 bx:kitAny K (.ref t.aN) [.ref t.ay,.ref t.aE,.ref t.aF,.ref t.aK]=some false
 bH:kitAny K (.ref t.a6) [.ref t.ay,.ref t.aE,.ref t.aF,.ref t.aK]=some false
 bK:kitAny K (.ref t.bf) [.ref t.ay,.ref t.aE,.ref t.aF,.ref t.aK]=some false
 fJ:kitOne K (.ref t.aG) (.ref t.aG)=some true
 jg:kitOne K (.ref t.aE) (.ref t.aG)=some false
 jh:kitOne K (.ref t.aZ) (.ref t.aG)=some false
 iw:kitOne K (.ref t.ay) (.ref t.aG)=some false
 lT:kitOne K (.ref t.bY) (.ref t.aG)=some false
 j4:kitOne K (.ref t.aK) (.ref t.aG)=some false
 ji:kitOne K (.ref t.aF) (.ref t.aG)=some false
 gW:kitOne K (.ref t.aN) (.ref t.aG)=some false
 jj:kitOne K (.ref t.a6) (.ref t.aG)=some false
 j5:kitOne K (.ref t.bf) (.ref t.aG)=some false
 dD:kitOne K (.ref t.aG) (.type "ValueError")=some true
 gh:kitOne K (.ref t.aE) (.type "ValueError")=some true
 gi:kitOne K (.ref t.aZ) (.type "ValueError")=some true
 fb:kitOne K (.ref t.ay) (.type "ValueError")=some true
 jk:kitOne K (.ref t.bY) (.type "ValueError")=some true
 gX:kitOne K (.ref t.aK) (.type "ValueError")=some true
 gj:kitOne K (.ref t.aF) (.type "ValueError")=some true
 eD:kitOne K (.ref t.aN) (.type "ValueError")=some true
 gk:kitOne K (.ref t.a6) (.type "ValueError")=some true
 gY:kitOne K (.ref t.bf) (.type "ValueError")=some true
 fK:exmOne K (.ref t.aG) (.ref t.aF)=some false
 d6:exmOne K (.ref t.aG) (.ref t.aN)=some false
 jw:exmOne K (.ref t.aG) (.ref t.bY)=some false
 fL:exmOne K (.ref t.aG) (.ref t.aG)=some true
 fM:exmOne K (.ref t.aE) (.ref t.aF)=some false
 d7:exmOne K (.ref t.aE) (.ref t.aN)=some false
 jx:exmOne K (.ref t.aE) (.ref t.bY)=some false
 fN:exmOne K (.ref t.aE) (.ref t.aG)=some false
 eO:exmOne K (.ref t.aE) (.ref t.ay)=some false
 fO:exmOne K (.ref t.aE) (.ref t.aE)=some true
 fP:exmOne K (.ref t.aZ) (.ref t.aF)=some false
 d8:exmOne K (.ref t.aZ) (.ref t.aN)=some false
 jy:exmOne K (.ref t.aZ) (.ref t.bY)=some false
 fQ:exmOne K (.ref t.aZ) (.ref t.aG)=some false
 eP:exmOne K (.ref t.aZ) (.ref t.ay)=some false
 fR:exmOne K (.ref t.aZ) (.ref t.aE)=some false
 fS:exmOne K (.ref t.aZ) (.ref t.aZ)=some true
 eQ:exmOne K (.ref t.ay) (.ref t.aF)=some false
 dE:exmOne K (.ref t.ay) (.ref t.aN)=some false
 iK:exmOne K (.ref t.ay) (.ref t.bY)=some false
 eR:exmOne K (.ref t.ay) (.ref t.aG)=some false
 d9:exmOne K (.ref t.ay) (.ref t.ay)=some true
 jz:exmOne K (.ref t.bY) (.ref t.aF)=some false
 gZ:exmOne K (.ref t.bY) (.ref t.aN)=some false
 nG:exmOne K (.ref t.bY) (.ref t.bY)=some true
 g4:exmOne K (.ref t.aK) (.ref t.aF)=some false
 eS:exmOne K (.ref t.aK) (.ref t.aN)=some false
 kE:exmOne K (.ref t.aK) (.ref t.bY)=some false
 g5:exmOne K (.ref t.aK) (.ref t.aG)=some false
 fU:exmOne K (.ref t.aK) (.ref t.ay)=some false
 g6:exmOne K (.ref t.aK) (.ref t.aE)=some false
 g7:exmOne K (.ref t.aK) (.ref t.aZ)=some false
 g8:exmOne K (.ref t.aK) (.ref t.a6)=some false
 iL:exmOne K (.ref t.aK) (.ref t.aK)=some true
 fV:exmOne K (.ref t.aF) (.ref t.aF)=some true
 ee:exmOne K (.ref t.aN) (.ref t.aF)=some false
 dh:exmOne K (.ref t.aN) (.ref t.aN)=some true
 fW:exmOne K (.ref t.a6) (.ref t.aF)=some false
 eh:exmOne K (.ref t.a6) (.ref t.aN)=some false
 jA:exmOne K (.ref t.a6) (.ref t.bY)=some false
 fX:exmOne K (.ref t.a6) (.ref t.aG)=some false
 eU:exmOne K (.ref t.a6) (.ref t.ay)=some false
 fY:exmOne K (.ref t.a6) (.ref t.aE)=some false
 fZ:exmOne K (.ref t.a6) (.ref t.aZ)=some false
 f6:exmOne K (.ref t.a6) (.ref t.a6)=some true
 g9:exmOne K (.ref t.bf) (.ref t.aF)=some false
 eV:exmOne K (.ref t.bf) (.ref t.aN)=some false
 kF:exmOne K (.ref t.bf) (.ref t.bY)=some false
 hI:exmOne K (.ref t.bf) (.ref t.aG)=some false
 f7:exmOne K (.ref t.bf) (.ref t.ay)=some false
 hV:exmOne K (.ref t.bf) (.ref t.aE)=some false
 hX:exmOne K (.ref t.bf) (.ref t.aZ)=some false
 hZ:exmOne K (.ref t.bf) (.ref t.a6)=some false
 iN:exmOne K (.ref t.bf) (.ref t.aK)=some false
 iO:exmOne K (.ref t.bf) (.ref t.bf)=some true
def cs (t:Adr):Cs:=⟨t.bp,t.dR,t.bL,true,fun r=>match r with
 |.uF=>t.aZ
 |.NV=>t.aF
 |.BR=>t.aN
 |.Full=>t.bY
 |.cC=>t.aG
 |.iB=>t.ay
 |.rN=>t.aE
 |.uG=>t.a6
 |.C0=>t.aK
 |.oJ=>t.bf⟩
inductive GC (C:Addr)(vs:List V)(H:Hp)(Q:VK)(E:XK):Prop
 |mk (x dx:Addr) (eE:vs=[.ref x]) (eF:H x=some (.ins C dx [])) (h8:∀(L D U:Addr)(H':Hp),(∀ y o,H y=some o->y≠x->H' y=some o)->H L=none->H D=none->H U=none->L≠D->L≠U->D≠U->H' x=some (.ins C dx (Fn L D U))->H' L=some (.lst [])->H' D=some (.lst [])->H' U=some (.lst [])->Q .non H'):GC C vs H Q E
variable {P:Program} {w:World} {K:Frag} {mg:Str->Option Value} {base:Heap} {t:Adr}
theorem JR (T:Txt K w mg t):bI P w K mg base lB (0+1) t.dq t.qG ["self"] (GC t.bp):=by
 refine T.lQ.ok Jb (fun vs H Q E h=>?_) (fun cdv A outer s H vs Q E hr h=>?_)
 ·obtain⟨_,_,rfl,_⟩:=h;rfl
 ·obtain⟨x,dx,rfl,hx,q⟩:=h;refine aX (af (vI (pv 0) (bN ag) rfl) (af (vI (pv 0) (bN ag) rfl) (aj (vI (pv 0) (bN ag) rfl)))) ?_;refine⟨big (by show 0<=1000;omega),fun L hL=>?_⟩;have xL:x≠L:=ao hx hL;refine⟨_,rfl,x,_,dx,_,rfl,by rw[ak xL];exact hx,T.aT,T.b9,by show 0<1000;decide,?_⟩;refine⟨big (by show 0<=1000;omega),fun D hD=>?_⟩;have xD:x≠D:=ao ah hD;have DL:L≠D:=ao (show upd (upd H L (.lst [])) x _ L=some (.lst []) by rw[ak (Yb' xL)];exact ah) hD;have hD0:H D=none:=by rw[ak (Yb' xD),ak (Yb' DL)]at hD;exact hD
  refine⟨_,rfl,x,_,dx,_,rfl,by rw[ak xD];exact ah,T.aT,T.e8,by rw[TY];show 1<1000;decide,?_⟩;refine⟨big (by show 0<=1000;omega),fun U hU=>?_⟩;have xU:x≠U:=ao ah hU;have DU:D≠U:=by
   rintro rfl;rw[ak (Yb' xU),ah]at hU;cases hU
  have LU:L≠U:=by
   rintro rfl;rw[ak (Yb' xU),ak DL,ak (Yb' xU),ah]at hU;cases hU
  have Xl:H U=none:=by rw[ak (Yb' xU),ak (Yb' DU),ak (Yb' xU),ak (Yb' LU)]at hU;exact hU
  refine⟨_,rfl,x,_,dx,_,rfl,by rw[ak xU];exact ah,T.aT,T.dg,by rw[TY,adx];show 2<1000;decide,?_⟩;rw[TY,adx,aju];refine q L D U _ (fun y o hy ny=>?_) hL hD0 Xl DL LU DU ah ?_ ?_ ?_
  ·rw[ak ny,ak (ao hy Xl),ak ny,ak (ao hy hD0),ak ny,ak (ao hy hL)];exact hy
  ·rw[ak (Yb' xL),ak LU,ak (Yb' xL),ak DL,ak (Yb' xL)];exact ah
  ·rw[ak (Yb' xD),ak DU,ak (Yb' xD)];exact ah
  ·rw[ak (Yb' xU)];exact ah
inductive Cz (c:Cs)(vs:List V)(H:Hp)(Q:VK)(E:XK):Prop
 |mk (x:Addr) (F:Addr->Prop) (vw:Vw) (ps fs:List Vw) (eE:vs=[.ref x]) (eF:xw c H x F vw ps fs) (h8:∀(l:Addr)(H':Hp),H l=none->aq H H'->H' l=some (.lst (vw.map fun a=>V.str a.1))->Q (.ref l) H'):Cz c vs H Q E
theorem vS (T:Txt K w mg t):bI P w K mg base lB (0+1) t.gG t.xR ["self"] (Cz (cs t)):=by
 refine T.rS.ok Rp (fun vs H Q E h=>?_) (fun cdv A outer s H vs Q E hr h=>?_)
 ·obtain⟨_,_,_,_,_,rfl,_⟩:=h;rfl
 ·obtain⟨x,F,vw,ps,fs,rfl,B,q⟩:=h;refine aX (aj (aw (uy (cn:=["voice"]) rfl (il.of rfl) (iX (cv (pv 0) rfl)) (fun _=>(bg (i:=0) Nh rfl (Or.inl rfl))) (fun _=>zF) (fun _=>(cv (pv 0) rfl))))) ?_;obtain⟨L,D,U,all,M,Ps,Fs,es,us,b,i,pp,pf,f⟩:=B.ex;obtain⟨dx,hx⟩:=b.hx;obtain⟨vx,g,gv⟩:=b.xI i;have hL:=b.hL;have xl:=ck g;have vl:=ck gv;have ln:=(b.wf M (.inr (.inl rfl))).len;have hn:=alT gv fun _ _ r=>r.2.1;refine⟨_,rfl,x,_,dx,_,_,rfl,hx,T.aT,T.b9,lZ _ _ _,L,rfl,⟨_,bh.of hL⟩,fun D' b' hD'=>?_⟩;refine mw (K:=K) (xs:=M L) (fun i ys σ H'=>∃ v,σ=[v,some (.ref x)]/\H'=upd H D' (.lst ys)/\ys=(vx.take i).map fun a=>V.str a.n) ⟨none,rfl,rfl,by simp⟩ ?_ ?_ ?_
  ·rintro i ys σ H' ⟨v,rfl,rfl,_⟩;exact kJ (bh.of hL) hD'
  ·rintro i ys y σ H' hy ⟨v,rfl,rfl,rfl⟩ N hN;obtain⟨a,e1,rfl,ha⟩:=zL g hy;have hi:i<vx.length:=(S'.mp e1).1;refine lX ?_;refine⟨_,rfl,a.o,_,a.d,_,_,rfl,by rw[ak (ao ha hD')];exact ha,T.gP,T.ig,XU _ _ _,ah,?_,?_⟩
   ·rw[j',Ze'];exact ba (by omega)
   ·refine hN _ _ _ ⟨_,rfl,eo,?_⟩;rw[take_succ,e1];simp
  ·rintro ys σ H' ⟨v,rfl,rfl,rfl⟩;rw[xl,take_length,hn];exact q D' _ hD' (aq.upd hD') ah
inductive qC (c:Cs)(vs:List V)(H:Hp)(Q:VK)(E:XK):Prop
 |mk (x dx L D U:Addr) (xs:List V) (vx:List Vx) (n:Str) (eE:vs=[.ref x,.str n]) (eF:H x=some (.ins c.B dx (Fn L D U))) (h8:H L=some (.lst xs)) (lh:Paired (ajv c.V H) xs vx) (rJ:match vx.find? (fun a=>decide (a.n=n)) with
 |none=>RX E c .cC H
 |some a=>Q (.ref a.o) H):qC c vs H Q E
theorem aeJ {vx:List Vx}{n:Str}:∀{i:Nat},(∀ j a,j<i->vx[j]? = some a->a.n≠n)->∀{b},vx[i]? = some b->b.n=n->vx.find? (fun a=>decide (a.n=n))=some b:=by
 induction vx with
 |nil=>intro i _ b h;simp at h
 |cons v vs ih =>
  intro i hi b hb he;cases i with
  |zero =>
   simp at hb;subst hb;exact List.find?_cons_of_pos (W' he)
  |succ i =>
   have h0:=hi 0 v (by omega) rfl;have h1:(v::vs).find? (fun a=>decide (a.n=n))=vs.find? (fun a=>decide (a.n=n)):=List.find?_cons_of_neg (fun z=>h0 (U' z));rw[h1];exact ih (i:=i) (fun j a hj ha=>hi (j+1) a (Nat.succ_lt_succ hj) (by simpa using ha)) (by simpa using hb) he
theorem en (T:Txt K w mg t):bI P w K mg base (fA P w) (0+1) t.bU t.lq ["self","name"] (qC (cs t)):=by
 refine T.ip.Od qu (fun vs H Q E h=>?_) (fun cdv A outer s H vs Q E hr h=>?_)
 ·obtain⟨_,_,_,_,_,_,_,_,rfl,_⟩:=h;rfl
 ·obtain⟨x,dx,L,D,U,xs,vx,n,rfl,hx,hL,g,q⟩:=h;refine aX (af (alM (kc PassesOwn.never rfl (iX (cv (pv 0) rfl)) (bg (i:=2) qu.nd rfl (Or.inl rfl)) (aj (aU (au (bj.or (aW (aC hr))) (cv (pv 2) rfl) (pv 1) (aA _)) (aj (aw (pv 2))) aB)))) (aj (jr (X:=(cj (fA P w) P w K mg base ["self","name","voice"] "Book.voice_called" (ae cI) t.bU cdv A outer s H E)) (fun _ _ z=>z) rfl T.yf.exc rfl T.Dr (aa aD ag)))) ?_;have xl:=ck g;refine⟨_,rfl,x,_,dx,_,_,rfl,hx,T.aT,T.b9,lZ _ _ _,L,rfl,⟨_,bh.of hL⟩,sE (K:=K) (xs:=xs) (fun i σ H'=>∃ v,σ=[some (.ref x),some (.str n),v]/\H'=H/\∀ j a,j<i->vx[j]? = some a->a.n≠n) ⟨none,rfl,rfl,fun j a hj=>by omega⟩ ?_ ?_ ?_⟩
  ·rintro i σ H1 _ ⟨v,rfl,eH,_⟩;rw[eH];exact bh.of hL
  ·rintro i y σ H1 hy ⟨v,rfl,eH,hi⟩;have eH:=eH.symm;subst eH;obtain⟨b,e1,rfl,hb⟩:=zL g hy;refine⟨_,rfl,b.o,_,b.d,_,_,rfl,hb,T.gP,T.ig,XU _ _ _,?_⟩;refine⟨_,rfl,.inl ⟨rfl,_,rfl,?_⟩⟩;refine a9 (fun h=>?_) (fun h=>?_)
   ·have e:b.n=n:=V.str.inj (U' h);rw[aeJ hi e1 e]at q;exact⟨_,rfl,q⟩
   ·refine⟨_,rfl,rfl,fun j a hj ha=>?_⟩;rcases Nat.lt_or_ge j i with z|z
    ·exact hi j a z ha
    ·have hij:j=i:=by omega
     rw[hij,e1]at ha;cases ha;exact fun z=>h (W' (R' V.str z))
  ·rintro σ H1 ⟨v,rfl,eH,hi⟩;have eH:=eH.symm;subst eH;have hn:vx.find? (fun a=>decide (a.n=n))=none:=List.find?_eq_none.mpr fun a ha z=>by
    obtain⟨j,hj⟩:=getElem?_of_mem ha;have hjl:j<vx.length:=(S'.mp hj).1;exact hi j a (by omega) hj (U' z)
   rw[hn]at q;exact⟨by show 1<=sizeLine;decide,q.2⟩
inductive CA (c:Cs)(vs:List V)(H:Hp)(Q:VK)(E:XK):Prop
 |mk (x:Addr) (F:Addr->Prop) (vw:Vw) (ps fs:List Vw) (n:Str) (eE:vs=[.ref x,.str n]) (eF:xw c H x F vw ps fs) (h8:match bc vw n with
 |none=>RX E c .cC H
 |some (.pl _)=>Q .non H
 |some (.cn ld lt sl tn)=>∀ p,H p=some (.tup [.str ld,.int lt,.int sl,.bl tn])->Q (.ref p) H):CA c vs H Q E
theorem jG (T:Txt K w mg t):bI P w K mg base (fA P w) (0+2) t.eZ t.xS ["self","name"] (CA (cs t)):=by
 have bV:=en (P:=P) (base:=base) T;refine T.rT.Od Rq (fun vs H Q E h=>?_) (fun cdv A outer s H vs Q E hr h=>?_)
 ·obtain⟨_,_,_,_,_,_,rfl,_⟩:=h;rfl
 ·obtain⟨x,F,vw,ps,fs,n,rfl,B,q⟩:=h;refine aX (aj (aw (cv (bC (X:=(cj (fA P w) P w K mg base ["self","name"] "Book.canon" (ae i7) t.eZ cdv A outer s H E)) (pv 0) T.aT T.d4 bV (hr.mono (by decide)) T.cJ .nil (fun _ _ z=>Or.inl z) (aa (pv 1) ag)) rfl))) ?_;obtain⟨L,D,U,all,M,Ps,Fs,es,us,b,iM,pp,pf,f⟩:=B.ex;obtain⟨dx,hx⟩:=b.hx;obtain⟨vx,g,gv⟩:=b.xI iM;refine⟨_,rfl,x,dx,_,rfl,hx,eN _ _ _,_,rfl,x,dx,L,D,U,M L,vx,n,rfl,hx,b.hL,g,?_⟩;rcases MG gv (fun _ _ r=>r.2.1) n with ⟨f1,f2⟩|⟨a,th,j,f1,f2,r,an,fj,fw⟩
  ·rw[f1];rw[f2]at q;exact q
  rw[f1];rw[f2]at q;refine⟨a.o,_,a.d,_,_,rfl,(b.ha a r.1).1,T.gP,T.df,BQ _ _ _,?_⟩;cases th with
  |pl ss=>rw[r.2.2.1];exact q
  |cn ld lt sl tn =>
   obtain⟨p,e1,e2⟩:=r.2.2;rw[e1];exact q p e2
inductive Ph (vs:List V)(H:Hp)(Q:VK)(E:XK):Prop
 |mk (n:Int) (eE:vs=[.int n]) (eF:Q (.bl true) H):Ph vs H Q E
theorem Du (T:Txt K w mg t):bI P w K mg base lB (0+1) t.oQ t.Jo ["_law_found"] Ph:=by
 refine T.mJ.ok Z3 (fun vs H Q E h=>?_) (fun cdv A outer s H vs Q E hr h=>?_)
 ·obtain⟨_,rfl,_⟩:=h;rfl
 ·obtain⟨n,rfl,q⟩:=h;refine aX (aj (aw (cS (iW (aO dS rfl T.bu br (aa (pv 0) (aa (gB (v:=.ty "int") rfl T.JO IM rfl) ag))) (lU (ak3 (aO dS rfl T.bu br (aa (pv 0) (aa (gB (v:=.ty "bool") rfl T.adB adm rfl) ag))))))))) ?_;refine Cd (.bl true) ?_ q;exact⟨_,rfl,_,_,_,_,rfl,jq.int _,rfl,_,rfl,cZ ⟨_,rfl,_,_,_,_,rfl,jq.int _,rfl,_,rfl,rK rfl⟩⟩
inductive Pj (K:Frag)(vs:List V)(H:Hp)(Q:VK)(E:XK):Prop
 |mk (l1 l2:Addr) (xs ys:List V) (ss:List Sg) (eE:vs=[.ref l1,.ref l2]) (eF:H l1=some (.lst xs)) (h8:bh K H l2 ys) (lh:qo H xs ss) (rJ:qo H ys ss) (Rg:∀ H',aq H H'->Q (.bl true) H'):Pj K vs H Q E
theorem aax (T:Txt K w mg t):bI P w K mg base lB (0+2) t.oR t.Jp ["_law_found","_law_due"] (Pj K):=by
 have sA:=Du (P:=P) (base:=base) T;refine T.wJ.ok C1 (fun vs H Q E h=>?_) (fun cdv A outer s H vs Q E hr h=>?_)
 ·obtain⟨_,_,_,_,_,rfl,_⟩:=h;rfl
 ·obtain⟨l1,l2,xs,ys,ss,rfl,h1,h2,g1,g2,q⟩:=h;have el:xs.length=ys.length:=(ck g1).trans (ck g2).symm;refine aX (af (aU (cz (PW.pt (mv (dw (bA (aO dS rfl T.bu br (aa (pv 0) (aa (gB (v:=.ty "list") rfl T.je i0 rfl) ag))))) (j9 (au (wd.or (oH (aC hr))) (aO (aQ.or aR) rfl T.cA cy (aa (pv 0) ag)) (aO (aQ.or aR) rfl T.cA cy (aa (pv 1) ag)) (aA _)))))) (aj (aw ik)) aB) (af (kc PassesOwn.never rfl (alw rfl T.ahG (pv 0) (pv 1)) (sC rfl (bP (bg (i:=2) C1.nd rfl (Or.inl rfl)) (bP (bg (i:=3) C1.nd rfl (Or.inl rfl)) mS))) (af (aU (cz (PW.pt (mv (dw (bA (aO dS rfl T.bu br (aa (pv 2) (aa (gB (v:=.ty "tuple") rfl T.O7 N8 rfl) ag))))) (j9 (au (wd.or (oH (aC hr))) (aO (aQ.or aR) rfl T.cA cy (aa (pv 2) ag)) ai (aA _)))))) (aj (aw ik)) aB) (aj (aU (cz (PW.pt (mv (dw (bA (aO dS rfl T.bu br (aa (aJ az (pv 2) ai (fun _ _=>rfl)) (aa (gB (v:=.ty "str") rfl T.alZ alq rfl) ag))))) (mv (dw (bA (aM sA (hr.mono (by decide)) rfl T.x3 T.mJ.kp T.sy .nil aY (aa (aJ az (pv 2) ai (fun _ _=>rfl)) ag)))) (j9 (au (wd.or (oH (aC hr))) (pv 2) (pv 3) (aA _))))))) (aj (aw ik)) aB)))) (aj (aw ik)))) ?_;refine lD false ?_ ?_
  ·tm_up;refine⟨_,_,_,_,rfl,jq.lst h1,rfl,_,rfl,bZ ?_⟩;tm_up;refine .inl ⟨_,_,rfl,.inl (bh.of h1),?_⟩;tm_up;refine .inl ⟨_,_,rfl,.inl h2,?_⟩;tm_up;exact gm (by rw[el];simp)
  refine bZ ?_;tm_up;refine⟨⟨_,bh.of h1⟩,⟨_,h2⟩,ai9 (K:=K) (xs:=xs) (ys:=ys) (fun i σ H'=>∃ v1 v2,σ=[some (.ref l1),some (.ref l2),v1,v2]/\aq H H') el ⟨none,none,rfl,aq.refl _⟩ ?_ ?_ ?_⟩
  ·rintro i σ H' ⟨v1,v2,rfl,s2⟩;exact⟨s2.seq (bh.of h1),s2.seq h2⟩
  ·rintro i x y tt σ H' hx hy ⟨v1,v2,rfl,s2⟩ hn;obtain⟨sg,e1,p,rfl,hp⟩:=zL g1 hx;obtain⟨sg',e2,p2,rfl,hp2⟩:=zL g2 hy;have es:sg'=sg:=Zb' (e2.symm.trans e1);subst es;have s3:aq H (upd H' tt (.tup [.ref p,.ref p2])):=s2.trans (aq.upd hn);have hp':=s3 _ _ hp;have hp2':=s3 _ _ hp2;refine⟨tt,_,rfl,vH.of ah,rfl,_,_,rfl,_,_,rfl,rfl,?_⟩;generalize upd H' tt (.tup [.ref p,.ref p2])=H3 at s3 hp' hp2';refine lD false ?_ ?_
   ·tm_up;refine⟨_,_,_,_,rfl,jq.tup hp',rfl,_,rfl,bZ ?_⟩;tm_up;refine .inl ⟨_,_,rfl,.inr (vH.of hp'),?_⟩;tm_up;exact gm rfl
   refine bZ ?_;refine lD false ?_ ?_
   ·tm_up;refine⟨_,_,_,_,rfl,jq.str _,rfl,_,rfl,bZ ?_⟩;tm_up;refine⟨anN 59 hp' hp2',?_⟩;tm_up;exact gm rfl
   refine bZ ?_;exact⟨_,_,rfl,s3⟩
  ·rintro σ H' ⟨v1,v2,rfl,s2⟩;exact q _ s2
inductive SO (K:Frag)(vs:List V)(H:Hp)(Q:VK)(E:XK):Prop
 |mk (f d:Addr) (fs ds:List Int) (eE:vs=[.ref f,.ref d]) (eF:H f=some (.lst (fs.map V.int))) (h8:bh K H d (ds.map V.int)) (lh:ds.length<=1000) (rJ:Q (.bl (decide (fs=ds))) H):SO K vs H Q E
theorem aeK (T:Txt K w mg t):bI P w K mg base lB (0+2) t.sX t.OS ["_law_found","_law_due"] (SO K):=by
 have sA:=Du (P:=P) (base:=base) T;refine T.Ah.ok SG (fun vs H Q E h=>?_) (fun cdv A outer s H vs Q E hr h=>?_)
 ·obtain⟨_,_,_,_,rfl,_⟩:=h;rfl
 ·obtain⟨f,d,fs,ds,rfl,hf,hd,hn,q⟩:=h;refine aX (af (aU (cz (PW.pt (mv (dw (bA (aO dS rfl T.bu br (aa (pv 0) (aa (gB (v:=.ty "list") rfl T.je i0 rfl) ag))))) (j9 (au (wd.or (oH (aC hr))) (aO (aQ.or aR) rfl T.cA cy (aa (pv 0) ag)) (aO (aQ.or aR) rfl T.cA cy (aa (pv 1) ag)) (aA _)))))) (aj (aw ik)) aB) (af (kc PassesOwn.never rfl (BN rfl T.w5 (aa (aO (aQ.or aR) rfl T.cA cy (aa (pv 1) ag)) ag)) (bg (i:=2) SG.nd rfl (Or.inl rfl)) (aj (aU (cz (PW.pt (mv (dw (bA (aM sA (hr.mono (by decide)) rfl T.x3 T.mJ.kp T.sy .nil aY (aa (aJ az (pv 0) (pv 2) (fun _ _=>rfl)) ag)))) (j9 (au (wd.or (oH (aC hr))) (aJ az (pv 0) (pv 2) (fun _ _=>rfl)) (aJ az (pv 1) (pv 2) (fun _ _=>rfl)) (aA _)))))) (aj (aw ik)) aB))) (aj (aw ik)))) ?_;refine lD (decide (fs.length≠ds.length)) ?_ ?_
  ·tm_up;refine⟨_,_,_,_,rfl,jq.lst hf,rfl,_,rfl,?_⟩;refine bZ ?_;tm_up;refine .inl ⟨_,_,rfl,.inl (bh.of hf),?_⟩;tm_up;refine .inl ⟨_,_,rfl,.inl hd,?_⟩;tm_up;rw[j',j'];refine gm ?_;rw[iA]
   by_cases e:fs.length=ds.length
   ·simp[e]
   ·have:¬((fs.length:Int)=(ds.length:Int)):=by omega
    simp[e,this]
  ·refine a9 (fun h=>?_) (fun h=>?_)
   ·have e:fs≠ds:=fun z=>by
     have:=U' h;rw[z]at this;exact this rfl
    rw[X' e]at q;exact q
   ·have el:fs.length=ds.length:=by
     by_cases e:fs.length=ds.length
     ·exact e
     ·exact P' (W' e) h
    tm_up;refine .inl ⟨_,_,rfl,.inl hd,?_⟩;rw[j'];have p62:(2:Int) ^ 62=4611686018427387904:=by decide
    refine⟨(ds.length:Int),rfl,by rw[p62];omega,by rw[p62];omega,?_⟩;refine wc (n:=((ds.length:Int)).toNat) (fun i σ H'=>∃ v,σ=[some (.ref f),some (.ref d),v]/\H'=H/\fs.take i=ds.take i) ⟨none,rfl,rfl,rfl⟩ ?_ ?_
    ·rintro i σ H' hi ⟨v,rfl,rfl,ht⟩;have hid:i<ds.length:=by omega
     have hif:i<fs.length:=by omega
     refine lD (decide (fs[i]≠ds[i])) ?_ ?_
     ·tm_up;refine ahk (bh.of hf) (n:=i) (by omega) (T' hif) ?_;tm_up;refine ahk (bh.of hf) (n:=i) (by omega) (T' hif) ?_;tm_up;refine ahk hd (n:=i) (by omega) (T' hid) ?_;tm_up;refine gm ?_;rw[iA];simp
     ·refine a9 (fun h=>?_) (fun h=>?_)
      ·have e:fs≠ds:=fun z=>by
        subst z;exact(U' h) rfl
       rw[X' e]at q;exact q
      ·have e:fs[i]=ds[i]:=by
        by_cases z:fs[i]=ds[i]
        ·exact z
        ·exact P' (W' z) h
       refine⟨_,rfl,rfl,?_⟩;rw[List.take_succ_eq_append_getElem hif,List.take_succ_eq_append_getElem hid,ht,e]
    ·rintro σ H' ⟨v,rfl,rfl,ht⟩;have e:fs=ds:=by
      have h1:((ds.length:Int)).toNat=ds.length:=by omega
      rw[h1,take_length,<-el,take_length]at ht;exact ht
     rw[W' e]at q;exact q
inductive zi (vs:List V)(H:Hp)(Q:VK)(E:XK):Prop
 |mk (p:Addr) (s:Sg) (eE:vs=[.ref p]) (eF:H p=some (.tup [.str s.1.str,.int s.2])) (h8:Q (.bl s.1.meas) H):zi vs H Q E
theorem al1 (k:Kd):inV (.str k.str) [.str "3",.str "2"]=k.meas:=by cases k <;> decide +kernel
theorem zj (T:Txt K w mg t):bI P w K mg base lB (0+1) t.fB t.sY ["sign"] zi:=by
 refine T.iG.ok Nf (fun vs H Q E h=>?_) (fun cdv A outer s H vs Q E hr h=>?_)
 ·obtain⟨_,_,rfl,_⟩:=h;rfl
 ·obtain⟨p,s,rfl,hp,q⟩:=h;rw[<-al1]at q;refine aX (aj (aw (b6 (cW.or cV) (aJ az (pv 0) ai (fun _ _=>rfl)) (b5 (v:=.ref t.dt) rfl T.zg rfl) rfl))) ?_;tm_up;exact .inl ⟨_,_,rfl,.inr (T.zh _),rfl,rfl,q⟩
inductive MQ (K:Frag)(vs:List V)(H:Hp)(Q:VK)(E:XK):Prop
 |mk (l:Addr) (b:Int) (xs:List V) (ss:List Sg) (eE:vs=[.ref l,.int b]) (eF:bh K H l xs) (h8:qo H xs ss) (lh:ss.length<=400) (rJ:∀(f:Addr)(H':Hp),aq H H'->H f=none->H' f=some (.lst ((jV b (bO ss)).map V.int))->Q (.ref f) H'):MQ K vs H Q E
theorem an0 {k:Kd}(h:k.meas=true)(m:Int):intText? k.str=some (nm m k)/\k.str.length<=640:=by
 cases k <;> first|(cases h;done)|exact⟨by first|exact(show intText? Kd.three.str=some 3 by lk)|exact(show intText? Kd.two.str=some 2 by lk),by lk⟩
theorem al2 {k:Kd}(h:¬ k.meas=true)(m:Int):nm m k=m:=by
 cases k <;> first|rfl|exact P' rfl h
theorem MR (T:Txt K w mg t):bI P w K mg base lB (0+2) t.l8 t.xV ["line","begin"] (MQ K):=by
 have tO:=zj (P:=P) (base:=base) T;refine T.mf.ok qv (fun vs H Q E h=>?_) (fun cdv A outer s H vs Q E hr h=>?_)
 ·obtain⟨_,_,_,_,rfl,_⟩:=h;rfl
 ·obtain⟨l,b,xs,ss,rfl,hS,hg,hn,q⟩:=h;refine aX (af (aL (i:=2) qv.nd rfl (Or.inl rfl) (bN ag)) (af (aL (i:=3) qv.nd rfl (Or.inl rfl) (pv 1)) (af (kc PassesOwn.never rfl (iX (pv 0)) (bg (i:=4) qv.nd rfl (Or.inl rfl)) (af (gp (aU (bA (aM tO (hr.mono (by decide)) rfl T.zf T.iG.kp T.nj .nil aY (aa (pv 4) ag))) (aj (aL (i:=3) qv.nd rfl (Or.inl rfl) (gq (wj.or lC) rfl T.JO IM (aa (aJ az (pv 4) ai (fun _ _=>rfl)) ag)))) aB)) (aj (a8 (ke Yc' Yd' Ye' bW (pv 2) (aa (pv 3) ag)))))) (aj (aw (pv 2)))))) ?_;refine⟨big (by show 0<=1000;omega),fun f hf=>?_⟩;tm_up;refine⟨⟨xs,kJ hS hf⟩,sE (K:=K) (xs:=xs) (fun i σ H'=>∃(m:Int)(v:Option V)(fs:List Int),σ=[some (.ref l),some (.int b),some (.ref f),some (.int m),v]/\H'=upd H f (.lst (fs.map V.int))/\fs++jV m ((bO ss).drop i)=jV b (bO ss))
   ⟨b,none,[],rfl,rfl,rfl⟩ ?_ ?_ ?_⟩
  ·rintro i σ H' _ ⟨m,v,fs,rfl,rfl,_⟩;exact kJ hS hf
  ·rintro i x σ H' hx ⟨m,v,fs,rfl,rfl,hm⟩;obtain⟨s,hs,p,rfl,hp⟩:=zL hg hx;have hd:=rL (zM (f:=Prod.fst) hs);rw[hd]at hm;have hp':upd H f (.lst (fs.map V.int)) p=some (.tup [.str s.1.str,.int s.2]):=by rw[ak (ao hp hf)];exact hp
   have hl:=R' List.length hm;simp only [Z',jV,Zp',IW,j']at hl;refine agW [some (.ref l),some (.int b),some (.ref f),some (.int (nm m s.1)),some (.ref p)] (upd H f (.lst (fs.map V.int))) ?_ ?_
   ·refine⟨_,rfl,p,s,rfl,hp',_,rfl,?_⟩;refine a9 (fun h=>?_) (fun h=>?_)
    ·obtain⟨e1,e2⟩:=an0 h m;tm_up;exact .inr ⟨_,_,rfl,e1,e2,rfl,rfl⟩
    ·rw[al2 h];exact⟨rfl,rfl⟩
   ·tm_up;refine⟨.inl ⟨rfl,_,bh.of ah⟩,?_⟩;tm_up;refine⟨_,_,_,rfl,rfl,ah,by rw[j'];exact ba (by omega),?_⟩;exact⟨_,_,fs++[nm m s.1],rfl,by rw[eo,map_append];rfl,by rw[List.append_assoc];exact hm⟩
  ·rintro σ H' ⟨m,v,fs,rfl,rfl,hm⟩;rw[List.drop_eq_nil_of_le (by rw[j',ck hg];exact Zi' _)]at hm;tm_up;have e:fs=jV b (bO ss):=by rw[<-hm];simp[jV]
   subst e;exact q f _ (aq.upd hf) hf ah
inductive Pk (K:Frag)(vs:List V)(H:Hp)(Q:VK)(E:XK):Prop
 |mk (l:Addr) (i:Int) (xs:List V) (ss:List Sg) (eE:vs=[.ref l,.int i]) (eF:bh K H l xs) (h8:qo H xs ss) (lh:Q (.str (uA (TQ (bO ss) i))) H):Pk K vs H Q E
theorem yg (T:Txt K w mg t):bI P w K mg base lB (0+1) t.oS t.Jq ["line","at"] (Pk K):=by
 refine T.gy.ok Z4 (fun vs H Q E h=>?_) (fun cdv A outer s H vs Q E hr h=>?_)
 ·obtain⟨_,_,_,_,rfl,_⟩:=h;rfl
 ·obtain⟨l,i,xs,ss,rfl,hS,hg,q⟩:=h;have out:¬(0<=i/\i<ss.length)->TQ (bO ss) i=none:=fun z=>by
   unfold TQ;split
   ·exact List.getElem?_eq_none (by rw[j'];omega)
   ·rfl
  refine aX (af (aU (Fp we rE ai (pv 1) (aO (aQ.or aR) rfl T.cA cy (aa (pv 0) ag))) (aj (aw (aJ az (aJ az (pv 0) (pv 1) (fun _ _=>rfl)) ai (fun _ _=>rfl)))) aB) (aj (aw aD))) ?_;tm_up;refine a9 (fun h0=>?_) (fun h0=>?_)
  ·have h0':=U' h0;tm_up;refine .inl ⟨_,_,rfl,.inl hS,?_⟩;rw[ck hg];tm_up;refine a9 (fun h1=>?_) (fun h1=>?_)
   ·have h1':=U' h1;have hi:i.toNat<ss.length:=by omega
    have e:TQ (bO ss) i=some (ss[i.toNat]).1:=by
     unfold TQ;rw[K' h0',Zf',T' hi];rfl
    rw[e]at q;tm_up;refine Rm hS hg (n:=i.toNat) (by omega) (T' hi) fun b hb=>?_;tm_up;exact q
   ·rw[out fun z=>h1 (W' z.2)]at q;exact q
  ·rw[out fun z=>h0 (W' z.1)]at q;exact⟨_,rfl,bZ q⟩
inductive Au (vs:List V)(H:Hp)(Q:VK)(E:XK):Prop
 |mk (k:Kd) (m:Int) (eE:vs=[.str k.str,.int m]) (eF:Q (.int (pw k m)) H):Au vs H Q E
theorem Pl (T:Txt K w mg t):bI P w K mg base lB (0+1) t.ib t.vP ["kind","measure"] Au:=by
 refine T.lJ.ok OG (fun vs H Q E h=>?_) (fun cdv A outer s H vs Q E hr h=>?_)
 ·obtain⟨_,_,rfl,_⟩:=h;rfl
 ·obtain⟨k,m,rfl,q⟩:=h;refine aX (af (aU (cz (PW.pt (du (au (bj.or (aW (aC hr))) (pv 1) ai (aA _)) (eW (au agT (pv 0) (b5 (v:=.ref t.cF) rfl T.xc rfl) rfl))))) (aj (aw (aJ akE (b5 (v:=.ref t.cF) rfl T.xc rfl) (pv 0) (fun _ _=>rfl)))) aB) (aj (aw (aJ akE (b5 (v:=.ref t.d3) rfl T.Pc rfl) (pv 0) (fun _ _=>rfl))))) ?_;refine lD (decide (m=2)&&(decide (k=.G)||decide (k=.R))) ?_ ?_
  ·tm_up;rw[iA];refine a9 (fun h=>?_) (fun h=>?_)
   ·tm_up;refine⟨_,_,_,rfl,rfl,T.vc,_,rfl,gm ?_⟩;rw[h];cases k <;> decide +kernel
   ·exact gm (by rw[Y'.mpr h];rfl)
  ·refine a9 (fun h=>?_) (fun h=>?_)
   ·tm_up;obtain⟨h1,h2⟩:=Bool.and_eq_true_iff.mp h;have hm:=U' h1;have e:[(Str.ofString "G",V.int 2),(Str.ofString "R",V.int 2)].lookup k.str=some (.int (pw k m)):=by
     rw[hm];cases k <;> first|decide +kernel|(exfalso;revert h2;decide)
    exact⟨_,_,_,_,rfl,rfl,T.vc,e,q⟩
   ·tm_up;have e:[(Str.ofString "G",V.int 3),(Str.ofString "D",V.int 2),(Str.ofString "R",V.int 3),(Str.ofString "s",V.int 1),(Str.ofString "d",V.int 1),(Str.ofString "r",V.int 1),(Str.ofString ".",V.int 0),(Str.ofString "3",V.int 0),(Str.ofString "2",V.int 0)].lookup k.str=some (.int (pw k m)):=by
     by_cases hm:m=2
     ·rw[hm]at h ⊢;cases k <;> first|decide +kernel|(exfalso;revert h;decide)
     ·cases k <;> first|decide +kernel|(simp only [pw,G' hm];decide +kernel)
    exact⟨_,_,_,_,rfl,rfl,T.Nl,e,q⟩
inductive nH (K:Frag)(vs:List V)(H:Hp)(Q:VK)(E:XK):Prop
 |mk (l:Addr) (b:Int) (xs:List V) (ss:List Sg) (eE:vs=[.ref l,.int b]) (eF:bh K H l xs) (h8:qo H xs ss) (lh:ss.length<=400) (rJ:∀(f:Addr)(H':Hp),aq H H'->H f=none->H' f=some (.lst ((ki b (bO ss)).map V.int))->Q (.ref f) H'):nH K vs H Q E
theorem yh (T:Txt K w mg t):bI P w K mg base lB (0+3) t.cf t.jJ ["line","begin"] (nH K):=by
 have Dv:=MR (P:=P) (base:=base) T;have iP:=yg (P:=P) (base:=base) T;have Ry:=Pl (P:=P) (base:=base) T;refine T.dB.ok eY (fun vs H Q E h=>?_) (fun cdv A outer s H vs Q E hr h=>?_)
 ·obtain⟨_,_,_,_,rfl,_⟩:=h;rfl
 ·obtain⟨l,b,xs,ss,rfl,hS,hg,hn,q⟩:=h;refine aX (af (aL (i:=2) eY.nd rfl (Or.inl rfl) (bN ag)) (af (kc PassesOwn.never rfl (ai8 rfl T.Gy (aM Dv (hr.mono (by decide)) rfl T.MN T.mf.kp T.x6 .nil aY (aa (pv 0) (aa (pv 1) ag)))) (sC rfl (bP (bg (i:=3) eY.nd rfl (Or.inl rfl)) (bP (bg (i:=4) eY.nd rfl (Or.inl rfl)) mS))) (aj (aU (cz (PW.pt (du (au (bj.or (aW (aC hr))) (pv 4) ai (aA _)) (du (au (bj.or (aW (aC hr))) (aM iP (hr.mono (by decide)) rfl T.kC T.gy.kp T.jF .nil aY (aa (pv 0) (aa (pv 3) ag))) aD (aA _)) (eW (au (bj.or (aW (aC hr))) (aM iP (hr.mono (by decide)) rfl T.kC T.gy.kp T.jF .nil aY (aa (pv 0) (aa (aP (b7.or (aV.or b8)) (pv 3) ai) ag))) aD (aA _))))))) (aj (a8 (ke Yc' Yd' Ye' bW (pv 2) (aa (b5 (v:=.int 3) rfl T.Pd ⟨_,rfl⟩) ag)))) (aj (a8 (ke Yc' Yd' Ye' bW (pv 2) (aa (aM Ry (hr.mono (by decide)) rfl T.O1 T.lJ.kp T.vR .nil aY (aa (aM iP (hr.mono (by decide)) rfl T.kC T.gy.kp T.jF .nil aY (aa (pv 0) (aa (pv 3) ag))) (aa (pv 4) ag))) ag))))))) (aj (aw (pv 2))))) ?_;refine⟨big (by show 0<=1000;omega),fun f hf=>?_⟩;tm_up;refine⟨l,b,xs,ss,rfl,kJ hS hf,hg.same (aq.upd hf),hn,fun f2 H2 s2 n2 h2=>⟨_,rfl,⟨_,bh.of h2⟩,?_⟩⟩;have ml:(jV b (bO ss)).length=ss.length:=by rw[IW,j']
  have nff:f2≠f:=fun e=>by rw[e,ah]at n2;cases n2
  refine agP (K:=K) (xs:=(jV b (bO ss)).map V.int) (fun i σ H'=>∃(v w:Option V)(fs:List Int),σ=[some (.ref l),some (.int b),some (.ref f),v,w]/\aq H H'/\H' f=some (.lst (fs.map V.int))/\H' f2=some (.lst ((jV b (bO ss)).map V.int))/\fs++CU ((bO ss).drop i) ((jV b (bO ss)).drop i)=ki b (bO ss))
   ⟨none,none,[],rfl,(aq.upd hf).trans s2,s2 _ _ ah,h2,XQ ..⟩ ?_ ?_ ?_
  ·rintro i σ H' ⟨v,w,fs,rfl,_,_,h3,_⟩;exact bh.of h3
  ·rintro i x t σ H' hx ⟨v,w,fs,rfl,s3,h3,h4,hm⟩ ht;obtain⟨m,hm1,rfl⟩:=TN hx;have hil:i<ss.length:=by
    have:=(S'.mp hm1).1;omega
   have hk:(bO ss)[i]? = some (ss[i]).1:=zM (T' hil);rw[rL hk,rL hm1]at hm;simp only [CU,head_drop]at hm;have hl:=R' List.length hm;simp only [Z',Zp',wu,j']at hl;have sT:aq H' (upd H' t (.tup [.int i,.int m])):=aq.upd ht;have hS':bh K (upd H' t (.tup [.int i,.int m])) l xs:=(s3.trans sT).seq hS;have hg':=hg.same (s3.trans sT);have h3':=sT _ _ h3;have ka:TQ (bO ss) (i:Int)=some (ss[i]).1:=by rw[uB];exact hk
   have kb:TQ (bO ss) ((i:Int)+1)=(bO ss)[i+1]?:=by rw[<-uB];rfl
   refine⟨t,_,rfl,vH.of ah,rfl,_,_,rfl,_,_,rfl,rfl,?_⟩;have fin:∀ z:Int,z=bw m (ss[i]).1 (bO ss)[i+1]?->∃(v w:Option V)(fs':List Int),[some (V.ref l),some (V.int b),some (V.ref f),some (V.int (i:Int)),some (V.int m)]=[some (.ref l),some (.int b),some (.ref f),v,w]/\aq H (upd (upd H' t (.tup [.int i,.int m])) f (.lst (fs.map V.int++[V.int z]))) /\
     (upd (upd H' t (.tup [.int i,.int m])) f (.lst (fs.map V.int++[V.int z]))) f=some (.lst (fs'.map V.int))/\(upd (upd H' t (.tup [.int i,.int m])) f (.lst (fs.map V.int++[V.int z]))) f2=some (.lst ((jV b (bO ss)).map V.int))/\fs'++CU ((bO ss).drop (i+1)) ((jV b (bO ss)).drop (i+1))=ki b (bO ss):=by
    intro z hz;refine⟨_,_,fs++[z],rfl,gb (s3.trans sT) hf,by rw[ah,map_append];rfl,by rw[ak nff];exact sT _ _ h4,?_⟩;rw[List.append_assoc,hz];exact hm
   refine lD (decide (m=2)&&(decide (uA (TQ (bO ss) (i:Int)) = "G")&&decide (uA (TQ (bO ss) ((i:Int)+1)) = "."))) ?_ ?_
   ·tm_up;rw[iA];refine a9 (fun h=>?_) (fun h=>?_)
    ·tm_up;refine⟨l,_,xs,ss,rfl,hS',hg',?_⟩;tm_up;rw[ajr];refine a9 (fun h2=>?_) (fun h2=>?_)
     ·tm_up;refine⟨l,_,xs,ss,rfl,hS',hg',?_⟩;tm_up;rw[ajr];exact gm (by rw[h,h2];rfl)
     ·exact gm (by rw[h,Y'.mpr h2];rfl)
    ·exact gm (by rw[Y'.mpr h];rfl)
   ·refine a9 (fun h=>?_) (fun h=>?_)
    ·tm_up;refine⟨.inl ⟨rfl,_,bh.of h3'⟩,?_⟩;refine⟨_,_,_,rfl,rfl,h3',by rw[j'];exact ba (by omega),fin 3 ?_⟩;obtain⟨h1,h2⟩:=Bool.and_eq_true_iff.mp h;obtain⟨h2,h5⟩:=Bool.and_eq_true_iff.mp h2;have e1:(ss[i]).1=.G:=by
      have:=U' h2;rw[ka]at this;exact str_inj.mp (this.trans (rfl:("G":Str)=Kd.G.str))
     have e2:(bO ss)[i+1]? = some .dot:=by
      have:=U' h5;rw[kb]at this;exact XN.mp (this.trans (rfl:(".":Str)=uA (some .dot)))
     unfold bw;rw[K' ⟨U' h1,e1,e2⟩]
    ·tm_up;refine⟨.inl ⟨rfl,_,bh.of h3'⟩,?_⟩;tm_up;refine⟨l,_,xs,ss,rfl,hS',hg',?_⟩;tm_up;rw[ka];refine⟨_,_,rfl,?_⟩;refine⟨_,_,_,rfl,rfl,h3',by rw[j'];exact ba (by omega),fin _ ?_⟩;unfold bw;rw[G'];rintro⟨h1,h2,h5⟩;refine h ?_;rw[ka,kb,h2,h5,h1];decide +kernel
  ·rintro σ H' ⟨v,w,fs,rfl,s3,h3,_,hm⟩;rw[j',ml,List.drop_eq_nil_of_le (by rw[j'];exact Zi' _)]at hm;tm_up;have e:fs=ki b (bO ss):=by rw[<-hm];simp[CU]
   subst e;exact q f _ s3 hf h3
inductive Yg (vs:List V)(H:Hp)(Q:VK)(E:XK):Prop
 |mk (p:Addr) (s:Sg) (eE:vs=[.ref p]) (eF:H p=some (.tup [.str s.1.str,.int s.2])) (h8:Q (.bl s.1.small) H):Yg vs H Q E
theorem GD (k:Kd):inV (.str k.str) [.str "s",.str "d",.str "r"]=k.small:=by cases k <;> decide +kernel
theorem Yh (T:Txt K w mg t):bI P w K mg base lB (0+1) t.xW t.Uc ["sign"] Yg:=by
 refine T.BZ.ok ahy (fun vs H Q E h=>?_) (fun cdv A outer s H vs Q E hr h=>?_)
 ·obtain⟨_,_,rfl,_⟩:=h;rfl
 ·obtain⟨p,s,rfl,hp,q⟩:=h;rw[<-GD]at q;refine aX (aj (aw (b6 (cW.or cV) (aJ az (pv 0) ai (fun _ _=>rfl)) (b5 (v:=.ref t.ie) rfl T.Rv rfl) rfl))) ?_;tm_up;exact .inl ⟨_,_,rfl,.inr (T.Rw _),rfl,rfl,q⟩
inductive adD (K:Frag)(vs:List V)(H:Hp)(Q:VK)(E:XK):Prop
 |mk (l:Addr) (b:Int) (xs:List V) (ss:List Sg) (eE:vs=[.ref l,.int b]) (eF:bh K H l xs) (h8:qo H xs ss) (lh:ss.length<=400) (rJ:∀(f:Addr)(ys:List V)(H':Hp),aq H H'->H f=none->H' f=some (.lst ys)->ZT H' ys (zd b (bO ss))->Q (.ref f) H'):adD K vs H Q E
theorem ajF (T:Txt K w mg t):bI P w K mg base lB (0+3) t.C7 t.Ud ["line","begin"] (adD K):=by
 have Dv:=MR (P:=P) (base:=base) T;have Uv:=Yh (P:=P) (base:=base) T;refine T.JD.ok xM (fun vs H Q E h=>?_) (fun cdv A outer s H vs Q E hr h=>?_)
 ·obtain⟨_,_,_,_,rfl,_⟩:=h;rfl
 ·obtain⟨l,b,xs,ss,rfl,hS,hg,hn,q⟩:=h;refine aX (af (aL (i:=2) xM.nd rfl (Or.inl rfl) (bN ag)) (af (aL (i:=3) xM.nd rfl (Or.inl rfl) ai) (af (kc PassesOwn.never rfl (anr rfl T.ahG rfl T.Gy (pv 0) (aM Dv (hr.mono (by decide)) rfl T.MN T.mf.kp T.x6 .nil aY (aa (pv 0) (aa (pv 1) ag)))) (sC rfl (bP (bg (i:=4) xM.nd rfl (Or.inl rfl)) (bP (sC rfl (bP (bg (i:=5) xM.nd rfl (Or.inl rfl)) (bP (bg (i:=6) xM.nd rfl (Or.inl rfl)) mS))) mS))) (aj (aU (cz (PW.pt (mv (au (bj.or (aW (aC hr))) (pv 6) ai (aA _)) (j9 (dw (bA (aM Uv (hr.mono (by decide)) rfl T.X8 T.BZ.kp T.NX .nil aY (aa (pv 5) ag)))))))) (af (gp (aU (au rE (pv 3) (pv 4) (aA _)) (aj (a8 (ke Yc' Yd' Ye' bW (pv 2) (aa (cw (aa (pv 3) (aa (pv 4) ag))) ag)))) aB)) (aj (aL (i:=3) xM.nd rfl (Or.inl rfl) (aP (b7.or (aV.or b8)) (pv 4) ai)))) aB))) (af (gp (aU (au rE (pv 3) (aO (aQ.or aR) rfl T.cA cy (aa (pv 0) ag)) (aA _)) (aj (a8 (ke Yc' Yd' Ye' bW (pv 2) (aa (cw (aa (pv 3) (aa (aO (aQ.or aR) rfl T.cA cy (aa (pv 0) ag)) ag))) ag)))) aB)) (aj (aw (pv 2))))))) ?_;refine⟨big (by show 0<=1000;omega),fun f hf=>?_⟩;tm_up;refine⟨l,b,xs,ss,rfl,kJ hS hf,hg.same (aq.upd hf),hn,fun f2 H2 s2 n2 h2=>⟨_,_,rfl,rfl,⟨xs,((aq.upd hf).trans s2).seq hS⟩,⟨_,bh.of h2⟩,?_⟩⟩;have ml:(jV b (bO ss)).length=ss.length:=by rw[IW,j']
  have nff:f2≠f:=fun e=>by rw[e,ah]at n2;cases n2
  have cnt:(zd b (bO ss)).length<=401:=by
   have:=qp (lG b (bO ss)) 0 0;rw[sJ,j']at this;exact Zh' this (by omega)
  refine aly (K:=K) (xs:=xs) (ys:=(jV b (bO ss)).map V.int) (fun i σ H'=>∃(v w u:Option V)(first:Nat)(ys:List V)(qs:List (Nat×Nat)),σ=[some (.ref l),some (.int b),some (.ref f),some (.int (first:Int)),v,w,u]/\aq H H'/\H' f=some (.lst ys)/\ZT H' ys qs/\H' f2=some (.lst ((jV b (bO ss)).map V.int))/\first<=i/\qs++gn i first (XR ((bO ss).drop i) ((jV b (bO ss)).drop i))=zd b (bO ss))
   (by rw[j',ml];exact ck hg) ⟨none,none,none,0,[],[],rfl,(aq.upd hf).trans s2,s2 _ _ ah,.nil,h2,Zi' _,by rw[List.drop_zero,List.drop_zero,ZS];rfl⟩ ?_ ?_ ?_
  ·rintro i σ H' ⟨v,w,u,first,ys,qs,rfl,s3,_,_,h4,_⟩;exact⟨s3.seq hS,bh.of h4⟩
  ·rintro i x y t u' σ H' hx hy ⟨v,w,u,first,ys,qs,rfl,s3,h3,hq,h4,hfi,hm⟩ ht hu htu;obtain⟨s,hs,p,rfl,hp⟩:=zL hg hx;obtain⟨m,hm1,rfl⟩:=TN hy;rw[rL (zM (f:=Prod.fst) hs),rL hm1]at hm;simp only [XR]at hm;have sT:aq H' (upd (upd H' t (.tup [.ref p,.int m])) u' (.tup [.int i,.ref t])):=(aq.upd ht).trans (aq.upd (by rw[ak htu.symm];exact hu));have ut:upd (upd H' t (.tup [.ref p,.int m])) u' (.tup [.int i,.ref t]) t=some (.tup [.ref p,.int m]):=by rw[ak htu,ah]
   refine⟨u',_,rfl,vH.of ah,rfl,_,_,rfl,_,_,rfl,t,_,rfl,vH.of ut,rfl,_,_,rfl,_,_,rfl,rfl,rfl,?_⟩;generalize upd (upd H' t (.tup [.ref p,.int m])) u' (.tup [.int i,.ref t])=H3 at sT;have hp3:=(s3.trans sT) _ _ hp;have h33:=sT _ _ h3;have hq3:=uC sT hq;refine lD (!inR m s.1) ?_ ?_
   ·tm_up;rw[iA];refine a9 (fun h=>?_) (fun h=>?_)
    ·refine gm ?_;unfold inR;have:=U' h;simp[this]
    ·tm_up;refine⟨p,s,rfl,hp3,_,rfl,gm ?_⟩;have hm2:m≠2:=fun e=>h (W' e);unfold inR;simp[hm2]
   ·cases hin:inR m s.1 with
    |false =>
     rw[hin]at hm;refine cZ ?_;refine⟨fun σ1 H1=>σ1=[some (.ref l),some (.int b),some (.ref f),some (.int (first:Int)),some (.int i),some (.ref p),some (.int m)]/\aq H H1/\(∃ ys',H1 f=some (.lst ys')/\ZT H1 ys' (qs++if first<i then [(first,i)] else []))/\H1 f2=some (.lst ((jV b (bO ss)).map V.int)),?_,?_⟩
     ·tm_up;refine a9 (fun h=>?_) (fun h=>?_)
      ·have hlt:first<i:=by have:=U' h;omega
       have ql:qs.length<=401:=by
        have:=R' List.length hm;simp only [Z']at this;omega
       tm_up;refine⟨.inl ⟨rfl,_,bh.of h33⟩,?_⟩;tm_up;refine⟨by show 2<=sizeLine;decide,fun z hz=>?_⟩;have sz:aq H3 (upd H3 z (.tup [.int (first:Int),.int i])):=aq.upd hz;have h3z:=sz _ _ h33;refine⟨_,_,_,rfl,rfl,h3z,by rw[ck hq3];exact ba (by omega),?_⟩;rw[K' hlt];exact⟨rfl,gb ((s3.trans sT).trans sz) hf,⟨_,ah,lF (sL h3z (uC sz hq3)) (XT h3z ⟨z,rfl,ah⟩)⟩,by rw[ak nff];exact sz _ _ (sT _ _ h4)⟩
      ·have hlt:¬ first<i:=fun z=>h (W' (by omega))
       rw[G' hlt,append_nil];exact⟨rfl,s3.trans sT,⟨_,h33,hq3⟩,sT _ _ h4⟩
     ·rintro σ1 H1 ⟨rfl,sa,⟨ys',hb,hc⟩,hd⟩;tm_up;refine⟨_,_,_,i+1,ys',_,rfl,sa,hb,hc,hd,Zi' _,?_⟩;rw[<-hm,List.append_assoc];rfl
    |true =>
     rw[hin]at hm;refine bZ ?_;exact⟨_,_,_,first,ys,qs,rfl,s3.trans sT,h33,hq3,sT _ _ h4,by omega,hm⟩
  ·rintro σ H' ⟨v,w,u,first,ys,qs,rfl,s3,h3,hq,h4,hfi,hm⟩;rw[ck hg]at hm hfi;rw[List.drop_eq_nil_of_le (by rw[j'];exact Zi' _)]at hm;have hm':qs++(if first<ss.length then [(first,ss.length)] else [])=zd b (bO ss):=hm;have ql:qs.length<=401:=by
    have:=R' List.length hm;simp only [Z']at this;omega
   refine⟨fun σ1 H1=>σ1=[some (.ref l),some (.int b),some (.ref f),some (.int (first:Int)),v,w,u]/\aq H H1/\∃ ys',H1 f=some (.lst ys')/\ZT H1 ys' (zd b (bO ss)),?_,?_⟩
   ·tm_up;refine .inl ⟨_,_,rfl,.inl (s3.seq hS),?_⟩;rw[ck hg];tm_up;refine a9 (fun h=>?_) (fun h=>?_)
    ·have hlt:first<ss.length:=by have:=U' h;omega
     tm_up;refine⟨.inl ⟨rfl,_,bh.of h3⟩,?_⟩;tm_up;refine .inl ⟨_,_,rfl,.inl (s3.seq hS),?_⟩;rw[ck hg];refine⟨by show 2<=sizeLine;decide,fun z hz=>?_⟩;have sz:aq H' (upd H' z (.tup [.int (first:Int),.int (ss.length:Int)])):=aq.upd hz;have h3z:=sz _ _ h3;refine⟨_,_,_,rfl,rfl,h3z,by rw[ck hq];exact ba (by omega),?_⟩;rw[K' hlt]at hm';rw[<-hm'];exact⟨rfl,gb (s3.trans sz) hf,_,ah,lF (sL h3z (uC sz hq)) (XT h3z ⟨z,rfl,ah⟩)⟩
    ·have hlt:¬ first<ss.length:=fun z=>h (W' (by omega))
     rw[G' hlt,append_nil]at hm';rw[<-hm'];exact⟨rfl,s3,_,h3,hq⟩
   ·rintro σ1 H1 ⟨rfl,sa,ys',hb,hc⟩;tm_up;exact q f ys' H1 sa hf hb hc
inductive xf (K:Frag)(vs:List V)(H:Hp)(Q:VK)(E:XK):Prop
 |mk (l f:Addr) (a:Nat) (xs:List V) (ss:List Sg) (fs:List Int) (eE:vs=[.ref l,.ref f,.int (a:Int)]) (eF:bh K H l xs) (h8:qo H xs ss) (lh:H f=some (.lst (fs.map V.int))) (rJ:fs.length=ss.length) (Rg:Q (.bl (lH (bO ss) fs a)) H):xf K vs H Q E
theorem xg (T:Txt K w mg t):bI P w K mg base lB (0+2) t.eG t.qH ["line","found","first"] (xf K):=by
 have iP:=yg (P:=P) (base:=base) T;refine T.gA.ok Jc (fun vs H Q E h=>?_) (fun cdv A outer s H vs Q E hr h=>?_)
 ·obtain⟨_,_,_,_,_,_,rfl,_⟩:=h;rfl
 ·obtain⟨l,f,a,xs,ss,fs,rfl,hS,hg,hf,hl,q⟩:=h;refine aX (aj (aw (cS (iW (b6 (bj.or (aW (aC hr))) (aM iP (hr.mono (by decide)) rfl T.kC T.gy.kp T.jF .nil aY (aa (pv 0) (aa (aP iY (pv 2) ai) ag))) aD (aA _)) (lU (b6 (bj.or (aW (aC hr))) (aJ az (pv 1) (aP iY (pv 2) ai) (fun _ _=>rfl)) (b5 (v:=.int 3) rfl T.Uq ⟨_,rfl⟩) (aA _))))))) ?_;refine Cd (.bl (lH (bO ss) fs a)) ?_ q;tm_up;refine⟨l,_,xs,ss,rfl,hS,hg,?_⟩;tm_up;rw[o_G];refine a9 (fun h=>?_) (fun h=>?_)
  ·have e:=U' h;have e':1<=a/\a-1<ss.length:=by
    unfold TQ at e;split at e
    ·have:=(S'.mp e).1;rw[j']at this;omega
    ·cases e
   tm_up;refine ahk (bh.of hf) (n:=a-1) (by omega) (T' (by omega)) ?_;tm_up;rw[iA];refine rK ?_;unfold lH;rw[h,List.getD_eq_getElem?_getD,T' (by omega)];rfl
  ·refine rK ?_;unfold lH;rw[Y'.mpr h];rfl
inductive vd (K:Frag)(vs:List V)(H:Hp)(Q:VK)(E:XK):Prop
 |mk (l:Addr) (z:Nat) (xs:List V) (ss:List Sg) (eE:vs=[.ref l,.int (z:Int)]) (eF:bh K H l xs) (h8:qo H xs ss) (lh:Q (.bl (i4 (bO ss) z)) H):vd K vs H Q E
theorem adE (k:Option Kd):inV (.str (uA k)) [.str "G",.str "D",.str "R"]=vK k:=by
 cases k with
 |none=>decide +kernel
 |some k=>cases k <;> decide +kernel
theorem ve (T:Txt K w mg t):bI P w K mg base lB (0+2) t.dM t.oT ["line","behind"] (vd K):=by
 have iP:=yg (P:=P) (base:=base) T;refine T.fq.ok FI (fun vs H Q E h=>?_) (fun cdv A outer s H vs Q E hr h=>?_)
 ·obtain⟨_,_,_,_,rfl,_⟩:=h;rfl
 ·obtain⟨l,z,xs,ss,rfl,hS,hg,q⟩:=h;refine aX (aj (aw (cS (iW (b6 (bj.or (aW (aC hr))) (aM iP (hr.mono (by decide)) rfl T.kC T.gy.kp T.jF .nil aY (aa (pv 0) (aa (pv 1) ag))) aD (aA _)) (lU (b6 (xC.or xE) (aM iP (hr.mono (by decide)) rfl T.kC T.gy.kp T.jF .nil aY (aa (pv 0) (aa (aP (b7.or (aV.or b8)) (pv 1) ai) ag))) (b5 (v:=.ref t.fh) rfl T.Cw rfl) rfl)))))) ?_;refine Cd (.bl (i4 (bO ss) z)) ?_ q;tm_up;refine⟨l,_,xs,ss,rfl,hS,hg,?_⟩;tm_up;rw[o_G];refine a9 (fun h=>?_) (fun h=>?_)
  ·tm_up;refine⟨l,_,xs,ss,rfl,hS,hg,?_⟩;tm_up;refine .inl ⟨_,_,rfl,.inr (T.Cy _),rfl,rfl,rK ?_⟩;unfold i4;rw[uB]at h;have e:TQ (bO ss) ((z:Int)+1)=(bO ss)[z+1]?:=by rw[<-uB];rfl
   rw[h,<-adE,<-e];rfl
  ·refine rK ?_;unfold i4;rw[uB]at h;rw[Y'.mpr h];rfl
def ahI (K:Frag)(g:List Kd->List Int->Nat->Nat->Bool×List Int):Sp:=fun vs H Q _=>∃(l f:Addr)(a z:Nat)(xs:List V)(ss:List Sg)(fs:List Int),vs=[.ref l,.ref f,.int (a:Int),.int (z:Int)]/\bh K H l xs/\qo H xs ss/\H f=some (.lst (fs.map V.int))/\fs.length=ss.length/\a<z/\z<=ss.length /\
 Q (.bl (g (bO ss) fs a z).1) (upd H f (.lst ((g (bO ss) fs a z).2.map V.int)))
theorem Dw (T:Txt K w mg t):bI P w K mg base lB (0+3) t.c8 t.mY ["line","found","first","behind"] (ahI K Fy):=by
 have qM:=xg (P:=P) (base:=base) T;have pC:=ve (P:=P) (base:=base) T;refine T.gL.ok C2 (fun vs H Q E h=>?_) (fun cdv A outer s H vs Q E hr h=>?_)
 ·obtain⟨_,_,_,_,_,_,_,rfl,_⟩:=h;rfl
 ·obtain⟨l,f,a,z,xs,ss,fs,rfl,hS,hg,hf,hl,haz,hz,q⟩:=h;unfold Fy at q;refine aX (af (aU (bA (aM qM (hr.mono (by decide)) rfl T.wK T.gA.kp T.lR .nil aY (aa (pv 0) (aa (pv 1) (aa (pv 2) ag))))) (af (lV (b5 (v:=.int 2) rfl T.j2 ⟨_,rfl⟩) (zy (pv 1) (aP iY (pv 2) ai) set_list)) (aj (aw ik))) aB) (af (aU (bA (aM pC (hr.mono (by decide)) rfl T.uP T.fq.kp T.kR .nil aY (aa (pv 0) (aa (pv 3) ag)))) (af (lV (b5 (v:=.int 2) rfl T.j2 ⟨_,rfl⟩) (zy (pv 1) (pv 3) set_list)) (aj (aw ik))) aB) (aj (aw ik)))) ?_;tm_up;refine⟨l,f,a,xs,ss,fs,rfl,hS,hg,hf,hl,_,rfl,?_⟩;refine a9 (fun h=>?_) (fun h=>?_)
  ·rw[K' h]at q;have hp:=IX h;rw[j']at hp;tm_up;refine⟨_,_,_,_,rfl,rfl,hf,uD (j:=a-1) (by omega) (by rw[j'];omega),?_⟩;rw[qc];exact q
  ·rw[G' h]at q;tm_up;refine⟨l,z,xs,ss,rfl,hS,hg,_,rfl,?_⟩;refine a9 (fun h2=>?_) (fun h2=>?_)
   ·rw[K' h2]at q;have hp:=CY h2;rw[j']at hp;tm_up;refine⟨_,_,_,_,rfl,rfl,hf,uD (j:=z) rfl (by rw[j'];omega),?_⟩;rw[qc];exact q
   ·rw[G' h2,FA hf]at q;exact q
theorem Dx (T:Txt K w mg t):bI P w K mg base lB (0+3) t.c9 t.mZ ["line","found","first","behind"] (ahI K Fz):=by
 have qM:=xg (P:=P) (base:=base) T;have pC:=ve (P:=P) (base:=base) T;have iP:=yg (P:=P) (base:=base) T;refine T.gM.ok C3 (fun vs H Q E h=>?_) (fun cdv A outer s H vs Q E hr h=>?_)
 ·obtain⟨_,_,_,_,_,_,_,rfl,_⟩:=h;rfl
 ·obtain⟨l,f,a,z,xs,ss,fs,rfl,hS,hg,hf,hl,haz,hz,q⟩:=h;unfold Fz at q;refine aX (af (aU (cz (PW.pt (du (au (cW.or cV) (aM iP (hr.mono (by decide)) rfl T.kC T.gy.kp T.jF .nil aY (aa (pv 0) (aa (pv 3) ag))) (b5 (v:=.ref t.fh) rfl T.Cw rfl) rfl) (eW (au (bj.or (aW (aC hr))) (aM iP (hr.mono (by decide)) rfl T.kC T.gy.kp T.jF .nil aY (aa (pv 0) (aa (aP iY (pv 3) ai) ag))) aD (aA _)))))) (af (lV (b5 (v:=.int 2) rfl T.Nm ⟨_,rfl⟩) (zy (pv 1) (aP iY (pv 3) ai) set_list)) (aj (aw ik))) aB) (af (aU (cz (PW.pt (du (bA (aM qM (hr.mono (by decide)) rfl T.wK T.gA.kp T.lR .nil aY (aa (pv 0) (aa (pv 1) (aa (pv 2) ag))))) (eW (bA (aM pC (hr.mono (by decide)) rfl T.uP T.fq.kp T.kR .nil aY (aa (pv 0) (aa (pv 3) ag)))))))) (af (lV (b5 (v:=.int 2) rfl T.j2 ⟨_,rfl⟩) (zy (pv 1) (aP iY (pv 2) ai) set_list)) (af (lV (b5 (v:=.int 2) rfl T.j2 ⟨_,rfl⟩) (zy (pv 1) (pv 3) set_list)) (aj (aw ik)))) aB) (aj (aw ik)))) ?_;refine lD (vK (bO ss)[z]? && decide ((bO ss)[z-1]? = some .s)) ?_ ?_
  ·tm_up;refine⟨l,_,xs,ss,rfl,hS,hg,?_⟩;tm_up;refine .inl ⟨_,_,rfl,.inr (T.Cy _),rfl,rfl,_,rfl,?_⟩;show if inV (.str (uA (TQ (bO ss) (z:Int)))) [.str "G",.str "D",.str "R"]=true then _ else _;rw[adE,uB];refine a9 (fun h=>?_) (fun h=>?_)
   ·tm_up;refine⟨l,_,xs,ss,rfl,hS,hg,?_⟩;tm_up;rw[o_s];have e:TQ (bO ss) ((z:Int)-1)=(bO ss)[z-1]?:=by rw[<-uB];congr 1;omega
    rw[e];exact gm (by rw[h];rfl)
   ·exact gm (by rw[Y'.mpr h];rfl)
  ·refine a9 (fun h=>?_) (fun h=>?_)
   ·rw[K' h]at q;tm_up;refine⟨_,_,_,_,rfl,rfl,hf,uD (j:=z-1) (by omega) (by rw[j'];omega),?_⟩;rw[qc];exact q
   ·rw[G' h]at q;refine lD (lH (bO ss) fs a&&i4 (bO ss) z) ?_ ?_
    ·tm_up;refine⟨l,f,a,xs,ss,fs,rfl,hS,hg,hf,hl,_,rfl,?_⟩;refine a9 (fun h=>?_) (fun h=>?_)
     ·tm_up;refine⟨l,z,xs,ss,rfl,hS,hg,_,rfl,gm ?_⟩;rw[h];rfl
     ·exact gm (by rw[Y'.mpr h];rfl)
    ·refine a9 (fun h2=>?_) (fun h2=>?_)
     ·rw[K' h2]at q;have hp:=IX (Bool.and_eq_true_iff.mp h2).1;have hr:=CY (Bool.and_eq_true_iff.mp h2).2;rw[j']at hp hr;tm_up;refine⟨_,_,_,_,rfl,rfl,hf,uD (j:=a-1) (by omega) (by rw[j'];omega),?_⟩;rw[qc];tm_up;refine⟨_,_,_,_,rfl,rfl,ah,uD (j:=z) rfl (by rw[j',List.length_set];omega),?_⟩;rw[qc,eo];exact q
     ·rw[G' h2,FA hf]at q;exact q
theorem Rz (T:Txt K w mg t):bI P w K mg base lB (0+4) t.jb t.xX ["line","found","first","behind"] (ahI K settle):=by
 have GF:=Dw (P:=P) (base:=base) T;have GG:=Dx (P:=P) (base:=base) T;refine T.nr.ok Cu (fun vs H Q E h=>?_) (fun cdv A outer s H vs Q E hr h=>?_)
 ·obtain⟨_,_,_,_,_,_,_,rfl,_⟩:=h;rfl
 ·obtain⟨l,f,a,z,xs,ss,fs,rfl,hS,hg,hf,hl,haz,hz,q⟩:=h;unfold settle at q;refine aX (af (aL (i:=4) Cu.nd rfl (Or.inl rfl) (aP dy (aP iY (pv 3) (pv 2)) ai)) (af (aU (au (bj.or (aW (aC hr))) (pv 4) ai (aA _)) (aj (aw (aM GF (hr.mono (by decide)) rfl T.Di T.gL.kp T.nk .nil aY (aa (pv 0) (aa (pv 1) (aa (pv 2) (aa (pv 3) ag))))))) aB) (af (aU (au (bj.or (aW (aC hr))) (pv 4) ai (aA _)) (aj (aw (aM GG (hr.mono (by decide)) rfl T.Dj T.gM.kp T.nq .nil aY (aa (pv 0) (aa (pv 1) (aa (pv 2) (aa (pv 3) ag))))))) aB) (aj (aw ik))))) ?_;tm_up;rw[iA];have e:((z:Int)-(a:Int)) % 3=(((z-a) % 3:Nat):Int):=by omega
  refine a9 (fun h=>?_) (fun h=>?_)
  ·have h1:(z-a) % 3=1:=by have:((z:Int)-(a:Int)) % 3=1:=U' h;omega
   rw[K' h1]at q;tm_up;exact⟨l,f,a,z,xs,ss,fs,rfl,hS,hg,hf,hl,haz,hz,q⟩
  ·have h1:¬(z-a) % 3=1:=fun c=>h (W' (by show((z:Int)-(a:Int)) % 3=1;omega));rw[G' h1]at q;tm_up;rw[iA];refine a9 (fun h=>?_) (fun h=>?_)
   ·have h2:(z-a) % 3=2:=by have:((z:Int)-(a:Int)) % 3=2:=U' h;omega
    rw[K' h2]at q;tm_up;exact⟨l,f,a,z,xs,ss,fs,rfl,hS,hg,hf,hl,haz,hz,q⟩
   ·have h2:¬(z-a) % 3=2:=fun c=>h (W' (by show((z:Int)-(a:Int)) % 3=2;omega));rw[G' h2,FA hf]at q;exact q
inductive Pm (K:Frag)(vs:List V)(H:Hp)(Q:VK)(E:XK):Prop
 |mk (l:Addr) (b:Int) (xs:List V) (ss:List Sg) (eE:vs=[.ref l,.int b]) (eF:bh K H l xs) (h8:qo H xs ss) (lh:ss.length<=400) (rJ:∀(p f lo:Addr)(ys:List V)(H':Hp),aq H H'->H f=none->H lo=none->f≠lo->H' p=some (.tup [.ref f,.ref lo])->H' f=some (.lst ((mx b (bO ss)).1.map V.int))->H' lo=some (.lst ys)->ZT H' ys (mx b (bO ss)).2->Q (.ref p) H'):Pm K vs H Q E
theorem aay (T:Txt K w mg t):bI P w K mg base lB (0+5) t.oU t.Jr ["line","begin"] (Pm K):=by
 have zu:=yh (P:=P) (base:=base) T;have al4:=ajF (P:=P) (base:=base) T;have Uw:=Rz (P:=P) (base:=base) T;refine T.wL.ok sS (fun vs H Q E h=>?_) (fun cdv A outer s H vs Q E hr h=>?_)
 ·obtain⟨_,_,_,_,rfl,_⟩:=h;rfl
 ·obtain⟨l,b,xs,ss,rfl,hS,hg,hn,q⟩:=h;refine aX (af (aL (i:=2) sS.nd rfl (Or.inl rfl) (aM zu (hr.mono (by decide)) rfl T.x8 T.dB.kp T.jL .nil aY (aa (pv 0) (aa (pv 1) ag)))) (af (aL (i:=3) sS.nd rfl (Or.inl rfl) (bN ag)) (af (kc PassesOwn.never rfl (iX (aM al4 (hr.mono (by decide)) rfl T.ajz T.JD.kp T.aai .nil aY (aa (pv 0) (aa (pv 1) ag)))) (sC rfl (bP (bg (i:=4) sS.nd rfl (Or.inl rfl)) (bP (bg (i:=5) sS.nd rfl (Or.inl rfl)) mS))) (aj (aU (dw (bA (aM Uw (hr.mono (by decide)) rfl T.Rr T.nr.kp T.x9 .nil aY (aa (pv 0) (aa (pv 2) (aa (pv 4) (aa (pv 5) ag))))))) (aj (a8 (ke Yc' Yd' Ye' bW (pv 3) (aa (cw (aa (pv 4) (aa (pv 5) ag))) ag)))) aB))) (aj (aw (cw (aa (pv 2) (aa (pv 3) ag)))))))) ?_;tm_up;refine⟨l,b,xs,ss,rfl,hS,hg,hn,fun f H1 s1 n1 h1=>?_⟩;refine⟨big (by show 0<=1000;omega),fun lo hlo=>?_⟩;have s1':=s1.trans (aq.upd (o:=.lst []) hlo);tm_up;refine⟨l,b,xs,ss,rfl,s1'.seq hS,hg.same s1',hn,fun r zs H2 s2 n2 h2 hz=>⟨_,rfl,⟨_,bh.of h2⟩,?_⟩⟩;have ahJ:H lo=none:=s1.free hlo;have nfl:f≠lo:=ao h1 hlo;have nrf:r≠f:=fun e=>by
   have:=s1'.free n2;have h1':=aq.upd (o:=.lst []) hlo _ _ h1;rw[<-e,n2]at h1';cases h1'
  have nrl:r≠lo:=fun e=>by rw[e,ah]at n2;cases n2
  have bl:(ki b (bO ss)).length=ss.length:=by rw[wu,j']
  have cnt:(zd b (bO ss)).length<=401:=by
   have:=qp (lG b (bO ss)) 0 0;rw[sJ,j']at this;exact Zh' this (by omega)
  refine sE (K:=K) (xs:=zs) (fun i σ H'=>∃(v w:Option V)(c:RdS)(ys:List V),σ=[some (.ref l),some (.int b),some (.ref f),some (.ref lo),v,w]/\aq H H'/\H' f=some (.lst (c.1.map V.int))/\H' lo=some (.lst ys)/\ZT H' ys c.2/\H' r=some (.lst zs)/\ZT H' zs (zd b (bO ss))/\c.1.length=ss.length/\c.2.length<=i/\((zd b (bO ss)).drop i).foldl (vL (bO ss)) c=mx b (bO ss))
   ⟨none,none,(ki b (bO ss),[]),[],rfl,s1'.trans s2,s2 _ _ (aq.upd (o:=.lst []) hlo _ _ h1),s2 _ _ ah,.nil,h2,hz,bl,Zi' _,rfl⟩ ?_ ?_ ?_
  ·rintro i σ H' _ ⟨v,w,c,ys,rfl,_,_,_,_,hr,_⟩;exact bh.of hr
  ·rintro i x σ H' hx ⟨v,w,c,ys,rfl,s3,hf3,al7,hys,hr3,hzs,hcl,hci,vf⟩;obtain⟨pr,hpr,p,rfl,hp⟩:=zL hzs hx;have hin:=ahm b (bO ss) pr (Za' hpr);rw[j']at hin;rw[rL hpr,List.foldl_cons]at vf;have hil:i<401:=by
    have:=(S'.mp hpr).1;omega
   refine⟨p,_,rfl,vH.of hp,rfl,_,_,rfl,_,_,rfl,rfl,?_⟩;tm_up;refine⟨l,f,pr.1,pr.2,xs,ss,c.1,rfl,s3.seq hS,hg.same s3,hf3,hcl,hin.1,hin.2,?_⟩;have s4:aq H (upd H' f (.lst ((settle (bO ss) c.1 pr.1 pr.2).2.map V.int))):=gb s3 n1;have aaz:upd H' f (.lst ((settle (bO ss) c.1 pr.1 pr.2).2.map V.int)) lo=some (.lst ys):=by rw[ak nfl.symm];exact al7
   have hr4:upd H' f (.lst ((settle (bO ss) c.1 pr.1 pr.2).2.map V.int)) r=some (.lst zs):=by rw[ak nrf];exact hr3
   have an5:(settle (bO ss) c.1 pr.1 pr.2).2.length=ss.length:=by rw[CW];exact hcl
   tm_up;refine a9 (fun h=>?_) (fun h=>?_)
   ·have hst:(settle (bO ss) c.1 pr.1 pr.2).1=false:=by
     cases e:(settle (bO ss) c.1 pr.1 pr.2).1
     ·rfl
     ·rw[e]at h;cases h
    tm_up;refine⟨.inl ⟨rfl,_,bh.of aaz⟩,?_⟩;tm_up;refine⟨by show 2<=sizeLine;decide,fun z hz=>?_⟩;have sz:=aq.upd (o:=.tup [.int (pr.1:Int),.int (pr.2:Int)]) hz;have Yi:=sz _ _ aaz;refine⟨_,_,_,rfl,rfl,Yi,by rw[ck hys];exact ba (by omega),?_⟩;refine⟨_,_,((settle (bO ss) c.1 pr.1 pr.2).2,c.2++[pr]),_,rfl,gb (s4.trans sz) ahJ,by rw[ak nfl];exact sz _ _ ah,ah,lF (sL Yi (uC sz (sL hf3 hys))) (XT Yi ⟨z,rfl,ah⟩),
     by rw[ak nrl];exact sz _ _ hr4,sL Yi (uC sz (sL hf3 hzs)),an5,by simp;omega,?_⟩
    rw[<-vf];unfold vL;rw[hst];rfl
   ·have hst:(settle (bO ss) c.1 pr.1 pr.2).1=true:=by
     cases e:(settle (bO ss) c.1 pr.1 pr.2).1
     ·rw[e]at h;exact P' rfl h
     ·rfl
    refine⟨_,_,((settle (bO ss) c.1 pr.1 pr.2).2,c.2),ys,rfl,s4,ah,aaz,sL hf3 hys,hr4,sL hf3 hzs,an5,by show c.2.length<=i+1;omega,?_⟩;rw[<-vf];unfold vL;rw[hst];rfl
  ·rintro σ H' ⟨v,w,c,ys,rfl,s3,hf3,al7,hys,hr3,hzs,hcl,hci,vf⟩;rw[ck hz,List.drop_length]at vf;have e:c=mx b (bO ss):=vf;subst e;tm_up;refine⟨by show 2<=sizeLine;decide,fun z hz=>?_⟩;have sz:=aq.upd (o:=.tup [.ref f,.ref lo]) hz;exact q z f lo ys _ (s3.trans sz) n1 ahJ nfl ah (sz _ _ hf3) (sz _ _ al7) (uC sz hys)
inductive SQ (K:Frag)(vs:List V)(H:Hp)(Q:VK)(E:XK):Prop
 |mk (l:Addr) (b:Int) (xs:List V) (ss:List Sg) (eE:vs=[.ref l,.int b]) (eF:bh K H l xs) (h8:qo H xs ss) (lh:ss.length<=400) (rJ:∀(f:Addr)(H':Hp),aq H H'->H f=none->H' f=some (.lst ((mx b (bO ss)).1.map V.int))->Q (.ref f) H'):SQ K vs H Q E
theorem aeL (T:Txt K w mg t):bI P w K mg base lB (0+6) t.sZ t.Ge ["line","begin"] (SQ K):=by
 have aeM:=aay (P:=P) (base:=base) T;refine T.tH.ok aez (fun vs H Q E h=>?_) (fun cdv A outer s H vs Q E hr h=>?_)
 ·obtain⟨_,_,_,_,rfl,_⟩:=h;rfl
 ·obtain⟨l,b,xs,ss,rfl,hS,hg,hn,q⟩:=h;refine aX (aj (aw (aJ az (aM aeM (hr.mono (by decide)) rfl T.aaj T.wL.kp T.JE .nil aY (aa (pv 0) (aa (pv 1) ag))) ai (fun _ _=>rfl)))) ?_;tm_up;refine⟨l,b,xs,ss,rfl,hS,hg,hn,fun p f lo ys H' s1 n1 n2 _ hp hf _ _=>?_⟩;tm_up;exact q f H' s1 n1 hf
theorem ahK (k:Kd):(([(Str.ofString "3",V.str "2"),(Str.ofString "2",V.str "3")]:List (Str×V)).lookup k.str).getD (.str k.str)=.str (SA k).str:=by cases k <;> decide +kernel
inductive SR (K:Frag)(vs:List V)(H:Hp)(Q:VK)(E:XK):Prop
 |mk (l:Addr) (xs:List V) (ss:List Sg) (eE:vs=[.ref l]) (eF:bh K H l xs) (h8:qo H xs ss) (lh:ss.length<=400) (rJ:∀(f:Addr)(ys:List V)(H':Hp),aq H H'->H f=none->H' f=some (.lst ys)->qo H' ys (ss.map uH)->Q (.ref f) H'):SR K vs H Q E
theorem SU (T:Txt K w mg t):bI P w K mg base lB (0+1) t.tq t.OT ["line"] (SR K):=by
 refine T.wN.ok aeA (fun vs H Q E h=>?_) (fun cdv A outer s H vs Q E hr h=>?_)
 ·obtain⟨_,_,_,rfl,_⟩:=h;rfl
 ·obtain⟨l,xs,ss,rfl,hS,hg,hn,q⟩:=h;refine aX (aj (aw (uy (cn:=["kind","tone"]) rfl (il.of rfl) (iX (pv 0)) (fun _=>(sC rfl (bP (bg (i:=0) MJ rfl (Or.inl rfl)) (bP (bg (i:=1) MJ rfl (Or.inl rfl)) mS)))) (fun _=>zF) (fun _=>(cw (aa (agU (b5 (v:=.ref t.dZ) rfl T.Pb rfl) (pv 0) (pv 0)) (aa (pv 1) ag))))))) ?_;tm_up;refine⟨⟨xs,hS⟩,fun D b hD=>?_⟩;refine mw (K:=K) (xs:=xs) (fun i ys σ H'=>∃(v w:Option V),σ=[v,w,some (.ref l)]/\aq H H'/\H' D=some (.lst ys)/\qo H' ys ((ss.take i).map uH))
   ⟨none,none,rfl,aq.upd hD,ah,.nil⟩ ?_ ?_ ?_
  ·rintro i ys σ H' ⟨v,w,rfl,s2,_⟩;exact s2.seq hS
  ·rintro i ys x σ H' hx ⟨v,w,rfl,s2,hDl,hsg⟩ N hN;obtain⟨s,hs,p,rfl,hp⟩:=zL hg hx;have hi:i<ss.length:=(S'.mp hs).1;refine⟨p,_,rfl,vH.of (s2 _ _ hp),rfl,_,_,rfl,_,_,rfl,rfl,?_⟩;refine⟨_,_,rfl,T.Nk,?_⟩;tm_up;rw[ahK];refine⟨by show 2<=sizeLine;decide,fun z hz=>?_⟩;have sz:=aq.upd (o:=.tup [.str (SA s.1).str,.int s.2]) hz;have hD3:=sz _ _ hDl;refine⟨hD3,?_,?_⟩
   ·rw[ck hsg,j',Ze'];exact ba (by omega)
   ·refine hN _ _ _ ⟨_,_,rfl,gb (s2.trans sz) hD,ah,?_⟩;rw[take_succ,hs,map_append];exact lF (ahj hD3 (hsg.same sz)) (ahi hD3 ⟨z,rfl,ah⟩)
  ·rintro ys σ H' ⟨v,w,rfl,s2,hDl,hsg⟩;rw[ck hg,take_length]at hsg;exact q D ys H' s2 hD hDl hsg
inductive CC (c:Cs)(vs:List V)(H:Hp)(Q:VK)(E:XK):Prop
 |mk (x:Addr) (F:Addr->Prop) (vw:Vw) (ps fs:List Vw) (n:Str) (ss:List Sg) (eE:vs=[.ref x,.str n]) (eF:xw c H x F vw ps fs) (h8:bc vw n=some (.pl ss)) (lh:∀(l:Addr)(ys:List V)(H':Hp),H l=none->aq H H'->H' l=some (.lst ys)->qo H' ys ss->Q (.ref l) H'):CC c vs H Q E
theorem RA (T:Txt K w mg t):bI P w K mg base (fA P w) (0+3) t.cL t.uN ["self","name"] (CC (cs t)):=by
 have di:=jG (P:=P) (base:=base) T;have Pn:=SU (P:=P) (base:=base) T;have bV:=en (P:=P) (base:=base) T;refine T.qy.Od cq (fun vs H Q E h=>?_) (fun cdv A outer s H vs Q E hr h=>?_)
 ·obtain⟨_,_,_,_,_,_,_,rfl,_⟩:=h;rfl
 ·obtain⟨x,F,vw,ps,fs,n,ss,rfl,B,hf,q⟩:=h;refine aX (af (aL (i:=2) cq.nd rfl (Or.inl rfl) (bC (X:=(cj (fA P w) P w K mg base ["self","name","terms","leader","later","slow","is_turned","heard"] "Book.line" (ae dU) t.cL cdv A outer s H E)) (pv 0) T.aT T.jE di (hr.mono (by decide)) T.gK .nil (fun _ _ z=>Or.inl z) (aa (pv 1) ag))) (af (aU (au Tr (pv 2) jH (aA _)) (aj (aw (gq Fw rfl T.je i0 (aa (cv (bC (X:=(cj (fA P w) P w K mg base ["self","name","terms","leader","later","slow","is_turned","heard"] "Book.line" (ae dU) t.cL cdv A outer s H E)) (pv 0) T.aT T.d4 bV (hr.mono (by decide)) T.cJ .nil (fun _ _ z=>Or.inl z) (aa (pv 1) ag)) rfl) ag)))) aB) (af (lV (pv 2) (sC rfl (bP (bg (i:=3) cq.nd rfl (Or.inl rfl)) (bP (bg (i:=4) cq.nd rfl (Or.inl rfl)) (bP (bg (i:=5) cq.nd rfl (Or.inl rfl)) (bP (bg (i:=6) cq.nd rfl (Or.inl rfl)) mS)))))) (af (aL (i:=7) cq.nd rfl (Or.inl rfl) ag3) (aj (aw (cS (eM (bA (pv 6)) (aM Pn (hr.mono (by decide)) rfl T.SK T.wN.kp T.Gh .nil aY (aa (pv 7) ag)) (pv 7))))))))) ?_;obtain⟨L,D,U,all,M,Ps,Fs,es,us,b,iM,pp,pf,f⟩:=B.ex;obtain⟨dx,hx⟩:=b.hx;obtain⟨vx,g,gv⟩:=b.xI iM;refine⟨_,rfl,x,dx,_,rfl,hx,kK _ _ _,_,rfl,x,F,vw,ps,fs,n,rfl,B,?_⟩;rw[hf];refine⟨_,rfl,rfl,_,rfl,?_⟩;refine a9 (fun _=>?_) (fun h=>P' (by decide) h);refine⟨_,rfl,x,dx,_,rfl,hx,eN _ _ _,_,rfl,x,dx,L,D,U,M L,vx,n,rfl,hx,b.hL,g,?_⟩;rcases MG gv (fun _ _ r=>r.2.1) n with ⟨f1,f2⟩|⟨a,th,j,f1,f2,r,an,fj,fw⟩
  ·rw[f2]at hf;cases hf
  rw[f1];rw[f2]at hf;cases hf;refine⟨a.o,_,a.d,_,_,rfl,(b.ha a r.1).1,T.gP,T.cP,wx _ _ _,?_⟩;refine⟨_,_,rfl,.inl (bh.of (b.ha a r.1).2),fun l hl=>?_⟩;exact q l _ _ hl (aq.upd hl) ah (r.2.2.2.same (aq.upd hl))
inductive GH (c:Cs)(vs:List V)(H:Hp)(Q:VK)(E:XK):Prop
 |mk (x:Addr) (F:Addr->Prop) (vw:Vw) (ps fs:List Vw) (n:Str) (eE:vs=[.ref x,.str n]) (eF:xw c H x F vw ps fs) (h8:match bc vw n with
 |none=>RX E c .cC H
 |some _=>∀(l:Addr)(ys:List V)(H':Hp),H l=none->aq H H'->H' l=some (.lst ys)->qo H' ys (FE vw n)->Q (.ref l) H'):GH c vs H Q E
theorem rW (T:Txt K w mg t):bI P w K mg base (fA P w) (0+4) t.cL t.uN ["self","name"] (GH (cs t)):=by
 have Ux:=RA (P:=P) (base:=base) T;have di:=jG (P:=P) (base:=base) T;have Pn:=SU (P:=P) (base:=base) T;have bV:=en (P:=P) (base:=base) T;refine T.qy.Od cq (fun vs H Q E h=>?_) (fun cdv A outer s H vs Q E hr h=>?_)
 ·obtain⟨_,_,_,_,_,_,rfl,_⟩:=h;rfl
 ·obtain⟨x,F,vw,ps,fs,n,rfl,B,q⟩:=h;refine aX (af (aL (i:=2) cq.nd rfl (Or.inl rfl) (bC (X:=(cj (fA P w) P w K mg base ["self","name","terms","leader","later","slow","is_turned","heard"] "Book.line" (ae dU) t.cL cdv A outer s H E)) (pv 0) T.aT T.jE di (hr.mono (by decide)) T.gK .nil (fun _ _ z=>Or.inl z) (aa (pv 1) ag))) (af (aU (au Tr (pv 2) jH (aA _)) (aj (aw (gq Fw rfl T.je i0 (aa (cv (bC (X:=(cj (fA P w) P w K mg base ["self","name","terms","leader","later","slow","is_turned","heard"] "Book.line" (ae dU) t.cL cdv A outer s H E)) (pv 0) T.aT T.d4 bV (hr.mono (by decide)) T.cJ .nil (fun _ _ z=>Or.inl z) (aa (pv 1) ag)) rfl) ag)))) aB) (af (lV (pv 2) (sC rfl (bP (bg (i:=3) cq.nd rfl (Or.inl rfl)) (bP (bg (i:=4) cq.nd rfl (Or.inl rfl)) (bP (bg (i:=5) cq.nd rfl (Or.inl rfl)) (bP (bg (i:=6) cq.nd rfl (Or.inl rfl)) mS)))))) (af (aL (i:=7) cq.nd rfl (Or.inl rfl) (bC (X:=(cj (fA P w) P w K mg base ["self","name","terms","leader","later","slow","is_turned","heard"] "Book.line" (ae dU) t.cL cdv A outer s H E)) (pv 0) T.aT T.kS Ux (hr.mono (by decide)) T.iU .nil (fun _ _ z=>Or.inl z) (aa (pv 3) ag))) (aj (aw (cS (eM (bA (pv 6)) (aM Pn (hr.mono (by decide)) rfl T.SK T.wN.kp T.Gh .nil aY (aa (pv 7) ag)) (pv 7))))))))) ?_;obtain⟨L,D,U,all,M,Ps,Fs,es,us,b,iM,pp,pf,f⟩:=B.ex;obtain⟨dx,hx⟩:=b.hx;obtain⟨vx,g,gv⟩:=b.xI iM;have wv:=B.wv vw (.inr (.inl rfl));refine⟨_,rfl,x,dx,_,rfl,hx,kK _ _ _,_,rfl,x,F,vw,ps,fs,n,rfl,B,?_⟩;cases hf:bc vw n with
  |none =>
   rw[hf]at q;exact q
  |some th =>
   rw[hf]at q;cases th with
   |pl ss =>
    refine⟨_,rfl,rfl,_,rfl,?_⟩;refine a9 (fun _=>?_) (fun h=>P' (by decide) h);refine⟨_,rfl,x,dx,_,rfl,hx,eN _ _ _,_,rfl,x,dx,L,D,U,M L,vx,n,rfl,hx,b.hL,g,?_⟩;rcases MG gv (fun _ _ r=>r.2.1) n with ⟨f1,f2⟩|⟨a,th,j,f1,f2,r,an,fj,fw⟩
    ·rw[f2]at hf;cases hf
    rw[f1];rw[f2]at hf;cases hf;refine⟨a.o,_,a.d,_,_,rfl,(b.ha a r.1).1,T.gP,T.cP,wx _ _ _,?_⟩;refine⟨_,_,rfl,.inl (bh.of (b.ha a r.1).2),fun l hl=>?_⟩;exact q l _ _ hl (aq.upd hl) ah (by rw[zP f2];exact r.2.2.2.same (aq.upd hl))
   |cn ld lt sl tn =>
    intro p hp;refine⟨_,rfl,rfl,_,rfl,?_⟩;refine a9 (fun h=>by have:=U' h;cases this) (fun _=>?_);obtain⟨⟨ss,Rc⟩,_⟩:=wv.ld n ld lt sl tn (dm hf);have hfl:=wv.find Rc;have gl:=(wv.gd _ _ Rc).1;rw[zQ hf hfl]at q;refine⟨_,rfl,p,_,rfl,vH.of hp,rfl,_,_,rfl,_,_,rfl,_,_,rfl,_,_,rfl,rfl,?_⟩;refine⟨_,rfl,x,dx,_,rfl,hx,my _ _ _,_,rfl,x,F,vw,ps,fs,ld,ss,rfl,B,hfl,fun l ys H1 hl s1 h1 g1=>?_⟩;refine⟨fun v H'=>∃ l' ys',v=.ref l'/\H l'=none/\aq H H'/\H' l'=some (.lst ys')/\qo H' ys' (if tn=true then ss.map uH else ss),?_,?_⟩
    ·refine⟨_,rfl,_,rfl,?_⟩;cases tn with
     |true =>
      refine cZ ⟨_,rfl,l,ys,ss,rfl,bh.of h1,g1,by omega,fun f' ys' H2 s2 hf' h2 g2=>⟨f',ys',rfl,s1.free hf',s1.trans s2,h2,g2⟩⟩
     |false=>exact bZ ⟨_,rfl,l,ys,rfl,hl,s1,h1,g1⟩
    ·rintro v H' ⟨l',ys',rfl,a1,a2,a3,a4⟩;exact q l' ys' H' a1 a2 a3 a4
inductive GI (c:Cs)(vs:List V)(H:Hp)(Q:VK)(E:XK):Prop
 |mk (x:Addr) (F:Addr->Prop) (vw:Vw) (ps fs:List Vw) (n:Str) (eE:vs=[.ref x,.str n]) (eF:xw c H x F vw ps fs) (h8:match bc vw n with
 |none=>RX E c .cC H
 |some _=>∀(l:Addr)(H':Hp),H l=none->aq H H'->H' l=some (.lst ((ze vw n).map V.int))->Q (.ref l) H'):GI c vs H Q E
theorem rX (T:Txt K w mg t):bI P w K mg base (fA P w) (0+7) t.dW t.zW ["self","name"] (GI (cs t)):=by
 have di:=jG (P:=P) (base:=base) T;have Yj:=aeL (P:=P) (base:=base) T;have iV:=rW (P:=P) (base:=base) T;refine T.uQ.Od i9 (fun vs H Q E h=>?_) (fun cdv A outer s H vs Q E hr h=>?_)
 ·obtain⟨_,_,_,_,_,_,rfl,_⟩:=h;rfl
 ·obtain⟨x,F,vw,ps,fs,n,rfl,B,q⟩:=h;refine aX (af (aL (i:=2) i9.nd rfl (Or.inl rfl) (bC (X:=(cj (fA P w) P w K mg base ["self","name","terms","leader","later","slow","is_turned","begin"] "Book.kept" (ae gE) t.dW cdv A outer s H E)) (pv 0) T.aT T.jE di (hr.mono (by decide)) T.gK .nil (fun _ _ z=>Or.inl z) (aa (pv 1) ag))) (af (aU (au Tr (pv 2) jH (aA _)) (aj (aw (aM Yj (hr.mono (by decide)) rfl T.SJ T.tH.kp T.Gg .nil aY (aa (bC (X:=(cj (fA P w) P w K mg base ["self","name","terms","leader","later","slow","is_turned","begin"] "Book.kept" (ae gE) t.dW cdv A outer s H E)) (pv 0) T.aT T.kS iV (hr.mono (by decide)) T.iU .nil (fun _ _ z=>Or.inl z) (aa (pv 1) ag)) (aa ai ag))))) aB) (af (lV (pv 2) (sC rfl (bP (bg (i:=3) i9.nd rfl (Or.inl rfl)) (bP (bg (i:=4) i9.nd rfl (Or.inl rfl)) (bP (bg (i:=5) i9.nd rfl (Or.inr rfl)) (bP (bg (i:=6) i9.nd rfl (Or.inl rfl)) mS)))))) (af (aL (i:=7) i9.nd rfl (Or.inl rfl) (cS (eM (bA (pv 6)) ai ai))) (aj (aw (uy (cn:=["worth"]) rfl (il.of rfl) (iX (aM Yj (hr.mono (by decide)) rfl T.SJ T.tH.kp T.Gg .nil aY (aa (bC (X:=(cj (fA P w) P w K mg base ["self","name","terms","leader","later","slow","is_turned","begin"] "Book.kept" (ae gE) t.dW cdv A outer s H E)) (pv 0) T.aT T.kS iV (hr.mono (by decide)) T.iU .nil (fun _ _ z=>Or.inl z) (aa (pv 1) ag)) (aa (pv 7) ag)))) (fun _=>(bg (i:=0) OL rfl (Or.inl rfl))) (fun _=>zF) (fun _=>(aP (oF.or oG) (pv 6) (pv 0)))))))))) ?_;obtain⟨L,D,U,all,M,Ps,Fs,es,us,b,iM,pp,pf,f⟩:=B.ex;obtain⟨dx,hx⟩:=b.hx;have wv:=B.wv vw (.inr (.inl rfl));refine⟨_,rfl,x,dx,_,rfl,hx,kK _ _ _,_,rfl,x,F,vw,ps,fs,n,rfl,B,?_⟩;cases hf:bc vw n with
  |none =>
   rw[hf]at q;exact q
  |some th =>
   rw[hf]at q;cases th with
   |pl ss =>
    have gl:=(wv.gd _ _ (dm hf)).1;refine⟨_,rfl,rfl,_,rfl,?_⟩;refine a9 (fun _=>?_) (fun h=>P' (by decide) h);refine⟨_,rfl,x,dx,_,rfl,hx,my _ _ _,_,rfl,x,F,vw,ps,fs,n,rfl,B,?_⟩;rw[hf];intro l ys H1 hl s1 h1 g1;rw[zP hf]at g1;refine⟨l,3,ys,ss,rfl,bh.of h1,g1,by omega,fun f' H2 s2 n2 h2=>?_⟩;exact q f' H2 (s1.free n2) (s1.trans s2) (by rw[OA hf];exact h2)
   |cn ld lt sl tn =>
    intro p hp;obtain⟨⟨ss,Rc⟩,lt0,lt1,sl0,sl1⟩:=wv.ld n ld lt sl tn (dm hf);have hfl:=wv.find Rc;have gl:=(wv.gd _ _ Rc).1;rw[OB hf hfl]at q;refine⟨_,rfl,rfl,_,rfl,?_⟩;refine a9 (fun h=>by have:=U' h;cases this) (fun _=>?_);refine⟨_,rfl,p,_,rfl,vH.of hp,rfl,_,_,rfl,_,_,rfl,_,_,rfl,_,_,rfl,rfl,?_⟩;refine⟨fun v H'=>v=.int (if tn=true then 2 else 3)/\H'=H,?_,?_⟩
    ·refine⟨_,rfl,_,rfl,?_⟩;cases tn with
     |true=>exact cZ ⟨rfl,rfl⟩
     |false=>exact bZ ⟨rfl,rfl⟩
    intro v0 H0 ⟨e1,e2⟩;rw[e1,e2];refine⟨_,rfl,x,dx,_,rfl,hx,my _ _ _,_,rfl,x,F,vw,ps,fs,n,rfl,B,?_⟩;rw[hf];intro l ys H1 hl s1 h1 g1;rw[zQ hf hfl]at g1;have gl2:(if tn=true then ss.map uH else ss).length<=400:=by
     split
     ·rw[j'];omega
     ·omega
    refine⟨_,rfl,l,(if tn=true then 2 else 3),ys,_,rfl,bh.of h1,g1,gl2,fun f' H2 s2 n2 h2=>?_⟩;generalize hW:(mx (if tn=true then 2 else 3) (bO (if tn=true then ss.map uH else ss))).1=W at q h2;have hWl:W.length<=400:=by rw[<-hW,BP,j'];exact gl2
    refine⟨f',rfl,⟨_,bh.of h2⟩,fun D' b' hD'=>?_⟩;generalize hbz:(if tn=true then(2:Int) else 3)=bz;refine mw (K:=K) (xs:=W.map V.int) (fun i ys σ H'=>∃ v,σ=[v,some (.ref x),some (.str n),some (.ref p),some (.str ld),some (.int lt),some (.int sl),some (.bl tn),some (.int bz)]/\H'=upd H2 D' (.lst ys)/\ys=((W.take i).map fun w=>sl * w).map V.int) ⟨none,rfl,rfl,by simp⟩ ?_ ?_ ?_
    ·rintro i ys σ H' ⟨v,rfl,rfl,_⟩;exact kJ (bh.of h2) hD'
    ·rintro i ys y σ H' hy ⟨v,rfl,rfl,rfl⟩ N hN;obtain⟨z,hz,rfl⟩:=TN hy;have hi:i<W.length:=(S'.mp hz).1;refine lX ?_;refine⟨_,rfl,_,rfl,.inl ⟨_,_,rfl,rfl,.inl ⟨by omega,by omega⟩,ah,?_,?_⟩⟩
     ·rw[j',j',Ze'];exact ba (by omega)
     ·refine hN _ _ _ ⟨_,rfl,eo,?_⟩;rw[take_succ,hz,map_append,map_append];rfl
    ·rintro ys σ H' ⟨v,rfl,rfl,rfl⟩;rw[j',take_length];exact q D' _ (s1.free (s2.free hD')) ((s1.trans s2).trans (aq.upd hD')) ah
theorem _root_.L2.uq.same {H H':Hp}{a:Addr}{y:V}{r:Option V}(s:aq H H')(h:uq H a y r):uq H' a y r:=by
 have rd:∀{u},Rd H a u->Rd H' a u:=fun z=>z.imp (fun e=>s _ _ e) fun⟨o,e⟩=>⟨o,s _ _ e⟩;rcases h with ⟨kvs,k,e,e2,e3⟩|⟨kvs,k,b,e,e2,e3,e4⟩
 ·exact .inl ⟨kvs,k,rd e,e2,e3⟩
 ·exact .inr ⟨kvs,k,b,rd e,e2,s _ _ e3,e4⟩
theorem Uy {K:Frag}{H:Hp}{p:Addr}{a b c d:V}{i:Nat}{v:V}{Q:VK}(h:H p=some (.tup [a,b,c,d]))(e:[a,b,c,d][i]? = some v)(q:Q v H):Tu K (.ref p) (.int (i:Int)) H Q\/Tv K (.ref p) (.int (i:Int)) H Q\/Tw (.ref p) (.int (i:Int)) H Q:=.inr (.inl ⟨p,_,i,v,rfl,rfl,vH.of h,Fu e,q⟩)
inductive GJ (K:Frag)(vs:List V)(H:Hp)(Q:VK)(E:XK):Prop
 |mk (d:Addr) (vw:Vw) (n:Str) (th:Th) (eE:vs=[.ref d,.str n]) (eF:vO H d vw) (h8:zw vw) (lh:bc vw n=some th) (rJ:∀(l:Addr)(ys:List V)(H':Hp),aq H H'->H' l=some (.lst ys)->qo H' ys (FE vw n)->Q (.ref l) H'):GJ K vs H Q E
theorem GK (T:Txt K w mg t):bI P w K mg base lB (0+1) t.ku t.zX ["_law_voices","_law_name"] (GJ K):=by
 refine T.mL.ok mV (fun vs H Q E h=>?_) (fun cdv A outer s H vs Q E hr h=>?_)
 ·obtain⟨_,_,_,_,rfl,_⟩:=h;rfl
 ·obtain⟨d,vw,n,th,rfl,hd,wv,hf,q⟩:=h;refine aX (af (aL (i:=2) mV.nd rfl (Or.inl rfl) (jU (kf hr) (pv 0) (pv 1) (fun _ _=>rfl))) (af (aU (bA (aO dS rfl T.bu br (aa (pv 2) (aa (gB (v:=.ty "list") rfl T.je i0 rfl) ag)))) (aj (aw (pv 2))) aB) (af (aU (dw (bA (aJ az (pv 2) ai (fun _ _=>rfl)))) (aj (aw (jU (kf hr) (pv 0) (aJ az (pv 2) ai (fun _ _=>rfl)) (fun _ _=>rfl)))) aB) (af (aL (i:=3) mV.nd rfl (Or.inl rfl) (bN ag)) (af (kc PassesOwn.never rfl (iX (jU (kf hr) (pv 0) (aJ az (pv 2) ai (fun _ _=>rfl)) (fun _ _=>rfl))) (bg (i:=4) mV.nd rfl (Or.inl rfl)) (af (aL (i:=5) mV.nd rfl (Or.inl rfl) (cS (eM (au (bj.or (aW (aC hr))) (aJ az (pv 4) ai (fun _ _=>rfl)) aD (aA _)) aD (cS (eM (au (bj.or (aW (aC hr))) (aJ az (pv 4) ai (fun _ _=>rfl)) aD (aA _)) aD (aJ az (pv 4) ai (fun _ _=>rfl))))))) (aj (a8 (ke Yc' Yd' Ye' bW (pv 3) (aa (cw (aa (pv 5) (aa (aJ az (pv 4) ai (fun _ _=>rfl)) ag))) ag)))))) (aj (aw (pv 3)))))))) ?_;obtain⟨v,hg,hv⟩:=hd.get hf;refine⟨_,rfl,_,rfl,d,v,rfl,hg,?_⟩;cases th with
  |pl ss =>
   obtain⟨l,ys,rfl,h1,h2⟩:=hv;tm_up;refine⟨_,_,_,_,rfl,jq.lst h1,rfl,_,rfl,cZ ?_⟩;exact⟨_,rfl,q l ys H (aq.refl _) h1 (by rw[zP hf];exact h2)⟩
  |cn ld lt sl tn =>
   obtain⟨p,rfl,hp⟩:=hv;obtain⟨⟨ss,Rc⟩,_⟩:=wv.ld n ld lt sl tn (dm hf);have hfl:=wv.find Rc;have gl:=(wv.gd _ _ Rc).1;rw[zQ hf hfl]at q;obtain⟨v2,hg2,l,ys,rfl,h1,h2⟩:=hd.get hfl;tm_up;refine⟨_,_,_,_,rfl,jq.tup hp,rfl,_,rfl,bZ ?_⟩;refine⟨_,rfl,Uy (i:=3) hp rfl ?_⟩;refine⟨_,rfl,?_⟩;cases tn with
   |false =>
    refine cZ ?_;refine⟨_,rfl,_,rfl,Uy (i:=0) hp rfl ?_⟩;exact⟨d,_,rfl,hg2,q l ys H (aq.refl _) h1 h2⟩
   |true =>
    refine bZ ?_;refine⟨big (by show 0<=1000;omega),fun told ahL=>?_⟩;have s1:=aq.upd (o:=.lst []) ahL;have ht1:=ah (H:=H) (a:=told) (o:=.lst []);generalize upd H told (.lst [])=H1 at s1 ht1;have y3:=ck h2;refine⟨_,rfl,_,rfl,Uy (i:=0) (s1 _ _ hp) rfl ?_⟩;have nlt:l≠told:=ao h1 ahL;have hg3:uq H1 d (.str ld) (some (.ref l)):=hg2.same s1;refine⟨d,_,rfl,hg3,l,rfl,⟨_,bh.of (s1 _ _ h1)⟩,sE (K:=K) (xs:=ys) (fun i σ H'=>∃(u k:Option V)(zs:List V),σ=[some (.ref d),some (.str n),some (.ref p),some (.ref told),u,k]/\aq H H'/\H' told=some (.lst zs)/\qo H' zs ((ss.take i).map uH)) ⟨none,none,[],rfl,s1,ht1,.nil⟩ ?_ ?_ ?_⟩
    ·rintro i σ H' _ ⟨u,k,zs,rfl,s2,_⟩;exact bh.of (s2 _ _ h1)
    ·rintro i y σ H' hy ⟨u,k,zs,rfl,s2,ht2,gz⟩;obtain⟨sg,hsg,ps,rfl,hps⟩:=zL h2 hy;have hi:i<ss.length:=(S'.mp hsg).1;have ajG:=s2 _ _ hps;have zl:=ck gz;rw[j',Ze']at zl;refine⟨fun v Hx=>v=.str (SA sg.1).str/\Hx=H',?_,?_⟩
     ·refine⟨_,rfl,ix0 ajG ?_⟩;refine .inl ⟨rfl,_,rfl,?_⟩;rw[ahh];refine a9 (fun h=>?_) (fun h=>?_)
      ·rw[U' h];exact⟨rfl,rfl⟩
      ·have h':sg.1≠.two:=fun z=>h (W' z);refine⟨fun v Hx=>v=.str (SA sg.1).str/\Hx=H',?_,fun _ _ z=>z⟩;refine⟨_,rfl,ix0 ajG ?_⟩;refine .inl ⟨rfl,_,rfl,?_⟩;rw[TM];refine a9 (fun h3=>?_) (fun h3=>?_)
       ·rw[U' h3];exact⟨rfl,rfl⟩
       ·have h3':sg.1≠.three:=fun z=>h3 (W' z);refine⟨_,rfl,ix0 ajG ⟨?_,rfl⟩⟩;cases hk:sg.1 <;> first|rfl|exact P' hk h'|exact P' hk h3'
     intro v Hx ⟨e1,e2⟩;rw[e1,e2];refine⟨_,rfl,.inl ⟨rfl,_,bh.of ht2⟩,_,rfl,_,rfl,ix1 ajG ?_⟩;refine⟨by show 2<=sizeLine;decide,fun tp htp=>?_⟩;have s3:=aq.upd (o:=.tup [V.str (SA sg.1).str,V.int sg.2]) htp;refine⟨told,_,_,rfl,rfl,s3 _ _ ht2,ba (by omega),?_⟩;refine⟨_,_,zs++[.ref tp],rfl,gb (s2.trans s3) ahL,ah,?_⟩;rw[take_succ,hsg,map_append];exact lF (ahj (s3 _ _ ht2) (gz.same s3)) (ahi (s3 _ _ ht2) ⟨tp,rfl,ah⟩)
    ·rintro σ H' ⟨u,k,zs,rfl,s2,ht2,gz⟩;rw[y3,take_length]at gz;exact⟨_,rfl,q told zs H' s2 ht2 gz⟩
theorem al8 {k:Kd}(h:k.meas=true)(m:Int):intText? k.str=some (nm m k)/\k.str.length<=640:=by
 cases k <;> first|(cases h;done)|exact⟨by first|exact(show intText? Kd.three.str=some 3 by lk)|exact(show intText? Kd.two.str=some 2 by lk),by lk⟩
theorem an7 {k:Kd}(h:¬ k.meas=true)(m:Int):nm m k=m:=by
 cases k <;> first|rfl|exact P' rfl h
theorem Yk (k:Kd):k.meas=(decide (k=.three)||decide (k=.two)):=by cases k <;> rfl
theorem adG (k:Kd):Rl k.str ".32" = k.parting:=by cases k <;> decide +kernel
theorem GL (k:Kd):Rl k.str "sdr"=k.small:=by cases k <;> decide +kernel
theorem ajH {k:Kd}(h:k.parting=true)(m:Int)(n:Option Kd):bw m k n=0:=by cases k <;> first|(cases h;done)|(unfold bw;rw[G' (by rintro⟨_,z,_⟩;cases z)];rfl)
theorem ahM {k:Kd}(h:k.small=true)(m:Int)(n:Option Kd):bw m k n=1:=by cases k <;> first|(cases h;done)|(unfold bw;rw[G' (by rintro⟨_,z,_⟩;cases z)];rfl)
theorem aqm (m:Int)(n:Option Kd):bw m .D n=2:=by unfold bw;rw[G' (by rintro⟨_,z,_⟩;cases z)];rfl
theorem ajI {k:Kd}{m:Int}{n:Option Kd}(hm:Ms m)(h1:k.parting=false)(h2:k.small=false)(h3:k≠.D)(h4:¬(m=2/\k=.G/\n=some .dot)):bw m k n=m:=by
 unfold bw;rw[G' h4];rcases hm with rfl|rfl <;> cases k <;> first|(cases h1;done)|(cases h2;done)|rfl|exact P' rfl h3
inductive SV (K:Frag)(vs:List V)(H:Hp)(Q:VK)(E:XK):Prop
 |mk (l:Addr) (b:Int) (xs:List V) (ss:List Sg) (eE:vs=[.ref l,.int b]) (eF:Ms b) (h8:bh K H l xs) (lh:qo H xs ss) (rJ:ss.length<=400) (Rg:∀(f:Addr)(H':Hp),aq H H'->H f=none->H' f=some (.lst ((ki b (bO ss)).map V.int))->Q (.ref f) H'):SV K vs H Q E
theorem aeN (T:Txt K w mg t):bI P w K mg base lB (0+1) t.tw t.OU ["_law_line","_law_begin"] (SV K):=by
 refine T.Ai.ok sx (fun vs H Q E h=>?_) (fun cdv A outer s H vs Q E hr h=>?_)
 ·obtain⟨_,_,_,_,rfl,_⟩:=h;rfl
 ·obtain⟨l,b,xs,ss,rfl,hMs,hS,hg,hn,q⟩:=h;have p62:(2:Int) ^ 62=4611686018427387904:=by decide
  refine aX (af (aL (i:=2) sx.nd rfl (Or.inl rfl) (bN ag)) (af (aL (i:=3) sx.nd rfl (Or.inl rfl) (pv 1)) (af (kc PassesOwn.never rfl (BN rfl T.w5 (aa (aO (aQ.or aR) rfl T.cA cy (aa (pv 0) ag)) ag)) (bg (i:=4) sx.nd rfl (Or.inl rfl)) (af (aL (i:=5) sx.nd rfl (Or.inl rfl) (aJ az (aJ az (pv 0) (pv 4) (fun _ _=>rfl)) ai (fun _ _=>rfl))) (af (gp (aU (cz (PW.pt (mv (au (bj.or (aW (aC hr))) (pv 5) aD (aA _)) (j9 (au (bj.or (aW (aC hr))) (pv 5) aD (aA _)))))) (aj (aL (i:=3) sx.nd rfl (Or.inl rfl) (gq (wj.or lC) rfl T.JO IM (aa (pv 5) ag)))) aB)) (aj (aU (au (cW.or cV) (pv 5) aD rfl) (aj (a8 (ke Yc' Yd' Ye' bW (pv 2) (aa ai ag)))) (aj (aU (au (cW.or cV) (pv 5) aD rfl) (aj (a8 (ke Yc' Yd' Ye' bW (pv 2) (aa ai ag)))) (aj (aU (au (bj.or (aW (aC hr))) (pv 5) aD (aA _)) (aj (a8 (ke Yc' Yd' Ye' bW (pv 2) (aa ai ag)))) (aj (aU (cz (PW.pt (du (au (bj.or (aW (aC hr))) (pv 3) ai (aA _)) (du (au (bj.or (aW (aC hr))) (pv 5) aD (aA _)) (du (au rE (aP (b7.or (aV.or b8)) (pv 4) ai) (aO (aQ.or aR) rfl T.cA cy (aa (pv 0) ag)) (aA _)) (eW (au (bj.or (aW (aC hr))) (aJ az (aJ az (pv 0) (aP (b7.or (aV.or b8)) (pv 4) ai) (fun _ _=>rfl)) ai (fun _ _=>rfl)) aD (aA _)))))))) (aj (a8 (ke Yc' Yd' Ye' bW (pv 2) (aa ai ag)))) (aj (a8 (ke Yc' Yd' Ye' bW (pv 2) (aa (pv 3) ag))))))))))))))) (aj (aw (pv 2)))))) ?_;refine⟨big (by show 0<=1000;omega),fun f hf=>?_⟩;tm_up;refine .inl ⟨_,_,rfl,.inl (kJ hS hf),?_⟩;rw[ck hg];refine⟨(ss.length:Int),rfl,by rw[p62];omega,by rw[p62];omega,?_⟩;refine wc (n:=((ss.length:Int)).toNat) (fun i σ H'=>∃(m:Int)(v w:Option V)(fs:List Int),σ=[some (.ref l),some (.int b),some (.ref f),some (.int m),v,w]/\Ms m/\H'=upd H f (.lst (fs.map V.int))/\fs++ki m ((bO ss).drop i)=ki b (bO ss))
   ⟨b,none,none,[],rfl,hMs,rfl,rfl⟩ ?_ ?_
  ·rintro i σ H' hi ⟨m,v,w,fs,rfl,hm3,rfl,hm⟩;have hil:i<ss.length:=by omega
   have hd:=rL (zM (f:=Prod.fst) (T' hil));rw[hd]at hm;have hS':bh K (upd H f (.lst (fs.map V.int))) l xs:=kJ hS hf;have hg':qo (upd H f (.lst (fs.map V.int))) xs ss:=hg.same (aq.upd hf);have hl:=R' List.length hm;simp only [Z',ki,Zp',wu,j']at hl;simp only [ki,head_drop]at hm;tm_up;refine Rm hS' hg' (n:=i) (by omega) (T' hil) fun p hp=>?_;generalize hk:(ss[i]).1=k at hm hp;tm_up;refine agW [some (.ref l),some (.int b),some (.ref f),some (.int (nm m k)),some (.int (0+(i:Int))),some (.str k.str)] (upd H f (.lst (fs.map V.int))) ?_ ?_
   ·refine lD k.meas ?_ ?_
    ·tm_up;rw[TM];refine a9 (fun h=>?_) (fun h=>?_)
     ·exact gm (by rw[Yk,h];rfl)
     ·tm_up;rw[ahh];exact gm (by rw[Yk,Y'.mpr h];rfl)
    refine a9 (fun h=>?_) (fun h=>?_)
    ·obtain⟨e1,e2⟩:=al8 h m;tm_up;exact .inr ⟨_,_,rfl,e1,e2,rfl,rfl⟩
    ·rw[an7 h];exact⟨rfl,rfl⟩
   have hm4:=hm3.nm k;have fin:∀(z:Int),z=bw (nm m k) k (bO ss)[i+1]?->∃(m':Int)(v w:Option V)(fs':List Int),[some (V.ref l),some (V.int b),some (V.ref f),some (V.int (nm m k)),some (V.int (0+(i:Int))),some (V.str k.str)]=[some (.ref l),some (.int b),some (.ref f),some (.int m'),v,w]/\Ms m'/\upd (upd H f (.lst (fs.map V.int))) f (.lst (fs.map V.int++[V.int z]))=upd H f (.lst (fs'.map V.int))/\fs'++ki m' ((bO ss).drop (i+1))=ki b (bO ss):=by
    intro z hz;exact⟨nm m k,_,_,fs++[z],rfl,hm4,by rw[eo,map_append];rfl,by rw[List.append_assoc,hz];exact hm⟩
   tm_up;refine a9 (fun h=>?_) (fun h=>?_)
   ·have h':k.parting=true:=by rw[<-adG];exact h
    tm_up;refine⟨.inl ⟨rfl,_,bh.of ah⟩,?_⟩;refine⟨_,_,_,rfl,rfl,ah,by rw[j'];exact ba (by omega),fin 0 (ajH h' ..).symm⟩
   ·have h1:k.parting=false:=by rw[<-adG];exact Y'.mpr h
    tm_up;refine a9 (fun h=>?_) (fun h=>?_)
    ·have h':k.small=true:=by rw[<-GL];exact h
     tm_up;refine⟨.inl ⟨rfl,_,bh.of ah⟩,?_⟩;refine⟨_,_,_,rfl,rfl,ah,by rw[j'];exact ba (by omega),fin 1 (ahM h' ..).symm⟩
    ·have h2:k.small=false:=by rw[<-GL];exact Y'.mpr h
     tm_up;rw[k_D];refine a9 (fun h=>?_) (fun h=>?_)
     ·have h':k=.D:=U' h;tm_up;refine⟨.inl ⟨rfl,_,bh.of ah⟩,?_⟩;refine⟨_,_,_,rfl,rfl,ah,by rw[j'];exact ba (by omega),fin 2 (by rw[h'];exact(aqm ..).symm)⟩
     ·have h3:k≠.D:=fun z=>h (W' z);refine lD (decide (nm m k=2/\k=.G/\(bO ss)[i+1]? = some .dot)) ?_ ?_
      ·tm_up;rw[iA];refine a9 (fun h=>?_) (fun h=>?_)
       ·have e1:=U' h;tm_up;rw[k_G];refine a9 (fun h=>?_) (fun h=>?_)
        ·have e2:=U' h;tm_up;refine .inl ⟨_,_,rfl,.inl hS',?_⟩;rw[ck hg];tm_up;refine a9 (fun h=>?_) (fun h=>?_)
         ·have hlt:i+1<ss.length:=by have:=U' h;omega
          tm_up;refine Rm hS' hg' (n:=i+1) (by omega) (T' hlt) fun p2 hp2=>?_;tm_up;rw[anM];refine gm ?_;have e3:(bO ss)[i+1]? = some (ss[i+1]).1:=zM (T' hlt);rw[e3];subst e2;simp[e1]
         ·refine gm ?_;have e3:(bO ss)[i+1]? = none:=List.getElem?_eq_none (by rw[j'];have:¬(0+(i:Int)+1<ss.length):=fun z=>h (W' z);omega);rw[e3];simp
        ·refine gm ?_;have e2:k≠.G:=fun z=>h (W' z);simp[e2]
       ·refine gm ?_;have e1:nm m k≠2:=fun z=>h (W' z);simp[e1]
      ·refine a9 (fun h=>?_) (fun h=>?_)
       ·have h':=U' h;tm_up;refine⟨.inl ⟨rfl,_,bh.of ah⟩,?_⟩;refine⟨_,_,_,rfl,rfl,ah,by rw[j'];exact ba (by omega),fin 3 (by unfold bw;rw[K' h'])⟩
       ·have h':¬(nm m k=2/\k=.G/\(bO ss)[i+1]? = some .dot):=fun z=>h (W' z);tm_up;refine⟨.inl ⟨rfl,_,bh.of ah⟩,?_⟩;tm_up;refine⟨_,_,_,rfl,rfl,ah,by rw[j'];exact ba (by omega),fin _ (ajI hm4 h1 h2 h3 h').symm⟩
  ·rintro σ H' ⟨m,v,w,fs,rfl,_,rfl,hm⟩;have e0:((ss.length:Int)).toNat=ss.length:=by omega
   rw[e0,List.drop_eq_nil_of_le (by rw[j'];exact Zi' _)]at hm;tm_up;have e:fs=ki b (bO ss):=by rw[<-hm];simp[ki]
   subst e;exact q f _ (aq.upd hf) hf ah
inductive Po (K:Frag)(vs:List V)(H:Hp)(Q:VK)(E:XK):Prop
 |mk (l:Addr) (b:Int) (xs:List V) (ss:List Sg) (eE:vs=[.ref l,.int b]) (eF:bh K H l xs) (h8:qo H xs ss) (lh:ss.length<=400) (rJ:∀(f:Addr)(H':Hp),aq H H'->H f=none->H' f=some (.lst ((lY b (bO ss)).map V.bl))->Q (.ref f) H'):Po K vs H Q E
theorem an9 {k:Kd}(h:k.meas=true)(m:Int):intText? k.str=some (nm m k)/\k.str.length<=640:=by
 cases k <;> first|(cases h;done)|exact⟨by first|exact(show intText? Kd.three.str=some 3 by lk)|exact(show intText? Kd.two.str=some 2 by lk),by lk⟩
theorem aqn {k:Kd}(h:¬ k.meas=true)(m:Int):nm m k=m:=by
 cases k <;> first|rfl|exact P' rfl h
theorem adH (k:Kd):k.meas=(decide (k=.three)||decide (k=.two)):=by cases k <;> rfl
theorem aaA (T:Txt K w mg t):bI P w K mg base lB (0+1) t.oV t.Js ["_law_line","_law_begin"] (Po K):=by
 refine T.wO.ok sU (fun vs H Q E h=>?_) (fun cdv A outer s H vs Q E hr h=>?_)
 ·obtain⟨_,_,_,_,rfl,_⟩:=h;rfl
 ·obtain⟨l,b,xs,ss,rfl,hS,hg,hn,q⟩:=h;refine aX (af (aL (i:=2) sU.nd rfl (Or.inl rfl) (bN ag)) (af (aL (i:=3) sU.nd rfl (Or.inl rfl) (pv 1)) (af (kc PassesOwn.never rfl (iX (pv 0)) (bg (i:=4) sU.nd rfl (Or.inl rfl)) (af (gp (aU (cz (PW.pt (mv (au (bj.or (aW (aC hr))) (aJ az (pv 4) ai (fun _ _=>rfl)) aD (aA _)) (j9 (au (bj.or (aW (aC hr))) (aJ az (pv 4) ai (fun _ _=>rfl)) aD (aA _)))))) (aj (aL (i:=3) sU.nd rfl (Or.inl rfl) (gq (wj.or lC) rfl T.JO IM (aa (aJ az (pv 4) ai (fun _ _=>rfl)) ag)))) aB)) (aj (a8 (ke Yc' Yd' Ye' bW (pv 2) (aa (b6 (bj.or (aW (aC hr))) (pv 3) ai (aA _)) ag)))))) (aj (aw (pv 2)))))) ?_;refine⟨big (by show 0<=1000;omega),fun f hf=>?_⟩;tm_up;refine⟨⟨xs,kJ hS hf⟩,sE (K:=K) (xs:=xs) (fun i σ H'=>∃(m:Int)(v:Option V)(fs:List Bool),σ=[some (.ref l),some (.int b),some (.ref f),some (.int m),v]/\H'=upd H f (.lst (fs.map V.bl))/\fs++lY m ((bO ss).drop i)=lY b (bO ss))
   ⟨b,none,[],rfl,rfl,rfl⟩ ?_ ?_ ?_⟩
  ·rintro i σ H' _ ⟨m,v,fs,rfl,rfl,_⟩;exact kJ hS hf
  ·rintro i x σ H' hx ⟨m,v,fs,rfl,rfl,hm⟩;obtain⟨s,hs,p,rfl,hp⟩:=zL hg hx;have hd:=rL (zM (f:=Prod.fst) hs);rw[hd]at hm;have hp':upd H f (.lst (fs.map V.bl)) p=some (.tup [.str s.1.str,.int s.2]):=by rw[ak (ao hp hf)];exact hp
   have hl:=R' List.length hm;simp only [Z',lY,Zp',ZU,j']at hl;refine agW [some (.ref l),some (.int b),some (.ref f),some (.int (nm m s.1)),some (.ref p)] (upd H f (.lst (fs.map V.bl))) ?_ ?_
   ·refine lD s.1.meas ?_ ?_
    ·tm_up;rw[TM];refine a9 (fun h=>?_) (fun h=>?_)
     ·exact gm (by rw[adH,h];rfl)
     ·tm_up;rw[ahh];exact gm (by rw[adH,Y'.mpr h];rfl)
    refine a9 (fun h=>?_) (fun h=>?_)
    ·obtain⟨e1,e2⟩:=an9 h m;tm_up;exact .inr ⟨_,_,rfl,e1,e2,rfl,rfl⟩
    ·rw[aqn h];exact⟨rfl,rfl⟩
   ·tm_up;refine⟨.inl ⟨rfl,_,bh.of ah⟩,?_⟩;tm_up;rw[iA];refine⟨_,_,_,rfl,rfl,ah,by rw[j'];exact ba (by omega),?_⟩;exact⟨_,_,fs++[decide (nm m s.1=3)],rfl,by rw[eo,map_append];rfl,by rw[List.append_assoc];exact hm⟩
  ·rintro σ H' ⟨m,v,fs,rfl,rfl,hm⟩;rw[List.drop_eq_nil_of_le (by rw[j',ck hg];exact Zi' _)]at hm;tm_up;have e:fs=lY b (bO ss):=by rw[<-hm];simp[lY]
   subst e;exact q f _ (aq.upd hf) hf ah
def aqo (K:Frag)(g:List Kd->List Int->Nat->Nat->Bool×List Int):Sp:=fun vs H Q _=>∃(l f:Addr)(a z:Nat)(xs:List V)(ss:List Sg)(fs:List Int),vs=[.ref l,.ref f,.int (a:Int),.int (z:Int)]/\bh K H l xs/\qo H xs ss/\l≠f/\H f=some (.lst (fs.map V.int))/\fs.length=ss.length/\a<z/\z<=ss.length /\
 Q (.bl (g (bO ss) fs a z).1) (upd H f (.lst ((g (bO ss) fs a z).2.map V.int)))
theorem Pp (k:Kd):Rl k.str "GDR"=k.great:=by cases k <;> decide +kernel
theorem JS (o:Option Kd):(o.getD .dot).great=vK o:=by cases o <;> rfl
theorem aqp (o:Option Kd):decide (o.getD .dot=.G)=decide (o=some .G):=by
 cases o with
 |none=>decide
 |some k=>simp
theorem aeO {ks:List Kd}{f:List Int}{a z:Nat}{r:Nat}(hr:(z-a) % 3=r)(hr3:r<3) :
  settle ks f a z=if decide (r=2)&&(vK ks[z]? && decide (ks[z-1]? = some .s)) then(true,f.set (z-1) 2) else
   (decide (r=0)||((decide (r=1)&&(lH ks f a||i4 ks z))||(decide (r=2)&&(lH ks f a&&i4 ks z))),
    let g:=if(decide (r=1)&&lH ks f a)||(decide (r=2)&&(lH ks f a&&i4 ks z)) then f.set (a-1) 2 else f
    if(decide (r=1)&&(i4 ks z && !lH ks f a))||(decide (r=2)&&(lH ks f a&&i4 ks z)) then g.set z 2 else g):=by
 unfold settle Fy Fz;rw[hr];have:r=0\/r=1\/r=2:=by omega
 rcases this with rfl|rfl|rfl <;> cases lH ks f a <;> cases i4 ks z <;> cases vK ks[z]? <;> cases decide (ks[z-1]? = some .s) <;> rfl
theorem ahN (T:Txt K w mg t):bI P w K mg base lB (0+1) t.xY t.Ue ["_law_line","_law_told","_law_low","_law_high"] (aqo K settle):=by
 refine T.Gj.ok wI (fun vs H Q E h=>?_) (fun cdv A outer s H vs Q E hr h=>?_)
 ·obtain⟨_,_,_,_,_,_,_,rfl,_⟩:=h;rfl
 ·obtain⟨l,f,a,z,xs,ss,fs,rfl,hS,hg,hlf,hf,hl,haz,hz,q⟩:=h;obtain⟨r,hrr⟩:∃ r:Nat,(z-a) % 3=r:=⟨_,rfl⟩;have hr3:r<3:=by omega
  rw[aeO hrr hr3]at q;have hri:((z:Int)-(a:Int)) % 3=(r:Int):=by omega
  have dI:∀ n:Nat,decide (V.int (((z:Int)-(a:Int)) % 3)=V.int (n:Int))=decide (r=n):=fun n=>by
   rw[hri,iA]
   by_cases e:r=n
   ·simp[e]
   ·have:¬((r:Int)=(n:Int)):=by omega
    simp[e,this]
  have d0:decide (V.int (((z:Int)-(a:Int)) % 3)=V.int 0)=decide (r=0):=dI 0;have d1:decide (V.int (((z:Int)-(a:Int)) % 3)=V.int 1)=decide (r=1):=dI 1;have d2:decide (V.int (((z:Int)-(a:Int)) % 3)=V.int 2)=decide (r=2):=dI 2;refine aX (af (aL (i:=4) wI.nd rfl (Or.inl rfl) (aP dy (aP iY (pv 3) (pv 2)) ai)) (af (aL (i:=5) wI.nd rfl (Or.inl rfl) (cS (eM (au rE (pv 3) (aO (aQ.or aR) rfl T.cA cy (aa (pv 0) ag)) (aA _)) (aJ az (aJ az (pv 0) (pv 3) (fun _ _=>rfl)) ai (fun _ _=>rfl)) aD))) (af (aL (i:=6) wI.nd rfl (Or.inl rfl) (cS (eM (au rE (aP (b7.or (aV.or b8)) (pv 3) ai) (aO (aQ.or aR) rfl T.cA cy (aa (pv 0) ag)) (aA _)) (aJ az (aJ az (pv 0) (aP (b7.or (aV.or b8)) (pv 3) ai) (fun _ _=>rfl)) ai (fun _ _=>rfl)) aD))) (af (aL (i:=7) wI.nd rfl (Or.inl rfl) (cS (iW (b6 ac6 (pv 2) ai (aA _)) (iW (b6 (bj.or (aW (aC hr))) (aJ az (aJ az (pv 0) (aP iY (pv 2) ai) (fun _ _=>rfl)) ai (fun _ _=>rfl)) aD (aA _)) (lU (b6 (bj.or (aW (aC hr))) (aJ az (pv 1) (aP iY (pv 2) ai) (fun _ _=>rfl)) ai (aA _))))))) (af (aL (i:=8) wI.nd rfl (Or.inl rfl) (cS (iW (b6 (bj.or (aW (aC hr))) (pv 5) aD (aA _)) (lU (b6 (xC.or xE) (pv 6) aD rfl))))) (af (aU (cz (PW.pt (du (au (bj.or (aW (aC hr))) (pv 4) ai (aA _)) (du (au (cW.or cV) (pv 5) aD rfl) (eW (au (bj.or (aW (aC hr))) (aJ az (aJ az (pv 0) (aP iY (pv 3) ai) (fun _ _=>rfl)) ai (fun _ _=>rfl)) aD (aA _))))))) (af (lV ai (zy (pv 1) (aP iY (pv 3) ai) set_list)) (aj (aw ik))) aB) (af (gp (aU (cz (PW.pt (mv (cz (PW.pt (du (au (bj.or (aW (aC hr))) (pv 4) ai (aA _)) (eW (bA (pv 7)))))) (j9 (cz (PW.pt (du (au (bj.or (aW (aC hr))) (pv 4) ai (aA _)) (du (bA (pv 7)) (eW (bA (pv 8))))))))))) (aj (lV ai (zy (pv 1) (aP iY (pv 2) ai) set_list))) aB)) (af (gp (aU (cz (PW.pt (mv (cz (PW.pt (du (au (bj.or (aW (aC hr))) (pv 4) ai (aA _)) (du (bA (pv 8)) (eW (dw (bA (pv 7)))))))) (j9 (cz (PW.pt (du (au (bj.or (aW (aC hr))) (pv 4) ai (aA _)) (du (bA (pv 7)) (eW (bA (pv 8))))))))))) (aj (lV ai (zy (pv 1) (pv 3) set_list))) aB)) (aj (aw (cS (agb (b6 (bj.or (aW (aC hr))) (pv 4) ai (aA _)) (agb (cS (iW (b6 (bj.or (aW (aC hr))) (pv 4) ai (aA _)) (lU (cS (agb (pv 7) (lU (pv 8))))))) (lU (cS (iW (b6 (bj.or (aW (aC hr))) (pv 4) ai (aA _)) (iW (pv 7) (lU (pv 8))))))))))))))))))) ?_;tm_up;refine Cd (.str ((bO ss)[z]?.getD .dot).str) ?_ ?_
  ·tm_up;refine .inl ⟨_,_,rfl,.inl hS,?_⟩;rw[ck hg];tm_up;refine a9 (fun h=>?_) (fun h=>?_)
   ·have hlt:z<ss.length:=by have:=U' h;omega
    tm_up;refine Rm hS hg (n:=z) rfl (T' hlt) fun p hp=>?_;tm_up;refine rK ?_;rw[Zf',T' hlt];rfl
   ·refine rK ?_;have hge:¬ z<ss.length:=fun c=>h (W' (by omega));rw[List.getElem?_eq_none (by rw[j'];omega)];rfl
  refine Cd (.str ((bO ss)[z+1]?.getD .dot).str) ?_ ?_
  ·tm_up;refine .inl ⟨_,_,rfl,.inl hS,?_⟩;rw[ck hg];tm_up;refine a9 (fun h=>?_) (fun h=>?_)
   ·have hlt:z+1<ss.length:=by have:=U' h;omega
    tm_up;refine Rm hS hg (n:=z+1) (by omega) (T' hlt) fun p hp=>?_;tm_up;refine rK ?_;rw[Zf',T' hlt];rfl
   ·refine rK ?_;have hge:¬ z+1<ss.length:=fun c=>h (W' (by omega));rw[List.getElem?_eq_none (by rw[j'];omega)];rfl
  refine Cd (.bl (lH (bO ss) fs a)) ?_ ?_
  ·tm_up;refine a9 (fun h=>?_) (fun h=>?_)
   ·have hp:0<a:=by have:=U' h;omega
    have hlt:a-1<ss.length:=by omega
    have ek:TQ (bO ss) ((a:Int)-1)=some (ss[a-1]).1:=by
     have:(a:Int)-1=((a-1:Nat):Int):=by omega
     rw[this,uB,Zf',T' hlt];rfl
    tm_up;refine Rm hS hg (n:=a-1) (by omega) (T' hlt) fun p hp=>?_;tm_up;rw[k_G];refine a9 (fun h2=>?_) (fun h2=>?_)
    ·tm_up;refine ahk (bh.of hf) (n:=a-1) (by omega) (T' (by omega)) ?_;tm_up;rw[iA];refine rK ?_;unfold lH;rw[ek,U' h2,List.getD_eq_getElem?_getD,T' (by omega)];simp
    ·refine rK ?_;unfold lH;rw[ek];have:(ss[a-1]).1≠.G:=fun c=>h2 (W' c);simp[this]
   ·refine rK ?_;have hp:a=0:=by
     have:¬ 0<a:=fun c=>h (W' (by omega));omega
    subst hp;unfold lH TQ;simp
  refine Cd (.bl (i4 (bO ss) z)) ?_ ?_
  ·tm_up;rw[k_G,aqp];refine a9 (fun h=>?_) (fun h=>?_)
   ·tm_up;refine rK ?_;unfold i4;rw[h];show V.bl (!Rl _ _)=_;rw[Pp,JS];rfl
   ·refine rK ?_;unfold i4;rw[Y'.mpr h];rfl
  generalize hL:lH (bO ss) fs a=L at q;generalize hR:i4 (bO ss) z=R at q;refine lD (decide (r=2)&&(vK (bO ss)[z]? && decide ((bO ss)[z-1]? = some .s))) ?_ ?_
  ·tm_up;rw[d2];refine a9 (fun h=>?_) (fun h=>?_)
   ·rw[h];tm_up;refine a9 (fun h2=>?_) (fun h2=>?_)
    ·have h2':vK (bO ss)[z]? = true:=by
      have:Rl ((bO ss)[z]?.getD .dot).str "GDR"=true:=h2
      rwa [Pp,JS]at this
     rw[h2'];tm_up;have hlt:z-1<ss.length:=by omega
     refine Rm hS hg (n:=z-1) (by omega) (T' hlt) fun p hp=>?_;tm_up;rw[k_s];refine gm ?_;rw[Zf',T' hlt];simp
    ·have h2':vK (bO ss)[z]? = false:=by
      have:Rl ((bO ss)[z]?.getD .dot).str "GDR"=false:=Y'.mpr h2
      rwa [Pp,JS]at this
     rw[h2'];exact gm rfl
   ·exact gm (by rw[Y'.mpr h];rfl)
  refine a9 (fun h=>?_) (fun h=>?_)
  ·rw[K' h]at q;tm_up;refine⟨_,_,_,_,rfl,rfl,hf,uD (j:=z-1) (by omega) (by rw[j'];omega),?_⟩;rw[qc];exact q
  ·rw[G' h]at q;dsimp only at q;have hLp:L=true->1<=a/\a-1<ss.length:=fun e=>by
    have:=IX (hL.trans e)
    rwa [j']at this
   have hRp:R=true->z<ss.length:=fun e=>by
    have:=CY (hR.trans e)
    rwa [j']at this
   generalize hg1:(if(decide (r=1)&&L||decide (r=2)&&(L&&R))=true then fs.set (a-1) 2 else fs)=g1 at q;have g1l:g1.length=ss.length:=by rw[<-hg1];split <;> simp[hl]
   refine agW [some (.ref l),some (.ref f),some (.int (a:Int)),some (.int (z:Int)),some (.int (((z:Int)-(a:Int)) % 3)),some (.str ((bO ss)[z]?.getD .dot).str),some (.str ((bO ss)[z+1]?.getD .dot).str),some (.bl L),some (.bl R)] (upd H f (.lst (g1.map V.int))) ?_ ?_
   ·refine lD (decide (r=1)&&L||decide (r=2)&&(L&&R)) ?_ ?_
    ·refine lD (decide (r=1)&&L) ?_ ?_
     ·tm_up;rw[d1];refine a9 (fun h=>?_) (fun h=>?_)
      ·tm_up;exact gm (by rw[h];rfl)
      ·exact gm (by rw[Y'.mpr h];rfl)
     ·refine a9 (fun h=>gm (by rw[h];rfl)) (fun h=>?_);rw[Y'.mpr h,Bool.false_or];refine lD (decide (r=2)&&(L&&R)) ?_ (gm rfl);tm_up;rw[d2];refine a9 (fun h=>?_) (fun h=>?_)
      ·tm_up;refine a9 (fun h2=>?_) (fun h2=>?_)
       ·tm_up;exact gm (by rw[h,h2];rfl)
       ·exact gm (by rw[h,Y'.mpr h2];rfl)
      ·exact gm (by rw[Y'.mpr h];rfl)
    ·refine a9 (fun h=>?_) (fun h=>?_)
     ·rw[K' h]at hg1;have hp:=hLp (by cases L <;> simp_all);tm_up;refine⟨_,_,_,_,rfl,rfl,hf,uD (j:=a-1) (by omega) (by rw[j'];omega),?_⟩;rw[qc,hg1];exact⟨rfl,rfl⟩
     ·rw[G' h]at hg1;subst hg1;rw[FA hf];exact⟨rfl,rfl⟩
   generalize hg2:(if(decide (r=1)&&(R && !L)||decide (r=2)&&(L&&R))=true then g1.set z 2 else g1)=g2 at q;refine agW [some (.ref l),some (.ref f),some (.int (a:Int)),some (.int (z:Int)),some (.int (((z:Int)-(a:Int)) % 3)),some (.str ((bO ss)[z]?.getD .dot).str),some (.str ((bO ss)[z+1]?.getD .dot).str),some (.bl L),some (.bl R)] (upd H f (.lst (g2.map V.int))) ?_ ?_
   ·refine lD (decide (r=1)&&(R && !L)||decide (r=2)&&(L&&R)) ?_ ?_
    ·refine lD (decide (r=1)&&(R && !L)) ?_ ?_
     ·tm_up;rw[d1];refine a9 (fun h=>?_) (fun h=>?_)
      ·tm_up;refine a9 (fun h2=>?_) (fun h2=>?_)
       ·tm_up;exact gm (by rw[h,h2];rfl)
       ·exact gm (by rw[h,Y'.mpr h2];rfl)
      ·exact gm (by rw[Y'.mpr h];rfl)
     ·refine a9 (fun h=>gm (by rw[h];rfl)) (fun h=>?_);rw[Y'.mpr h,Bool.false_or];refine lD (decide (r=2)&&(L&&R)) ?_ (gm rfl);tm_up;rw[d2];refine a9 (fun h=>?_) (fun h=>?_)
      ·tm_up;refine a9 (fun h2=>?_) (fun h2=>?_)
       ·tm_up;exact gm (by rw[h,h2];rfl)
       ·exact gm (by rw[h,Y'.mpr h2];rfl)
      ·exact gm (by rw[Y'.mpr h];rfl)
    ·refine a9 (fun h=>?_) (fun h=>?_)
     ·rw[K' h]at hg2;have hp:=hRp (by cases R <;> simp_all);tm_up;refine⟨_,_,_,_,rfl,rfl,ah,uD (j:=z) rfl (by rw[j'];omega),?_⟩;rw[qc,hg2,eo];exact⟨rfl,rfl⟩
     ·rw[G' h]at hg2;subst hg2;exact⟨rfl,rfl⟩
   refine Cd (.bl (decide (r=0)||(decide (r=1)&&(L||R)||decide (r=2)&&(L&&R)))) ?_ q;tm_up;rw[d0];refine a9 (fun h=>rK (by rw[h];rfl)) (fun h=>?_);rw[Y'.mpr h,Bool.false_or];refine Cd (.bl (decide (r=1)&&(L||R))) ?_ ?_
   ·tm_up;rw[d1];refine a9 (fun h=>?_) (fun h=>rK (by rw[Y'.mpr h];rfl));refine Cd (.bl (L||R)) ?_ (rK (by rw[h];rfl));tm_up;refine a9 (fun h=>rK (by rw[h];rfl)) (fun h=>?_);tm_up;exact rK (by rw[Y'.mpr h];rfl)
   ·refine⟨_,rfl,?_⟩;refine a9 (fun h=>rK (by rw[h];rfl)) (fun h=>?_);rw[Y'.mpr h,Bool.false_or];refine Cd (.bl (decide (r=2)&&(L&&R))) ?_ (rK rfl);tm_up;rw[d2];refine a9 (fun h=>?_) (fun h=>rK (by rw[Y'.mpr h];rfl));tm_up;refine a9 (fun h2=>?_) (fun h2=>?_)
    ·tm_up;exact rK (by rw[h,h2];rfl)
    ·exact rK (by rw[h,Y'.mpr h2];rfl)
inductive SW (K:Frag)(vs:List V)(H:Hp)(Q:VK)(E:XK):Prop
 |mk (l:Addr) (b:Int) (xs:List V) (ss:List Sg) (eE:vs=[.ref l,.int b]) (eF:Ms b) (h8:H l=some (.lst xs)) (lh:qo H xs ss) (rJ:ss.length<=400) (Rg:∀(p f lo:Addr)(ys:List V)(H':Hp),aq H H'->H f=none->H lo=none->f≠lo->H' p=some (.tup [.ref f,.ref lo])->H' f=some (.lst ((mx b (bO ss)).1.map V.int))->H' lo=some (.lst ys)->ZT H' ys (mx b (bO ss)).2->Q (.ref p) H'):SW K vs H Q E
theorem aeP (T:Txt K w mg t):bI P w K mg base lB (0+2) t.tD t.OV ["_law_line","_law_begin"] (SW K):=by
 have ahO:=aeN (P:=P) (base:=base) T;have aeQ:=aaA (P:=P) (base:=base) T;have ajJ:=ahN (P:=P) (base:=base) T;refine T.wQ.ok mG (fun vs H Q E h=>?_) (fun cdv A outer s H vs Q E hr h=>?_)
 ·obtain⟨_,_,_,_,rfl,_⟩:=h;rfl
 ·obtain⟨l,b,xs,ss,rfl,hMs,hS,hg,hn,q⟩:=h;refine aX (af (aL (i:=2) mG.nd rfl (Or.inl rfl) (aM ahO (hr.mono (by decide)) rfl T.aeE T.Ai.kp T.O2 .nil aY (aa (pv 0) (aa (pv 1) ag)))) (af (aL (i:=3) mG.nd rfl (Or.inl rfl) (aM aeQ (hr.mono (by decide)) rfl T.aak T.wO.kp T.JF .nil aY (aa (pv 0) (aa (pv 1) ag)))) (af (aL (i:=4) mG.nd rfl (Or.inl rfl) (bN ag)) (af (aL (i:=5) mG.nd rfl (Or.inl rfl) ai) (af (N2 PassesOwn.never (au rE (pv 5) (aO (aQ.or aR) rfl T.cA cy (aa (pv 0) ag)) (aA _)) (af (aL (i:=6) mG.nd rfl (Or.inl rfl) (pv 5)) (af (N2 PassesOwn.never (cz (PW.pt (du (au rE (pv 6) (aO (aQ.or aR) rfl T.cA cy (aa (pv 0) ag)) (aA _)) (du (au (cW.or cV) (aJ az (aJ az (pv 0) (pv 6) (fun _ _=>rfl)) ai (fun _ _=>rfl)) aD rfl) (eW (bA (aJ az (pv 3) (pv 6) (fun _ _=>rfl)))))))) (aj (aL (i:=6) mG.nd rfl (Or.inl rfl) (aP (b7.or (aV.or b8)) (pv 6) ai)))) (af (gp (aU (cz (PW.pt (du (au ac6 (pv 6) (pv 5) (aA _)) (eW (dw (bA (aM ajJ (hr.mono (by decide)) rfl T.ahD T.Gj.kp T.Uh .nil aY (aa (pv 0) (aa (pv 2) (aa (pv 5) (aa (pv 6) ag))))))))))) (aj (a8 (ke Yc' Yd' Ye' bW (pv 4) (aa (cw (aa (pv 5) (aa (pv 6) ag))) ag)))) aB)) (aj (aL (i:=5) mG.nd rfl (Or.inl rfl) (aO (ad2 rfl) rfl T.alX alp (aa (pv 6) (aa (aP (b7.or (aV.or b8)) (pv 5) ai) ag))))))))) (aj (aw (cw (aa (pv 2) (aa (pv 4) ag)))))))))) ?_;tm_up;refine⟨l,b,xs,ss,rfl,hMs,bh.of hS,hg,hn,fun f H1 s1 n1 h1=>?_⟩;tm_up;refine⟨l,b,xs,ss,rfl,bh.of (s1 _ _ hS),hg.same s1,hn,fun th H2 s2 n2 h2=>?_⟩;refine⟨big (by show 0<=1000;omega),fun lo hlo=>?_⟩;have s3:=s2.trans (aq.upd (o:=.lst []) hlo);have ahJ:H lo=none:=s1.free (s2.free hlo);have nfl:f≠lo:=ao (s2 _ _ h1) hlo;have ntl:th≠lo:=ao h2 hlo;have ntf:th≠f:=fun e=>by rw[e,h1]at n2;cases n2
  have nlf:l≠f:=ao hS n1;have bl:(ki b (bO ss)).length=ss.length:=by rw[wu,j']
  have cnt:(zd b (bO ss)).length<=401:=by
   have:=qp (lG b (bO ss)) 0 0;rw[sJ,j']at this;exact Zh' this (by omega)
  tm_up;refine⟨fun mm σ H'=>∃(low:Nat)(v:Option V)(c:RdS)(ys:List V),mm=ss.length-low/\low<=ss.length/\σ=[some (.ref l),some (.int b),some (.ref f),some (.ref th),some (.ref lo),some (.int (low:Int)),v]/\aq H H'/\H' f=some (.lst (c.1.map V.int))/\H' lo=some (.lst ys)/\ZT H' ys c.2/\H' th=some (.lst ((lY b (bO ss)).map V.bl))/\c.1.length=ss.length/\c.2.length+(gn low low ((lG b (bO ss)).drop low)).length<=401/\(gn low low ((lG b (bO ss)).drop low)).foldl (vL (bO ss)) c=mx b (bO ss),
   ⟨_,0,none,(ki b (bO ss),[]),[],rfl,Zj' _,rfl,s1.trans s3,s3 _ _ h1,ah,.nil,by rw[ak ntl];exact h2,bl,by show 0+(zd b (bO ss)).length<=401;omega,rfl⟩,?_⟩
  rintro mm σ H' ⟨low,v,c,ys,rfl,hlow,rfl,s4,hf4,aaz,hys,hth,hcl,aob,vf⟩;have hl4:=s4 _ _ hS;have hg4:=hg.same s4;tm_up;refine .inl ⟨_,_,rfl,.inl (bh.of hl4),?_⟩;rw[ck hg];tm_up;refine a9 (fun h=>?_) (fun h=>?_)
  ·have hlt:low<ss.length:=by have:=U' h;omega
   refine⟨fun σ' Nn=>∃ m',m'<ss.length-low/\∃(low:Nat)(v:Option V)(c:RdS)(ys:List V),m'=ss.length-low/\low<=ss.length/\σ'=[some (.ref l),some (.int b),some (.ref f),some (.ref th),some (.ref lo),some (.int (low:Int)),v]/\aq H Nn/\Nn f=some (.lst (c.1.map V.int))/\Nn lo=some (.lst ys)/\ZT Nn ys c.2/\Nn th=some (.lst ((lY b (bO ss)).map V.bl))/\c.1.length=ss.length/\c.2.length+(gn low low ((lG b (bO ss)).drop low)).length<=401/\(gn low low ((lG b (bO ss)).drop low)).foldl (vL (bO ss)) c=mx b (bO ss),fun _ _ h=>h,?_⟩;generalize hn':lead ((lG b (bO ss)).drop low)=n;have hnle:n<=ss.length-low:=by
    have:=adq ((lG b (bO ss)).drop low);rw[length_drop,sJ,j',hn']at this;exact this
   tm_up;refine⟨fun mm σ Nn=>∃ j:Nat,mm=n-j/\j<=n/\σ=[some (.ref l),some (.int b),some (.ref f),some (.ref th),some (.ref lo),some (.int (low:Int)),some (.int ((low+j:Nat):Int))]/\Nn=H',⟨n,0,rfl,Zj' _,rfl,rfl⟩,?_⟩;rintro mm σ Nn ⟨j,rfl,hj,rfl,rfl⟩;have hla:=adt ((lG b (bO ss)).drop low) j (by rw[hn'];exact hj);rw[hn',alN]at hla;refine lD (decide (j<n)) ?_ ?_
   ·tm_up;refine .inl ⟨_,_,rfl,.inl (bh.of hl4),?_⟩;rw[ck hg];tm_up;refine a9 (fun h=>?_) (fun h=>?_)
    ·have hjl:low+j<ss.length:=by have:=U' h;omega
     have hk:(bO ss)[low+j]? = some (ss[low+j]).1:=zM (T' hjl);obtain⟨tb,ht1,ht2⟩:=ads hMs (bO ss) (low+j) _ hk;rw[ht2]at hla;tm_up;refine Rm (bh.of hl4) hg4 (n:=low+j) rfl (T' hjl) fun p hp=>?_;tm_up;refine a9 (fun h=>?_) (fun h=>?_)
     ·have h':(ss[low+j]).1.small=true:=by rw[<-GL];exact h
      rw[h',Bool.true_and]at hla;tm_up;refine Xk (bh.of hth) (n:=low+j) rfl (zM ht1) ?_;tm_up;refine gm ?_;cases tb with
      |true=>exact(W' (hla.mpr rfl)).symm
      |false=>exact(X' (fun z=>by have:=hla.mp z;cases this)).symm
     ·have h':(ss[low+j]).1.small=false:=by rw[<-GL];exact Y'.mpr h
      rw[h',Bool.false_and]at hla;exact gm (X' (fun z=>by have:=hla.mp z;cases this)).symm
    ·have hjl:¬ low+j<ss.length:=fun z=>h (W' (by omega));exact gm (X' (by omega)).symm
   refine a9 (fun h=>?_) (fun h=>?_)
   ·have hjn:=U' h;refine⟨fun σ' Hx=>∃ m',m'<n-j/\∃ j:Nat,m'=n-j/\j<=n/\σ'=[some (.ref l),some (.int b),some (.ref f),some (.ref th),some (.ref lo),some (.int (low:Int)),some (.int ((low+j:Nat):Int))]/\Hx=Nn,fun _ _ h=>h,?_⟩;tm_up;exact⟨n-(j+1),by omega,j+1,rfl,by omega,rfl,rfl⟩
   ·have hjn:j=n:=by
     have:¬ j<n:=fun z=>h (W' z);omega
    subst hjn;have hrf:=Oq ((lG b (bO ss)).drop low) low low (by rw[hn'];omega) (Zi' _);rw[hn',List.drop_drop]at hrf;refine⟨fun σ1 H1=>σ1=[some (.ref l),some (.int b),some (.ref f),some (.ref th),some (.ref lo),some (.int (low:Int)),some (.int ((low+j:Nat):Int))]/\∃(c:RdS)(ys:List V),aq H H1/\H1 f=some (.lst (c.1.map V.int))/\H1 lo=some (.lst ys)/\ZT H1 ys c.2/\H1 th=some (.lst ((lY b (bO ss)).map V.bl))/\c.1.length=ss.length/\c.2.length+(gn (low+j) (low+j) ((lG b (bO ss)).drop (low+j))).length<=401/\(gn (low+j) (low+j) ((lG b (bO ss)).drop (low+j))).foldl (vL (bO ss)) c=mx b (bO ss),?_,?_⟩
    ·by_cases hj0:j=0
     ·subst hj0;refine lD false ?_ ?_
      ·tm_up;rw[X' (show ¬((low:Int)<((low+0:Nat):Int)) by omega)];exact gm rfl
      ·exact bZ ⟨rfl,c,ys,s4,hf4,aaz,hys,hth,hcl,aob,vf⟩
     ·have hlt2:low<low+j:=by omega
      rw[K' hlt2,List.singleton_append]at hrf;rw[hrf,List.foldl_cons]at vf;rw[hrf,Zp']at aob;have s5:aq H (upd Nn f (.lst ((settle (bO ss) c.1 low (low+j)).2.map V.int))):=gb s4 n1;have Yi:upd Nn f (.lst ((settle (bO ss) c.1 low (low+j)).2.map V.int)) lo=some (.lst ys):=by rw[ak nfl.symm];exact aaz
      have aoc:upd Nn f (.lst ((settle (bO ss) c.1 low (low+j)).2.map V.int)) th=some (.lst ((lY b (bO ss)).map V.bl)):=by rw[ak ntf];exact hth
      have aod:(settle (bO ss) c.1 low (low+j)).2.length=ss.length:=by rw[CW];exact hcl
      refine⟨fun bb H3=>bb = !(settle (bO ss) c.1 low (low+j)).1/\H3=upd Nn f (.lst ((settle (bO ss) c.1 low (low+j)).2.map V.int)),?_,?_⟩
      ·tm_up;rw[W' (show((low:Int)<((low+j:Nat):Int)) by omega)];refine cZ ?_;tm_up;refine⟨l,f,low,low+j,xs,ss,c.1,rfl,bh.of hl4,hg4,nlf,hf4,hcl,hlt2,by omega,?_⟩;tm_up;exact⟨rfl,rfl⟩
      ·rintro bb H3 ⟨rfl,rfl⟩;refine a9 (fun h=>?_) (fun h=>?_)
       ·have hst:(settle (bO ss) c.1 low (low+j)).1=false:=by
         cases e:(settle (bO ss) c.1 low (low+j)).1
         ·rfl
         ·rw[e]at h;cases h
        tm_up;refine⟨.inl ⟨rfl,_,bh.of Yi⟩,?_⟩;tm_up;refine⟨by show 2<=sizeLine;decide,fun z hz=>?_⟩;have sz:=aq.upd (o:=.tup [.int (low:Int),.int ((low+j:Nat):Int)]) hz;have aeR:=sz _ _ Yi;refine⟨_,_,_,rfl,rfl,aeR,by rw[ck hys];exact ba (by omega),?_⟩;refine⟨rfl,((settle (bO ss) c.1 low (low+j)).2,c.2++[(low,low+j)]),_,gb (s5.trans sz) ahJ,by rw[ak nfl];exact sz _ _ ah,ah,lF (sL aeR (uC sz (sL hf4 hys))) (XT aeR ⟨z,rfl,ah⟩),
         by rw[ak ntl];exact sz _ _ aoc,aod,by simp only [Z',List.length_singleton];omega,?_⟩
        rw[<-vf];unfold vL;rw[hst];rfl
       ·have hst:(settle (bO ss) c.1 low (low+j)).1=true:=by
         cases e:(settle (bO ss) c.1 low (low+j)).1
         ·rw[e]at h;exact P' rfl h
         ·rfl
        refine⟨rfl,((settle (bO ss) c.1 low (low+j)).2,c.2),ys,s5,ah,Yi,sL hf4 hys,aoc,aod,by show c.2.length+_<=401;omega,?_⟩;rw[<-vf];unfold vL;rw[hst];rfl
    ·rintro σ1 H1 ⟨rfl,c',ys',s6,hf6,aeR,aoe,aof,aog,adI,Uz⟩;tm_up;refine⟨_,_,rfl,?_⟩
     by_cases hj0:j=0
     ·subst hj0;have hbl:(lG b (bO ss))[low]? = some false:=by
       have h1:low<(lG b (bO ss)).length:=by rw[sJ,j'];exact hlt
       have h2:¬(lG b (bO ss))[low+0]? = some true:=fun z=>Nat.lt_irrefl _ (hla.mpr z);rw[Nat.add_zero,T' h1]at h2;rw[T' h1];cases e:(lG b (bO ss))[low]
       ·rfl
       ·rw[e]at h2;exact P' rfl h2
      rw[Nat.add_zero,rL hbl]at Uz adI;have er:gn low low (false::(lG b (bO ss)).drop (low+1))=gn (low+1) (low+1) ((lG b (bO ss)).drop (low+1)):=by
       show(if low<low then [(low,low)] else [])++gn (low+1) (low+1) ((lG b (bO ss)).drop (low+1))=_;rw[G' (Nat.lt_irrefl _),nil_append]
      rw[er]at Uz adI;have em:(if(low:Int)+1 > ((low+0:Nat):Int) then(low:Int)+1 else((low+0:Nat):Int))=((low+1:Nat):Int):=by rw[K' (by omega)];rfl
      rw[em];exact⟨ss.length-(low+1),by omega,low+1,_,c',ys',rfl,by omega,rfl,s6,hf6,aeR,aoe,aof,aog,adI,Uz⟩
     ·have em:(if(low:Int)+1 > ((low+j:Nat):Int) then(low:Int)+1 else((low+j:Nat):Int))=((low+j:Nat):Int):=by
       split <;> omega
      rw[em];exact⟨ss.length-(low+j),by omega,low+j,_,c',ys',rfl,by omega,rfl,s6,hf6,aeR,aoe,aof,aog,adI,Uz⟩
  ·have hlt:low=ss.length:=by
    have:¬ low<ss.length:=fun z=>h (W' (by omega));omega
   subst hlt;rw[List.drop_eq_nil_of_le (by rw[sJ,j'];exact Zi' _)]at vf;have e:c=mx b (bO ss):=by
    have:gn ss.length ss.length []=[]:=by unfold gn;rw[G' (Nat.lt_irrefl _)]
    rw[this]at vf;exact vf
   subst e;tm_up;refine⟨by show 2<=sizeLine;decide,fun z hz=>?_⟩;have sz:=aq.upd (o:=.tup [.ref f,.ref lo]) hz;exact q z f lo ys _ (s4.trans sz) n1 ahJ nfl ah (sz _ _ hf4) (sz _ _ aaz) (uC sz hys)
inductive GN (K:Frag)(vs:List V)(H:Hp)(Q:VK)(E:XK):Prop
 |mk (d:Addr) (vw:Vw) (n:Str) (th:Th) (eE:vs=[.ref d,.str n]) (eF:vO H d vw) (h8:zw vw) (lh:bc vw n=some th) (rJ:∀(l:Addr)(H':Hp),aq H H'->H' l=some (.lst ((ze vw n).map V.int))->Q (.ref l) H'):GN K vs H Q E
theorem UA (T:Txt K w mg t):bI P w K mg base lB (0+3) t.kx t.zY ["_law_voices","_law_name"] (GN K):=by
 have Av:=GK (P:=P) (base:=base) T;have Yl:=aeP (P:=P) (base:=base) T;refine T.qz.ok xN (fun vs H Q E h=>?_) (fun cdv A outer s H vs Q E hr h=>?_)
 ·obtain⟨_,_,_,_,rfl,_⟩:=h;rfl
 ·obtain⟨d,vw,n,th,rfl,hd,wv,hf,q⟩:=h;refine aX (af (aL (i:=2) xN.nd rfl (Or.inr rfl) (jU (kf hr) (pv 0) (pv 1) (fun _ _=>rfl))) (af (aL (i:=3) xN.nd rfl (Or.inl rfl) (aM Av (hr.mono (by decide)) rfl T.Gi T.mL.kp T.uR .nil aY (aa (pv 0) (aa (pv 1) ag)))) (af (aU (bA (aO dS rfl T.bu br (aa (pv 2) (aa (gB (v:=.ty "list") rfl T.je i0 rfl) ag)))) (aj (aw (aJ az (aM Yl (hr.mono (by decide)) rfl T.SM T.wQ.kp T.Gk .nil aY (aa (pv 3) (aa ai ag))) ai (fun _ _=>rfl)))) aB) (aj (aw (uy (cn:=["_law_worth"]) rfl (il.of rfl) (iX (aJ az (aM Yl (hr.mono (by decide)) rfl T.SM T.wQ.kp T.Gk .nil aY (aa (pv 3) (aa (cS (eM (bA (aJ az (pv 2) ai (fun _ _=>rfl))) ai ai)) ag))) ai (fun _ _=>rfl))) (fun _=>(bg (i:=0) OM rfl (Or.inl rfl))) (fun _=>zF) (fun _=>(aP (oF.or oG) (aJ az (pv 3) ai (fun _ _=>rfl)) (pv 0))))))))) ?_;obtain⟨v,hg,hv⟩:=hd.get hf;refine⟨_,rfl,_,rfl,d,v,rfl,hg,?_⟩;refine⟨_,rfl,_,rfl,d,vw,n,th,rfl,hd,wv,hf,fun l ys H1 s1 h1 g1=>?_⟩;cases th with
  |pl ss =>
   obtain⟨l0,ys0,rfl,h0,_⟩:=hv;have gl:=(wv.gd _ _ (dm hf)).1;rw[zP hf]at g1;tm_up;refine⟨_,_,_,_,rfl,jq.lst (s1 _ _ h0),rfl,_,rfl,cZ ?_⟩;refine⟨_,rfl,l,3,ys,ss,rfl,.inl rfl,h1,g1,by omega,fun p f lo zs H2 s2 _ _ _ hp hf2 _ _=>ix0 hp ?_⟩;exact q f H2 (s1.trans s2) (by rw[OA hf];exact hf2)
  |cn ld lt sl tn =>
   obtain⟨p,rfl,hp⟩:=hv;obtain⟨⟨ss,Rc⟩,lt0,lt1,sl0,sl1⟩:=wv.ld n ld lt sl tn (dm hf);have hfl:=wv.find Rc;have gl:=(wv.gd _ _ Rc).1;rw[zQ hf hfl]at g1;rw[OB hf hfl]at q;have gl2:(if tn=true then ss.map uH else ss).length<=400:=by
    split
    ·rw[j'];omega
    ·omega
   tm_up;refine⟨_,_,_,_,rfl,jq.tup (s1 _ _ hp),rfl,_,rfl,bZ ?_⟩;refine⟨_,rfl,?_⟩;refine⟨fun v H'=>v=.int (if tn=true then 2 else 3)/\H'=H1,?_,?_⟩
   ·refine⟨_,rfl,Uy (i:=3) (s1 _ _ hp) rfl ⟨_,rfl,?_⟩⟩;cases tn with
    |true=>exact cZ ⟨rfl,rfl⟩
    |false=>exact bZ ⟨rfl,rfl⟩
   intro v0 H0 ⟨e1,e2⟩;rw[e1,e2];have hMs:Ms (if tn=true then 2 else 3):=by cases tn;exact .inl rfl;exact .inr rfl
   refine⟨l,_,ys,_,rfl,hMs,h1,g1,gl2,fun p2 f lo zs H2 s2 _ _ _ hp2 hf2 _ _=>ix0 hp2 ?_⟩;generalize hW:(mx (if tn=true then 2 else 3) (bO (if tn=true then ss.map uH else ss))).1=W at q hf2;have hWl:W.length<=400:=by rw[<-hW,BP,j'];exact gl2
   refine⟨f,rfl,⟨_,bh.of hf2⟩,fun D' b' hD'=>?_⟩;have hpD:=s2 _ _ (s1 _ _ hp);refine mw (K:=K) (xs:=W.map V.int) (fun i ys' σ H'=>∃ v,σ=[v,some (.ref d),some (.str n),some (.ref p),some (.ref l)]/\H'=upd H2 D' (.lst ys')/\ys'=((W.take i).map fun w=>sl * w).map V.int) ⟨none,rfl,rfl,by simp⟩ ?_ ?_ ?_
   ·rintro i ys σ H' ⟨v,rfl,rfl,_⟩;exact kJ (bh.of hf2) hD'
   ·rintro i ys' y σ H' hy ⟨v,rfl,rfl,rfl⟩ N hN;obtain⟨z,hz,rfl⟩:=TN hy;have hi:i<W.length:=(S'.mp hz).1;refine lX ?_;refine⟨_,rfl,Uy (i:=2) (by rw[ak (ao hpD hD')];exact hpD) rfl ?_⟩;refine⟨_,rfl,.inl ⟨_,_,rfl,rfl,.inl ⟨by omega,by omega⟩,ah,?_,?_⟩⟩
    ·rw[j',j',Ze'];exact ba (by omega)
    ·refine hN _ _ _ ⟨_,rfl,eo,?_⟩;rw[take_succ,hz,map_append,map_append];rfl
   ·rintro ys' σ H' ⟨v,rfl,rfl,rfl⟩;rw[j',take_length];exact q D' _ ((s1.trans s2).trans (aq.upd hD')) ah
theorem adJ {K:Frag}{H:Hp}{a b:Addr}{ys:List V}(ha:bh K H a ys)(hb:bh K H b ys)(hf:∀ v∈ys,∃ x,v=.str x):Deq K H 60 (.ref a) (.ref b):=by
 refine .lst ha hb rfl fun i x y e1 e2=>?_;have e:x=y:=Zb' (e1.symm.trans e2);subst e;obtain⟨z,rfl⟩:=hf x (Za' e1);exact .flat rfl
theorem aoh {K:Frag}{H:Hp}{p p2:Addr}{ld:Str}{lt sl:Int}{tn:Bool}(n:Nat)(h1:H p=some (.tup [.str ld,.int lt,.int sl,.bl tn]))(h2:H p2=some (.tup [.str ld,.int lt,.int sl,.bl tn])):Deq K H (n+1) (.ref p) (.ref p2):=by
 refine .tup (vH.of h1) (vH.of h2) rfl fun i x y e1 e2=>?_;have e:x=y:=Zb' (e1.symm.trans e2);subst e
 match i,e1 with
 |0,e1=>cases e1;exact .flat rfl
 |1,e1=>cases e1;exact .flat rfl
 |2,e1=>cases e1;exact .flat rfl
 |3,e1=>cases e1;exact .flat rfl
 |n+4,e1=>simp at e1
theorem ahP {vw:Vw}(w:zw vw)(n:Str):(ze vw n).length<=400:=by
 cases hf:bc vw n with
 |none=>unfold ze;rw[hf];exact Zj' _
 |some th =>
  cases th with
  |pl ss =>
   rw[OA hf,BP,j'];have:=(w.gd _ _ (dm hf)).1;omega
  |cn ld lt sl tn =>
   obtain⟨⟨ss,Rc⟩,_⟩:=w.ld n ld lt sl tn (dm hf);rw[OB hf (w.find Rc),j',BP,j'];have:=(w.gd _ _ Rc).1;split
   ·rw[j'];omega
   ·omega
theorem ahQ {vw:Vw}(w:zw vw)(n:Str):(FE vw n).length<=200:=by
 cases hf:bc vw n with
 |none=>unfold FE;rw[hf];exact Zj' _
 |some th =>
  cases th with
  |pl ss =>
   rw[zP hf];exact(w.gd _ _ (dm hf)).1
  |cn ld lt sl tn =>
   obtain⟨⟨ss,Rc⟩,_⟩:=w.ld n ld lt sl tn (dm hf);rw[zQ hf (w.find Rc)];have:=(w.gd _ _ Rc).1;split
   ·rw[j'];exact this
   ·exact this
inductive MS (K:Frag)(c:Cs)(vs:List V)(H:Hp)(Q:VK)(E:XK):Prop
 |mk (x d:Addr) (F:Addr->Prop) (vw:Vw) (ps fs:List Vw) (eE:vs=[.ref x,.ref d]) (eF:xw c H x F vw ps fs) (h8:vO H d vw) (lh:∀ H',aq H H'->Q (.bl true) H'):MS K c vs H Q E
theorem Ym (T:Txt K w mg t):bI P w K mg base lB (0+8) t.l9 t.C8 ["_law_book","_law_voices"] (MS K (cs t)):=by
 have kY:=vS (P:=P) (base:=base) T;have di:=jG (P:=P) (base:=base) T;have aeS:=aax (P:=P) (base:=base) T;have ahR:=aeK (P:=P) (base:=base) T;have kG:=rX (P:=P) (base:=base) T;have iV:=rW (P:=P) (base:=base) T;have Av:=GK (P:=P) (base:=base) T;have Yn:=UA (P:=P) (base:=base) T;have sA:=Du (P:=P) (base:=base) T;refine T.tI.ok uJ (fun vs H Q E h=>?_) (fun cdv A outer s H vs Q E hr h=>?_)
 ·obtain⟨_,_,_,_,_,_,rfl,_⟩:=h;rfl
 ·obtain⟨x,d,F,vw,ps,fs,rfl,B,hd,q⟩:=h;refine aX (af (aL (i:=2) uJ.nd rfl (Or.inl rfl) (sG (pv 0) T.aT T.qg kY (hr.mono (by decide)) T.kQ .nil aY)) (af (aU (cz (PW.pt (mv (dw (bA (aO dS rfl T.bu br (aa (pv 2) (aa (gB (v:=.ty "list") rfl T.je i0 rfl) ag))))) (j9 (au (wd.or (oH (aC hr))) (pv 2) (gq xG rfl T.je i0 (aa (pv 1) ag)) (aA _)))))) (aj (aw ik)) aB) (af (a8 (Tz Yc' PySem.F.slot_list_reverse PySem.F.type_list_reverse ZH (pv 2))) (af (a8 (ke Yc' Yd' Ye' bW (pv 2) (aa aD ag))) (af (aU (au (wd.or (oH (aC hr))) (sG (pv 0) T.aT T.qg kY (hr.mono (by decide)) T.kQ .nil aY) (gq xG rfl T.je i0 (aa (pv 1) ag)) (aA _)) (aj (aw ik)) aB) (af (kc PassesOwn.never rfl (iX (gq xG rfl T.je i0 (aa (pv 1) ag))) (bg (i:=3) uJ.nd rfl (Or.inl rfl)) (af (a8 (ke Yc' Yd' Ye' bW (lL (pv 0) T.aT T.rV kG (hr.mono (by decide)) T.mK .nil XH (aa (pv 3) ag)) (aa ai ag))) (af (a8 (ke Yc' Yd' Ye' bW (lL (pv 0) T.aT T.kS iV (hr.mono (by decide)) T.iU .nil XH (aa (pv 3) ag)) (aa (cw (aa aD (aa ai ag))) ag))) (af (aU (dw (bA (aM aeS (hr.mono (by decide)) rfl T.aah T.wJ.kp T.JC .nil aY (aa (lL (pv 0) T.aT T.kS iV (hr.mono (by decide)) T.iU .nil XH (aa (pv 3) ag)) (aa (aM Av (hr.mono (by decide)) rfl T.Gi T.mL.kp T.uR .nil aY (aa (pv 1) (aa (pv 3) ag))) ag))))) (aj (aw ik)) aB) (af (aU (dw (bA (aM ahR (hr.mono (by decide)) rfl T.aeD T.Ah.kp T.O0 .nil aY (aa (lL (pv 0) T.aT T.rV kG (hr.mono (by decide)) T.mK .nil XH (aa (pv 3) ag)) (aa (aM Yn (hr.mono (by decide)) rfl T.Ui T.qz.kp T.Aj .nil aY (aa (pv 1) (aa (pv 3) ag))) ag))))) (aj (aw ik)) aB) (af (aL (i:=4) uJ.nd rfl (Or.inl rfl) (lL (pv 0) T.aT T.jE di (hr.mono (by decide)) T.gK .nil XH (aa (pv 3) ag))) (aj (aU (bA (aO dS rfl T.bu br (aa (jU (kf hr) (pv 1) (pv 3) (fun _ _=>rfl)) (aa (gB (v:=.ty "list") rfl T.je i0 rfl) ag)))) (aj (aU (au Ts (pv 4) jH (aA _)) (aj (aw ik)) aB)) (aj (aU (cz (PW.pt (mv (dw (bA (aO dS rfl T.bu br (aa (pv 4) (aa (gB (v:=.ty "tuple") rfl T.O7 N8 rfl) ag))))) (mv (au (wd.or (oH (aC hr))) (aO (aQ.or aR) rfl T.cA cy (aa (pv 4) ag)) ai (aA _)) (j9 (au (wd.or (oH (aC hr))) (pv 4) (jU (kf hr) (pv 1) (pv 3) (fun _ _=>rfl)) (aA _))))))) (aj (aw ik)) (aj (aU (cz (PW.pt (mv (dw (bA (aM sA (hr.mono (by decide)) rfl T.x3 T.mJ.kp T.sy .nil aY (aa (aJ az (pv 4) ai (fun _ _=>rfl)) ag)))) (mv (dw (bA (aM sA (hr.mono (by decide)) rfl T.x3 T.mJ.kp T.sy .nil aY (aa (aJ az (pv 4) ai (fun _ _=>rfl)) ag)))) (j9 (dw (bA (aO dS rfl T.bu br (aa (aJ az (pv 4) ai (fun _ _=>rfl)) (aa (gB (v:=.ty "bool") rfl T.adB adm rfl) ag)))))))))) (aj (aw ik)) aB)))))))))))) (aj (aw ik)))))))) ?_;have wv:=B.wv vw (.inr (.inl rfl));have hx:∃ dx L D U,H x=some (.ins t.bp dx (Fn L D U)):=by
   obtain⟨L,D,U,all,M,Ps,Fs,es,us,b,_⟩:=B.ex;obtain⟨dx,e⟩:=b.hx;exact⟨dx,L,D,U,e⟩
  obtain⟨dx,L,D,U,hx⟩:=hx;have wl:=wv.len;have hstr:∀ v∈vw.map (fun q=>V.str q.1),∃ z,v=.str z:=fun v hv=>by
   obtain⟨q,_,e⟩:=mem_map.mp hv;exact⟨_,e.symm⟩
  refine⟨_,rfl,x,dx,_,rfl,hx,rM _ _ _,x,F,vw,ps,fs,rfl,B,fun l1 H1 nl1 s1 h1=>?_⟩;obtain⟨kvs,hk,ek⟩:=hd.keys;refine⟨fun b H'=>b=false/\aq H1 H',?_,?_⟩
  ·tm_up;refine⟨_,_,_,_,rfl,jq.lst h1,rfl,_,rfl,bZ ?_⟩;refine⟨_,rfl,_,rfl,rfl,d,kvs,rfl,.inl (s1 _ _ hk),fun l2 hl2=>?_⟩;have s2:=aq.upd (o:=.lst (kvs.map fun kv=>kV kv.1)) hl2;have h2:=ah (H:=H1) (a:=l2) (o:=.lst (kvs.map fun kv=>kV kv.1));rw[ek]at s2 h2 ⊢;refine .inr ⟨l1,l2,rfl,rfl,adJ (bh.of (s2 _ _ h1)) (bh.of h2) hstr,?_⟩;exact⟨_,rfl,rfl,s2⟩
  rintro b H2 ⟨rfl,s2⟩;refine bZ ?_;have h12:=s2 _ _ h1;refine⟨_,rfl,.inl ⟨rfl,_,bh.of h12⟩,l1,_,rfl,rfl,h12,?_⟩;have s3:aq H (upd H2 l1 (.lst (vw.map fun a=>V.str a.1).reverse)):=gb (s1.trans s2) nl1;have h3:=ah (H:=H2) (a:=l1) (o:=.lst (vw.map fun a=>V.str a.1).reverse);generalize upd H2 l1 (.lst (vw.map fun a=>V.str a.1).reverse)=H3 at s3 h3;refine⟨_,rfl,.inl ⟨rfl,_,bh.of h3⟩,l1,_,_,rfl,rfl,h3,ba (by rw[List.length_reverse,j'];omega),?_⟩;have s4:aq H (upd H3 l1 (.lst ((vw.map fun a=>V.str a.1).reverse++[V.str "x"]))):=gb s3 nl1;generalize upd H3 l1 (.lst ((vw.map fun a=>V.str a.1).reverse++[V.str "x"]))=H4 at s4;refine⟨_,rfl,x,dx,_,rfl,s4 _ _ hx,rM _ _ _,x,F,vw,ps,fs,rfl,B.same s4,fun l5 H5 nl5 s5 h5=>?_⟩;refine⟨_,rfl,rfl,d,kvs,rfl,.inl (s5 _ _ (s4 _ _ hk)),fun l6 hl6=>?_⟩;have s6:=aq.upd (o:=.lst (kvs.map fun kv=>kV kv.1)) hl6;have h6:=ah (H:=H5) (a:=l6) (o:=.lst (kvs.map fun kv=>kV kv.1));rw[ek]at s6 h6 ⊢;refine .inr ⟨l5,l6,rfl,rfl,adJ (bh.of (s6 _ _ h5)) (bh.of h6) hstr,?_⟩;refine⟨_,rfl,bZ ?_⟩;have S6:=(s4.trans s5).trans s6;generalize upd H5 l6 (.lst (vw.map fun q=>V.str q.1))=H6 at S6;refine⟨_,rfl,rfl,d,kvs,rfl,.inl (S6 _ _ hk),fun l7 hl7=>?_⟩;have s7:=aq.upd (o:=.lst (kvs.map fun kv=>kV kv.1)) hl7;have h7:=ah (H:=H6) (a:=l7) (o:=.lst (kvs.map fun kv=>kV kv.1));rw[ek]at s7 h7 ⊢;have S7:=S6.trans s7;generalize upd H6 l7 (.lst (vw.map fun q=>V.str q.1))=H7 at S7 h7;refine⟨l7,rfl,⟨_,bh.of h7⟩,sE (K:=K) (xs:=vw.map fun q=>V.str q.1) (fun i σ H'=>∃(u v:Option V),σ=[some (.ref x),some (.ref d),some (.ref l1),u,v]/\aq H7 H') ⟨none,none,rfl,aq.refl _⟩ ?_ ?_ ?_⟩
  ·rintro i σ H' _ ⟨u,v,rfl,s8⟩;exact bh.of (s8 _ _ h7)
  ·rintro i y σ H8 hy ⟨u,v,rfl,s8⟩;obtain⟨qn,hq,rfl⟩:∃ qn,vw[i]? = some qn/\y=.str qn.1:=by
    rw[Zf']at hy;cases e:vw[i]? with
    |none=>rw[e]at hy;cases hy
    |some z=>rw[e]at hy;exact⟨z,rfl,(Zb' hy).symm⟩
   obtain⟨n,th⟩:=qn;have hf:=wv.find (Za' hq);have kl:=ahP wv n;have ll:=ahQ wv n;have S8:=S7.trans s8;have B8:=B.same S8;have hd8:=hd.same S8;refine⟨_,rfl,x,dx,_,rfl,S8 _ _ hx,zN _ _ _,_,rfl,x,F,vw,ps,fs,n,rfl,B8,?_⟩;rw[hf];intro k1 H9 nk1 s9 hk1;refine⟨.inl ⟨rfl,_,bh.of hk1⟩,k1,_,_,rfl,rfl,hk1,ba (by rw[j'];omega),?_⟩;have s10:aq H8 (upd H9 k1 (.lst ((ze vw n).map V.int++[V.int 7]))):=gb s9 nk1;generalize upd H9 k1 (.lst ((ze vw n).map V.int++[V.int 7]))=H10 at s10;have B10:=B8.same s10;refine⟨_,rfl,x,dx,_,rfl,s10 _ _ (S8 _ _ hx),my _ _ _,_,rfl,x,F,vw,ps,fs,n,rfl,B10,?_⟩;rw[hf];intro l11 aoi H11 aqs s11 h11 g11;have y11:=ck g11;refine⟨.inl ⟨rfl,_,bh.of h11⟩,(by show 2<=sizeLine;decide),fun tp htp=>?_⟩;have st:=aq.upd (o:=.tup [V.str "R",V.int 0]) htp;refine⟨l11,_,_,rfl,rfl,st _ _ h11,ba (by omega),?_⟩;have s12:aq H10 (upd (upd H11 tp (.tup [V.str "R",V.int 0])) l11 (.lst (aoi++[.ref tp]))):=gb (s11.trans st) aqs;generalize upd (upd H11 tp (.tup [V.str "R",V.int 0])) l11 (.lst (aoi++[.ref tp]))=H12 at s12;have S12:=s10.trans s12;have B12:=B8.same S12;have aqt:=hd8.same S12;refine⟨_,rfl,x,dx,_,rfl,S12 _ _ (S8 _ _ hx),my _ _ _,_,rfl,x,F,vw,ps,fs,n,rfl,B12,?_⟩;rw[hf];intro l13 aqu H13 as1 s13 h13 g13;refine⟨_,rfl,_,rfl,d,vw,n,th,rfl,aqt.same s13,wv,hf,fun l14 aqv H14 s14 h14 g14=>?_⟩;refine⟨l13,l14,aqu,aqv,FE vw n,rfl,s14 _ _ h13,bh.of h14,g13.same s14,g14,fun H15 s15=>?_⟩;refine⟨_,rfl,bZ ?_⟩;have S15:=((S12.trans s13).trans s14).trans s15;have B15:=B8.same S15;refine⟨_,rfl,x,dx,_,rfl,S15 _ _ (S8 _ _ hx),zN _ _ _,_,rfl,x,F,vw,ps,fs,n,rfl,B15,?_⟩;rw[hf];intro k16 H16 as7 s16 h16;refine⟨_,rfl,_,rfl,d,vw,n,th,rfl,(hd8.same S15).same s16,wv,hf,fun l17 H17 s17 h17=>?_⟩;refine⟨k16,l17,ze vw n,ze vw n,rfl,s17 _ _ h16,bh.of h17,by omega,?_⟩;rw[W' rfl];refine⟨_,rfl,bZ ?_⟩;have S17:=(S15.trans s16).trans s17;have B17:=B8.same S17;have aqz:=hd8.same S17;have fin:∀{u v:Option V},∃(u' v':Option V),[some (V.ref x),some (V.ref d),some (V.ref l1),u,v]=[some (V.ref x),some (V.ref d),some (V.ref l1),u',v']/\aq H7 H17:=⟨_,_,rfl,s8.trans S17⟩;obtain⟨v18,amd,aok⟩:=aqz.get hf;refine⟨_,rfl,x,dx,_,rfl,S17 _ _ (S8 _ _ hx),kK _ _ _,_,rfl,x,F,vw,ps,fs,n,rfl,B17,?_⟩;rw[hf];cases th with
   |pl ss =>
    obtain⟨l0,ys0,rfl,h0,_⟩:=aok;refine⟨_,rfl,_,rfl,d,_,rfl,amd,?_⟩;refine⟨_,_,_,_,rfl,jq.lst h0,rfl,_,rfl,cZ ?_⟩;refine⟨_,rfl,rfl,_,rfl,?_⟩;exact a9 (fun h=>P' h (by decide)) (fun _=>fin)
   |cn ld lt sl tn =>
    intro p hp;obtain⟨p2,rfl,hp2⟩:=aok;refine⟨_,rfl,_,rfl,d,_,rfl,amd,?_⟩;refine⟨_,_,_,_,rfl,jq.tup hp2,rfl,_,rfl,bZ ?_⟩;refine⟨fun b H'=>b=false/\H'=H17,?_,?_⟩
    ·tm_up;refine⟨_,_,_,_,rfl,jq.tup hp,rfl,_,rfl,bZ ?_⟩;refine⟨_,rfl,.inl ⟨p,_,rfl,.inr (vH.of hp),?_⟩⟩;refine .inl ⟨rfl,_,rfl,bZ ?_⟩;refine⟨_,rfl,_,rfl,_,rfl,d,_,rfl,amd,.inr ⟨p,p2,rfl,rfl,aoh 59 hp hp2,?_⟩⟩;exact⟨_,rfl,rfl,rfl⟩
    intro b H18 ⟨e1,e2⟩;rw[e1,e2];refine bZ ?_;refine⟨fun b H'=>b=false/\H'=H17,?_,?_⟩
    ·refine⟨_,rfl,Uy (i:=1) hp rfl ⟨lt,rfl,_,rfl,bZ ?_⟩⟩;refine⟨_,rfl,Uy (i:=2) hp rfl ⟨sl,rfl,_,rfl,bZ ?_⟩⟩;refine⟨_,rfl,Uy (i:=3) hp rfl ?_⟩;exact⟨_,_,_,_,rfl,jq.bl _,rfl,_,rfl,rfl,rfl⟩
    intro b H18 ⟨e1,e2⟩;rw[e1,e2];refine bZ ?_;exact fin
  ·rintro σ H' ⟨u,v,rfl,s8⟩;exact q _ (S7.trans s8)
theorem zR.write {H:Hp}{l:Addr}{xs:List V}{o:HO}(hl:H l=some (.lst xs)){y:V}{d:De}(h:zR H y d):zR (upd H l o) y d:=by
 obtain⟨p,ps,e,h1,h2⟩:=h;exact⟨p,ps,e,by rw[ak (lg h1 hl (by intro z;cases z))];exact h1,by rw[ak (lg h2 hl (by intro z;cases z))];exact h2⟩
def lK (H:Hp)(xs:List V)(qj:List De):Prop:=Paired (zR H) xs qj/\∀ d∈qj,Z2 d
theorem lK.same {H H':Hp}(s:aq H H'){xs:List V}{qj:List De}(h:lK H xs qj):lK H' xs qj:=⟨cK (fun _ _ q=>q.same s) h.1,h.2⟩
theorem lK.write {H:Hp}{l:Addr}{zs:List V}{o:HO}(hl:H l=some (.lst zs)){xs:List V}{qj:List De}(h:lK H xs qj):lK (upd H l o) xs qj:=⟨cK (fun _ _ q=>q.write hl) h.1,h.2⟩
theorem lK.snoc {H:Hp}{xs:List V}{qj:List De}{v:V}{d:De}(h:lK H xs qj)(e:zR H v d)(ok:Z2 d):lK H (xs++[v]) (qj++[d]):=⟨lF h.1 e,fun x hx=>by
 rcases Zk'.mp hx with hx|hx
 ·exact h.2 x hx
 ·rw[Zg'.mp hx];exact ok⟩
theorem lK.app {H:Hp}{xs ys:List V}{qj dfs:List De}(h:lK H xs qj)(k:lK H ys dfs):lK H (xs++ys) (qj++dfs):=⟨IV h.1 k.1,fun x hx=>by
 rcases Zk'.mp hx with hx|hx
 ·exact h.2 x hx
 ·exact k.2 x hx⟩
theorem lK.nil {H:Hp}:lK H [] []:=⟨.nil,fun _ h=>nomatch h⟩
def nm3:List Str:=["ann","cy","bo"]
theorem ajK {n:Str}(h:n∈nm3):n.length<=1000:=by
 have:nm3.all (fun n=>decide (n.length<=1000))=true:=by lk
 exact U' (all_eq_true.mp this n h)
theorem e00:(Str.ofString "").length<=1000:=by lk
theorem es0:Str.ofString "s" ∈ qe:=by lk
inductive Pq (vs:List V)(H:Hp)(Q:VK)(E:XK):Prop
 |mk (c:Int) (eE:vs=[.int c]) (eF:∀(l:Addr)(xs:List V)(qj:List De)(H':Hp),H l=none->aq H H'->H' l=some (.lst xs)->lK H' xs qj->qj.length<=3->Q (.ref l) H'):Pq vs H Q E
theorem aaC (T:Txt K w mg t):bI P w K mg base lB (0+1) t.oW t.Jt ["_law_cell"] Pq:=by
 refine T.wR.ok OH (fun vs H Q E h=>?_) (fun cdv A outer s H vs Q E hr h=>?_)
 ·obtain⟨_,rfl,_⟩:=h;rfl
 ·obtain⟨c,rfl,q⟩:=h;refine aX (af (aL (i:=1) OH.nd rfl (Or.inl rfl) (qm (uw.or (zC.or zG)) (bN (aa aD (aa aD (aa aD ag)))) uv (lM (aP dy (pv 0) ai)))) (aj (aw (uy (cn:=["_law_name"]) rfl (il.of rfl) (iX (pv 1)) (fun _=>(bg (i:=0) Ua rfl (Or.inl rfl))) (fun _=>zF) (fun _=>(cw (aa aD (aa (pv 0) (aa aD (aa ai (aa (cw (aa aD (aa ai ag))) (aa ai (aa ai (aa ik ag)))))))))))))) ?_;refine⟨by show 3<=sizeLine;decide,fun m0 hm0=>?_⟩;have e3:[V.str "ann",V.str "cy",V.str "bo"]=nm3.map V.str:=rfl;rw[e3];have S1:=aq.upd (o:=.lst (nm3.map V.str)) hm0;have k1:=ah (H:=H) (a:=m0) (o:=.lst (nm3.map V.str));generalize upd H m0 (.lst (nm3.map V.str))=H1 at S1 k1;tm_up;obtain⟨m,hm,hm4⟩:=Ro c (k:=4) (by decide);rw[hm];refine .inl ⟨m0,_,rfl,bh.of k1,fun m1 hm1=>?_⟩;rw[ahn,<-List.map_take];have S2:=aq.upd (o:=.lst ((nm3.take m).map V.str)) hm1;have k2:=ah (H:=H1) (a:=m1) (o:=.lst ((nm3.take m).map V.str));generalize upd H1 m1 (.lst ((nm3.take m).map V.str))=H2 at S2 k2;have S12:=S1.trans S2;have l3:(nm3.take m).length<=3:=by rw[Ze'];show min m 3<=3;omega
  refine⟨_,rfl,m1,rfl,⟨_,bh.of k2⟩,fun D b hD=>?_⟩;refine mw (K:=K) (xs:=(nm3.take m).map V.str) (fun i ys σ H'=>∃(v:Option V)(qj:List De),σ=[v,some (.int c),some (.ref m1)]/\aq H2 H'/\H' D=some (.lst ys)/\lK H' ys qj/\qj.length=i) ⟨none,[],rfl,aq.upd hD,ah,lK.nil,rfl⟩ ?_ ?_ ?_
  ·rintro i ys σ H' ⟨v,qj,rfl,s2,_⟩;exact bh.of (s2 _ _ k2)
  ·rintro i ys y σ H' hy ⟨v,qj,rfl,s2,hDl,dd,dl⟩ N hN;obtain⟨n,hn,rfl⟩:∃ n,n∈nm3/\y=.str n:=by
    rw[Zf']at hy;cases e:(nm3.take m)[i]? with
    |none=>rw[e]at hy;cases hy
    |some z=>rw[e]at hy;exact⟨z,List.mem_of_mem_take (Za' e),(Zb' hy).symm⟩
   have hi:i<(nm3.take m).length:=by
    have:=(S'.mp hy).1
    rwa [j']at this
   have yl:=ck dd.1;refine lX ?_;refine⟨_,rfl,by show 2<=sizeLine;decide,fun p0 hp0=>?_⟩;have S3:=aq.upd (o:=.tup [V.str "s",V.int 0]) hp0;have k3:=ah (H:=H') (a:=p0) (o:=.tup [V.str "s",V.int 0]);generalize upd H' p0 (.tup [V.str "s",V.int 0])=H3 at S3 k3;refine⟨by show 8<=sizeLine;decide,fun p1 hp1=>?_⟩;have S4:=aq.upd (o:=.tup [V.str "add",V.str n,V.str "",V.int 0,V.ref p0,V.int 0,V.int 1,V.bl false]) hp1;have k4:=ah (H:=H3) (a:=p1) (o:=.tup [V.str "add",V.str n,V.str "",V.int 0,V.ref p0,V.int 0,V.int 1,V.bl false]);generalize upd H3 p1 (.tup [V.str "add",V.str n,V.str "",V.int 0,V.ref p0,V.int 0,V.int 1,V.bl false])=H4 at S4 k4;have S34:=S3.trans S4;refine⟨S34 _ _ hDl,ba (by omega),hN _ _ _ ⟨_,qj++[⟨.add,n,"",0,("s",0),0,1,false⟩],rfl,gb (s2.trans S34) hD,ah,?_,by rw[Z',dl];rfl⟩⟩;refine lK.write (S34 _ _ hDl) (lK.snoc (dd.same S34) ⟨p1,p0,rfl,k4,S4 _ _ k3⟩ ⟨ajK hn,e00,es0,all_eq_true.mp (by lk:nm3.all noX=true) _ hn⟩)
  ·rintro ys σ H' ⟨v,qj,rfl,s2,hDl,dd,dl⟩;rw[j']at dl;exact q D ys qj H' (S12.free hD) (S12.trans s2) hDl dd (by omega)
def CF (ns:List Int)(k:Nat):Int:=ns.getD k 0
inductive GO (K:Frag)(vs:List V)(H:Hp)(Q:VK)(E:XK):Prop
 |mk (a:Addr) (ns:List Int) (k:Nat) (eE:vs=[.ref a,.int (k:Int)]) (eF:bh K H a (ns.map V.int)) (h8:ns.length<=63) (lh:Q (.int (CF ns k)) H):GO K vs H Q E
theorem GP (T:Txt K w mg t):bI P w K mg base lB (0+1) t.ky t.zZ ["_law_script","_law_k"] (GO K):=by
 refine T.gN.ok T7 (fun vs H Q E h=>?_) (fun cdv A outer s H vs Q E hr h=>?_)
 ·obtain⟨a,ns,k,rfl,_⟩:=h;rfl
 ·obtain⟨a,ns,k,rfl,hS,hl,q⟩:=h;refine aX (af (aU (au rE (pv 1) (aO (ad3 rfl) rfl T.alY alo (aa ai (aa (aO (aQ.or aR) rfl T.cA cy (aa (pv 0) ag)) ag))) (aA _)) (aj (aw (aJ az (pv 0) (pv 1) (fun _ _=>rfl)))) aB) (aj (aw ai))) ?_;refine⟨_,rfl,_,rfl,.inl ⟨_,_,rfl,.inl hS,_,_,rfl,_,_,rfl,rfl,_,rfl,?_⟩⟩;rw[j'];refine a9 (fun h=>?_) (fun h=>?_)
  ·have hk:k<ns.length:=by
    have:=U' h;split at this <;> omega
   have e:(ns.map V.int)[k]? = some (V.int (CF ns k)):=by
    rw[Zf',T' hk];unfold CF;rw[List.getD_eq_getElem?_getD,T' hk];rfl
   exact⟨_,rfl,_,rfl,.inl ⟨_,_,_,_,rfl,rfl,hS,Fu e,q⟩⟩
  ·have hk:ns.length<=k:=by
    have h':¬((k:Int)<if(ns.length:Int)<63 then(ns.length:Int) else 63):=fun z=>h (W' z);split at h' <;> omega
   have e:CF ns k=0:=by
    unfold CF;rw[List.getD_eq_getElem?_getD,List.getElem?_eq_none hk];rfl
   rw[e]at q;exact q
def l24:List Kd:=[.G,.G,.G,.G,.G,.s,.s,.s,.s,.s,.s,.s,.s,.s,.d,.d,.r,.r,.D,.R,.dot,.dot,.three,.two]
theorem aol:(Str.ofString "GGGGGsssssssssddrrDR..32").cps.toList=l24.map Kd.cp:=by lk
theorem xh (k:Kd):Rl k.str "GDsd"=k.sI:=by cases k <;> decide +kernel
inductive GQ (vs:List V)(H:Hp)(Q:VK)(E:XK):Prop
 |mk (m:Int) (eE:vs=[.int m]) (eF:∀(p:Addr)(s:Sg),Oy s->H p=none->Q (.ref p) (upd H p (.tup [.str s.1.str,.int s.2]))):GQ vs H Q E
theorem UB (T:Txt K w mg t):bI P w K mg base lB (0+1) t.kz t.z0 ["_law_number"] GQ:=by
 refine T.qA.ok FJ (fun vs H Q E h=>?_) (fun cdv A outer s H vs Q E hr h=>?_)
 ·obtain⟨_,rfl,_⟩:=h;rfl
 ·obtain⟨m,rfl,q⟩:=h;refine aX (af (aL (i:=1) FJ.nd rfl (Or.inl rfl) (aJ az aD (aP dy (pv 0) ai) (fun _ _=>rfl))) (af (aU (au (cW.or cV) (pv 1) aD rfl) (aj (aw (cw (aa (pv 1) (aa (aP dy (aP gC (pv 0) ai) ai) ag))))) aB) (aj (aw (cw (aa (pv 1) (aa ai ag))))))) ?_;obtain⟨k,hk⟩:∃ k,l24[(m % 24).toNat]? = some k:=by
   have h1:(m % 24).toNat<l24.length:=by
    show _<24;omega
   exact⟨_,T' h1⟩
  have hat:atI (Str.ofString "GGGGGsssssssssddrrDR..32").cps.toList (m % 24)=some k.cp:=by
   have e0:m % 24=(((m % 24).toNat:Nat):Int):=by omega
   rw[e0,aol];exact Fu (by rw[Zf',hk];rfl)
  refine⟨_,rfl,_,_,rfl,rfl,(by decide:(0:Int)<24),.inr (.inr ⟨_,_,_,rfl,rfl,(by lk),hat,?_⟩)⟩;rw[<-anK k];tm_up;refine a9 (fun h=>?_) (fun h=>?_)
  ·have h4:k.sI=true:=by rw[<-xh];exact h
   tm_up;refine⟨(by show 2<=sizeLine;decide),fun p hp=>?_⟩;exact q p (k,m / 24 % 100) ⟨fun _=>by show 0<=m / 24 % 100/\m / 24 % 100<100;omega,fun z=>by rw[h4]at z;cases z⟩ hp
  ·have h4:k.sI=false:=by
    rw[<-xh];exact Y'.mpr h
   tm_up;refine⟨(by show 2<=sizeLine;decide),fun p hp=>?_⟩;exact q p (k,0) ⟨(fun z=>by rw[h4]at z;cases z),fun _=>rfl⟩ hp
theorem ahS {a b:TS}{D:Ends}{σ:St}{H:Hp}{rt:VK}{bk ct:St->Hp->Prop}(h:aiX a b D σ H):Ends.nx { nx:=aiX a b D,rt:=rt,bk:=bk,ct:=ct } σ H:=h
def JT:List Str:=["ann","bo","cy","dora","a","zzzzzzzz","ann","Ann","","toolongby"]
theorem Yo {n:Str}(h:n∈JT):n.length<=1000:=by
 have:JT.all (fun n=>decide (n.length<=1000))=true:=by lk
 exact U' (all_eq_true.mp this n h)
def aeT:List Wy:=[.put,.put,.put,.put,.put,.swap,.swap,.cut,.cut,.add,.canon,.canon,.drop,.undo,.undo,.xJ]
theorem strAtD {l:List Str}{m:Nat}(h:m<l.length):∃ n,n∈l/\(l.map V.str)[m]? = some (.str n):=⟨l[m],List.getElem_mem h,by rw[Zf',T' h];rfl⟩
theorem aom (k:Kd):k.str∈qe:=by
 have:qe.contains k.str=true:=by cases k <;> decide +kernel
 exact List.contains_iff_mem.mp this
inductive GR (vs:List V)(H:Hp)(Q:VK)(E:XK):Prop
 |mk (m:Int) (eE:vs=[.int m]) (eF:∀(p:Addr)(de:De)(H':Hp),aq H H'->zR H' (.ref p) de->Z2 de->Q (.ref p) H'):GR vs H Q E
set_option maxHeartbeats 8000000 in
theorem UC (T:Txt K w mg t):bI P w K mg base lB (0+2) t.kA t.z9 ["_law_number"] GR:=by
 have Yp:=UB (P:=P) (base:=base) T;refine T.mM.ok cu (fun vs H Q E h=>?_) (fun cdv A outer s H vs Q E hr h=>?_)
 ·obtain⟨_,rfl,_⟩:=h;rfl
 ·obtain⟨m,rfl,q⟩:=h;obtain⟨zk,zm⟩:∃ v:List (Str×Pos),v=zU:=⟨_,rfl⟩;obtain⟨zo,zp⟩:∃ v:List (Str×Pos),v=kr:=⟨_,rfl⟩;have hbody:ax bS=Stmt.Assign [Expr.Name "_law_names" ⟨324,4,324,14⟩] (Expr.List (zk.map fun c=>Expr.Constant (.str c.1) 0 c.2) ⟨324,17,324,92⟩) ⟨324,4,324,92⟩::Stmt.Assign [Expr.Name "_law_ways" ⟨325,4,325,13⟩] (Expr.List (zo.map fun c=>Expr.Constant (.str c.1) 0 c.2) ⟨325,16,325,114⟩) ⟨325,4,325,114⟩::(ax bS).getD 2 (.Pass ⟨0,0,0,0⟩)::(ax bS).getD 3 (.Pass ⟨0,0,0,0⟩)::(ax bS).getD 4 (.Pass ⟨0,0,0,0⟩)::(ax bS).getD 5 (.Pass ⟨0,0,0,0⟩)::(ax bS).getD 6 (.Pass ⟨0,0,0,0⟩)::(ax bS).getD 7 (.Pass ⟨0,0,0,0⟩)::(ax bS).getD 8 (.Pass ⟨0,0,0,0⟩)::(ax bS).getD 9 (.Pass ⟨0,0,0,0⟩)::(ax bS).getD 10 (.Pass ⟨0,0,0,0⟩)::alK ((ax bS).getD 11 (.Pass ⟨0,0,0,0⟩)) iF::(ax bS).drop 12:=by subst zm;subst zp;unfold iF;rfl
  rw[hbody];refine aX (af (XB (i:=1) zk cu.nd rfl (Or.inl rfl)) (af (XB (i:=2) zo cu.nd rfl (Or.inl rfl)) (af (aL (i:=3) cu.nd rfl (Or.inl rfl) (aJ az (aP (b7.or (aV.or b8)) (pv 2) (bN (aa aD (aa aD (aa aD ag))))) (aP dy (pv 0) ai) (fun _ _=>rfl))) (af (aL (i:=0) cu.nd rfl (Or.inl rfl) (aP gC (pv 0) ai)) (af (aL (i:=4) cu.nd rfl (Or.inl rfl) (aJ az (pv 1) (aP dy (pv 0) ai) (fun _ _=>rfl))) (af (gp (aU (au (bj.or (aW (aC hr))) (aP dy (aP gC (pv 0) ai) ai) ai (aA _)) (aj (aL (i:=4) cu.nd rfl (Or.inl rfl) (aJ az (pv 1) (aP dy (aP gC (pv 0) ai) ai) (fun _ _=>rfl)))) aB)) (af (aL (i:=0) cu.nd rfl (Or.inl rfl) (aP gC (pv 0) ai)) (af (aL (i:=5) cu.nd rfl (Or.inl rfl) (aJ az (pv 1) (aP dy (pv 0) ai) (fun _ _=>rfl))) (af (gp (aU (au (bj.or (aW (aC hr))) (aP dy (aP gC (pv 0) ai) ai) ai (aA _)) (aj (aL (i:=5) cu.nd rfl (Or.inl rfl) (aJ az (pv 1) (aP dy (aP gC (pv 0) ai) ai) (fun _ _=>rfl)))) aB)) (af (aL (i:=0) cu.nd rfl (Or.inl rfl) (aP gC (pv 0) ai)) (af (aL (i:=6) cu.nd rfl (Or.inl rfl) (aM Yp (hr.mono (by decide)) rfl T.Uj T.qA.kp T.Ak .nil aY (aa (pv 0) ag))) (af (gp (aU (au (bj.or (aW (aC hr))) (aP dy (aP gC (pv 0) ai) ai) ai (aA _)) (aj (aL (i:=6) cu.nd rfl (Or.inl rfl) (aJ az OR (aP dy (aP gC (pv 0) ai) ai) (fun _ _=>rfl)))) aB)) (af (aL (i:=7) cu.nd rfl (Or.inl rfl) (aP iY (aP dy (aP gC (pv 0) ai) ai) ai)) (aj (aw (cw (aa (pv 3) (aa (pv 4) (aa (pv 5) (aa (aP gC (pv 0) ai) (aa (pv 6) (aa (pv 7) (aa (aP dy (aP gC (pv 0) ai) ai) (aa (b6 (bj.or (aW (aC hr))) (aP dy (pv 0) ai) ai (aA _)) ag)))))))))))))))))))))))) ?_;subst zm;subst zp;refine eX fun N hN=>?_;refine⟨by show 10<=sizeLine;decide,fun m0 hm0=>?_⟩;have e10:(zU.map fun c=>V.str c.1)=JT.map V.str:=rfl;rw[e10];have S1:=aq.upd (o:=.lst (JT.map V.str)) hm0;have k1:=ah (H:=H) (a:=m0) (o:=.lst (JT.map V.str));generalize upd H m0 (.lst (JT.map V.str))=H1 at S1 k1;refine hN _ _ ?_;clear hN N;refine eX fun N hN=>?_;refine⟨by show 13<=sizeLine;decide,fun m1 hm1=>?_⟩;have S2:=aq.upd (o:=.lst (kr.map fun c=>V.str c.1)) hm1;have k2:=ah (H:=H1) (a:=m1) (o:=.lst (kr.map fun c=>V.str c.1));generalize upd H1 m1 (.lst (kr.map fun c=>V.str c.1))=H2 at S2 k2;refine hN _ _ ?_;clear hN N;refine eX fun N hN=>?_;refine⟨_,rfl,big (by show 3<=1000;omega),fun m2 hm2=>?_⟩;have S3:=aq.upd (o:=.lst [V.str "undo",V.str "undo",V.str "redo"]) hm2;have k3:=ah (H:=H2) (a:=m2) (o:=.lst [V.str "undo",V.str "undo",V.str "redo"]);generalize upd H2 m2 (.lst [V.str "undo",V.str "undo",V.str "redo"])=H3 at S3 k3;refine .inr (.inr ⟨m1,m2,_,_,rfl,rfl,S3 _ _ k2,k3,by show 16<=sizeLine;decide,fun m3 hm3=>?_⟩);have e16:(kr.map fun c=>V.str c.1)++[V.str "undo",V.str "undo",V.str "redo"]=aeT.map fun w=>V.str w.str:=rfl;rw[e16];have S4:=aq.upd (o:=.lst (aeT.map fun w=>V.str w.str)) hm3;have k4:=ah (H:=H3) (a:=m3) (o:=.lst (aeT.map fun w=>V.str w.str));generalize upd H3 m3 (.lst (aeT.map fun w=>V.str w.str))=H4 at S4 k4;have S14:=((S1.trans S2).trans S3).trans S4;have k5:=S4 _ _ (S3 _ _ (S2 _ _ k1));tm_up;obtain⟨j,hj,ate⟩:=Ro m (k:=16) (by decide);obtain⟨wy,ewy⟩:∃ wy:Wy,(aeT.map fun w=>V.str w.str)[j]? = some (.str wy.str):=⟨_,by rw[Zf',T' (show j<aeT.length by show j<16;omega)];rfl⟩;refine Xk (bh.of k4) (n:=j) hj ewy ?_;refine hN _ _ ?_;clear hN N S1 S2 S3 S4 k1 k2 k3 k4 hm0 hm1 hm2 hm3 e10 e16;refine eX fun N hN=>?_;tm_up;refine hN _ _ ?_;clear hN N;generalize m / 16=n1;refine eX fun N hN=>?_;tm_up;obtain⟨i1,hi1,ame⟩:=Ro n1 (k:=7) (by decide);obtain⟨nm,hnm,enm⟩:=strAtD (l:=JT) (m:=i1) (by show i1<10;omega);refine Xk (bh.of k5) (n:=i1) hi1 enm ?_;refine hN _ _ ?_;clear hN N;refine⟨fun σ H'=>∃ nm,nm∈JT/\σ=[some (.int n1),some (.ref m0),some (.ref m1),some (.str wy.str),some (.str nm),none,none,none]/\H'=H4,?_,?_⟩
  ·tm_up;refine a9 (fun _=>?_) (fun _=>?_)
   ·tm_up;obtain⟨i2,hi2,ahT⟩:=Ro (n1 / 56) (k:=10) (by decide);obtain⟨nm',hnm',aqB⟩:=strAtD (l:=JT) (m:=i2) (by show i2<10;omega);exact Xk (bh.of k5) (n:=i2) hi2 aqB ⟨nm',hnm',rfl,rfl⟩
   ·exact⟨nm,hnm,rfl,rfl⟩
  clear hnm enm hi1 ame i1 nm;rintro _ H' ⟨nm,hnm,rfl,eH⟩;have eH:=eH.symm;subst eH;refine ahS ?_;refine eX fun N hN=>?_;tm_up;refine hN _ _ ?_;clear hN N;generalize n1 / 560=n2;refine eX fun N hN=>?_;tm_up;obtain⟨i1,hi1,ame⟩:=Ro n2 (k:=4) (by decide);obtain⟨ld,Rc,eld⟩:=strAtD (l:=JT) (m:=i1) (by show i1<10;omega);refine Xk (bh.of k5) (n:=i1) hi1 eld ?_;refine hN _ _ ?_;clear hN N;refine⟨fun σ H'=>∃ ld,ld∈JT/\σ=[some (.int n2),some (.ref m0),some (.ref m1),some (.str wy.str),some (.str nm),some (.str ld),none,none]/\H'=H4,?_,?_⟩
  ·tm_up;refine a9 (fun _=>?_) (fun _=>?_)
   ·tm_up;obtain⟨i2,hi2,ahT⟩:=Ro (n2 / 24) (k:=10) (by decide);obtain⟨ld',aqC,aqD⟩:=strAtD (l:=JT) (m:=i2) (by show i2<10;omega);exact Xk (bh.of k5) (n:=i2) hi2 aqD ⟨ld',aqC,rfl,rfl⟩
   ·exact⟨ld,Rc,rfl,rfl⟩
  clear Rc eld hi1 ame i1 ld;rintro _ H' ⟨ld,Rc,rfl,eH⟩;have eH:=eH.symm;subst eH;refine ahS ?_;refine eX fun N hN=>?_;tm_up;refine hN _ _ ?_;clear hN N;generalize n2 / 240=n3;refine eX fun N hN=>?_;tm_up;intro p0 s0 g0 hp0;have S5:=aq.upd (o:=.tup [V.str s0.1.str,V.int s0.2]) hp0;have k6:=ah (H:=H4) (a:=p0) (o:=.tup [V.str s0.1.str,V.int s0.2]);generalize upd H4 p0 (.tup [V.str s0.1.str,V.int s0.2])=H5 at S5 k6;refine hN _ _ ?_;clear hN N;refine⟨fun σ H'=>∃(ps:Addr)(sg:Sn),σ=[some (.int n3),some (.ref m0),some (.ref m1),some (.str wy.str),some (.str nm),some (.str ld),some (.ref ps),none]/\aq H5 H'/\H' ps=some (.tup [.str sg.1,.int sg.2])/\sg.1∈qe,?_,?_⟩
  ·tm_up;refine a9 (fun _=>?_) (fun _=>?_)
   ·rw[uL];refine⟨by show 2<=sizeLine;decide,fun c0 hc0=>?_⟩;have T0:=aq.upd (o:=.tup [V.str "G",V.int (100)]) hc0;have t0:=ah (H:=H5) (a:=c0) (o:=.tup [V.str "G",V.int (100)]);generalize upd H5 c0 (.tup [V.str "G",V.int (100)])=G0 at T0 t0;refine⟨by show 2<=sizeLine;decide,fun c1 hc1=>?_⟩;have T1:=aq.upd (o:=.tup [V.str "R",V.int (1)]) hc1;have t1:=ah (H:=G0) (a:=c1) (o:=.tup [V.str "R",V.int (1)]);generalize upd G0 c1 (.tup [V.str "R",V.int (1)])=G1 at T1 t1;refine⟨by show 2<=sizeLine;decide,fun c2 hc2=>?_⟩;have T2:=aq.upd (o:=.tup [V.str "g",V.int (0)]) hc2;have t2:=ah (H:=G1) (a:=c2) (o:=.tup [V.str "g",V.int (0)]);generalize upd G1 c2 (.tup [V.str "g",V.int (0)])=G2 at T2 t2;refine⟨1,rfl,by show 2<=sizeLine;decide,fun c3 hc3=>?_⟩;have T3:=aq.upd (o:=.tup [V.str "s",V.int (-1)]) hc3;have t3:=ah (H:=G2) (a:=c3) (o:=.tup [V.str "s",V.int (-1)]);generalize upd G2 c3 (.tup [V.str "s",V.int (-1)])=G3 at T3 t3;refine⟨by show 2<=sizeLine;decide,fun c4 hc4=>?_⟩;have T4:=aq.upd (o:=.tup [V.str "",V.int (0)]) hc4;have t4:=ah (H:=G3) (a:=c4) (o:=.tup [V.str "",V.int (0)]);generalize upd G3 c4 (.tup [V.str "",V.int (0)])=G4 at T4 t4;refine⟨by show 2<=sizeLine;decide,fun c5 hc5=>?_⟩;have T5:=aq.upd (o:=.tup [V.str "3",V.int (3)]) hc5;have t5:=ah (H:=G4) (a:=c5) (o:=.tup [V.str "3",V.int (3)]);generalize upd G4 c5 (.tup [V.str "3",V.int (3)])=G5 at T5 t5;refine⟨by show 6<=sizeLine;decide,fun l hl=>?_⟩;have T6:=aq.upd (o:=.lst [V.ref c0,V.ref c1,V.ref c2,V.ref c3,V.ref c4,V.ref c5]) hl;tm_up;obtain⟨i2,hi2,ahT⟩:=Ro (n3 / 21600) (k:=6) (by decide);have SS:=(((((T0.trans T1).trans T2).trans T3).trans T4).trans T5).trans T6
    match i2,hi2,ahT with
    |0,hi2,_=>exact Xk (bh.of ah) (n:=0) hi2 rfl ⟨c0,("G",100),rfl,SS,T6 _ _ (T5 _ _ (T4 _ _ (T3 _ _ (T2 _ _ (T1 _ _ t0))))),by lk⟩
    |1,hi2,_=>exact Xk (bh.of ah) (n:=1) hi2 rfl ⟨c1,("R",1),rfl,SS,T6 _ _ (T5 _ _ (T4 _ _ (T3 _ _ (T2 _ _ t1)))),by lk⟩
    |2,hi2,_=>exact Xk (bh.of ah) (n:=2) hi2 rfl ⟨c2,("g",0),rfl,SS,T6 _ _ (T5 _ _ (T4 _ _ (T3 _ _ t2))),by lk⟩
    |3,hi2,_=>exact Xk (bh.of ah) (n:=3) hi2 rfl ⟨c3,("s",-1),rfl,SS,T6 _ _ (T5 _ _ (T4 _ _ t3)),by lk⟩
    |4,hi2,_=>exact Xk (bh.of ah) (n:=4) hi2 rfl ⟨c4,("",0),rfl,SS,T6 _ _ (T5 _ _ t4),by lk⟩
    |5,hi2,_=>exact Xk (bh.of ah) (n:=5) hi2 rfl ⟨c5,("3",3),rfl,SS,T6 _ _ t5,by lk⟩
    |i2+6,_,ahT=>exact P' ahT (by omega)
   ·exact⟨p0,(s0.1.str,s0.2),rfl,aq.refl _,k6,aom _⟩
  rintro _ H6 ⟨ps,sg,rfl,S6,hps,hsk⟩;tm_up;refine⟨by show 8<=sizeLine;decide,fun pd hpd=>?_⟩;have S7:=aq.upd (o:=.tup [V.str wy.str,V.str nm,V.str ld,V.int (n3 / 129600),V.ref ps,V.int (n3 / 7 % 1003-1),V.int (n3 / 7021 % 11),V.bl (decide (V.int (n3 % 2)=V.int 1))]) hpd;exact q pd ⟨wy,nm,ld,n3 / 129600,sg,n3 / 7 % 1003-1,n3 / 7021 % 11,decide (V.int (n3 % 2)=V.int 1)⟩ _ (((S14.trans S5).trans S6).trans S7) ⟨pd,ps,rfl,ah,S7 _ _ hps⟩ ⟨Yo hnm,Yo Rc,hsk,all_eq_true.mp (by lk:JT.all noX=true) _ hnm⟩
inductive Pr (vs:List V)(H:Hp)(Q:VK)(E:XK):Prop
 |mk (seed k:Int) (eE:vs=[.int seed,.int k]) (eF:∀ r:Int,0<=r->r<65521->Q (.int r) H):Pr vs H Q E
theorem aaD (T:Txt K w mg t):bI P w K mg base lB (0+1) t.oX t.Ju ["_law_seed","_law_k"] Pr:=by
 refine T.pb.ok C4 (fun vs H Q E h=>?_) (fun cdv A outer s H vs Q E hr h=>?_)
 ·obtain⟨_,_,rfl,_⟩:=h;rfl
 ·obtain⟨seed,k,rfl,q⟩:=h;refine aX (af (aL (i:=2) C4.nd rfl (Or.inl rfl) (aP dy (aP (b7.or (aV.or b8)) (aP (b7.or (aV.or b8)) (aP (oF.or oG) (aP dy (pv 0) ai) ai) (aP (oF.or oG) (pv 1) ai)) ai) ai)) (af (aL (i:=3) C4.nd rfl (Or.inl rfl) (aP dy (aP (b7.or (aV.or b8)) (aP (b7.or (aV.or b8)) (aP (oF.or oG) (pv 2) (pv 2)) (aP (oF.or oG) (pv 1) ai)) (aP dy (aP gC (pv 0) ai) ai)) ai)) (aj (aw (aP dy (aP (b7.or (aV.or b8)) (aP gC (aP (oF.or oG) (pv 3) (pv 3)) ai) (pv 3)) ai))))) ?_;have p2:(2:Int) ^ 64=18446744073709551616:=by decide
  refine⟨_,rfl,_,_,rfl,rfl,(by decide:(0:Int)<1000003),.inl ⟨_,_,rfl,rfl,.inr ⟨by decide,by decide⟩,_,rfl,.inl ⟨_,_,rfl,rfl,.inr ⟨by decide,by decide⟩,.inl ⟨_,_,rfl,rfl,.inl ⟨_,_,rfl,rfl,_,_,rfl,rfl,(by decide:(0:Int)<1000033),?_⟩⟩⟩⟩⟩;generalize hone:(seed % 1000003 * 48271+k * 30011+17) % 1000033=one;have b1:0<=one/\one<1000033:=by omega
  refine⟨_,rfl,_,rfl,.inl ⟨_,_,rfl,rfl,.inl ⟨by rw[p2];omega,by rw[p2];omega⟩,_,rfl,.inl ⟨_,_,rfl,rfl,.inr ⟨by decide,by decide⟩,.inl ⟨_,_,rfl,rfl,_,rfl,_,_,rfl,rfl,⟨by decide,by decide⟩,_,_,rfl,rfl,(by decide:(0:Int)<997),.inl ⟨_,_,rfl,rfl,_,_,rfl,rfl,(by decide:(0:Int)<999983),?_⟩⟩⟩⟩⟩;generalize ath:(one * one+k * 613+seed / 1000003 % 997) % 999983=two;have b2:0<=two/\two<999983:=by omega
  refine⟨_,rfl,_,rfl,.inl ⟨_,_,rfl,rfl,.inl ⟨by rw[p2];omega,by rw[p2];omega⟩,_,_,rfl,rfl,⟨by decide,by decide⟩,_,rfl,.inl ⟨_,_,rfl,rfl,_,_,rfl,rfl,(by decide:(0:Int)<65521),?_⟩⟩⟩;exact q _ (by omega) (by omega)
inductive Pt (K:Frag)(vs:List V)(H:Hp)(Q:VK)(E:XK):Prop
 |mk (a:Addr) (ns:List Int) (k m:Nat) (eE:vs=[.ref a,.int (k:Int),.int (m:Int)]) (eF:bh K H a (ns.map V.int)) (h8:ns.length<=63) (lh:m<=48) (rJ:∀(l:Addr)(xs:List V)(qj:List De)(H':Hp),H l=none->aq H H'->H' l=some (.lst xs)->lK H' xs qj->qj.length<=88->Q (.ref l) H'):Pt K vs H Q E
theorem aaE (T:Txt K w mg t):bI P w K mg base lB (0+3) t.oY t.Jv ["_law_script","_law_at","_law_many"] (Pt K):=by
 have mP:=GP (P:=P) (base:=base) T;have MT:=UC (P:=P) (base:=base) T;have JU:=aaD (P:=P) (base:=base) T;refine T.wV.ok ja (fun vs H Q E h=>?_) (fun cdv A outer s H vs Q E hr h=>?_)
 ·obtain⟨_,_,_,_,rfl,_⟩:=h;rfl
 ·obtain⟨a,ns,k,m,rfl,hS,hl,hm,q⟩:=h;refine aX (af (aL (i:=3) ja.nd rfl (Or.inl rfl) (aM mP (hr.mono (by decide)) rfl T.nt T.gN.kp T.kD .nil aY (aa (pv 0) (aa (pv 1) ag)))) (af (aL (i:=4) ja.nd rfl (Or.inl rfl) (aP (oF.or oG) (aP (oF.or oG) ai ai) ai)) (af (aL (i:=5) ja.nd rfl (Or.inl rfl) (bN ag)) (af (aL (i:=6) ja.nd rfl (Or.inl rfl) (aP iY (pv 3) (aP Tq ai ai))) (af (N2 PassesOwn.never (cz (PW.pt (du (au ac6 (pv 6) ai (aA _)) (eW (au rE (aO (aQ.or aR) rfl T.cA cy (aa (pv 5) ag)) ai (aA _)))))) (af (a8 (ke Yc' Yd' Ye' bW (pv 5) (aa (aM MT (hr.mono (by decide)) rfl T.Gm T.mM.kp T.uS .nil aY (aa (aP dy (pv 6) (pv 4)) ag)) ag))) (aj (aL (i:=6) ja.nd rfl (Or.inl rfl) (aP ahd (pv 6) (pv 4)))))) (af (aU (au ac7 (pv 3) (aP Tq ai ai) (aA _)) (aj (aw (pv 5))) aB) (af (kc PassesOwn.never rfl (BN rfl T.w5 (aa (pv 2) ag)) (bg (i:=7) ja.nd rfl (Or.inl rfl)) (af (aL (i:=8) ja.nd rfl (Or.inl rfl) (aP (b7.or (aV.or b8)) (pv 3) (aP (oF.or oG) ai (aM mP (hr.mono (by decide)) rfl T.nt T.gN.kp T.kD .nil aY (aa (pv 0) (aa (aP (b7.or (aV.or b8)) (aP (b7.or (aV.or b8)) (pv 1) ai) (pv 7)) ag)))))) (af (aL (i:=9) ja.nd rfl (Or.inl rfl) (aP (b7.or (aV.or b8)) (aM JU (hr.mono (by decide)) rfl T.Dl T.pb.kp T.wU .nil aY (aa (pv 8) (aa (pv 7) ag))) (aP (oF.or oG) ai (aM JU (hr.mono (by decide)) rfl T.Dl T.pb.kp T.wU .nil aY (aa (pv 8) (aa (aP (b7.or (aV.or b8)) (pv 7) ai) ag)))))) (aj (a8 (ke Yc' Yd' Ye' bW (pv 5) (aa (aM MT (hr.mono (by decide)) rfl T.Gm T.mM.kp T.uS .nil aY (aa (aP (b7.or (aV.or b8)) (pv 9) (aP (oF.or oG) (aP (oF.or oG) ai ai) (aM JU (hr.mono (by decide)) rfl T.Dl T.pb.kp T.wU .nil aY (aa (pv 8) (aa (aP (b7.or (aV.or b8)) (pv 7) ai) ag))))) ag)) ag))))))) (aj (aw (pv 5)))))))))) ?_;refine⟨_,rfl,_,rfl,a,ns,k,rfl,hS,hl,?_⟩;tm_up;refine⟨big (by show 0<=1000;omega),fun l hl0=>?_⟩;tm_up;refine⟨fun mm σ H'=>∃(left:Int)(xs:List V)(qj:List De),σ=[some (.ref a),some (.int (k:Int)),some (.int (m:Int)),some (.int (CF ns k)),some (.int (65521 * 65521 * 65521)),some (.ref l),some (.int left),none,none,none]/\aq H H'/\H' l=some (.lst xs)/\lK H' xs qj/\mm=40-qj.length/\qj.length<=40,
   ⟨40,_,[],[],rfl,aq.upd hl0,ah,lK.nil,rfl,Zj' _⟩,?_⟩
  rintro mm σ H' ⟨left,xs,qj,rfl,s1,h1,dd,rfl,hlen⟩;have xl:=ck dd.1;refine lD (decide (0<left)&&decide ((qj.length:Int)<40)) ?_ ?_
  ·tm_up;refine a9 (fun h=>?_) (fun h=>?_)
   ·refine⟨_,rfl,.inl ⟨l,_,rfl,.inl (bh.of h1),?_⟩⟩;tm_up;rw[xl];exact⟨by rw[h,Bool.true_and],rfl⟩
   ·exact⟨by rw[Y'.mpr h];rfl,rfl⟩
  refine a9 (fun h40=>?_) (fun _=>?_)
  ·have atj:qj.length<40:=by
    have:=U' (Bool.and_eq_true_iff.mp h40).2;omega
   refine⟨fun σ' H'=>∃ m',m'<40-qj.length/\∃(left:Int)(xs:List V)(qj:List De),σ'=[some (.ref a),some (.int (k:Int)),some (.int (m:Int)),some (.int (CF ns k)),some (.int (65521 * 65521 * 65521)),some (.ref l),some (.int left),none,none,none]/\aq H H'/\H' l=some (.lst xs)/\lK H' xs qj/\m'=40-qj.length/\qj.length<=40,fun _ _ h=>h,?_⟩;refine⟨_,rfl,.inl ⟨rfl,_,bh.of h1⟩,?_⟩;tm_up;intro p de H2 s2 hde ok;refine⟨l,_,_,rfl,rfl,s2 _ _ h1,ba (by omega),?_⟩;tm_up;refine⟨40-(qj.length+1),by omega,_,xs++[.ref p],qj++[de],rfl,gb (s1.trans s2) hl0,ah,lK.write (s2 _ _ h1) (lK.snoc (dd.same s2) hde ok),by rw[Z'];rfl,by rw[Z'];show _+1<=_;omega⟩
  ·refine ahS ?_;tm_up;refine a9 (fun _=>?_) (fun _=>?_)
   ·exact⟨_,rfl,q l xs qj H' hl0 s1 h1 dd (by omega)⟩
   tm_up;refine⟨by omega,by omega,?_⟩;refine wc (n:=((m:Int)).toNat) (fun i σ H'=>∃(u v x:Option V)(xs:List V)(qj:List De),σ=[some (.ref a),some (.int (k:Int)),some (.int (m:Int)),some (.int (CF ns k)),some (.int (65521 * 65521 * 65521)),some (.ref l),some (.int left),u,v,x]/\aq H H'/\H' l=some (.lst xs)/\lK H' xs qj/\qj.length<=40+i) ⟨none,none,none,xs,qj,rfl,s1,h1,dd,by omega⟩ ?_ ?_
   ·clear xl hlen h1 s1 dd;rintro i σ H1 hi ⟨u,v,x,xs,qj,rfl,s1,h1,dd,dl⟩;have xl:=ck dd.1;tm_up;refine⟨a,ns,k+1+i,?_,s1.seq hS,hl,?_⟩
    ·show [V.ref a,V.int ((k:Int)+1+(0+(i:Int)))]=[V.ref a,V.int ((k+1+i:Nat):Int)];have e:(k:Int)+1+(0+(i:Int))=((k+1+i:Nat):Int):=by omega
     rw[e]
    tm_up;refine⟨.inl ⟨by decide,by decide⟩,.inl ⟨_,_,rfl,rfl,?_⟩⟩;tm_up;refine⟨_,_,rfl,fun r1 h10 h11=>?_⟩;tm_up;refine⟨_,_,rfl,fun r2 h20 h21=>?_⟩;refine .inl ⟨_,_,rfl,rfl,.inl ⟨by decide,by decide⟩,.inl ⟨_,_,rfl,rfl,?_⟩⟩;refine⟨_,rfl,.inl ⟨rfl,_,bh.of h1⟩,?_⟩;tm_up;refine⟨_,_,rfl,fun r3 h30 h31=>?_⟩;refine .inl ⟨_,_,rfl,rfl,.inl ⟨by decide,by decide⟩,.inl ⟨_,_,rfl,rfl,?_⟩⟩;refine⟨_,rfl,fun p de H2 s2 hde ok=>?_⟩;refine⟨l,_,_,rfl,rfl,s2 _ _ h1,ba (by omega),?_⟩;refine⟨_,_,_,xs++[.ref p],qj++[de],rfl,gb (s1.trans s2) hl0,ah,lK.write (s2 _ _ h1) (lK.snoc (dd.same s2) hde ok),by rw[Z'];show _+1<=_;omega⟩
   ·rintro σ H1 ⟨u,v,x,xs,qj,rfl,s1,h1,dd,dl⟩;exact⟨_,rfl,q l xs qj H1 hl0 s1 h1 dd (by omega)⟩
inductive Pu (vs:List V)(H:Hp)(Q:VK)(E:XK):Prop
 |mk (d:Addr) (v:V) (vw:Vw) (de:De) (eE:vs=[.ref d,v]) (eF:vO H d vw) (h8:zR H v de) (lh:∀ H',aq H H'->Q (.int (cH vw de)) H'):Pu vs H Q E
theorem Dy (T:Txt K w mg t):bI P w K mg base lB (0+1) t.oZ t.Jw ["_law_voices","_law_deed"] Pu:=by
 refine T.ph.ok OI (fun vs H Q E h=>?_) (fun cdv A outer s H vs Q E hr h=>?_)
 ·obtain⟨_,_,_,_,rfl,_⟩:=h;rfl
 ·obtain⟨d,v,vw,de,rfl,hd,⟨p,ps,rfl,hp,hps⟩,q⟩:=h;refine aX (af (aL (i:=2) OI.nd rfl (Or.inl rfl) (cS (eM (bA (aO dS rfl T.bu br (aa (aha (kf hr) (pv 0) (aJ az (pv 1) ai (fun _ _=>rfl)) (cw ag) ⟨rfl,rfl,rfl,rfl⟩) (aa (gB (v:=.ty "list") rfl T.je i0 rfl) ag)))) (aO (aQ.or aR) rfl T.cA cy (aa (jU (kf hr) (pv 0) (aJ az (pv 1) ai (fun _ _=>rfl)) (fun _ _=>rfl)) ag)) ai))) (af (aU (au (bj.or (aW (aC hr))) (aP dy (aJ az (pv 1) ai (fun _ _=>rfl)) ai) ai (aA _)) (aj (aw (aJ az (bN (aa (zB sF ai) (aa (aP iY (zB sF (pv 2)) ai) (aa (aP (b7.or (aV.or b8)) (pv 2) ai) (aa (aP Tq ai ai) ag))))) (aP dy (aP gC (aJ az (pv 1) ai (fun _ _=>rfl)) ai) ai) (fun _ _=>rfl)))) aB) (aj (aw (aP dy (aP gC (aJ az (pv 1) ai (fun _ _=>rfl)) ai) (aP (b7.or (aV.or b8)) (pv 2) ai)))))) ?_;refine⟨fun v H'=>v=.int (FH vw de.n)/\aq H H',?_,?_⟩
  ·refine⟨_,rfl,d,rfl,.inl (let ⟨kvs,e,_⟩:=hd;⟨kvs,.inl e⟩),_,rfl,cN (i:=1) hp rfl ?_⟩;refine⟨by show 0<=sizeLine;decide,fun t0 ht0=>?_⟩;have s0:=aq.upd (o:=.tup []) ht0;have h0:=ah (H:=H) (a:=t0) (o:=.tup []);generalize upd H t0 (.tup [])=H1 at s0 h0;unfold FH;rcases (hd.same s0).look de.n with ⟨f1,g1⟩|⟨th,v1,f1,g1,t1⟩
   ·rw[f1];exact⟨_,g1,_,_,_,_,rfl,jq.tup h0,rfl,_,rfl,bZ ⟨rfl,s0⟩⟩
   rw[f1];cases th with
   |cn ld lt sl tn =>
    obtain⟨pt,rfl,SX⟩:=t1;exact⟨_,g1,_,_,_,_,rfl,jq.tup SX,rfl,_,rfl,bZ ⟨rfl,s0⟩⟩
   |pl ss =>
    obtain⟨l,ys,rfl,hl,g⟩:=t1;refine⟨_,g1,_,_,_,_,rfl,jq.lst hl,rfl,_,rfl,cZ ?_⟩;refine⟨_,rfl,_,rfl,cN (i:=1) (s0 _ _ hp) rfl ⟨d,_,rfl,g1,.inl ⟨l,ys,rfl,.inl (bh.of hl),?_,s0⟩⟩⟩;rw[ck g]
  ·rintro _ H1 ⟨rfl,s1⟩;have sz0:0<=FH vw de.n:=by
    unfold FH;split
    ·omega
    ·decide
   have hp1:=s1 _ _ hp;unfold cH at q;refine⟨_,rfl,cN (i:=3) hp1 rfl ?_⟩;tm_up;refine a9 (fun h1=>?_) (fun h1=>?_)
   ·rw[K' (V.int.inj (U' h1))]at q;tm_up;refine⟨by show 4<=sizeLine;decide,fun l hl=>?_⟩;refine⟨_,rfl,cN (i:=3) (aq.upd hl _ _ hp1) rfl ?_⟩;tm_up;obtain⟨m,hm,hm4⟩:=Ro (de.pl / 16) (k:=4) (by decide);rw[hm,Int.toNat_natCast]at q;have sl:=aq.upd (o:=.lst [V.int (-1),V.int (-FH vw de.n-1),V.int (FH vw de.n+40),V.int (10 ^ 12)]) hl;refine Xk (bh.of ah) (n:=m) hm ?_ (q _ (s1.trans sl))
    match m,hm4 with
    |0,_=>rfl
    |1,_=>rfl
    |2,_=>rfl
    |3,_=>rfl
    |m+4,h=>exact P' h (by omega)
   ·rw[G' (fun z=>h1 (W' (R' V.int z)))]at q;refine⟨_,rfl,cN (i:=3) hp1 rfl ?_⟩;tm_up;exact⟨by omega,q _ s1⟩
inductive vg (vs:List V)(H:Hp)(Q:VK)(E:XK):Prop
 |mk (d:Addr) (vw:Vw) (n:Str) (eE:vs=[.ref d,.str n]) (eF:vO H d vw) (h8:n.length<=1000) (lh:vw.length<=12) (rJ:Q (.str (Nd (dA vw n))) H):vg vs H Q E
theorem GS (T:Txt K w mg t):bI P w K mg base lB (0+1) t.dN t.o4 ["_law_voices","_law_name"] vg:=by
 refine T.iH.ok uK (fun vs H Q E h=>?_) (fun cdv A outer s H vs Q E hr h=>?_)
 ·obtain⟨_,_,_,rfl,_⟩:=h;rfl
 ·obtain⟨d,vw,n,rfl,hd,hn,hw,q⟩:=h;refine aX (af (aU (cz (PW.pt (mv (au rE (aO (aQ.or aR) rfl T.cA cy (aa (pv 1) ag)) ai (aA _)) (j9 (au ac6 (aO (aQ.or aR) rfl T.cA cy (aa (pv 1) ag)) ai (aA _)))))) (aj (aw aD)) aB) (af (kc PassesOwn.never rfl (agD (pv 1)) (bg (i:=2) uK.nd rfl (Or.inl rfl)) (aj (aU (au (xC.or xE) (pv 2) aD rfl) (aj (aw aD)) aB))) (af (aU (N1 (ag5 (kf hr) (pv 1) (pv 0))) (aj (aw aD)) aB) (aj (aw (cS (eM (au (bj.or (aW (aC hr))) (aO aer rfl T.cA cy (aa (pv 0) ag)) ai (aA _)) aD aD))))))) ?_;have xb:n.length<=sizeLine:=Zh' hn (by decide);unfold dA at q;refine lD (!(decide (1<=n.length)&&decide (n.length<=8))) ?_ ?_
  ·refine⟨_,rfl,.inr ⟨_,rfl,xb,?_⟩⟩;tm_up;refine a9 (fun h1=>?_) (fun h1=>?_)
   ·have h1:=U' h1;rw[X' (show ¬ 1<=n.length by omega)];exact⟨rfl,rfl⟩
   ·have h1:1<=n.length:=Nat.lt_of_not_le fun z=>h1 (W' (by omega));rw[W' h1];refine⟨_,rfl,.inr ⟨_,rfl,xb,?_⟩⟩;tm_up;refine⟨?_,rfl⟩;rw[Bool.true_and,<-decide_not];exact decide_eq_decide.mpr (by omega)
  refine a9 (fun h1=>?_) (fun h1=>?_)
  ·have hb:nameB n=false:=by
    unfold nameB;cases e1:decide (1<=n.length) with
    |false=>rfl
    |true =>
     rw[e1]at h1;cases e2:decide (n.length<=8) with
     |false=>rfl
     |true=>rw[e2]at h1;cases h1
   rw[K' hb]at q;exact q
  have hb1:(decide (1<=n.length)&&decide (n.length<=8))=true:=by
   cases z:(decide (1<=n.length)&&decide (n.length<=8)) with
   |true=>rfl
   |false=>rw[z]at h1;exact P' rfl h1
  obtain⟨hb2,hb3⟩:=Bool.and_eq_true_iff.mp hb1;tm_up;refine ajx (z:=n) (fun i σ H'=>∃ v,σ=[some (.ref d),some (.str n),v]/\H'=H/\∀(j:Nat) c,j<i->n.cps[j]? = some c->Rl ⟨#[c]⟩ "abcdefghijklmnopqrstuvwxyz"=true) ⟨none,rfl,rfl,fun j c hj=>by omega⟩ ?_ ?_
  ·rintro i c σ H1 hc ⟨v,rfl,eH,hin⟩;have eH:=eH.symm;subst eH;tm_up;refine a9 (fun h2=>?_) (fun h2=>?_)
   ·have hb:nameB n=false:=by
     unfold nameB;rw[hb2,hb3,Bool.true_and,Bool.true_and];refine List.all_eq_false.mpr ⟨c,?_,?_⟩
     ·exact Za' (i:=i) (by simpa using hc)
     ·show ¬(!(Builtin.Str.occurrences _ _ 0 _ 1).isEmpty)=true;intro z;rw[z]at h2;cases h2
    rw[K' hb]at q;exact q
   ·refine⟨_,rfl,rfl,fun j c' hj hc'=>?_⟩;rcases Nat.lt_or_ge j i with z|z
    ·exact hin j c' z hc'
    ·have e:j=i:=by omega
     subst e;rw[hc]at hc';cases hc';show(!(Builtin.Str.occurrences _ _ 0 _ 1).isEmpty)=true;cases z:(Builtin.Str.occurrences (Str.ofString "abcdefghijklmnopqrstuvwxyz") ⟨#[c]⟩ 0 (Str.ofString "abcdefghijklmnopqrstuvwxyz").length 1).isEmpty with
     |false=>rfl
     |true=>exact P' (show(!!(Builtin.Str.occurrences (Str.ofString "abcdefghijklmnopqrstuvwxyz") ⟨#[c]⟩ 0 (Str.ofString "abcdefghijklmnopqrstuvwxyz").length 1).isEmpty)=true by rw[z];rfl) h2
  ·rintro σ H1 ⟨v,rfl,eH,hin⟩;have eH:=eH.symm;subst eH;have hb:¬ nameB n=false:=by
    unfold nameB;rw[hb2,hb3,Bool.true_and,Bool.true_and];intro z;obtain⟨c,hc,hc2⟩:=List.all_eq_false.mp z;obtain⟨j,hj⟩:=getElem?_of_mem hc;have hj':n.cps[j]? = some c:=by simpa using hj
    exact hc2 (hin j c (Array.getElem?_eq_some_iff.mp hj').1 hj')
   rw[G' hb]at q;tm_up;rcases hd.look n with ⟨f1,g1⟩|⟨th,v1,f1,g1,_⟩
   ·rw[f1,G' (by simp)]at q;refine⟨d,_,rfl,g1,_,rfl,bZ ?_⟩;obtain⟨kvs,hk,kl⟩:=hd.len;refine Cd (.str (if 12<=vw.length then "Full" else "")) ?_ ?_
    ·tm_up;refine⟨d,kvs,rfl,hk,?_⟩;tm_up;refine a9 (fun h2=>?_) (fun h2=>?_)
     ·have:=V.int.inj (U' h2);rw[K' (by omega)];exact⟨rfl,rfl⟩
     ·rw[G' (fun z=>h2 (W' (R' V.int (by omega))))];exact⟨rfl,rfl⟩
    ·by_cases hl:12<=vw.length
     ·rw[K' hl]at q ⊢;exact q
     ·rw[G' hl]at q ⊢;exact q
   ·rw[f1,K' (show(some th).isSome=true from rfl)]at q;exact⟨d,_,rfl,g1,_,rfl,cZ q⟩
inductive tP (vs:List V)(H:Hp)(Q:VK)(E:XK):Prop
 |mk (d:Addr) (v:V) (vw:Vw) (de:De) (eE:vs=[.ref d,v]) (eF:vO H d vw) (h8:zR H v de) (lh:Q (.str (Nd (jt vw de.ld de.lt de.sl))) H):tP vs H Q E
theorem Dz (T:Txt K w mg t):bI P w K mg base lB (0+1) t.dc t.m6 ["_law_voices","_law_deed"] tP:=by
 refine T.gO.ok sV (fun vs H Q E h=>?_) (fun cdv A outer s H vs Q E hr h=>?_)
 ·obtain⟨_,_,_,_,rfl,_⟩:=h;rfl
 ·obtain⟨d,v,vw,de,rfl,hd,⟨p,ps,rfl,hp,hps⟩,q⟩:=h;refine aX (af (aU (N1 (IT (kf hr) (aJ az (pv 1) ai (fun _ _=>rfl)) (pv 0))) (aj (aw aD)) aB) (af (aU (dw (bA (aO dS rfl T.bu br (aa (jU (kf hr) (pv 0) (aJ az (pv 1) ai (fun _ _=>rfl)) (fun _ _=>rfl)) (aa (gB (v:=.ty "list") rfl T.je i0 rfl) ag))))) (aj (aw aD)) aB) (af (aL (i:=2) sV.nd rfl (Or.inl rfl) (cS (iW (b6 we ai (aJ az (pv 1) ai (fun _ _=>rfl)) (aA _)) (iW (b6 rE (aJ az (pv 1) ai (fun _ _=>rfl)) ai (aA _)) (iW (b6 rE ai (aJ az (pv 1) ai (fun _ _=>rfl)) (aA _)) (lU (b6 rE (aJ az (pv 1) ai (fun _ _=>rfl)) ai (aA _)))))))) (aj (aw (cS (eM (bA (pv 2)) aD aD))))))) ?_;unfold jt at q;refine⟨_,rfl,cN (i:=2) hp rfl ?_⟩;rcases hd.look de.ld with ⟨f1,g1⟩|⟨th,v1,f1,g1,t1⟩
  ·rw[f1]at q;exact⟨_,rfl,d,_,rfl,g1,_,rfl,cZ q⟩
  rw[f1]at q;refine⟨_,rfl,d,_,rfl,g1,_,rfl,bZ ?_⟩;refine⟨_,rfl,_,rfl,cN (i:=2) hp rfl ?_⟩;refine⟨d,_,rfl,g1,?_⟩;cases th with
  |cn ld lt sl tn =>
   obtain⟨pt,rfl,SX⟩:=t1;exact⟨_,_,_,_,rfl,jq.tup SX,rfl,_,rfl,cZ q⟩
  |pl ss =>
   obtain⟨l,ys,rfl,hl,_⟩:=t1;refine⟨_,_,_,_,rfl,jq.lst hl,rfl,_,rfl,bZ ?_⟩;refine Cd (.bl (decide (i6 de.lt de.sl))) ?_ ?_
   ·refine⟨_,rfl,cN (i:=5) hp rfl ?_⟩;tm_up;refine a9 (fun h1=>?_) (fun h1=>?_)
    rotate_left
    ·rw[X' (fun z:i6 de.lt de.sl=>h1 (W' z.1))];exact⟨rfl,rfl⟩
    refine⟨_,rfl,cN (i:=5) hp rfl ?_⟩;tm_up;refine a9 (fun h2=>?_) (fun h2=>?_)
    rotate_left
    ·rw[X' (fun z:i6 de.lt de.sl=>h2 (W' (by have:=z.2.1;omega)))];exact⟨rfl,rfl⟩
    refine⟨_,rfl,cN (i:=6) hp rfl ?_⟩;tm_up;refine a9 (fun h3=>?_) (fun h3=>?_)
    rotate_left
    ·rw[X' (fun z:i6 de.lt de.sl=>h3 (W' (by have:=z.2.2.1;omega)))];exact⟨rfl,rfl⟩
    refine⟨_,rfl,cN (i:=6) hp rfl ?_⟩;tm_up;refine⟨R' V.bl (decide_eq_decide.mpr ⟨fun z=>⟨U' h1,?_,?_,?_⟩,fun z=>?_⟩),rfl⟩
    ·have:=U' h2;omega
    ·have:=U' h3;omega
    ·omega
    ·have:=z.2.2.2;omega
   ·refine Cd (.str (Nd (if i6 de.lt de.sl then none else some .uG))) ?_ q;refine⟨_,rfl,_,rfl,?_⟩
    by_cases z:i6 de.lt de.sl
    ·rw[W' z,K' z];exact cZ ⟨rfl,rfl⟩
    ·rw[X' z,G' z];exact bZ ⟨rfl,rfl⟩
inductive vh (vs:List V)(H:Hp)(Q:VK)(E:XK):Prop
 |mk (d:Addr) (v:V) (vw:Vw) (de:De) (eE:vs=[.ref d,v]) (eF:vO H d vw) (h8:zR H v de) (lh:Z2 de) (rJ:(de.wy=.put\/de.wy=.cut\/de.wy=.swap)) (Rg:(∀ n ss,(n,Th.pl ss)∈vw->ss.length<=200)) (h6_:∀ H',aq H H'->Q (.str (Nd (rO vw de.wy de.n (cH vw de) de.sg))) H'):vh vs H Q E
theorem GU (T:Txt K w mg t):bI P w K mg base lB (0+2) t.dO t.o5 ["_law_voices","_law_deed"] vh:=by
 have xi:=Dy (P:=P) (base:=base) T;refine T.iI.ok jW (fun vs H Q E h=>?_) (fun cdv A outer s H vs Q E hr h=>?_)
 ·obtain⟨_,_,_,_,rfl,_⟩:=h;rfl
 ·obtain⟨d,v,vw,de,rfl,hd,⟨p,ps,rfl,hp,hps⟩,ok,hwy,ajL,q⟩:=h;refine aX (af (ajo (i:=2) (j:=3) (k:=4) rfl jW.nd rfl rfl rfl (by decide) (by decide) (by decide) rfl rfl rfl (aa (aJ az (pv 1) ai (fun _ _=>rfl)) (aa (aJ az (pv 1) ai (fun _ _=>rfl)) (aa (aJ az (pv 1) ai (fun _ _=>rfl)) ag))) rfl) (af (aU (N1 (IT (kf hr) (pv 3) (pv 0))) (aj (aw aD)) aB) (af (aU (dw (bA (aO dS rfl T.bu br (aa (jU (kf hr) (pv 0) (pv 3) (fun _ _=>rfl)) (aa (gB (v:=.ty "list") rfl T.je i0 rfl) ag))))) (aj (aw aD)) aB) (af (aL (i:=5) jW.nd rfl (Or.inl rfl) (aM xi (hr.mono (by decide)) rfl T.Dm T.ph.kp T.wW .nil aY (aa (pv 0) (aa (pv 1) ag)))) (af (aU (cz (PW.pt (mv (au rE (pv 5) ai (aA _)) (j9 (au ac7 (pv 5) (aP (b7.or (aV.or b8)) (aO (aQ.or aR) rfl T.cA cy (aa (jU (kf hr) (pv 0) (pv 3) (fun _ _=>rfl)) ag)) (gq (wj.or lC) rfl T.JO IM (aa (b6 (bj.or (aW (aC hr))) (pv 2) aD (aA _)) ag))) (aA _)))))) (aj (aw aD)) aB) (af (aL (i:=6) jW.nd rfl (Or.inl rfl) (cS (iW (b6 (bj.or (aW (aC hr))) (aO (aQ.or aR) rfl T.cA cy (aa (aJ az (pv 4) ai (fun _ _=>rfl)) ag)) ai (aA _)) (iW (b6 (cW.or cV) (aJ az (pv 4) ai (fun _ _=>rfl)) aD rfl) (iW (b6 we ai (aJ az (pv 4) ai (fun _ _=>rfl)) (aA _)) (lU (b6 rE (aJ az (pv 4) ai (fun _ _=>rfl)) ai (aA _)))))))) (af (aU (cz (PW.pt (du (au (wd.or (oH (aC hr))) (pv 2) aD (aA _)) (eW (cz (PW.pt (mv (dw (bA (pv 6))) (j9 (cz (PW.pt (du (au (wd.or (oH (aC hr))) (aJ az (pv 4) ai (fun _ _=>rfl)) ai (aA _)) (eW (au (cW.or cV) (aJ az (pv 4) ai (fun _ _=>rfl)) aD rfl))))))))))))) (aj (aw aD)) aB) (aj (aw (cS (eM (cz (PW.pt (du (au (bj.or (aW (aC hr))) (pv 2) aD (aA _)) (eW (au (bj.or (aW (aC hr))) (aO (aQ.or aR) rfl T.cA cy (aa (jU (kf hr) (pv 0) (pv 3) (fun _ _=>rfl)) ag)) ai (aA _)))))) aD aD))))))))))) ?_;refine⟨_,rfl,cN (i:=0) hp rfl ⟨_,rfl,cN (i:=1) hp rfl ⟨_,rfl,cN (i:=4) hp rfl ⟨_,_,_,rfl,?_⟩⟩⟩⟩;rcases hd.look de.n with ⟨f1,g1⟩|⟨th,v1,f1,g1,t1⟩
  ·rw[mU f1]at q;exact⟨_,rfl,_,rfl,d,_,rfl,g1,_,rfl,cZ (q _ (aq.refl _))⟩
  refine⟨_,rfl,_,rfl,d,_,rfl,g1,_,rfl,bZ ?_⟩;refine⟨_,rfl,_,rfl,d,_,rfl,g1,?_⟩;cases th with
  |cn ld lt sl tn =>
   obtain⟨pt,rfl,SX⟩:=t1;rw[sQ f1]at q;exact⟨_,_,_,_,rfl,jq.tup SX,rfl,_,rfl,cZ (q _ (aq.refl _))⟩
  |pl ss =>
   obtain⟨l,ys,rfl,hl,g⟩:=t1;rw[sR f1]at q;have yl:=ck g;refine⟨_,_,_,_,rfl,jq.lst hl,rfl,_,rfl,bZ ?_⟩;refine⟨_,rfl,_,rfl,d,_,vw,de,rfl,hd,⟨p,ps,rfl,hp,hps⟩,fun H1 s1=>?_⟩;have hl1:=s1 _ _ hl;have aeU:=s1 _ _ hps;have g2:=X4 s1 g1;refine lD (decide (cH vw de<0\/(ss.length:Int)+(if de.wy=.put then 1 else 0)<=cH vw de)) ?_ ?_
   ·tm_up;refine a9 (fun h1=>?_) (fun h1=>?_)
    ·rw[W' (show cH vw de<0\/_ from .inl (U' h1))];exact⟨rfl,rfl⟩
    refine⟨_,rfl,_,rfl,_,rfl,d,_,rfl,g2,.inl ⟨l,ys,rfl,.inl (bh.of hl1),?_⟩⟩;tm_up;refine .inl (.inr ⟨_,rfl,?_⟩);tm_up;refine⟨?_,rfl⟩;rw[show decide (V.str de.wy.str=V.str (Str.ofString "put"))=decide (de.wy=.put) from lI de.wy .put,yl];have h1':¬ cH vw de<0:=fun z=>h1 (W' z);refine decide_eq_decide.mpr ?_
    by_cases z:de.wy=.put
    ·rw[W' z,K' rfl,K' z];exact⟨.inr,fun y=>y.resolve_left h1'⟩
    ·rw[X' z,G' (by decide),G' z];exact⟨.inr,fun y=>y.resolve_left h1'⟩
   refine a9 (fun h1=>?_) (fun h1=>?_)
   ·rw[K' (U' h1)]at q;exact q _ s1
   rw[G' (fun z=>h1 (W' z))]at q;refine Cd (.bl (X5 de.sg)) ?_ ?_
   ·refine⟨_,rfl,cN (i:=0) aeU rfl (.inr ⟨_,rfl,Zh' (alV ok.sk) (by decide),?_⟩)⟩;unfold X5;refine .inl ⟨rfl,_,rfl,?_⟩;have e1:decide (V.int (de.sg.1.length:Int)=V.int 1)=decide (de.sg.1.length=1):=decide_eq_decide.mpr ⟨fun z=>by have:=V.int.inj z;omega,fun z=>R' V.int (by omega)⟩;rw[e1];cases b1:decide (de.sg.1.length=1) with
    |false=>exact bZ ⟨rfl,rfl⟩
    |true =>
     refine cZ ?_;refine⟨_,rfl,cN (i:=0) aeU rfl ?_⟩;tm_up;show(if Rl de.sg.1 "GDRsdr.32" = true then _ else _);cases b2:Rl de.sg.1 "GDRsdr.32" with
     |false=>exact bZ ⟨rfl,rfl⟩
     |true =>
      refine cZ ?_;refine⟨_,rfl,cN (i:=1) aeU rfl ?_⟩;tm_up;cases b3:decide (0<=de.sg.2) with
      |false=>exact bZ ⟨rfl,rfl⟩
      |true =>
       refine cZ ?_;refine⟨_,rfl,cN (i:=1) aeU rfl ?_⟩;tm_up;exact⟨rfl,rfl⟩
   refine lD (decide (de.wy≠.cut/\js de.sg=false)) ?_ ?_
   ·tm_up;rw[show decide (V.str de.wy.str=V.str (Str.ofString "cut"))=decide (de.wy=.cut) from lI de.wy .cut]
    by_cases z:de.wy=.cut
    ·rw[W' z,X' (show ¬(de.wy≠.cut/\js de.sg=false) from fun y=>y.1 z)];exact bZ ⟨rfl,rfl⟩
    rw[X' z];refine cZ ?_;refine lD (!js de.sg) ?_ ?_
    ·rw[<-aey ok.sk];refine⟨_,rfl,_,rfl,?_⟩;cases b1:X5 de.sg with
     |false=>exact cZ ⟨rfl,rfl⟩
     |true =>
      refine bZ ?_;refine lD (!decide (de.sg.2=0)&&Rl de.sg.1 "Rr.32") ?_ ⟨rfl,rfl⟩;refine⟨_,rfl,cN (i:=1) aeU rfl ?_⟩;tm_up;have e1:decide (V.int de.sg.2=V.int 0)=decide (de.sg.2=0):=decide_eq_decide.mpr ⟨fun z=>V.int.inj z,fun z=>R' V.int z⟩;rw[e1];cases b2:decide (de.sg.2=0) with
      |true=>exact bZ ⟨rfl,rfl⟩
      |false =>
       refine cZ ?_;refine⟨_,rfl,cN (i:=0) aeU rfl ?_⟩;tm_up;exact⟨rfl,rfl⟩
    ·refine⟨?_,rfl⟩;cases hg:js de.sg with
     |true=>exact(X' (fun y=>nomatch y.2)).symm
     |false=>exact(W' (show de.wy≠.cut/\_ from⟨z,rfl⟩)).symm
   refine a9 (fun h2=>?_) (fun h2=>?_)
   ·rw[K' (U' h2)]at q;exact q _ s1
   rw[G' (fun z=>h2 (W' z))]at q;refine Cd (.str (Nd (if de.wy=.put/\200<=ss.length then some .Full else none))) ?_ (q _ s1);refine lD (decide (de.wy=.put/\200<=ss.length)) ?_ ?_
   ·tm_up;rw[show decide (V.str de.wy.str=V.str (Str.ofString "put"))=decide (de.wy=.put) from lI de.wy .put]
    by_cases z:de.wy=.put
    ·rw[W' z];refine cZ ?_;refine⟨_,rfl,_,rfl,d,_,rfl,g2,.inl ⟨l,ys,rfl,.inl (bh.of hl1),?_⟩⟩;tm_up;refine⟨decide_eq_decide.mpr ⟨fun y=>⟨z,?_⟩,fun y=>R' V.int ?_⟩,rfl⟩
     ·have:=V.int.inj y;omega
     ·have h2:=ajL _ _ (dm f1);have:=y.2;omega
    ·rw[X' z,X' (fun y=>z y.1)];exact bZ ⟨rfl,rfl⟩
   by_cases z:de.wy=.put/\200<=ss.length
   ·rw[W' z,K' z];exact cZ ⟨rfl,rfl⟩
   ·rw[X' z,G' z];exact bZ ⟨rfl,rfl⟩
theorem xj {st:Std}{d:De}{a:Int}(h:d.wy=.put\/d.wy=.cut\/d.wy=.swap):j8 st d a=rO st.vw d.wy d.n a d.sg:=by
 unfold j8;rcases h with h|h|h <;> rw[h]
theorem adK (o:Option Rf):(decide (V.str (Nd o)=V.str (Str.ofString "")))=o.isNone:=by
 cases o with
 |none=>decide +kernel
 |some r=>cases r <;> decide +kernel
theorem ahU {H:Hp}{xs:List V}{ws:List Vw}(h:Paired (DvR H) xs ws):xs.isEmpty=decide (ws=[]):=by
 cases h with
 |nil=>rfl
 |cons _ _=>exact(X' (fun z=>nomatch z)).symm
inductive GW (vs:List V)(H:Hp)(Q:VK)(E:XK):Prop
 |mk (v1 v2:V) (st:Std) (de:De) (eE:vs=[v1,v2]) (eF:X3 H v1 st) (h8:zR H v2 de) (lh:Z2 de) (rJ:zw st.vw) (Rg:∀ H',aq H H'->Q (.str (Nd (j8 st de (cH st.vw de)))) H'):GW vs H Q E
theorem UD (T:Txt K w mg t):bI P w K mg base lB (0+3) t.kB t.Aa ["_law_stand","_law_deed"] GW:=by
 have JV:=GS (P:=P) (base:=base) T;have GX:=Dz (P:=P) (base:=base) T;have JW:=GU (P:=P) (base:=base) T;refine T.qB.ok rP (fun vs H Q E h=>?_) (fun cdv A outer s H vs Q E hr h=>?_)
 ·obtain⟨_,_,_,_,rfl,_⟩:=h;rfl
 ·obtain⟨v1,v2,st,de,rfl,⟨p,d,a,b,xs,ys,rfl,hp,hd,ha,px,hb,py⟩,hde,ok,w,q⟩:=h;obtain⟨p2,ps2,rfl,hp2,aaF⟩:=id hde;refine aX (af (aL (i:=2) rP.nd rfl (Or.inr rfl) (aJ az (pv 0) ai (fun _ _=>rfl))) (af (aU (au (bj.or (aW (aC hr))) (aJ az (pv 1) ai (fun _ _=>rfl)) aD (aA _)) (aj (aw (cS (eM (au (Ob (aC hr)) (aJ az (pv 0) ai (fun _ _=>rfl)) (bN ag) (aA _)) aD aD)))) aB) (af (aU (au (bj.or (aW (aC hr))) (aJ az (pv 1) ai (fun _ _=>rfl)) aD (aA _)) (aj (aw (cS (eM (au (Ob (aC hr)) (aJ az (pv 0) ai (fun _ _=>rfl)) (bN ag) (aA _)) aD aD)))) aB) (af (aU (au (bj.or (aW (aC hr))) (aJ az (pv 1) ai (fun _ _=>rfl)) aD (aA _)) (af (aU (N1 (IT (kf hr) (aJ az (pv 1) ai (fun _ _=>rfl)) (pv 2))) (aj (aw aD)) aB) (af (ZM (i:=3) rP.nd rfl rfl (cn:=["_law_name"]) rfl (il.of rfl) (iX (gq xG rfl T.je i0 (aa (pv 2) ag))) (fun _=>(bg (i:=0) ON rfl (Or.inl rfl))) (fun _=>(alm (cz (PW.pt (du (bA (aO dS rfl T.bu br (aa (jU (kf hr) (pv 3) (pv 0) (fun _ _=>rfl)) (aa (gB (v:=.ty "tuple") rfl T.O7 N8 rfl) ag)))) (eW (au (bj.or (aW (aC hr))) (aJ az (jU (kf hr) (pv 3) (pv 0) (fun _ _=>rfl)) ai (fun _ _=>rfl)) (aJ az (pv 2) ai (fun _ _=>rfl)) (aA _)))))))) (fun _=>(pv 0))) (aj (aw (cS (eM (au (Ob (aC hr)) (pv 3) (bN ag) (aA _)) aD aD)))))) aB) (af (aU (au (cW.or cV) (aJ az (pv 1) ai (fun _ _=>rfl)) (bN (aa aD (aa aD (aa aD ag)))) rfl) (aj (aw (aM JW (hr.mono (by decide)) rfl T.Gp T.iI.kp T.pq .nil aY (aa (pv 2) (aa (pv 1) ag))))) aB) (af (aL (i:=4) rP.nd rfl (Or.inl rfl) (aM JV (hr.mono (by decide)) rfl T.Gn T.iH.kp T.pj .nil aY (aa (pv 2) (aa (aJ az (pv 1) ai (fun _ _=>rfl)) ag)))) (af (aU (cz (PW.pt (mv (au (wd.or (oH (aC hr))) (pv 4) aD (aA _)) (j9 (au (bj.or (aW (aC hr))) (aJ az (pv 1) ai (fun _ _=>rfl)) aD (aA _)))))) (aj (aw (pv 4))) aB) (aj (aw (aM GX (hr.mono (by decide)) rfl T.Dn T.gO.kp T.nu .nil aY (aa (pv 2) (aa (pv 1) ag)))))))))))) ?_;have wl:=w.len;refine⟨_,rfl,cN (i:=0) hp rfl ?_⟩;refine⟨_,rfl,cN (i:=0) hp2 rfl ?_⟩;tm_up;rw[show decide (V.str de.wy.str=V.str (Str.ofString "undo"))=decide (de.wy=.undo) from lI de.wy .undo]
  by_cases z1:de.wy=.undo
  ·rw[W' z1];refine cZ ?_;have e0:j8 st de (cH st.vw de)=if st.ps=[] then some .oJ else none:=by unfold j8;rw[z1]
   rw[e0]at q;refine⟨fun v H'=>v=.str (Nd (if st.ps=[] then some .oJ else none))/\aq H H',?_,fun v H' ⟨e1,e2⟩=>by rw[e1];exact q _ e2⟩;refine⟨_,rfl,cN (i:=1) hp rfl ?_⟩;refine⟨big (by show 0<=1000;omega),fun e1 he1=>?_⟩;have s0:=aq.upd (o:=.lst []) he1;refine⟨a,e1,xs,rfl,rfl,bh.of (s0 _ _ ha),bh.of ah,_,rfl,?_⟩;rw[ahU px]
   by_cases zz:st.ps=[]
   ·rw[W' zz,K' zz];exact cZ ⟨rfl,s0⟩
   ·rw[X' zz,G' zz];exact bZ ⟨rfl,s0⟩
  rw[X' z1];refine bZ ?_;refine⟨_,rfl,cN (i:=0) hp2 rfl ?_⟩;tm_up;rw[show decide (V.str de.wy.str=V.str (Str.ofString "redo"))=decide (de.wy=.xJ) from lI de.wy .xJ]
  by_cases z2:de.wy=.xJ
  ·rw[W' z2];refine cZ ?_;have e0:j8 st de (cH st.vw de)=if st.fs=[] then some .oJ else none:=by unfold j8;rw[z2]
   rw[e0]at q;refine⟨fun v H'=>v=.str (Nd (if st.fs=[] then some .oJ else none))/\aq H H',?_,fun v H' ⟨e1,e2⟩=>by rw[e1];exact q _ e2⟩;refine⟨_,rfl,cN (i:=2) hp rfl ?_⟩;refine⟨big (by show 0<=1000;omega),fun e1 he1=>?_⟩;have s0:=aq.upd (o:=.lst []) he1;refine⟨b,e1,ys,rfl,rfl,bh.of (s0 _ _ hb),bh.of ah,_,rfl,?_⟩;rw[ahU py]
   by_cases zz:st.fs=[]
   ·rw[W' zz,K' zz];exact cZ ⟨rfl,s0⟩
   ·rw[X' zz,G' zz];exact bZ ⟨rfl,s0⟩
  rw[X' z2];refine bZ ?_;refine⟨_,rfl,cN (i:=0) hp2 rfl ?_⟩;tm_up;rw[show decide (V.str de.wy.str=V.str (Str.ofString "drop"))=decide (de.wy=.drop) from lI de.wy .drop]
  by_cases z3:de.wy=.drop
  ·rw[W' z3];refine cZ ?_;have e0:j8 st de (cH st.vw de)=qd st.vw de.n:=by unfold j8;rw[z3]
   rw[e0]at q;unfold qd at q;refine⟨_,rfl,cN (i:=1) hp2 rfl ?_⟩;rcases hd.look de.n with ⟨f1,g1⟩|⟨th,v1,f1,g1,t1⟩
   ·rw[f1]at q;exact⟨_,rfl,d,_,rfl,g1,_,rfl,cZ (q _ (aq.refl _))⟩
   rw[f1]at q;refine⟨_,rfl,d,_,rfl,g1,_,rfl,bZ ?_⟩;obtain⟨kvs,hk,ek⟩:=hd.keys;refine⟨_,rfl,rfl,d,kvs,rfl,.inl hk,fun l0 hl0=>?_⟩;rw[ek];have s1:=aq.upd (o:=.lst (st.vw.map fun q=>V.str q.1)) hl0;have h1:=ah (H:=H) (a:=l0) (o:=.lst (st.vw.map fun q=>V.str q.1));generalize upd H l0 (.lst (st.vw.map fun q=>V.str q.1))=H1 at s1 h1;refine⟨l0,rfl,⟨_,bh.of h1⟩,fun D b0 hD=>?_⟩;refine mw (K:=K) (xs:=st.vw.map fun q=>V.str q.1) (fun i zs σ H'=>∃ v,σ=[v,some (.ref p),some (.ref p2),some (.ref d),none,none]/\aq H1 H'/\H' D=some (.lst zs)/\zs=((st.vw.take i).filter (sN de.n)).map fun q=>V.str q.1) ⟨none,rfl,aq.upd hD,ah,rfl⟩ ?_ ?_ ?_
   ·rintro i zs σ H' ⟨v,rfl,s2,_⟩;exact bh.of (s2 _ _ h1)
   ·rintro i zs y σ H' hy ⟨v,rfl,s2,hDl,rfl⟩ N hN;obtain⟨⟨m,th⟩,hq,rfl⟩:∃ qn,st.vw[i]? = some qn/\y=.str qn.1:=by
     rw[Zf']at hy;cases e:st.vw[i]? with
     |none=>rw[e]at hy;cases hy
     |some z=>rw[e]at hy;exact⟨z,rfl,(Zb' hy).symm⟩
    have hm:=Za' hq;have hi:i<st.vw.length:=(S'.mp hq).1;have s12:=s1.trans s2;obtain⟨v',g',t'⟩:=(hd.same s12).get (w.find hm);unfold XC;refine lD (sN de.n (m,th)) ?_ ?_
    ·refine⟨_,rfl,_,rfl,d,_,rfl,g',?_⟩;cases th with
     |pl ss =>
      obtain⟨l,zs,rfl,hl,_⟩:=t';exact⟨_,_,_,_,rfl,jq.lst hl,rfl,_,rfl,bZ ⟨rfl,rfl⟩⟩
     |cn ld lt sl tn =>
      obtain⟨pt,rfl,SX⟩:=t';refine⟨_,_,_,_,rfl,jq.tup SX,rfl,_,rfl,cZ ?_⟩;refine⟨_,rfl,_,rfl,d,_,rfl,g',cN (i:=0) SX rfl ?_⟩;refine⟨_,rfl,cN (i:=1) (s12 _ _ hp2) rfl ?_⟩;refine .inl ⟨rfl,_,rfl,?_,rfl⟩;exact decide_eq_decide.mpr ⟨fun z=>V.str.inj z,fun z=>R' V.str z⟩
    have e4:(st.vw.take (i+1)).filter (sN de.n)=(st.vw.take i).filter (sN de.n)++(if sN de.n (m,th)=true then [(m,th)] else []):=by
     rw[take_succ,hq,List.filter_append]
     congr 1
     show List.filter _ [(m,th)]=_;cases hb3:sN de.n (m,th) with
     |true=>rw[List.filter_cons_of_pos hb3];rfl
     |false=>rw[List.filter_cons_of_neg (by rw[hb3];decide)];rfl
    cases hb2:sN de.n (m,th) with
    |true =>
     rw[hb2,K' rfl]at e4;refine cZ ⟨_,rfl,hDl,?_,hN _ _ _ ⟨_,rfl,gb s2 hD,ah,?_⟩⟩
     ·rw[j'];refine ba (Zh' (List.length_filter_le _ _) ?_);rw[Ze'];omega
     ·rw[e4,map_append];rfl
    |false =>
     rw[hb2,G' (by decide),append_nil]at e4;exact bZ (hN _ _ _ ⟨_,rfl,s2,hDl,by rw[e4]⟩)
   ·rintro zs σ H' ⟨v,rfl,s2,hDl,rfl⟩;rw[j',take_length]at hDl;refine⟨fun v Nn=>v=.str (Nd (if leans st.vw de.n=true then some .C0 else none))/\aq H' Nn,?_,fun v Nn ⟨e1,e2⟩=>by rw[e1];exact q _ ((s1.trans s2).trans e2)⟩;refine⟨_,rfl,big (by show 0<=1000;omega),fun e1 he1=>?_⟩;have s0:=aq.upd (o:=.lst []) he1;refine⟨D,e1,_,rfl,rfl,bh.of (s0 _ _ hDl),bh.of ah,_,rfl,?_⟩;have e5:(((st.vw.filter (sN de.n)).map fun q=>V.str q.1).isEmpty=true) ↔ leans st.vw de.n=false:=by
     rw[List.isEmpty_iff,List.map_eq_nil_iff,List.filter_eq_nil_iff];exact⟨fun z=>List.any_eq_false.mpr z,fun z=>List.any_eq_false.mp z⟩
    refine a9 (fun z=>?_) (fun z=>?_)
    ·rw[e5.mp z];exact⟨rfl,s0⟩
    ·cases zl:leans st.vw de.n with
     |false=>exact P' (e5.mpr zl) z
     |true=>exact⟨rfl,s0⟩
  rw[X' z3];refine bZ ?_;refine⟨_,rfl,cN (i:=0) hp2 rfl ?_⟩;refine⟨big (by show 3<=1000;omega),fun l0 hl0=>?_⟩;have s1:=aq.upd (o:=.lst [V.str "put",V.str "cut",V.str "swap"]) hl0;have h1:=ah (H:=H) (a:=l0) (o:=.lst [V.str "put",V.str "cut",V.str "swap"]);generalize upd H l0 (.lst [V.str "put",V.str "cut",V.str "swap"])=H1 at s1 h1;refine .inl ⟨l0,_,rfl,.inl (bh.of h1),rfl,rfl,_,rfl,?_⟩;have hd1:=hd.same s1;have aoo:=hde.same s1;have aop:=s1 _ _ hp2;rw[show inV (V.str de.wy.str) [V.str "put",V.str "cut",V.str "swap"]=decide (de.wy=.put\/de.wy=.cut\/de.wy=.swap) by cases de.wy <;> decide +kernel]
  by_cases z4:de.wy=.put\/de.wy=.cut\/de.wy=.swap
  ·rw[W' z4];refine cZ ?_;rw[xj z4]at q;refine⟨_,rfl,_,rfl,d,_,st.vw,de,rfl,hd1,aoo,ok,z4,fun n ss hm=>(w.gd n ss hm).1,fun H2 s2=>q _ (s1.trans s2)⟩
  rw[X' z4];refine bZ ?_;refine⟨_,rfl,_,rfl,cN (i:=1) aop rfl ?_⟩;refine⟨d,st.vw,de.n,rfl,hd1,ok.nl,wl,?_⟩;have z5:de.wy=.add\/de.wy=.canon:=by
   cases hw:de.wy with
   |put=>exact P' (.inl hw) z4
   |cut=>exact P' (.inr (.inl hw)) z4
   |swap=>exact P' (.inr (.inr hw)) z4
   |add=>exact .inl rfl
   |canon=>exact .inr rfl
   |drop=>exact P' hw z3
   |undo=>exact P' hw z1
   |xJ=>exact P' hw z2
  refine lD (!(dA st.vw de.n).isNone||decide (de.wy=.add)) ?_ ?_
  ·tm_up;rw[adK];cases hn:(dA st.vw de.n).isNone with
   |false=>exact cZ ⟨rfl,rfl⟩
   |true =>
    refine bZ ?_;refine⟨_,rfl,cN (i:=0) aop rfl ?_⟩;tm_up;exact⟨lI de.wy .add,rfl⟩
  cases hn:dA st.vw de.n with
  |some r =>
   have e0:j8 st de (cH st.vw de)=some r:=by
    unfold j8;rcases z5 with z|z <;> rw[z]
    ·exact hn
    ·show(match dA st.vw de.n with|some r=>some r|none=>_)=_;rw[hn]
   rw[e0]at q;exact cZ ⟨_,rfl,q _ s1⟩
  |none =>
   rcases z5 with z|z
   ·have e0:j8 st de (cH st.vw de)=none:=by
     unfold j8;rw[z];exact hn
    rw[e0]at q;rw[W' z];exact cZ ⟨_,rfl,q _ s1⟩
   ·have e0:j8 st de (cH st.vw de)=jt st.vw de.ld de.lt de.sl:=by
     unfold j8;rw[z];show(match dA st.vw de.n with|some r=>some r|none=>_)=_;rw[hn]
    rw[e0]at q;rw[X' (show ¬ de.wy=.add by rw[z];decide)];exact bZ ⟨_,rfl,_,rfl,d,_,st.vw,de,rfl,hd1,aoo,q _ s1⟩
inductive xk (K:Frag)(vs:List V)(H:Hp)(Q:VK)(E:XK):Prop
 |mk (l:Addr) (v:V) (ys:List V) (ss:List Sg) (de:De) (i:Nat) (eE:vs=[.ref l,v,.int (i:Int)]) (eF:H l=some (.lst ys)) (h8:qo H ys ss) (lh:ss.length<=200) (rJ:zR H v de) (Rg:(de.wy=.put\/de.wy=.cut\/de.wy=.swap)) (h6_:(de.wy≠.cut->js de.sg=true)) (h7_:i<=ss.length) (h8_:(de.wy≠.put->i<ss.length)) (h9_:∀(l':Addr)(ys':List V)(H':Hp),H l'=none->aq H H'->H' l'=some (.lst ys')->qo H' ys' (gD ss de.wy de.sg i)->Q (.ref l') H'):xk K vs H Q E
theorem JX (T:Txt K w mg t):bI P w K mg base lB (0+1) t.eI t.qI ["_law_line","_law_deed","_law_at"] (xk K):=by
 refine T.ju.ok Jd (fun vs H Q E h=>?_) (fun cdv A outer s H vs Q E hr h=>?_)
 ·obtain⟨_,_,_,_,_,_,rfl,_⟩:=h;rfl
 ·obtain⟨l,v,ys,ss,de,i,rfl,hl,g,ajL,hde,hwy,hgd,hi,hi2,q⟩:=h;obtain⟨p2,ps2,rfl,hp2,aaF⟩:=id hde;refine aX (af (aU (au (bj.or (aW (aC hr))) (aJ az (pv 1) ai (fun _ _=>rfl)) aD (aA _)) (aj (aw (aP (b7.or (aV.or b8)) (qm (uw.or (zC.or zG)) (pv 0) uv (lM (pv 2))) (qm (uw.or (zC.or zG)) (pv 0) (lM (aP (b7.or (aV.or b8)) (pv 2) ai)) uv)))) aB) (aj (aw (aP (b7.or (aV.or b8)) (aP (b7.or (aV.or b8)) (qm (uw.or (zC.or zG)) (pv 0) uv (lM (pv 2))) (bN (aa (aJ az (pv 1) ai (fun _ _=>rfl)) ag))) (qm (uw.or (zC.or zG)) (pv 0) (lM (aP (b7.or (aV.or b8)) (pv 2) (gq (wj.or lC) rfl T.JO IM (aa (b6 (bj.or (aW (aC hr))) (aJ az (pv 1) ai (fun _ _=>rfl)) aD (aA _)) ag)))) uv))))) ?_;have yl:=ck g;refine⟨_,rfl,cN (i:=0) hp2 rfl ?_⟩;tm_up;rw[show decide (V.str de.wy.str=V.str (Str.ofString "cut"))=decide (de.wy=.cut) from lI de.wy .cut]
  by_cases z1:de.wy=.cut
  ·rw[W' z1];refine cZ ?_;have hi3:=hi2 (by rw[z1];decide);refine⟨_,rfl,_,rfl,i,rfl,.inl ⟨l,ys,rfl,bh.of hl,fun c1 hc1=>?_⟩⟩;rw[ahn];have S1:=aq.upd (o:=.lst (ys.take i)) hc1;have k1:=ah (H:=H) (a:=c1) (o:=.lst (ys.take i));generalize upd H c1 (.lst (ys.take i))=H15 at S1 k1;refine⟨_,rfl,_,rfl,.inl ⟨_,_,rfl,rfl,_,rfl,.inl ⟨l,ys,rfl,bh.of (S1 _ _ hl),fun c4 hc4=>?_⟩⟩⟩;rw[show Ft ys (some ((i:Int)+1)) none=ys.drop (i+1) from adu ys (i+1) (by omega)];have S4:=aq.upd (o:=.lst (ys.drop (i+1))) hc4;have k4:=ah (H:=H15) (a:=c4) (o:=.lst (ys.drop (i+1)));generalize upd H15 c4 (.lst (ys.drop (i+1)))=H16 at S4 k4;refine .inr (.inr ⟨c1,c4,_,_,rfl,rfl,S4 _ _ k1,k4,?_,fun c5 hc5=>?_⟩)
   ·exact big (by simp only [Ze',length_drop];omega)
   have S5:=aq.upd (o:=.lst (ys.take i++ys.drop (i+1))) hc5;have SS:=(S1.trans S4).trans S5;refine q c5 _ _ ((S1.trans S4).free hc5) SS ah (qo.same SS ?_);unfold gD;rw[z1];show qo H _ (ss.take i++[]++ss.drop (i+1));rw[append_nil];exact IV (MC i g) (MB (i+1) g)
  ·rw[X' z1];refine bZ ?_;refine⟨_,rfl,_,rfl,i,rfl,.inl ⟨l,ys,rfl,bh.of hl,fun c1 hc1=>?_⟩⟩;rw[ahn];have S1:=aq.upd (o:=.lst (ys.take i)) hc1;have k1:=ah (H:=H) (a:=c1) (o:=.lst (ys.take i));generalize upd H c1 (.lst (ys.take i))=H13 at S1 k1;refine⟨_,rfl,cN (i:=4) (S1 _ _ hp2) rfl ?_⟩;refine⟨big (by show 1<=1000;omega),fun c2 hc2=>?_⟩;have S2:=aq.upd (o:=.lst [V.ref ps2]) hc2;have k2:=ah (H:=H13) (a:=c2) (o:=.lst [V.ref ps2]);generalize upd H13 c2 (.lst [V.ref ps2])=H14 at S2 k2;refine .inr (.inr ⟨c1,c2,_,_,rfl,rfl,S2 _ _ k1,k2,?_,fun c3 hc3=>?_⟩)
   ·exact big (by rw[Ze'];show _+1<=1000;omega)
   have S3':=aq.upd (o:=.lst (ys.take i++[V.ref ps2])) hc3;have k3:=ah (H:=H14) (a:=c3) (o:=.lst (ys.take i++[V.ref ps2]));generalize upd H14 c3 (.lst (ys.take i++[V.ref ps2]))=H15 at S3' k3;have SS:=(S1.trans S2).trans S3';have g15:=g.same SS;obtain⟨es1,es2,_⟩:=ahw (hgd z1);have aqF:XO H15 (.ref ps2) (OF de.sg):=⟨ps2,rfl,by rw[es1,es2];exact SS _ _ aaF⟩;refine⟨_,rfl,_,rfl,_,rfl,cN (i:=0) (SS _ _ hp2) rfl ?_⟩;tm_up;refine .inl (.inr ⟨_,rfl,?_⟩);rw[show decide (V.str de.wy.str=V.str (Str.ofString "swap"))=decide (de.wy=.swap) from lI de.wy .swap];obtain⟨k,hk,hkb,hki⟩:∃ k:Nat,((i:Int)+(if decide (de.wy=.swap)=true then 1 else 0))=((i+k:Nat):Int)/\gD ss de.wy de.sg i=ss.take i++[OF de.sg]++ss.drop (i+k)/\i+k<=ss.length:=by
    by_cases z2:de.wy=.swap
    ·refine⟨1,by rw[W' z2,K' rfl];omega,by unfold gD;rw[z2],hi2 (by rw[z2];decide)⟩
    ·have z3:de.wy=.put:=by rcases hwy with z|z|z;exact z;exact P' z z1;exact P' z z2
     refine⟨0,by rw[X' z2,G' (by decide)];omega,by unfold gD;rw[z3];rfl,hi⟩
   rw[hkb]at q;refine .inl ⟨_,_,rfl,rfl,_,rfl,.inl ⟨l,ys,rfl,bh.of (SS _ _ hl),fun c4 hc4=>?_⟩⟩;rw[show Ft ys (some ((i:Int)+(if decide (de.wy=.swap)=true then 1 else 0))) none=ys.drop (i+k) by rw[hk];exact adu ys (i+k) (by omega)];have S4:=aq.upd (o:=.lst (ys.drop (i+k))) hc4;have k4:=ah (H:=H15) (a:=c4) (o:=.lst (ys.drop (i+k)));generalize upd H15 c4 (.lst (ys.drop (i+k)))=H16 at S4 k4;refine .inr (.inr ⟨c3,c4,_,_,rfl,rfl,S4 _ _ k3,k4,?_,fun c5 hc5=>?_⟩)
   ·exact big (by simp only [Z',Ze',length_drop,List.length_singleton];omega)
   have S5:=aq.upd (o:=.lst (ys.take i++[V.ref ps2]++ys.drop (i+k))) hc5;exact q c5 _ _ ((SS.trans S4).free hc5) ((SS.trans S4).trans S5) ah (qo.same (S4.trans S5) (IV (IV (MC i g15) (.cons aqF .nil)) (MB (i+k) g15)))
structure Bw (c:Cs)(H0 H:Hp)(x:Addr)(own:List Addr)(vw:Vw)(ps fs:List Vw):Prop where
 ex:∃ F,xw c H x F vw ps fs/\(∀ y,F y->∃ xs,H y=some (.lst xs))/\(∀ y,F y->H0 y=none)/\∀ a∈own,¬ F a/\∃ o,H a=some o
 sm:aq H0 H
section
variable {c:Cs} {H0 H H' H1:Hp} {x:Addr} {own:List Addr} {vw vw':Vw} {ps ps' fs fs':List Vw} {F F':Addr->Prop}
theorem Bw.mk' (b:xw c H' x F' vw' ps' fs')(sm:aq H0 H)(hF:∀ y,F y->∃ xs,H y=some (.lst xs))(h0:∀ y,F y->H0 y=none)(ho:∀ a∈own,¬ F a/\∃ o,H a=some o)(g:Gr F F' H)(fr:Fr F H H'):Bw c H0 H' x own vw' ps' fs'/\aqg own H H':=by
 obtain⟨F0,h1,h2,b0⟩:=b.anY;refine⟨⟨⟨F0,b0,h2,fun y z=>?_,fun a ha=>?_⟩,fun y o e=>fr y o (sm y o e) fun z=>?_⟩,fun y o e k=>fr y o e fun z=>?_⟩
 ·rcases g y (h1 y z) with q|q
  ·exact h0 y q
  ·exact sm.free q
 ·obtain⟨n,o,e⟩:=ho a ha;refine⟨fun z=>?_,o,fr a o e n⟩;rcases g a (h1 a z) with q|q
  ·exact n q
  ·rw[e]at q;cases q
 ·rw[h0 y z]at e;cases e
 ·rcases k with k|k
  ·obtain⟨xs,q⟩:=hF y z;rw[e]at q;cases q;exact k _ rfl
  ·exact(ho y k).1 z
theorem Bw.same (h:Bw c H0 H x own vw ps fs)(s:aq H H'):Bw c H0 H' x own vw ps fs:=by
 obtain⟨F,b,hF,h0,ho⟩:=h.ex;exact⟨⟨F,b.same s,fun y z=>let ⟨xs,e⟩:=hF y z;⟨xs,s _ _ e⟩,h0,fun a ha=>⟨(ho a ha).1,let ⟨o,e⟩:=(ho a ha).2;⟨o,s _ _ e⟩⟩⟩,h.sm.trans s⟩
theorem Bw.wv (h:Bw c H0 H x own vw ps fs):zw vw:=by
 obtain⟨F,b,_⟩:=h.ex;exact b.wv vw (.inr (.inl rfl))
theorem Bw.new {dx L D U:Addr}(hx:H' x=some (.ins c.B dx (Fn L D U)))(hL:H' L=some (.lst []))(hD:H' D=some (.lst []))(hU:H' U=some (.lst []))(LD:L≠D)(LU:L≠U)(DU:D≠U)(s:aq H H')(nL:H L=none)(nD:H D=none)(nU:H U=none):Bw c H H' x [] [] [] []:=by
 refine⟨⟨_,Bk.new hx hL hD hU LD LU DU,fun y hy=>?_,fun y hy=>?_,fun a ha=>nomatch ha⟩,s⟩
 ·rcases hy with rfl|rfl|rfl
  ·exact⟨_,hL⟩
  ·exact⟨_,hD⟩
  ·exact⟨_,hU⟩
 ·rcases hy with rfl|rfl|rfl
  ·exact nL
  ·exact nD
  ·exact nU
end
def mix (H0 H H':Hp):Hp:=fun y=>match H y with
 |none=>H' y
 |some (.lst _)=>H0 y
 |some o=>some o
section
variable {H0 H H' Nn:Hp}
theorem GY (s:aq H0 H):aq H0 (mix H0 H H'):=fun y o e=>by
 unfold mix;rw[s _ _ e];cases o with
 |lst xs=>exact e
 |_=>rfl
theorem jm {y:Addr}{o:HO}(n:H y=none)(e:H' y=some o):mix H0 H H' y=some o:=by
 unfold mix;rw[n];exact e
theorem B9 (s:aq H H'){y:Addr}{o:HO}(e:H' y=some o)(k:∀ xs,o≠.lst xs):mix H0 H H' y=some o:=by
 unfold mix;cases h:H y with
 |none=>exact e
 |some u =>
  have:o=u:=Zb' (e.symm.trans (s _ _ h));subst this;cases o with
  |lst xs=>exact P' rfl (k xs)
  |_=>rfl
theorem ajM (s0:aq H0 H)(s:aq H H'):aq (mix H0 H H') H':=fun y o e=>by
 unfold mix at e;cases h:H y with
 |none=>rw[h]at e;exact e
 |some u =>
  rw[h]at e;cases u with
  |lst xs=>exact s _ _ (s0 _ _ e)
  |_=>exact(s _ _ h).trans e
theorem ahV (s:aq H' Nn):aq (mix H0 H H') (mix H0 H Nn):=fun y o e=>by
 unfold mix at e ⊢;cases h:H y with
 |none=>rw[h]at e;exact s _ _ e
 |some u =>
  rw[h]at e;cases u with
  |lst xs=>exact e
  |_=>exact e
theorem Bw.mix {c:Cs}{x:Addr}{vw:Vw}{ps fs:List Vw}(h:Bw c H0 H x [] vw ps fs)(s:aq H H'):Bw c (IU.mix H0 H H') H' x [] vw ps fs:=by
 obtain⟨F,b,hF,h0,ho⟩:=h.ex;refine⟨⟨F,b.same s,fun y z=>let ⟨xs,e⟩:=hF y z;⟨xs,s _ _ e⟩,fun y hy=>?_,fun a ha=>nomatch ha⟩,ajM h.sm s⟩;obtain⟨xs,e⟩:=hF y hy;unfold IU.mix;rw[e];exact h0 y hy
end
theorem adL {vw:Vw}{n:Str}(h:dA vw n=none):nameB n=true/\bc vw n=none/\vw.length<12:=by
 unfold dA at h;split at h
 ·cases h
 ·next h1 =>
  split at h
  ·cases h
  ·next h2 =>
   split at h
   ·cases h
   ·next h3=>exact⟨by simpa using h1,by cases e:bc vw n with|none=>rfl|some _=>rw[e]at h2;exact P' rfl h2,by omega⟩
theorem amf {H:Hp}{n:Str}{kvs:List (Key×V)}{vw:Vw}(h:Paired (OD H) kvs vw):Paired (OD H) (Oh kvs (Sum.inr n)) (uI vw n):=by
 unfold Oh uI
 induction h with
 |nil=>exact .nil
 | @cons kv q as qs r t ih =>
  by_cases e:q.1=n
  ·rw[List.filter_cons_of_neg (by rw[r.1,e];simp),List.filter_cons_of_neg (by rw[W' e];simp)];exact ih
  ·rw[List.filter_cons_of_pos (by rw[r.1];exact W' fun z=>e (Sum.inr.inj z)),List.filter_cons_of_pos (by rw[X' e];rfl)];exact .cons r ih
theorem aoq {H:Hp}{n:Str}{v:V}{th:Th}{kvs:List (Key×V)}{vw:Vw}(h:Paired (OD H) kvs vw)(hs:(uo kvs (Sum.inr n)).isSome=true)(hv:ThV H v th):Paired (OD H) (putK kvs (Sum.inr n) v) (zO vw n th):=by
 unfold putK;rw[zK,K' hs];clear hs;unfold zO
 induction h with
 |nil=>exact .nil
 | @cons kv q as qs r t ih =>
  refine .cons ?_ ih;show OD H (if kv.1=Sum.inr n then(kv.1,v) else kv) (if q.1=n then(n,th) else q)
  by_cases e:q.1=n
  ·rw[K' (r.1.trans (R' Sum.inr e)),K' e];exact⟨r.1.trans (R' Sum.inr e),hv⟩
  ·rw[G' (fun z=>e (Sum.inr.inj (r.1.symm.trans z))),G' e];exact r
theorem UE {α β:Type}{F:α->β->Prop}:∀{ys:List α} {vs:List β} {q:β},Paired F ys (vs++[q])->∃ ys0 y,ys=ys0++[y]/\Paired F ys0 vs/\F y q
 |_,[],_,.cons r .nil=>⟨[],_,rfl,.nil,r⟩
 |_,_::vs,_,.cons r t=>by
  obtain⟨ys0,y,rfl,h1,h2⟩:=UE t;exact⟨_::ys0,y,rfl,.cons r h1,h2⟩
theorem Yq (xs:List V)(v:V):Ft (xs++[v]) none (some (-1))=xs:=by
 unfold Ft;have e:HT.oB (xs++[v]).length (xs++[v]).length (some (-1))=xs.length:=by
  rw[Z'];show HT.oB (xs.length+1) (xs.length+1) (some (-1))=xs.length;unfold HT.oB
  first|omega|(simp;omega)|(split <;> omega)
 rw[HT.N4,e,Nat.sub_zero,List.drop_zero,List.take_left'];rfl
theorem akT {α:Type}{l:List α}(h:l≠[]):∃ l0 x,l=l0++[x]:=⟨l.dropLast,l.getLast h,(List.dropLast_concat_getLast h).symm⟩
inductive MU (vs:List V)(H:Hp)(Q:VK)(E:XK):Prop
 |mk (v1 v2:V) (st:Std) (de:De) (H0:Hp) (eE:vs=[v1,v2]) (eF:aq H0 H) (h8:X3 H0 v1 st) (lh:zR H v2 de) (rJ:Z2 de) (Rg:zw st.vw) (h6_:st.ps.length+st.fs.length<=900) (h7_:j8 st de (cH st.vw de)=none) (h8_:∀ v' H',aq H H'->X3 (mix H0 H H') v' (iC st de (cH st.vw de))->Q v' H'):MU vs H Q E
theorem Yr (T:Txt K w mg t):bI P w K mg base lB (0+2) t.ma t.C9 ["_law_stand","_law_deed"] MU:=by
 have Np:=JX (P:=P) (base:=base) T;have xi:=Dy (P:=P) (base:=base) T;refine T.tJ.ok qw (fun vs H Q E h=>?_) (fun cdv A outer s H vs Q E hr h=>?_)
 ·obtain⟨_,_,_,_,_,rfl,_⟩:=h;rfl
 ·obtain⟨v1,v2,st,de,H0',rfl,s0,⟨p,d,a,b,xs,ys,rfl,hp',hd',ha',px',hb',py'⟩,hde,ok,w,hlen,ho,q⟩:=h;obtain⟨p2,ps2,rfl,hp2,aaF⟩:=id hde;have hp:=s0 _ _ hp';have hd:=hd'.same s0;have ha:=s0 _ _ ha';have hb:=s0 _ _ hb';have mo:∀{H'},aq H0' (mix H0' H H'):=fun {H'}=>GY s0;refine aX (af (lV (pv 0) (sC rfl (bP (bg (i:=2) qw.nd rfl (Or.inl rfl)) (bP (bg (i:=3) qw.nd rfl (Or.inl rfl)) (bP (bg (i:=4) qw.nd rfl (Or.inl rfl)) mS))))) (af (aU (au (bj.or (aW (aC hr))) (aJ az (pv 1) ai (fun _ _=>rfl)) aD (aA _)) (aj (aw (cw (aa (aJ az (pv 3) (zB sF ai) (fun _ _=>rfl)) (aa (qm (uw.or (zC.or zG)) (pv 3) uv (lM (zB sF ai))) (aa (aP (b7.or (aV.or b8)) (pv 4) (bN (aa (pv 2) ag))) ag)))))) aB) (af (aU (au (bj.or (aW (aC hr))) (aJ az (pv 1) ai (fun _ _=>rfl)) aD (aA _)) (aj (aw (cw (aa (aJ az (pv 4) (zB sF ai) (fun _ _=>rfl)) (aa (aP (b7.or (aV.or b8)) (pv 3) (bN (aa (pv 2) ag))) (aa (qm (uw.or (zC.or zG)) (pv 4) uv (lM (zB sF ai))) ag)))))) aB) (af (aL (i:=5) qw.nd rfl (Or.inl rfl) (gq ZR rfl T.ajC ai7 (aa (pv 2) ag))) (af (gp (aU (au (bj.or (aW (aC hr))) (aJ az (pv 1) ai (fun _ _=>rfl)) aD (aA _)) (aj (a8 (ahb (pv 5) (aJ az (pv 1) ai (fun _ _=>rfl)) ⟨rfl,rfl,rfl,rfl⟩))) (aj (aU (au (bj.or (aW (aC hr))) (aJ az (pv 1) ai (fun _ _=>rfl)) aD (aA _)) (aj (TL (kf hr) (pv 5) (aJ az (pv 1) ai (fun _ _=>rfl)) (bN ag) rfl)) (aj (aU (au (bj.or (aW (aC hr))) (aJ az (pv 1) ai (fun _ _=>rfl)) aD (aA _)) (aj (TL (kf hr) (pv 5) (aJ az (pv 1) ai (fun _ _=>rfl)) (cw (aa (aJ az (pv 1) ai (fun _ _=>rfl)) (aa (aJ az (pv 1) ai (fun _ _=>rfl)) (aa (aJ az (pv 1) ai (fun _ _=>rfl)) (aa (aJ az (pv 1) ai (fun _ _=>rfl)) ag))))) rfl)) (aj (TL (kf hr) (pv 5) (aJ az (pv 1) ai (fun _ _=>rfl)) (aM Np (hr.mono (by decide)) rfl T.JI T.ju.kp T.qL .nil aY (aa (jU (kf hr) (pv 2) (aJ az (pv 1) ai (fun _ _=>rfl)) (fun _ _=>rfl)) (aa (pv 1) (aa (aM xi (hr.mono (by decide)) rfl T.Dm T.ph.kp T.wW .nil aY (aa (pv 2) (aa (pv 1) ag))) ag)))) rfl)))))))) (aj (aw (cw (aa (pv 5) (aa (aP (b7.or (aV.or b8)) (pv 3) (bN (aa (pv 2) ag))) (aa (bN ag) ag))))))))))) ?_;have wl:=w.len;have xl:=ck px';have yl:=ck py';refine⟨_,rfl,p,_,rfl,vH.of hp,rfl,_,_,rfl,_,_,rfl,_,_,rfl,rfl,?_⟩;refine⟨_,rfl,cN (i:=0) hp2 rfl ?_⟩;tm_up;rw[show decide (V.str de.wy.str=V.str (Str.ofString "undo"))=decide (de.wy=.undo) from lI de.wy .undo]
  by_cases z1:de.wy=.undo
  ·rw[W' z1];refine cZ ?_;have hne:st.ps≠[]:=fun z=>by unfold j8 at ho;rw[z1]at ho;simp[z]at ho
   obtain⟨ps0,v0,eps⟩:=akT hne;rw[eps]at px';obtain⟨xs0,x0,rfl,px0,⟨d0,rfl,hd0⟩⟩:=UE px';have eb:iC st de (cH st.vw de)=⟨v0,ps0,st.fs++[st.vw]⟩:=by
    unfold iC;rw[z1,eps];simp
   rw[eb]at q;refine⟨_,rfl,1,rfl,.inl ⟨a,_,-1,_,rfl,rfl,bh.of ha,Xu _ _,?_⟩⟩;refine⟨_,rfl,_,rfl,-1,rfl,.inl ⟨a,_,rfl,bh.of ha,fun c1 hc1=>?_⟩⟩;rw[Yq];have S1:=aq.upd (o:=.lst xs0) hc1;have k1:=ah (H:=H) (a:=c1) (o:=.lst xs0);generalize upd H c1 (.lst xs0)=H1 at S1 k1;refine⟨_,rfl,_,rfl,big (by show 1<=1000;omega),fun c2 hc2=>?_⟩;have S2:=aq.upd (o:=.lst [V.ref d]) hc2;have k2:=ah (H:=H1) (a:=c2) (o:=.lst [V.ref d]);generalize upd H1 c2 (.lst [V.ref d])=H2 at S2 k2;refine .inr (.inr ⟨b,c2,ys,_,rfl,rfl,S2 _ _ (S1 _ _ hb),k2,big (by show _+1<=1000;omega),fun c3 hc3=>?_⟩);have S3:=aq.upd (o:=.lst (ys++[V.ref d])) hc3;have k3:=ah (H:=H2) (a:=c3) (o:=.lst (ys++[V.ref d]));generalize upd H2 c3 (.lst (ys++[V.ref d]))=H3 at S3 k3;refine⟨by show 3<=sizeLine;decide,fun t0 ht0=>?_⟩;have S4:=aq.upd (o:=.tup [V.ref d0,V.ref c1,V.ref c3]) ht0;have S13:=(S1.trans S2).trans S3;have SS:=S13.trans S4;exact q _ _ SS ⟨t0,d0,c1,c3,_,_,rfl,B9 SS ah (fun _ z=>nomatch z),hd0.same mo,jm hc1 (S4 _ _ (S3 _ _ (S2 _ _ k1))),cK (fun _ _ z=>z.same mo) px0,jm ((S1.trans S2).free hc3) (S4 _ _ k3),lF (cK (fun _ _ z=>z.same mo) py') ⟨d,rfl,hd'.same mo⟩⟩
  rw[X' z1];refine bZ ?_;refine⟨_,rfl,cN (i:=0) hp2 rfl ?_⟩;tm_up;rw[show decide (V.str de.wy.str=V.str (Str.ofString "redo"))=decide (de.wy=.xJ) from lI de.wy .xJ]
  by_cases z2:de.wy=.xJ
  ·rw[W' z2];refine cZ ?_;have hne:st.fs≠[]:=fun z=>by unfold j8 at ho;rw[z2]at ho;simp[z]at ho
   obtain⟨fs0,v0,efs⟩:=akT hne;rw[efs]at py';obtain⟨ys0,y0,rfl,py0,⟨d0,rfl,hd0⟩⟩:=UE py';have eb:iC st de (cH st.vw de)=⟨v0,st.ps++[st.vw],fs0⟩:=by
    unfold iC;rw[z2,efs];simp
   rw[eb]at q;refine⟨_,rfl,1,rfl,.inl ⟨b,_,-1,_,rfl,rfl,bh.of hb,Xu _ _,?_⟩⟩;refine⟨_,rfl,_,rfl,big (by show 1<=1000;omega),fun c2 hc2=>?_⟩;have S2:=aq.upd (o:=.lst [V.ref d]) hc2;have k2:=ah (H:=H) (a:=c2) (o:=.lst [V.ref d]);generalize upd H c2 (.lst [V.ref d])=H2 at S2 k2;refine .inr (.inr ⟨a,c2,xs,_,rfl,rfl,S2 _ _ ha,k2,big (by show _+1<=1000;omega),fun c3 hc3=>?_⟩);have S3:=aq.upd (o:=.lst (xs++[V.ref d])) hc3;have k3:=ah (H:=H2) (a:=c3) (o:=.lst (xs++[V.ref d]));generalize upd H2 c3 (.lst (xs++[V.ref d]))=H3 at S3 k3;refine⟨_,rfl,_,rfl,-1,rfl,.inl ⟨b,_,rfl,bh.of (S3 _ _ (S2 _ _ hb)),fun c1 hc1=>?_⟩⟩;rw[Yq];have S1:=aq.upd (o:=.lst ys0) hc1;have k1:=ah (H:=H3) (a:=c1) (o:=.lst ys0);generalize upd H3 c1 (.lst ys0)=H1 at S1 k1;refine⟨by show 3<=sizeLine;decide,fun t0 ht0=>?_⟩;have S4:=aq.upd (o:=.tup [V.ref d0,V.ref c3,V.ref c1]) ht0;have SS:=((S2.trans S3).trans S1).trans S4;exact q _ _ SS ⟨t0,d0,c3,c1,_,_,rfl,B9 SS ah (fun _ z=>nomatch z),hd0.same mo,jm (S2.free hc3) (S4 _ _ (S1 _ _ k3)),lF (cK (fun _ _ z=>z.same mo) px') ⟨d,rfl,hd'.same mo⟩,jm ((S2.trans S3).free hc1) (S4 _ _ k1),cK (fun _ _ z=>z.same mo) py0⟩
  rw[X' z2];refine bZ ?_;obtain⟨kvs,hk',pk⟩:=id hd';have hk:=s0 _ _ hk';have kl:=ck pk;refine⟨_,rfl,d,kvs,rfl,.inl hk,fun l0 hl0=>?_⟩;have S0:=aq.upd (o:=.dK kvs) hl0;have k0:=ah (H:=H) (a:=l0) (o:=.dK kvs);have fz:∀{X:Hp} {o:HO},aq H X->aq H (upd X l0 o):=fun s=>gb s hl0;generalize upd H l0 (.dK kvs)=H0 at S0 k0;refine⟨fun σ H'=>σ=[some (.ref p),some (.ref p2),some (.ref d),some (.ref a),some (.ref b),some (.ref l0)]/\aq H H'/\vO (mix H0' H H') l0 (iC st de (cH st.vw de)).vw,?_,?_⟩
  ·refine⟨_,rfl,cN (i:=0) (S0 _ _ hp2) rfl ?_⟩;tm_up;rw[show decide (V.str de.wy.str=V.str (Str.ofString "drop"))=decide (de.wy=.drop) from lI de.wy .drop]
   by_cases z3:de.wy=.drop
   ·rw[W' z3];refine cZ ?_;have eb:(iC st de (cH st.vw de)).vw=uI st.vw de.n:=by unfold iC;rw[z3]
    rw[eb];have hs:∃ v,uo kvs (Sum.inr de.n)=some v:=by
     have ho':qd st.vw de.n=none:=by unfold j8 at ho;rw[z3]at ho;exact ho
     unfold qd at ho';cases ef:bc st.vw de.n with
     |none=>rw[ef]at ho';cases ho'
     |some th=>obtain⟨v,e,_⟩:=ZX pk ef;exact⟨v,e⟩
    obtain⟨v,hv⟩:=hs;refine⟨_,rfl,l0,rfl,.inl ⟨kvs,.inl k0⟩,_,rfl,cN (i:=1) (S0 _ _ hp2) rfl ?_⟩;exact⟨kvs,Sum.inr de.n,v,k0,rfl,hv,rfl,fz S0,_,jm hl0 ah,cK (fun _ _ z=>z.same mo) (amf pk)⟩
   rw[X' z3];refine bZ ?_;refine⟨_,rfl,cN (i:=0) (S0 _ _ hp2) rfl ?_⟩;tm_up;rw[show decide (V.str de.wy.str=V.str (Str.ofString "add"))=decide (de.wy=.add) from lI de.wy .add]
   by_cases z4:de.wy=.add
   ·rw[W' z4];refine cZ ?_;have eb:(iC st de (cH st.vw de)).vw=st.vw++[(de.n,.pl [])]:=by unfold iC;rw[z4]
    rw[eb];have hn:dA st.vw de.n=none:=by unfold j8 at ho;rw[z4]at ho;exact ho
    have hv:=Z1 pk (adL hn).2.1;refine⟨big (by show 0<=1000;omega),fun c1 hc1=>?_⟩;have S1:=aq.upd (o:=.lst []) hc1;have k1:=ah (H:=H0) (a:=c1) (o:=.lst []);have n1:c1≠l0:=Yb' (ao k0 hc1);generalize upd H0 c1 (.lst [])=H1 at S1 k1;refine⟨_,rfl,_,rfl,cN (i:=1) (S1 _ _ (S0 _ _ hp2)) rfl ?_⟩;refine⟨l0,_,rfl,ZP.k (k:=Sum.inr de.n) (S1 _ _ k0) (ba (by omega)),rfl,fz (S0.trans S1),_,jm hl0 ah,?_⟩;rw[XJ _ hv];exact lF (cK (fun _ _ z=>z.same mo) pk) ⟨rfl,c1,[],rfl,jm (S0.free hc1) (by rw[ak n1];exact k1),.nil⟩
   rw[X' z4];refine bZ ?_;refine⟨_,rfl,cN (i:=0) (S0 _ _ hp2) rfl ?_⟩;tm_up;rw[show decide (V.str de.wy.str=V.str (Str.ofString "canon"))=decide (de.wy=.canon) from lI de.wy .canon]
   by_cases z5:de.wy=.canon
   ·rw[W' z5];refine cZ ?_;have eb:(iC st de (cH st.vw de)).vw=st.vw++[(de.n,.cn de.ld de.lt de.sl de.tn)]:=by unfold iC;rw[z5]
    rw[eb];have hn:dA st.vw de.n=none:=by
     unfold j8 at ho;rw[z5]at ho;cases hn:dA st.vw de.n with
     |none=>rfl
     |some r =>
      have ho:(match dA st.vw de.n with|some r=>some r|none=>jt st.vw de.ld de.lt de.sl)=none:=ho;rw[hn]at ho;cases ho
    have hv:=Z1 pk (adL hn).2.1;refine⟨_,rfl,cN (i:=2) (S0 _ _ hp2) rfl ⟨_,rfl,cN (i:=5) (S0 _ _ hp2) rfl ⟨_,rfl,cN (i:=6) (S0 _ _ hp2) rfl ⟨_,rfl,cN (i:=7) (S0 _ _ hp2) rfl ?_⟩⟩⟩⟩;refine⟨by show 4<=sizeLine;decide,fun c1 hc1=>?_⟩;have S1:=aq.upd (o:=.tup [V.str de.ld,V.int de.lt,V.int de.sl,V.bl de.tn]) hc1;have k1:=ah (H:=H0) (a:=c1) (o:=.tup [V.str de.ld,V.int de.lt,V.int de.sl,V.bl de.tn]);have n1:c1≠l0:=Yb' (ao k0 hc1);generalize upd H0 c1 (.tup [V.str de.ld,V.int de.lt,V.int de.sl,V.bl de.tn])=H1 at S1 k1;refine⟨_,rfl,_,rfl,cN (i:=1) (S1 _ _ (S0 _ _ hp2)) rfl ?_⟩;refine⟨l0,_,rfl,ZP.k (k:=Sum.inr de.n) (S1 _ _ k0) (ba (by omega)),rfl,fz (S0.trans S1),_,jm hl0 ah,?_⟩;rw[XJ _ hv];exact lF (cK (fun _ _ z=>z.same mo) pk) ⟨rfl,c1,rfl,jm (S0.free hc1) (by rw[ak n1];exact k1)⟩
   rw[X' z5];refine bZ ?_;have z6:de.wy=.put\/de.wy=.cut\/de.wy=.swap:=by
    cases hw:de.wy with
    |put=>exact .inl rfl
    |cut=>exact .inr (.inl rfl)
    |swap=>exact .inr (.inr rfl)
    |add=>exact P' hw z4
    |canon=>exact P' hw z5
    |drop=>exact P' hw z3
    |undo=>exact P' hw z1
    |xJ=>exact P' hw z2
   have eb:(iC st de (cH st.vw de)).vw=zO st.vw de.n (.pl (gD (sO st.vw de.n) de.wy de.sg (cH st.vw de).toNat)):=by
    unfold iC;rcases z6 with z|z|z <;> rw[z]
   rw[eb];rw[xj z6]at ho;rcases hd.look de.n with ⟨f1,_⟩|⟨th,v1,f1,g1,t1⟩
   ·rw[mU f1]at ho;cases ho
   cases th with
   |cn ld lt sl tn =>
    rw[sQ f1]at ho;cases ho
   |pl ss =>
    rw[sR f1]at ho;have ep:sO st.vw de.n=ss:=by unfold sO;rw[f1]
    rw[ep];obtain⟨l,zs,rfl,hl,g⟩:=t1;have ajL:=(w.gd _ _ (dm f1)).1
    by_cases y1:cH st.vw de<0\/(ss.length:Int)+(if de.wy=.put then 1 else 0)<=cH st.vw de
    ·rw[K' y1]at ho;cases ho
    rw[G' y1]at ho
    by_cases y2:de.wy≠.cut/\js de.sg=false
    ·rw[K' y2]at ho;cases ho
    have hgd:de.wy≠.cut->js de.sg=true:=fun z=>by
     cases e:js de.sg with
     |true=>rfl
     |false=>exact P' ⟨z,e⟩ y2
    obtain⟨i,hi⟩:∃ i:Nat,cH st.vw de=(i:Int):=⟨(cH st.vw de).toNat,by omega⟩;rw[hi]at y1;have hi1:i<=ss.length:=by
     by_cases z:de.wy=.put
     ·rw[K' z]at y1;omega
     ·rw[G' z]at y1;omega
    have hi2:de.wy≠.put->i<ss.length:=fun z=>by rw[G' z]at y1;omega
    refine⟨_,rfl,_,rfl,cN (i:=1) (S0 _ _ hp2) rfl ⟨d,_,rfl,X4 S0 g1,_,rfl,_,rfl,_,rfl,?_⟩⟩;refine⟨d,_,st.vw,de,rfl,hd.same S0,hde.same S0,fun H1 S1=>?_⟩;rw[hi,Int.toNat_natCast];have S01:=S0.trans S1;refine⟨l,_,zs,ss,de,i,rfl,S01 _ _ hl,g.same S01,ajL,hde.same S01,z6,hgd,hi1,hi2,fun l' ys' H2 nl' S2 hl' g'=>?_⟩;have S02:=S01.trans S2;have n1:l'≠l0:=lg hl' (S2 _ _ (S1 _ _ k0)) (by intro z;cases z);refine⟨_,rfl,_,rfl,cN (i:=1) (S02 _ _ hp2) rfl ?_⟩;refine⟨l0,_,rfl,ZP.k (k:=Sum.inr de.n) (S2 _ _ (S1 _ _ k0)) (ba (by omega)),rfl,fz S02,_,jm hl0 ah,?_⟩;obtain⟨v2,e2,_⟩:=ZX pk f1;refine aoq (cK (fun _ _ z=>z.same mo) pk) (by rw[e2];rfl) ⟨l',ys',rfl,jm (S01.free nl') (by rw[ak n1];exact hl'),?_⟩;refine cK (fun _ _ ⟨z,e1,e2⟩=>⟨z,e1,B9 (fz S02) ?_ (fun _ q=>nomatch q)⟩) g';rw[ak (lg e2 (S2 _ _ (S1 _ _ k0)) (by intro z;cases z))];exact e2
  rintro _ H1 ⟨rfl,S1,dv1⟩;have eb2:(iC st de (cH st.vw de)).ps=st.ps++[st.vw]/\(iC st de (cH st.vw de)).fs=[]:=by
   unfold iC;cases hw:de.wy with
   |undo=>exact P' hw z1
   |xJ=>exact P' hw z2
   |_=>exact⟨rfl,rfl⟩
  refine⟨_,rfl,_,rfl,_,rfl,big (by show 1<=1000;omega),fun c2 hc2=>?_⟩;have S2:=aq.upd (o:=.lst [V.ref d]) hc2;have k2:=ah (H:=H1) (a:=c2) (o:=.lst [V.ref d]);generalize upd H1 c2 (.lst [V.ref d])=H2 at S2 k2;refine .inr (.inr ⟨a,c2,xs,_,rfl,rfl,S2 _ _ (S1 _ _ ha),k2,big (by show _+1<=1000;omega),fun c3 hc3=>?_⟩);have S3:=aq.upd (o:=.lst (xs++[V.ref d])) hc3;have k3:=ah (H:=H2) (a:=c3) (o:=.lst (xs++[V.ref d]));generalize upd H2 c3 (.lst (xs++[V.ref d]))=H3 at S3 k3;refine⟨big (by show 0<=1000;omega),fun c4 hc4=>?_⟩;have S4:=aq.upd (o:=.lst []) hc4;have k4:=ah (H:=H3) (a:=c4) (o:=.lst []);generalize upd H3 c4 (.lst [])=H4 at S4 k4;refine⟨by show 3<=sizeLine;decide,fun t0 ht0=>?_⟩;have S5:=aq.upd (o:=.tup [V.ref l0,V.ref c3,V.ref c4]) ht0;have S15:=((S2.trans S3).trans S4).trans S5;have SS:=S1.trans S15;refine q _ _ SS ⟨t0,l0,c3,c4,_,_,rfl,B9 SS ah (fun _ z=>nomatch z),dv1.same (ahV S15),jm ((S1.trans S2).free hc3) (S5 _ _ (S4 _ _ k3)),?_,jm (((S1.trans S2).trans S3).free hc4) (S5 _ _ k4),?_⟩
  ·rw[eb2.1];exact lF (cK (fun _ _ z=>z.same mo) px') ⟨d,rfl,hd'.same mo⟩
  ·rw[eb2.2];exact .nil
inductive nI (c:Cs)(vs:List V)(H:Hp)(Q:VK)(E:XK):Prop
 |mk (i n:Int) (eE:vs=[.int i,.int n]) (eF:((0<=i/\i<=n->Q .non H)/\(¬(0<=i/\i<=n)->RX E c .rN H))):nI c vs H Q E
theorem jn (T:Txt K w mg t):bI P w K mg base (fA P w) (0+1) t.bT t.jK ["at","last"] (nI (cs t)):=by
 refine T.cg.Od xO (fun vs H Q E h=>?_) (fun cdv A outer s H vs Q E hr h=>?_)
 ·obtain⟨_,_,rfl,_⟩:=h;rfl
 ·obtain⟨i,n,rfl,q1,q2⟩:=h;refine aX (aj (aU (dw (Fp we we ai (pv 0) (pv 1))) (aj (jr (X:=(cj (fA P w) P w K mg base ["at","last"] "refuse_other_places" (ae cb) t.bT cdv A outer s H E)) (fun _ _ z=>z) rfl T.aat.exc rfl T.Ds (aa aD ag))) aB)) ?_;refine⟨_,rfl,_,_,rfl,rfl,_,rfl,?_⟩;refine a9 (fun h0=>?_) (fun h0=>?_)
  ·refine⟨_,rfl,_,_,rfl,rfl,_,rfl,?_⟩;refine a9 (fun h=>?_) (fun h=>?_)
   ·have h':(!decide (i<=n))=true:=h;have q:=q2 fun z=>by rw[W' z.2]at h';cases h'
    exact⟨by show 1<=sizeLine;decide,q.2⟩
   ·have h':¬(!decide (i<=n))=true:=h;refine q1 ⟨U' h0,?_⟩
    by_cases z:i<=n
    ·exact z
    ·exact P' (by rw[X' z];rfl) h'
  ·have q:=q2 fun z=>h0 (W' z.1);exact⟨_,rfl,cZ ⟨by show 1<=sizeLine;decide,q.2⟩⟩
inductive adM (vs:List V)(H:Hp)(Q:VK)(E:XK):Prop
 |mk (p:Addr) (s:Sn) (eE:vs=[.ref p]) (eF:H p=some (.tup [.str s.1,.int s.2])) (h8:Q (.bl (js s)) H):adM vs H Q E
theorem ajN (T:Txt K w mg t):bI P w K mg base lB (0+1) t.Dc t.aaf ["sign"] adM:=by
 refine T.O3.ok T8 (fun vs H Q E h=>?_) (fun cdv A outer s H vs Q E hr h=>?_)
 ·obtain⟨_,_,rfl,_⟩:=h;rfl
 ·obtain⟨p,s,rfl,hp,q⟩:=h;unfold js at q;refine aX (af (lV (pv 0) (sC rfl (bP (bg (i:=1) T8.nd rfl (Or.inl rfl)) (bP (bg (i:=2) T8.nd rfl (Or.inl rfl)) mS)))) (af (aU (au (cW.or cV) (pv 1) (b5 (v:=.ref t.cY) rfl T.w6 rfl) rfl) (aj (aw (Xr we we ai (pv 2) (b5 (v:=.int 99) rfl T.Pa ⟨_,rfl⟩)))) aB) (aj (aw (cS (iW (b6 (cW.or cV) (pv 1) (b5 (v:=.ref t.fF) rfl T.O8 rfl) rfl) (lU (b6 (bj.or (aW (aC hr))) (pv 2) ai (aA _))))))))) ?_;refine⟨_,rfl,_,_,rfl,vH.of hp,rfl,_,_,rfl,_,_,rfl,rfl,_,rfl,.inl ⟨_,_,rfl,.inr (T.xa _),rfl,rfl,_,rfl,?_⟩⟩;refine a9 (fun h=>?_) (fun h=>?_)
  ·rw[K' (show inV (.str s.1) oI=true from h)]at q;refine⟨_,rfl,_,_,rfl,rfl,_,rfl,?_⟩;refine a9 (fun h2=>?_) (fun h2=>?_)
   ·rw[K' h2]at q;exact⟨_,_,rfl,rfl,q⟩
   ·rw[G' h2]at q;exact q
  ·rw[G' (show ¬ inV (.str s.1) oI=true from h)]at q;refine⟨fun v H'=>v=.bl (if inV (V.str s.fst) lO=true then decide (s.snd=0) else false)/\H'=H,?_,fun _ _ ⟨e1,e2⟩=>by rw[e1,e2];exact q⟩;refine⟨_,rfl,.inl ⟨_,_,rfl,.inr (T.O9 _),rfl,rfl,_,rfl,?_⟩⟩;refine a9 (fun h2=>?_) (fun h2=>?_)
   ·rw[K' (show inV (.str s.1) lO=true from h2)];refine⟨_,rfl,.inl ⟨rfl,?_⟩⟩;rw[iA];exact⟨rfl,rfl⟩
   ·rw[G' (show ¬ inV (.str s.1) lO=true from h2)];exact⟨rfl,rfl⟩
inductive tQ (c:Cs)(vs:List V)(H:Hp)(Q:VK)(E:XK):Prop
 |mk (p:Addr) (s:Sn) (eE:vs=[.ref p]) (eF:H p=some (.tup [.str s.1,.int s.2])) (h8:((js s=true->Q .non H)/\(js s=false->RX E c .uF H))):tQ c vs H Q E
theorem tR (T:Txt K w mg t):bI P w K mg base (fA P w) (0+2) t.cM t.m7 ["sign"] (tQ (cs t)):=by
 have amg:=ajN (P:=P) (base:=base) T;refine T.eC.Od C5 (fun vs H Q E h=>?_) (fun cdv A outer s H vs Q E hr h=>?_)
 ·obtain⟨_,_,rfl,_⟩:=h;rfl
 ·obtain⟨p,g,rfl,hp,q1,q2⟩:=h;refine aX (aj (aU (dw (bA (aM amg (hr.mono (by decide)) rfl T.ajA T.O3.kp T.aan .nil aY (aa (pv 0) ag)))) (aj (jr (X:=(cj (fA P w) P w K mg base ["sign"] "refuse_bad_sign" (ae c7) t.cM cdv A outer s H E)) (fun _ _ z=>z) rfl T.aau.exc rfl T.Pf (aa aD ag))) aB)) ?_;refine⟨_,rfl,p,g,rfl,hp,_,rfl,?_⟩;cases hg:js g with
  |true=>exact bZ (q1 hg)
  |false =>
   have q:=q2 hg;exact cZ ⟨by show 1<=sizeLine;decide,q.2⟩
inductive Pw (C:Addr)(vs:List V)(H:Hp)(Q:VK)(E:XK):Prop
 |mk (x dx T_ B A:Addr) (i:Nat) (xs bs as:List V) (eE:vs=[.ref x]) (eF:H x=some (.ins C dx (MD T_ (i:Int) B A))) (h8:H T_=some (.lst xs)) (lh:H B=some (.lst bs)) (rJ:H A=some (.lst as)) (Rg:T_≠A) (h6_:i+bs.length<=xs.length) (h7_:xs.length+as.length<=1000) (h8_:Q .non (upd H T_ (.lst (xs.take i++as++xs.drop (i+bs.length))))):Pw C vs H Q E
theorem Px (T:Txt K w mg t):bI P w K mg base lB (0+1) t.mH t.Jx ["self"] (Pw t.bL):=by
 refine T.B6.ok Z5 (fun vs H Q E h=>?_) (fun cdv A outer s H vs Q E hr h=>?_)
 ·obtain⟨_,_,_,_,_,_,_,_,_,rfl,_⟩:=h;rfl
 ·obtain⟨x,dx,T_,B,A_,i,xs,bs,as,rfl,hx,hT,hB,hA,hne,hi,hz,q⟩:=h;refine aX (aj (lV (cv (pv 0) rfl) (XI (cv (pv 0) rfl) (lM (cv (pv 0) rfl)) (lM (aP (b7.or (aV.or b8)) (cv (pv 0) rfl) (aO (aQ.or aR) rfl T.cA cy (aa (cv (pv 0) rfl) ag))))))) ?_;refine⟨_,rfl,x,_,dx,_,_,rfl,hx,T.gQ,T.ij,Sy _ _ _ _,?_⟩;refine⟨_,rfl,x,_,dx,_,_,rfl,hx,T.gQ,T.fH,Ou _ _ _ _,?_⟩;refine⟨_,rfl,x,_,dx,_,_,rfl,hx,T.gQ,T.jf,TV _ _ _ _,_,rfl,?_⟩;refine⟨_,rfl,x,_,dx,_,_,rfl,hx,T.gQ,T.jf,TV _ _ _ _,?_⟩;refine⟨_,rfl,x,_,dx,_,_,rfl,hx,T.gQ,T.fI,Ov _ _ _ _,?_⟩;refine .inl ⟨B,bs,rfl,.inl (bh.of hB),.inl ⟨_,_,rfl,rfl,_,rfl,?_⟩⟩;refine⟨T_,A_,xs,as,(i:Int),((i+bs.length:Nat):Int),rfl,rfl,rfl,by simp,hT,hA,hne,by omega,by omega,by omega,Zh' hz (by decide),?_⟩;rw[Int.toNat_natCast,Int.toNat_natCast];exact q
inductive zq (CB CD:Addr)(vs:List V)(H:Hp)(Q:VK)(E:XK):Prop
 |mk (x dx L D U d dd T_ B A:Addr) (i:Nat) (ds us xs bs as:List V) (eE:vs=[.ref x,.ref d]) (eF:H x=some (.ins CB dx (Fn L D U))) (h8:H D=some (.lst ds)) (lh:H U=some (.lst us)) (rJ:H d=some (.ins CD dd (MD T_ (i:Int) B A))) (Rg:H T_=some (.lst xs)) (h6_:H B=some (.lst bs)) (h7_:H A=some (.lst as)) (h8_:T_≠A) (h9_:T_≠D) (aqJ:T_≠U) (ato:D≠U) (atp:i+bs.length<=xs.length) (atq:xs.length+as.length<=1000) (atr:ds.length<=900) (ats:Q .non (upd (upd (upd H T_ (.lst (xs.take i++as++xs.drop (i+bs.length)))) D (.lst (ds++[.ref d]))) U (.lst []))):zq CB CD vs H Q E
theorem jB (T:Txt K w mg t):bI P w K mg base lB (0+2) t.dX t.tE ["self","deed"] (zq t.bp t.bL):=by
 have JY:=Px (P:=P) (base:=base) T;refine T.nC.ok Ng (fun vs H Q E h=>?_) (fun cdv A outer s H vs Q E hr h=>?_)
 ·obtain⟨_,_,_,_,_,_,_,_,_,_,_,_,_,_,_,_,rfl,_⟩:=h;rfl
 ·obtain⟨x,dx,L,D,U,d,dd,T_,B,A_,i,ds,us,xs,bs,as,rfl,hx,hD,hU,hd,hT,hB,hA,n1,n2,n3,n4,hi,hz,hds,q⟩:=h;refine aX (af (a8 (sG (pv 1) T.gQ T.O4 JY (hr.mono (by decide)) T.B7 .nil aY)) (af (a8 (ke Yc' Yd' Ye' bW (cv (pv 0) rfl) (aa (pv 1) ag))) (aj (a8 (Tz Yc' PySem.F.slot_list_clear PySem.F.type_list_clear agx (cv (pv 0) rfl)))))) ?_;have xT:x≠T_:=lg hx hT (by intro z;cases z);have xD:x≠D:=lg hx hD (by intro z;cases z);refine⟨_,rfl,d,dd,_,rfl,hd,Sz _ _ _ _,?_⟩;refine⟨d,dd,T_,B,A_,i,xs,bs,as,rfl,hd,hT,hB,hA,n1,hi,hz,?_⟩;refine⟨_,rfl,x,_,dx,_,_,rfl,by rw[ak xT];exact hx,T.aT,T.e8,FC _ _ _,?_⟩;refine⟨.inl ⟨rfl,_,bh.of (show upd H T_ _ D=some (.lst ds) by rw[ak (Yb' n2)];exact hD)⟩,_,rfl,D,_,_,rfl,rfl,by rw[ak (Yb' n2)];exact hD,ba (by omega),?_⟩;refine⟨_,rfl,x,_,dx,_,_,rfl,by rw[ak xD,ak xT];exact hx,T.aT,T.dg,xH _ _ _,?_⟩;have hU2:upd (upd H T_ (.lst (xs.take i++as++xs.drop (i+bs.length)))) D (.lst (ds++[.ref d])) U=some (.lst us):=by rw[ak (Yb' n4),ak (Yb' n3)];exact hU
  exact⟨.inl ⟨rfl,_,bh.of hU2⟩,U,_,rfl,rfl,hU2,q⟩
theorem aaG (ks:List Kd)(p met:Nat):Ct ks (p+1) met=if(if(ks.getD p .dot).small=true then met else met+1)=2 then p else Ct ks p (if(ks.getD p .dot).small=true then met else met+1):=rfl
inductive Py (K:Frag)(vs:List V)(H:Hp)(Q:VK)(E:XK):Prop
 |mk (l:Addr) (xs:List V) (ss:List Sg) (i:Nat) (eE:vs=[.ref l,.int (i:Int)]) (eF:bh K H l xs) (h8:qo H xs ss) (lh:ss.length<=200) (rJ:i<=ss.length) (Rg:Q (.int (Ct (bO ss) i 0:Nat)) H):Py K vs H Q E
theorem aaH (T:Txt K w mg t):bI P w K mg base lB (0+2) t.o6 t.Jy ["line","at"] (Py K):=by
 have Uv:=Yh (P:=P) (base:=base) T;refine T.wX.ok xP (fun vs H Q E h=>?_) (fun cdv A outer s H vs Q E hr h=>?_)
 ·obtain⟨_,_,_,_,rfl,_⟩:=h;rfl
 ·obtain⟨l,xs,ss,i,rfl,hS,g,hl,hi,q⟩:=h;refine aX (af (aL (i:=2) xP.nd rfl (Or.inl rfl) ai) (af (kc PassesOwn.never rfl (aen rfl T.w5 (aa (aP iY (pv 1) ai) (aa (zB sF ai) (aa (zB sF ai) ag)))) (bg (i:=3) xP.nd rfl (Or.inl rfl)) (af (gp (aU (dw (bA (aM Uv (hr.mono (by decide)) rfl T.X8 T.BZ.kp T.NX .nil aY (aa (aJ az (pv 0) (pv 3) (fun _ _=>rfl)) ag)))) (aj (ak7 (i:=2) xP.nd rfl (Or.inl rfl) ai ak8)) aB)) (aj (aU (au (bj.or (aW (aC hr))) (pv 2) ai (aA _)) (aj (aw (pv 3))) aB)))) (aj (aw ai)))) ?_;tm_up;have xl:=ck g;refine⟨(i:Int)-1,-1,rfl,⟨by omega,by omega,by omega,by omega⟩,ag2 (fun j σ H'=>∃(met:Nat)(v:Option V),σ=[some (.ref l),some (.int (i:Int)),some (.int (met:Int)),v]/\H'=H/\met<2/\Ct (bO ss) i 0=Ct (bO ss) (i-j) met) ⟨0,none,rfl,rfl,by decide,rfl⟩ ?_ ?_⟩
  ·rintro j σ H1 hj ⟨met,v,rfl,eH,hm2,hgo⟩;have eH:=eH.symm;subst eH;obtain⟨sg,hsg⟩:∃ sg,ss[i-1-j]? = some sg:=⟨_,T' (by omega)⟩;have hk:(bO ss).getD (i-1-j) .dot=sg.1:=by rw[List.getD_eq_getElem?_getD,Zf',hsg];rfl
   have hij:i-j=(i-1-j)+1:=by omega
   refine⟨fun σ H'=>σ=[some (.ref l),some (.int (i:Int)),some (.int ((if sg.1.small=true then met else met+1:Nat):Int)),some (.int ((i:Int)-1-(j:Int)))]/\H'=H,?_,?_⟩
   ·tm_up;refine Rm hS g (n:=i-1-j) (by omega) hsg fun b hb=>?_;refine⟨b,sg,rfl,hb,?_⟩;refine⟨_,rfl,?_⟩;refine a9 (fun hc=>?_) (fun hc=>?_)
    ·have hc':sg.1.small=false:=by simpa using hc
     rw[hc'];tm_up;exact⟨by simp,rfl⟩
    ·have hc':sg.1.small=true:=by simpa using hc
     rw[hc'];exact⟨rfl,rfl⟩
   ·rintro _ H1 ⟨rfl,eH⟩;have eH:=eH.symm;subst eH;tm_up;have ahW:Ct (bO ss) i 0=if(if sg.1.small=true then met else met+1)=2 then i-1-j else Ct (bO ss) (i-1-j) (if sg.1.small=true then met else met+1):=by
     rw[hgo,hij,aaG,hk]
    have hle:(if sg.1.small=true then met else met+1)<=2:=by split <;> omega
    generalize (if sg.1.small=true then met else met+1)=amh at ahW hle;refine a9 (fun hc=>?_) (fun hc=>?_)
    ·have e2:amh=2:=by have:=V.int.inj (U' hc);omega
     rw[K' e2]at ahW;refine⟨_,rfl,?_⟩;rw[ahW]at q;have:((i:Int)-1-(j:Int))=((i-1-j:Nat):Int):=by omega
     rw[this];exact q
    ·have e2:¬ amh=2:=fun z=>hc (W' (R' V.int (by omega)));rw[G' e2]at ahW;exact⟨amh,_,rfl,rfl,by omega,by rw[ahW];congr 1;omega⟩
  ·rintro σ H1 ⟨met,v,rfl,eH,hm2,hgo⟩;have eH:=eH.symm;subst eH;have:Ct (bO ss) i 0=0:=by
    rw[hgo];have e:i-(↑i-1 - -1:Int).toNat=0:=by omega
    rw[e];rfl
   rw[this]at q;exact q
inductive MV (K:Frag)(vs:List V)(H:Hp)(Q:VK)(E:XK):Prop
 |mk (l kp:Addr) (xs:List V) (ss:List Sg) (i:Nat) (wide:Bool) (eE:vs=[.ref l,.int (i:Int),.ref kp]) (eF:bh K H l xs) (h8:qo H xs ss) (lh:ss.length<=200) (rJ:vH K H kp (ZZ wide)) (Rg:i<=ss.length) (h6_:Q (.int (SE (bO ss) i wide:Nat)) H):MV K vs H Q E
theorem Ys (T:Txt K w mg t):bI P w K mg base lB (0+1) t.md t.Df ["line","first","kinds"] (MV K):=by
 refine T.tL.ok MH (fun vs H Q E h=>?_) (fun cdv A outer s H vs Q E hr h=>?_)
 ·obtain⟨_,_,_,_,_,_,rfl,_⟩:=h;rfl
 ·obtain⟨l,kp,xs,ss,i,wide,rfl,hS,g,hl,hT,hi,q⟩:=h;refine aX (af (kc PassesOwn.never rfl (adZ rfl T.w5 (aa (pv 1) (aa (aO (aQ.or aR) rfl T.cA cy (aa (pv 0) ag)) ag))) (bg (i:=3) MH.nd rfl (Or.inl rfl)) (aj (aU (au (cW.or cV) (aJ az (aJ az (pv 0) (pv 3) (fun _ _=>rfl)) ai (fun _ _=>rfl)) (pv 2) rfl) (aj (aw (pv 3))) aB))) (aj (aw (aO (aQ.or aR) rfl T.cA cy (aa (pv 0) ag))))) ?_;have xl:=ck g;tm_up;refine .inl ⟨l,xs,rfl,.inl hS,?_⟩;refine⟨(i:Int),(xs.length:Int),rfl,⟨by omega,by omega,by omega,by omega⟩,wc (fun j σ H'=>∃(v:Option V),σ=[some (.ref l),some (.int (i:Int)),some (.ref kp),v]/\H'=H/\∀ m x,m<j->(bO ss)[i+m]? = some x->SD wide x=false) ⟨none,rfl,rfl,fun m x hm=>by omega⟩ ?_ ?_⟩
  ·rintro j σ H1 hj ⟨v,rfl,eH,hno⟩;have eH:=eH.symm;subst eH;obtain⟨sg,hsg⟩:∃ sg,ss[i+j]? = some sg:=⟨_,T' (by omega)⟩;tm_up;refine Rm hS g (n:=i+j) (by omega) hsg fun b hb=>?_;tm_up;refine .inl ⟨kp,_,rfl,.inr hT,rfl,by cases wide <;> rfl,_,rfl,?_⟩;have hk:(bO ss)[i+j]? = some sg.1:=by rw[Zf',hsg];rfl
   rw[aht];refine a9 (fun hc=>?_) (fun hc=>?_)
   ·rw[ajy hno hk hc]at q;refine⟨_,rfl,?_⟩;have e:((i+j:Nat):Int)=(i:Int)+(j:Int):=by omega
    rw[e]at q;exact q
   ·refine⟨_,rfl,rfl,fun m x hm hx=>?_⟩;rcases Nat.lt_or_ge m j with z|z
    ·exact hno m x z hx
    ·have e:m=j:=by omega
     subst e;rw[hk]at hx;cases hx
     simpa using hc
  ·rintro σ H1 ⟨v,rfl,eH,hno⟩;have eH:=eH.symm;subst eH;refine⟨_,rfl,.inl ⟨l,_,rfl,.inl hS,?_⟩⟩;have kl:(bO ss).length=ss.length:=j' ..;rw[ahu (by omega) fun m x hx=>hno m x (by have:=(S'.mp hx).1;omega) hx,kl,<-xl]at q;exact q
inductive SY (K:Frag)(vs:List V)(H:Hp)(Q:VK)(E:XK):Prop
 |mk (l ch:Addr) (xs cx:List V) (ss cs:List Sg) (i b:Nat) (eE:vs=[.ref l,.int (i:Int),.int (b:Int),.ref ch]) (eF:bh K H l xs) (h8:qo H xs ss) (lh:ss.length<=200) (rJ:i<=ss.length) (Rg:b<=ss.length) (h6_:bh K H ch cx) (h7_:qo H cx cs) (h8_:cs.length<=100) (h9_:∀(p:Addr)(H':Hp),aq H H'->H' p=some (.tup (Z0 ss i b cs))->Q (.ref p) H'):SY K vs H Q E
theorem JZ (T:Txt K w mg t):bI P w K mg base lB (0+3) t.tF t.OW ["line","at","behind","changed"] (SY K):=by
 have aeV:=aaH (P:=P) (base:=base) T;have aaI:=Ys (P:=P) (base:=base) T;have tO:=zj (P:=P) (base:=base) T;refine T.tM.ok SH (fun vs H Q E h=>?_) (fun cdv A outer s H vs Q E hr h=>?_)
 ·obtain⟨_,_,_,_,_,_,_,_,rfl,_⟩:=h;rfl
 ·obtain⟨l,ch,xs,cx,ss,cs,i,b,rfl,hS,g,hl,hi,hb,hC,gc,hcl,q⟩:=h;refine aX (af (aL (i:=4) SH.nd rfl (Or.inl rfl) (cS (eM (bA (aO Xz rfl T.ahF agI (aa (uy (cn:=["sign"]) rfl (il.of rfl) (iX (pv 3)) (fun _=>(bg (i:=0) X6 rfl (Or.inl rfl))) (fun _=>zF) (fun _=>(aM tO (hr.mono (by decide)) rfl T.zf T.iG.kp T.nj .nil aY (aa (pv 0) ag)))) ag))) (b5 (v:=.ref t.dt) rfl T.zg rfl) (b5 (v:=.ref t.eK) rfl T.Ni rfl)))) (aj (aw (cw (aa (aM aeV (hr.mono (by decide)) rfl T.aao T.wX.kp T.JJ .nil aY (aa (pv 0) (aa (pv 1) ag))) (aa (aM aaI (hr.mono (by decide)) rfl T.Yb T.tL.kp T.Dq .nil aY (aa (pv 0) (aa (pv 2) (aa (pv 4) ag)))) ag)))))) ?_;have cl:=ck gc;refine⟨fun v H'=>∃ kp,v=.ref kp/\(∀ Nn ,vH K Nn kp (ZZ (cs.any fun s=>s.1.meas)))/\aq H H',?_,?_⟩
  ·refine⟨_,rfl,ch,rfl,⟨_,hC⟩,fun D b2 hD=>?_⟩;refine mw (K:=K) (xs:=cx) (fun ii ys σ H'=>∃ v,σ=[v,some (.ref l),some (.int (i:Int)),some (.int (b:Int)),some (.ref ch),none]/\H'=upd H D (.lst ys)/\ys=((cs.take ii).map fun s=>s.1.meas).map V.bl) ⟨none,rfl,rfl,rfl⟩ ?_ ?_ ?_
   ·rintro ii ys σ H' ⟨v,rfl,rfl,_⟩;exact kJ hC hD
   ·rintro ii ys x σ H' hx ⟨v,rfl,rfl,rfl⟩ N hN;obtain⟨sg,e1,p,rfl,hp⟩:=zL gc hx;have hii:ii<cs.length:=(S'.mp e1).1;refine lX ?_;refine⟨_,rfl,p,sg,rfl,(by rw[ak (ao hp hD)];exact hp),ah,?_,?_⟩
    ·rw[j',j',Ze'];exact ba (by omega)
    ·refine hN _ _ _ ⟨_,rfl,eo,?_⟩;rw[take_succ,e1];simp
   ·rintro ys σ H' ⟨v,rfl,rfl,rfl⟩;refine⟨rfl,D,_,rfl,bh.of ah,_,rfl,?_⟩;rw[cl,take_length,List.any_map];refine a9 (fun hc=>?_) (fun hc=>?_)
    ·have e:(cs.any fun s=>s.1.meas)=true:=hc;refine⟨_,rfl,fun Nn=>?_,aq.upd hD⟩;rw[e];exact T.zh Nn
    ·have e:(cs.any fun s=>s.1.meas)=false:=by
      cases z:(cs.any fun s=>s.1.meas) with
      |false=>rfl
      |true=>exact P' z hc
     refine⟨_,rfl,fun Nn=>?_,aq.upd hD⟩;rw[e];exact T.Nj Nn
  ·rintro _ H1 ⟨kp,rfl,hk,s1⟩;refine⟨_,rfl,_,rfl,l,xs,ss,i,rfl,s1.seq hS,g.same s1,hl,hi,?_⟩;refine⟨_,rfl,_,rfl,_,rfl,l,kp,xs,ss,b,_,rfl,s1.seq hS,g.same s1,hl,hk _,hb,?_⟩;refine⟨by show 2<=sizeLine;decide,fun p hp=>q p _ (s1.trans (aq.upd hp)) ah⟩
inductive rG (c:Cs)(vs:List V)(H:Hp)(Q:VK)(E:XK):Prop
 |mk (x dx L D U:Addr) (xs:List V) (vx:List Vx) (n:Str) (eE:vs=[.ref x,.str n]) (eF:H x=some (.ins c.B dx (Fn L D U))) (h8:H L=some (.lst xs)) (lh:Paired (ajv c.V H) xs vx) (rJ:match vx.find? (fun a=>decide (a.n=n)) with
 |none=>RX E c .cC H
 |some a=>(a.tm=.non->Q (.ref a.o) H)/\(∀ p,a.tm=.ref p->RX E c .iB H)/\(a.tm=.non\/∃ p,a.tm=.ref p)):rG c vs H Q E
theorem ix (T:Txt K w mg t):bI P w K mg base (fA P w) (0+2) t.bR t.me ["self","name"] (rG (cs t)):=by
 have bV:=en (P:=P) (base:=base) T;refine T.jd.Od rF (fun vs H Q E h=>?_) (fun cdv A outer s H vs Q E hr h=>?_)
 ·obtain⟨_,_,_,_,_,_,_,_,rfl,_⟩:=h;rfl
 ·obtain⟨x,dx,L,D,U,xs,vx,n,rfl,hx,hL,g,q⟩:=h;refine aX (af (aL (i:=2) rF.nd rfl (Or.inl rfl) (bC (X:=(cj (fA P w) P w K mg base ["self","name","voice"] "Book.plain_voice" (ae cB) t.bR cdv A outer s H E)) (pv 0) T.aT T.d4 bV (hr.mono (by decide)) T.cJ .nil (fun _ _ z=>Or.inl z) (aa (pv 1) ag))) (af (aU (au Ts (cv (pv 2) rfl) jH (aA _)) (aj (jr (X:=(cj (fA P w) P w K mg base ["self","name","voice"] "Book.plain_voice" (ae cB) t.bR cdv A outer s H E)) (fun _ _ z=>z) rfl T.Yf.exc rfl T.As (aa aD ag))) aB) (aj (aw (pv 2))))) ?_;refine⟨_,rfl,x,dx,_,rfl,hx,eN _ _ _,_,rfl,x,dx,L,D,U,xs,vx,n,rfl,hx,hL,g,?_⟩;cases hf:vx.find? (fun a=>decide (a.n=n)) with
  |none =>
   rw[hf]at q;exact q
  |some a =>
   rw[hf]at q;obtain⟨q1,q2,q3⟩:=q;obtain⟨j,hj⟩:=getElem?_of_mem (List.mem_of_find?_eq_some hf);obtain⟨v,hv,rfl,ha⟩:=wt g hj;refine⟨_,rfl,a.o,_,a.d,_,_,rfl,ha,T.gP,T.df,BQ _ _ _,?_⟩;rcases q3 with e|⟨p,e⟩
   ·rw[e];refine⟨rfl,_,rfl,?_⟩;exact a9 (fun h=>P' h (by decide)) (fun _=>⟨_,rfl,q1 e⟩)
   ·have q:=q2 p e;rw[e];refine⟨rfl,_,rfl,?_⟩;exact a9 (fun _=>⟨by show 1<=sizeLine;decide,q.2⟩) (fun h=>P' (show(!decide (V.ref p=V.non))=true by rw[X' (fun z=>nomatch z)];rfl) h)
inductive GZ (C:Addr)(vs:List V)(H:Hp)(Q:VK)(E:XK):Prop
 |mk (x dx:Addr) (T_:Addr) (i:Int) (B A:Addr) (eE:vs=[.ref x,.ref T_,.int i,.ref B,.ref A]) (eF:H x=some (.ins C dx [])) (h8:Q .non (upd H x (.ins C dx (MD T_ i B A)))):GZ C vs H Q E
theorem iQ (T:Txt K w mg t):bI P w K mg base lB (0+1) t.dr t.qJ ["self","things","at","before","after"] (GZ t.bL):=by
 refine T.lS.ok Je (fun vs H Q E h=>?_) (fun cdv A outer s H vs Q E hr h=>?_)
 ·obtain⟨_,_,_,_,_,_,rfl,_⟩:=h;rfl
 ·obtain⟨x,dx,T_,i,B,A_,rfl,hx,q⟩:=h;refine aX (af (vI (pv 0) (pv 1) rfl) (af (vI (pv 0) (pv 2) rfl) (af (vI (pv 0) (pv 3) rfl) (aj (vI (pv 0) (pv 4) rfl))))) ?_;refine⟨_,rfl,_,rfl,x,_,dx,_,rfl,hx,T.gQ,T.fH,by show 0<1000;decide,?_⟩;refine⟨_,rfl,_,rfl,x,_,dx,_,rfl,ah,T.gQ,T.jf,by rw[NU];show 1<1000;decide,?_⟩;refine⟨_,rfl,_,rfl,x,_,dx,_,rfl,ah,T.gQ,T.fI,by rw[NU,TX];show 2<1000;decide,?_⟩;refine⟨_,rfl,_,rfl,x,_,dx,_,rfl,ah,T.gQ,T.ij,by rw[NU,TX,adw];show 3<1000;decide,?_⟩;rw[NU,TX,adw,ajt];simp only [eo];exact q
inductive MW (c:Cs)(vs:List V)(H:Hp)(Q:VK)(E:XK):Prop
 |mk (x:Addr) (F:Addr->Prop) (vw:Vw) (ps fs:List Vw) (n:Str) (i:Int) (p:Addr) (sn:Sn) (eE:vs=[.ref x,.str n,.int i,.ref p]) (eF:xw c H x F vw ps fs) (h8:H p=some (.tup [.str sn.1,.int sn.2])) (lh:ps.length<=900) (rJ:match bc vw n with
 |none=>RX E c .cC H
 |some (.cn _ _ _ _)=>RX E c .iB H
 |some (.pl ss)=>(¬(0<=i/\i<=(ss.length:Int))->RX E c .rN H)/\((0<=i/\i<=(ss.length:Int))->js sn=false->RX E c .uF H)/\((0<=i/\i<=(ss.length:Int))->js sn=true->200<=ss.length->RX E c .Full H) /\
  ((0<=i/\i<=(ss.length:Int))->js sn=true->ss.length<200->∀(s:Sg)(w:Addr) F' H',s.1.str=sn.1->s.2=sn.2->H' w=some (.tup (Z0 (ss.take i.toNat++[s]++ss.drop i.toNat) i.toNat (i.toNat+1) [s]))->Gr F F' H->Fr F H H'->xw c H' x F' (zO vw n (.pl (ss.take i.toNat++[s]++ss.drop i.toNat))) (ps++[vw]) []->Q (.ref w) H')):MW c vs H Q E
theorem MX (T:Txt K w mg t):bI P w K mg base (fA P w) (0+4) t.eJ t.Dg ["self","name","at","sign"] (MW (cs t)):=by
 have dF:=jn (P:=P) (base:=base) T;have nJ:=tR (P:=P) (base:=base) T;have dj:=jB (P:=P) (base:=base) T;have Aw:=JZ (P:=P) (base:=base) T;have cT:=ix (P:=P) (base:=base) T;have cR:=iQ (P:=P) (base:=base) T;refine T.ya.Od MI (fun vs H Q E h=>?_) (fun cdv A outer s H vs Q E hr h=>?_)
 ·obtain⟨_,_,_,_,_,_,_,_,_,rfl,_⟩:=h;rfl
 ·obtain⟨x,F,vw,ps,fs,n,iz,p,sn,rfl,B,hp,hps,q⟩:=h;refine aX (af (aL (i:=4) MI.nd rfl (Or.inl rfl) (cv (bC (X:=(cj (fA P w) P w K mg base ["self","name","at","sign","signs"] "Book.put" (ae ia) t.eJ cdv A outer s H E)) (pv 0) T.aT T.iq cT (hr.mono (by decide)) T.dP .nil (fun _ _ z=>Or.inl z) (aa (pv 1) ag)) rfl)) (af (a8 (kh (X:=(cj (fA P w) P w K mg base ["self","name","at","sign","signs"] "Book.put" (ae ia) t.eJ cdv A outer s H E)) dF (hr.mono (by decide)) rfl T.jc T.cg.kp T.dC .nil (fun _ _ z=>Or.inl z) (aa (pv 2) (aa (aO (aQ.or aR) rfl T.cA cy (aa (pv 4) ag)) ag)))) (af (a8 (kh (X:=(cj (fA P w) P w K mg base ["self","name","at","sign","signs"] "Book.put" (ae ia) t.eJ cdv A outer s H E)) nJ (hr.mono (by decide)) rfl T.tK T.eC.kp T.jZ .nil (fun _ _ z=>Or.inl z) (aa (pv 3) ag))) (af (aU (au ac7 (aO (aQ.or aR) rfl T.cA cy (aa (pv 4) ag)) (b5 (v:=.int 200) rfl T.Ur ⟨_,rfl⟩) (aA _)) (aj (jr (X:=(cj (fA P w) P w K mg base ["self","name","at","sign","signs"] "Book.put" (ae ia) t.eJ cdv A outer s H E)) (fun _ _ z=>z) rfl T.adC.exc rfl T.Us (aa aD ag))) aB) (af (a8 (lL (pv 0) T.aT T.jv dj (hr.mono (by decide)) T.fG .nil aY (aa (xB T.GA cR (hr.mono (by decide)) rfl T.Gz T.eL .nil aY (aa (pv 4) (aa (pv 2) (aa (bN ag) (aa (bN (aa (pv 3) ag)) ag))))) ag))) (aj (aw (aM Aw (hr.mono (by decide)) rfl T.JK T.tM.kp T.Am .nil aY (aa (pv 4) (aa (pv 2) (aa (aP (b7.or (aV.or b8)) (pv 2) ai) (aa (bN (aa (pv 3) ag)) ag)))))))))))) ?_;obtain⟨L,D,U,all,M,Ps,Fs,es,us,b,iM,pp,pf,f⟩:=B.ex;obtain⟨dx,hx⟩:=b.hx;obtain⟨vx,g,gv⟩:=b.xI iM;obtain⟨ds,hD,pD⟩:=b.hD;obtain⟨ux,hU,pU⟩:=b.hU;have dl:=ck pD;have pl:=ck pp;have pe:=b.past.len;refine⟨_,rfl,x,dx,_,rfl,hx,i5 _ _ _,_,rfl,x,dx,L,D,U,M L,vx,n,rfl,hx,b.hL,g,?_⟩;rcases MG gv (fun _ _ r=>r.2.1) n with ⟨f1,f2⟩|⟨a,th,j,f1,f2,r,an,fj,fw⟩
  ·rw[f1];rw[f2]at q;exact q
  rw[f1];rw[f2]at q;subst an;cases th with
  |cn ld lt sl tn =>
   obtain⟨pt,SX,_⟩:=r.2.2;refine⟨fun z=>?_,fun _ _=>q,.inr ⟨pt,SX⟩⟩;rw[SX]at z;cases z
  |pl ss =>
   obtain⟨Xm,hg⟩:=r.2.2;obtain⟨q1,q2,q3,q4⟩:=q;have haa:=r.1;obtain⟨ha,hl⟩:=b.ha a haa;have yl:=ck hg;have hj:(M L)[j]? = some (.ref a.o):=by
    obtain⟨v,hv,e1,_⟩:=wt g fj;rw[<-e1];exact hv
   refine⟨fun _=>?_,(fun pz z=>by rw[Xm]at z;cases z),.inl Xm⟩;refine⟨a.o,_,a.d,_,_,rfl,ha,T.gP,T.cP,wx _ _ _,?_⟩;refine⟨_,rfl,_,rfl,.inl ⟨a.l,M a.l,rfl,.inl (bh.of hl),?_⟩⟩;refine⟨iz,((M a.l).length:Int),rfl,fun hi=>?_,fun hi=>?_⟩
   rotate_left
   ·have q:=q1 (by rw[<-yl];exact hi);exact q
   rw[yl]at hi;refine⟨_,rfl,p,sn,rfl,hp,fun hgd=>?_,fun hgd=>?_⟩
   rotate_left
   ·have q:=q2 hi hgd;exact q
   refine⟨_,rfl,.inl ⟨a.l,M a.l,rfl,.inl (bh.of hl),?_⟩⟩;refine⟨_,_,rfl,rfl,_,rfl,?_⟩;refine a9 (fun h=>?_) (fun h=>?_)
   ·have h':=U' h;have q:=q3 hi hgd (by omega);exact⟨by show 1<=sizeLine;decide,q.2⟩
   have hlt:ss.length<200:=by
    rcases Nat.lt_or_ge ss.length 200 with z|z
    ·exact z
    ·exact P' (W' (by omega)) h
   obtain⟨sg,e1,e2,gt⟩:=TZ hgd;rw[<-e1,<-e2]at hp;obtain⟨i,rfl⟩:∃ i:Nat,iz=(i:Int):=⟨iz.toNat,by omega⟩;have hi:i<=ss.length:=by omega
   have q4:=q4 (by omega) hgd hlt sg;rw[Int.toNat_natCast]at q4;refine⟨_,rfl,x,dx,_,rfl,hx,kj _ _ _,?_⟩;refine⟨_,rfl,_,rfl,big (by show 0<=1000;omega),fun B' hB=>?_⟩;refine⟨_,rfl,big (by show 1<=1000;omega),fun A_ hA=>?_⟩;have hA0:=FF hA;have sB:=(aq.upd (o:=.lst []) hB).trans (aq.upd (o:=.lst [V.ref p]) hA);have hB2:=aq.upd (o:=.lst [V.ref p]) hA _ _ (ah (H:=H) (a:=B') (o:=.lst []));have UG:=ah (H:=upd H B' (.lst [])) (a:=A_) (o:=.lst [V.ref p]);have lA:a.l≠A_:=ao hl hA0;generalize upd (upd H B' (.lst [])) A_ (.lst [V.ref p])=H2 at sB hB2 UG;intro d dd nd ndd ne;refine⟨d,dd,a.l,(i:Int),B',A_,rfl,ah,rfl,?_⟩;rw[eo];have s3:aq H2 (upd (upd H2 dd (.own d)) d (.ins t.bL dd (MD a.l (i:Int) B' A_))):=fun y o hy=>by
    rw[ak (ao hy nd),ak (ao hy ndd)];exact hy
   have UH:=ah (H:=upd H2 dd (.own d)) (a:=d) (o:=.ins t.bL dd (MD a.l (i:Int) B' A_));generalize upd (upd H2 dd (.own d)) d (.ins t.bL dd (MD a.l (i:Int) B' A_))=H3 at s3 UH;have s4:=sB.trans s3;obtain⟨_,d1,d2⟩:=b.lists (.inr ⟨a,haa,rfl⟩);refine⟨x,dx,L,D,U,d,dd,a.l,B',A_,i,ds,ux,M a.l,[],[.ref p],rfl,s4 _ _ hx,s4 _ _ hD,s4 _ _ hU,UH,s4 _ _ hl,s3 _ _ hB2,s3 _ _ UG,lA,d1,d2,b.DU,by simp;omega,by simp;omega,by omega,?_⟩;have hM:xu ⟨d,dd,a.l,i,B',A_,[],[.ref p]⟩ M a.l=(M a.l).take i++[.ref p]++(M a.l).drop (i+0):=h9;have keep:∀ y o,H3 y=some o->y≠a.l->y≠D->y≠U->(upd (upd (upd H3 a.l (.lst ((M a.l).take i++[.ref p]++(M a.l).drop (i+0)))) D (.lst (ds++[.ref d]))) U (.lst [])) y=some o:=fun y o hy y1 y2 y3=>by
    rw[ak y3,ak y2,ak y1];exact hy
   have k1:(upd (upd (upd H3 a.l (.lst ((M a.l).take i++[.ref p]++(M a.l).drop (i+0)))) D (.lst (ds++[.ref d]))) U (.lst [])) a.l=some (.lst ((M a.l).take i++[.ref p]++(M a.l).drop (i+0))):=by
    rw[ak d2,ak d1,ah]
   have k2:(upd (upd (upd H3 a.l (.lst ((M a.l).take i++[.ref p]++(M a.l).drop (i+0)))) D (.lst (ds++[.ref d]))) U (.lst [])) D=some (.lst (ds++[.ref d])):=by
    rw[ak b.DU,ah]
   have k3:(upd (upd (upd H3 a.l (.lst ((M a.l).take i++[.ref p]++(M a.l).drop (i+0)))) D (.lst (ds++[.ref d]))) U (.lst [])) U=some (.lst []):=ah;generalize (upd (upd (upd H3 a.l (.lst ((M a.l).take i++[.ref p]++(M a.l).drop (i+0)))) D (.lst (ds++[.ref d]))) U (.lst []))=H4 at keep k1 k2 k3;have g3:=hg.same s4;have sgN:qo H3 ((M a.l).take i++[.ref p]++(M a.l).drop (i+0)) (ss.take i++[sg]++ss.drop i):=IV (IV (MC i g3) (.cons ⟨p,rfl,s4 _ _ hp⟩ .nil)) (MB i g3);obtain⟨F',gr,fr,B4⟩:=Bk.ahr b iM pp f B.wv haa hj fw Xm (e:=⟨d,dd,a.l,i,B',A_,[],[.ref p]⟩) rfl ⟨by simp;omega,by simp⟩ (by simp) (by simp) s4 hB hA0 ⟨rfl,UH,s3 _ _ hB2,s3 _ _ UG⟩ (by rw[hM];exact sgN) (by simp;omega) (fun s hs=>by
    have wg:=((B.wv vw (.inr (.inl rfl))).gd _ _ (Za' fw)).2;rcases Zk'.mp hs with hs|hs
    ·rcases Zk'.mp hs with hs|hs
     ·exact wg s (List.mem_of_mem_take hs)
     ·rw[Zg'.mp hs];exact gt
    ·exact wg s (List.mem_of_mem_drop hs)) hD pD keep (by rw[hM];exact k1) k2 k3
   have nT:∀{y us},H3 y=some (.tup us)->H4 y=some (.tup us):=fun {y us} hy=>keep y _ hy (lg hy (s4 _ _ hl) (by intro z;cases z)) (lg hy (s4 _ _ hD) (by intro z;cases z)) (lg hy (s4 _ _ hU) (by intro z;cases z));have sg4:qo H4 ((M a.l).take i++[.ref p]++(M a.l).drop (i+0)) (ss.take i++[sg]++ss.drop i):=cK (fun _ _ ⟨z,e1,e2⟩=>⟨z,e1,nT e2⟩) sgN;refine⟨_,rfl,_,rfl,_,rfl,.inl ⟨_,_,rfl,rfl,_,rfl,big (by show 1<=1000;omega),fun lc hlc=>?_⟩⟩;have sc:=aq.upd (o:=.lst [V.ref p]) hlc;refine⟨a.l,lc,_,[.ref p],ss.take i++[sg]++ss.drop i,[sg],i,i+1,rfl,bh.of (sc _ _ k1),sg4.same sc,by simp;omega,by simp;omega,by simp;omega,bh.of ah,.cons ⟨p,rfl,sc _ _ (nT (s4 _ _ hp))⟩ .nil,by simp,fun w H5 s5 hw5=>?_⟩;have s6:=sc.trans s5;exact q4 w F' H5 e1 e2 hw5 gr (fun y o hy hn=>s6 _ _ (fr y o hy hn)) (B4.same s6)
inductive MY (c:Cs)(vs:List V)(H:Hp)(Q:VK)(E:XK):Prop
 |mk (x:Addr) (F:Addr->Prop) (vw:Vw) (ps fs:List Vw) (n:Str) (i:Int) (eE:vs=[.ref x,.str n,.int i]) (eF:xw c H x F vw ps fs) (h8:ps.length<=900) (lh:match bc vw n with
 |none=>RX E c .cC H
 |some (.cn _ _ _ _)=>RX E c .iB H
 |some (.pl ss)=>(¬(0<=i/\i<=(ss.length:Int)-1)->RX E c .rN H) /\
  ((0<=i/\i<=(ss.length:Int)-1)->∀(s:Sg)(w:Addr) F' H',ss[i.toNat]? = some s->H' w=some (.tup (Z0 (ss.take i.toNat++[]++ss.drop (i.toNat+1)) i.toNat i.toNat [s]))->Gr F F' H->Fr F H H'->xw c H' x F' (zO vw n (.pl (ss.take i.toNat++[]++ss.drop (i.toNat+1)))) (ps++[vw]) []->Q (.ref w) H')):MY c vs H Q E
theorem ami {α:Type}{xs:List α}{i:Nat}{y:α}(h:xs[i]? = some y):xs.drop i=y::xs.drop (i+1):=by
 obtain⟨h1,h2⟩:=S'.mp h;rw[List.drop_eq_getElem_cons h1,h2]
theorem MZ (T:Txt K w mg t):bI P w K mg base (fA P w) (0+4) t.ic t.Dh ["self","name","at"] (MY (cs t)):=by
 have dF:=jn (P:=P) (base:=base) T;have dj:=jB (P:=P) (base:=base) T;have Aw:=JZ (P:=P) (base:=base) T;have cT:=ix (P:=P) (base:=base) T;have cR:=iQ (P:=P) (base:=base) T;refine T.yc.Od zT (fun vs H Q E h=>?_) (fun cdv A outer s H vs Q E hr h=>?_)
 ·obtain⟨_,_,_,_,_,_,_,rfl,_⟩:=h;rfl
 ·obtain⟨x,F,vw,ps,fs,n,iz,rfl,B,hps,q⟩:=h;refine aX (af (aL (i:=3) zT.nd rfl (Or.inl rfl) (cv (bC (X:=(cj (fA P w) P w K mg base ["self","name","at","signs","sign"] "Book.cut" (ae km) t.ic cdv A outer s H E)) (pv 0) T.aT T.iq cT (hr.mono (by decide)) T.dP .nil (fun _ _ z=>Or.inl z) (aa (pv 1) ag)) rfl)) (af (a8 (kh (X:=(cj (fA P w) P w K mg base ["self","name","at","signs","sign"] "Book.cut" (ae km) t.ic cdv A outer s H E)) dF (hr.mono (by decide)) rfl T.jc T.cg.kp T.dC .nil (fun _ _ z=>Or.inl z) (aa (pv 2) (aa (aP iY (aO (aQ.or aR) rfl T.cA cy (aa (pv 3) ag)) ai) ag)))) (af (aL (i:=4) zT.nd rfl (Or.inl rfl) (aJ az (pv 3) (pv 2) (fun _ _=>rfl))) (af (a8 (lL (pv 0) T.aT T.jv dj (hr.mono (by decide)) T.fG .nil aY (aa (xB T.GA cR (hr.mono (by decide)) rfl T.Gz T.eL .nil aY (aa (pv 3) (aa (pv 2) (aa (bN (aa (pv 4) ag)) (aa (bN ag) ag))))) ag))) (aj (aw (aM Aw (hr.mono (by decide)) rfl T.JK T.tM.kp T.Am .nil aY (aa (pv 3) (aa (pv 2) (aa (pv 2) (aa (bN (aa (pv 4) ag)) ag))))))))))) ?_;obtain⟨L,D,U,all,M,Ps,Fs,es,us,b,iM,pp,pf,f⟩:=B.ex;obtain⟨dx,hx⟩:=b.hx;obtain⟨vx,g,gv⟩:=b.xI iM;obtain⟨ds,hD,pD⟩:=b.hD;obtain⟨ux,hU,pU⟩:=b.hU;have dl:=ck pD;have pl:=ck pp;have pe:=b.past.len;refine⟨_,rfl,x,dx,_,rfl,hx,i5 _ _ _,_,rfl,x,dx,L,D,U,M L,vx,n,rfl,hx,b.hL,g,?_⟩;rcases MG gv (fun _ _ r=>r.2.1) n with ⟨f1,f2⟩|⟨a,th,j,f1,f2,r,an,fj,fw⟩
  ·rw[f1];rw[f2]at q;exact q
  rw[f1];rw[f2]at q;subst an;cases th with
  |cn ld lt sl tn =>
   obtain⟨pt,SX,_⟩:=r.2.2;refine⟨fun z=>?_,fun _ _=>q,.inr ⟨pt,SX⟩⟩;rw[SX]at z;cases z
  |pl ss =>
   obtain⟨Xm,hg⟩:=r.2.2;obtain⟨q1,q4⟩:=q;have haa:=r.1;obtain⟨ha,hl⟩:=b.ha a haa;have yl:=ck hg;have hj:(M L)[j]? = some (.ref a.o):=by
    obtain⟨v,hv,e1,_⟩:=wt g fj;rw[<-e1];exact hv
   refine⟨fun _=>?_,(fun pz z=>by rw[Xm]at z;cases z),.inl Xm⟩;refine⟨a.o,_,a.d,_,_,rfl,ha,T.gP,T.cP,wx _ _ _,?_⟩;refine⟨_,rfl,_,rfl,.inl ⟨a.l,M a.l,rfl,.inl (bh.of hl),?_⟩⟩;refine⟨_,_,rfl,rfl,?_⟩;refine⟨iz,((M a.l).length:Int)-1,rfl,fun hi=>?_,fun hi=>?_⟩
   rotate_left
   ·have q:=q1 (by rw[<-yl];exact hi);exact q
   rw[yl]at hi;obtain⟨i,rfl⟩:∃ i:Nat,iz=(i:Int):=⟨iz.toNat,by omega⟩;have hi:i<ss.length:=by omega
   have hlt:ss.length<=200:=((B.wv vw (.inr (.inl rfl))).gd _ _ (Za' fw)).1;have q4:=q4 (by omega);rw[Int.toNat_natCast]at q4;obtain⟨sg0,hsg⟩:∃ sg,ss[i]? = some sg:=⟨_,T' hi⟩;obtain⟨vp,hvp,p0,rfl,hp0⟩:=wt hg hsg;refine⟨_,rfl,_,rfl,Xk (bh.of hl) (n:=i) rfl hvp ?_⟩;refine⟨_,rfl,x,dx,_,rfl,hx,kj _ _ _,?_⟩;refine⟨_,rfl,_,rfl,_,rfl,big (by show 1<=1000;omega),fun B' hB=>?_⟩;refine⟨big (by show 0<=1000;omega),fun A_ hA=>?_⟩;have hA0:=FF hA;have sB:=(aq.upd (o:=.lst [V.ref p0]) hB).trans (aq.upd (o:=.lst []) hA);have hB2:=aq.upd (o:=.lst []) hA _ _ (ah (H:=H) (a:=B') (o:=.lst [V.ref p0]));have UG:=ah (H:=upd H B' (.lst [V.ref p0])) (a:=A_) (o:=.lst []);have lA:a.l≠A_:=ao hl hA0;generalize upd (upd H B' (.lst [V.ref p0])) A_ (.lst [])=H2 at sB hB2 UG;intro d dd nd ndd ne;refine⟨d,dd,a.l,(i:Int),B',A_,rfl,ah,rfl,?_⟩;rw[eo];have s3:aq H2 (upd (upd H2 dd (.own d)) d (.ins t.bL dd (MD a.l (i:Int) B' A_))):=fun y o hy=>by
    rw[ak (ao hy nd),ak (ao hy ndd)];exact hy
   have UH:=ah (H:=upd H2 dd (.own d)) (a:=d) (o:=.ins t.bL dd (MD a.l (i:Int) B' A_));generalize upd (upd H2 dd (.own d)) d (.ins t.bL dd (MD a.l (i:Int) B' A_))=H3 at s3 UH;have s4:=sB.trans s3;obtain⟨_,d1,d2⟩:=b.lists (.inr ⟨a,haa,rfl⟩);refine⟨x,dx,L,D,U,d,dd,a.l,B',A_,i,ds,ux,M a.l,[.ref p0],[],rfl,s4 _ _ hx,s4 _ _ hD,s4 _ _ hU,UH,s4 _ _ hl,s3 _ _ hB2,s3 _ _ UG,lA,d1,d2,b.DU,by simp;omega,by simp;omega,by omega,?_⟩;have hM:xu ⟨d,dd,a.l,i,B',A_,[.ref p0],[]⟩ M a.l=(M a.l).take i++[]++(M a.l).drop (i+1):=h9;have keep:∀ y o,H3 y=some o->y≠a.l->y≠D->y≠U->(upd (upd (upd H3 a.l (.lst ((M a.l).take i++[]++(M a.l).drop (i+1)))) D (.lst (ds++[.ref d]))) U (.lst [])) y=some o:=fun y o hy y1 y2 y3=>by
    rw[ak y3,ak y2,ak y1];exact hy
   have k1:(upd (upd (upd H3 a.l (.lst ((M a.l).take i++[]++(M a.l).drop (i+1)))) D (.lst (ds++[.ref d]))) U (.lst [])) a.l=some (.lst ((M a.l).take i++[]++(M a.l).drop (i+1))):=by
    rw[ak d2,ak d1,ah]
   have k2:(upd (upd (upd H3 a.l (.lst ((M a.l).take i++[]++(M a.l).drop (i+1)))) D (.lst (ds++[.ref d]))) U (.lst [])) D=some (.lst (ds++[.ref d])):=by
    rw[ak b.DU,ah]
   have k3:(upd (upd (upd H3 a.l (.lst ((M a.l).take i++[]++(M a.l).drop (i+1)))) D (.lst (ds++[.ref d]))) U (.lst [])) U=some (.lst []):=ah;generalize (upd (upd (upd H3 a.l (.lst ((M a.l).take i++[]++(M a.l).drop (i+1)))) D (.lst (ds++[.ref d]))) U (.lst []))=H4 at keep k1 k2 k3;have g3:=hg.same s4;have sgN:qo H3 ((M a.l).take i++[]++(M a.l).drop (i+1)) (ss.take i++[]++ss.drop (i+1)):=IV (IV (MC i g3) .nil) (MB (i+1) g3);obtain⟨F',gr,fr,B4⟩:=Bk.ahr b iM pp f B.wv haa hj fw Xm (e:=⟨d,dd,a.l,i,B',A_,[.ref p0],[]⟩) rfl ⟨by show i+1<=(M a.l).length;omega,by rw[show([V.ref p0]:List V).length=1 from rfl,ami hvp];rfl⟩ (by simp) (by simp) s4 hB hA0 ⟨rfl,UH,s3 _ _ hB2,s3 _ _ UG⟩ (by rw[hM];exact sgN) (by simp;omega) (fun s hs=>by
    have wg:=((B.wv vw (.inr (.inl rfl))).gd _ _ (Za' fw)).2;rcases Zk'.mp hs with hs|hs
    ·rcases Zk'.mp hs with hs|hs
     ·exact wg s (List.mem_of_mem_take hs)
     ·cases hs
    ·exact wg s (List.mem_of_mem_drop hs)) hD pD keep (by rw[hM];exact k1) k2 k3
   have nT:∀{y us},H3 y=some (.tup us)->H4 y=some (.tup us):=fun {y us} hy=>keep y _ hy (lg hy (s4 _ _ hl) (by intro z;cases z)) (lg hy (s4 _ _ hD) (by intro z;cases z)) (lg hy (s4 _ _ hU) (by intro z;cases z));have sg4:qo H4 ((M a.l).take i++[]++(M a.l).drop (i+1)) (ss.take i++[]++ss.drop (i+1)):=cK (fun _ _ ⟨z,e1,e2⟩=>⟨z,e1,nT e2⟩) sgN;refine⟨_,rfl,_,rfl,_,rfl,_,rfl,big (by show 1<=1000;omega),fun lc hlc=>?_⟩;have sc:=aq.upd (o:=.lst [V.ref p0]) hlc;refine⟨a.l,lc,_,[.ref p0],ss.take i++[]++ss.drop (i+1),[sg0],i,i,rfl,bh.of (sc _ _ k1),sg4.same sc,by simp;omega,by simp;omega,by simp;omega,bh.of ah,.cons ⟨p0,rfl,sc _ _ (nT (s4 _ _ hp0))⟩ .nil,by simp,fun w H5 s5 hw5=>?_⟩;have s6:=sc.trans s5;exact q4 sg0 w F' H5 hsg hw5 gr (fun y o hy hn=>s6 _ _ (fr y o hy hn)) (B4.same s6)
inductive G6 (c:Cs)(vs:List V)(H:Hp)(Q:VK)(E:XK):Prop
 |mk (x:Addr) (F:Addr->Prop) (vw:Vw) (ps fs:List Vw) (n:Str) (i:Int) (p:Addr) (sn:Sn) (eE:vs=[.ref x,.str n,.int i,.ref p]) (eF:xw c H x F vw ps fs) (h8:H p=some (.tup [.str sn.1,.int sn.2])) (lh:ps.length<=900) (rJ:match bc vw n with
 |none=>RX E c .cC H
 |some (.cn _ _ _ _)=>RX E c .iB H
 |some (.pl ss)=>(¬(0<=i/\i<=(ss.length:Int)-1)->RX E c .rN H)/\((0<=i/\i<=(ss.length:Int)-1)->js sn=false->RX E c .uF H) /\
  ((0<=i/\i<=(ss.length:Int)-1)->js sn=true->∀(s s0:Sg)(w:Addr) F' H',s.1.str=sn.1->s.2=sn.2->ss[i.toNat]? = some s0->H' w=some (.tup (Z0 (ss.take i.toNat++[s]++ss.drop (i.toNat+1)) i.toNat (i.toNat+1) [s0,s]))->Gr F F' H->Fr F H H'->xw c H' x F' (zO vw n (.pl (ss.take i.toNat++[s]++ss.drop (i.toNat+1)))) (ps++[vw]) []->Q (.ref w) H')):G6 c vs H Q E
theorem aoy {α:Type}{xs:List α}{i:Nat}{y:α}(h:xs[i]? = some y):xs.drop i=y::xs.drop (i+1):=by
 obtain⟨h1,h2⟩:=S'.mp h;rw[List.drop_eq_getElem_cons h1,h2]
theorem G7 (T:Txt K w mg t):bI P w K mg base (fA P w) (0+4) t.dY t.Ab ["self","name","at","sign"] (G6 (cs t)):=by
 have dF:=jn (P:=P) (base:=base) T;have nJ:=tR (P:=P) (base:=base) T;have dj:=jB (P:=P) (base:=base) T;have Aw:=JZ (P:=P) (base:=base) T;have cT:=ix (P:=P) (base:=base) T;have cR:=iQ (P:=P) (base:=base) T;refine T.uT.Od xQ (fun vs H Q E h=>?_) (fun cdv A outer s H vs Q E hr h=>?_)
 ·obtain⟨_,_,_,_,_,_,_,_,_,rfl,_⟩:=h;rfl
 ·obtain⟨x,F,vw,ps,fs,n,iz,p,sn,rfl,B,hp,hps,q⟩:=h;refine aX (af (aL (i:=4) xQ.nd rfl (Or.inl rfl) (cv (bC (X:=(cj (fA P w) P w K mg base ["self","name","at","sign","signs","before"] "Book.swap" (ae gF) t.dY cdv A outer s H E)) (pv 0) T.aT T.iq cT (hr.mono (by decide)) T.dP .nil (fun _ _ z=>Or.inl z) (aa (pv 1) ag)) rfl)) (af (a8 (kh (X:=(cj (fA P w) P w K mg base ["self","name","at","sign","signs","before"] "Book.swap" (ae gF) t.dY cdv A outer s H E)) dF (hr.mono (by decide)) rfl T.jc T.cg.kp T.dC .nil (fun _ _ z=>Or.inl z) (aa (pv 2) (aa (aP iY (aO (aQ.or aR) rfl T.cA cy (aa (pv 4) ag)) ai) ag)))) (af (a8 (kh (X:=(cj (fA P w) P w K mg base ["self","name","at","sign","signs","before"] "Book.swap" (ae gF) t.dY cdv A outer s H E)) nJ (hr.mono (by decide)) rfl T.tK T.eC.kp T.jZ .nil (fun _ _ z=>Or.inl z) (aa (pv 3) ag))) (af (aL (i:=5) xQ.nd rfl (Or.inl rfl) (aJ az (pv 4) (pv 2) (fun _ _=>rfl))) (af (a8 (lL (pv 0) T.aT T.jv dj (hr.mono (by decide)) T.fG .nil aY (aa (xB T.GA cR (hr.mono (by decide)) rfl T.Gz T.eL .nil aY (aa (pv 4) (aa (pv 2) (aa (bN (aa (pv 5) ag)) (aa (bN (aa (pv 3) ag)) ag))))) ag))) (aj (aw (aM Aw (hr.mono (by decide)) rfl T.JK T.tM.kp T.Am .nil aY (aa (pv 4) (aa (pv 2) (aa (aP (b7.or (aV.or b8)) (pv 2) ai) (aa (bN (aa (pv 5) (aa (pv 3) ag))) ag)))))))))))) ?_;obtain⟨L,D,U,all,M,Ps,Fs,es,us,b,iM,pp,pf,f⟩:=B.ex;obtain⟨dx,hx⟩:=b.hx;obtain⟨vx,g,gv⟩:=b.xI iM;obtain⟨ds,hD,pD⟩:=b.hD;obtain⟨ux,hU,pU⟩:=b.hU;have dl:=ck pD;have pl:=ck pp;have pe:=b.past.len;refine⟨_,rfl,x,dx,_,rfl,hx,i5 _ _ _,_,rfl,x,dx,L,D,U,M L,vx,n,rfl,hx,b.hL,g,?_⟩;rcases MG gv (fun _ _ r=>r.2.1) n with ⟨f1,f2⟩|⟨a,th,j,f1,f2,r,an,fj,fw⟩
  ·rw[f1];rw[f2]at q;exact q
  rw[f1];rw[f2]at q;subst an;cases th with
  |cn ld lt sl tn =>
   obtain⟨pt,SX,_⟩:=r.2.2;refine⟨fun z=>?_,fun _ _=>q,.inr ⟨pt,SX⟩⟩;rw[SX]at z;cases z
  |pl ss =>
   obtain⟨Xm,hg⟩:=r.2.2;obtain⟨q1,q2,q4⟩:=q;have haa:=r.1;obtain⟨ha,hl⟩:=b.ha a haa;have yl:=ck hg;have hj:(M L)[j]? = some (.ref a.o):=by
    obtain⟨v,hv,e1,_⟩:=wt g fj;rw[<-e1];exact hv
   refine⟨fun _=>?_,(fun pz z=>by rw[Xm]at z;cases z),.inl Xm⟩;refine⟨a.o,_,a.d,_,_,rfl,ha,T.gP,T.cP,wx _ _ _,?_⟩;refine⟨_,rfl,_,rfl,.inl ⟨a.l,M a.l,rfl,.inl (bh.of hl),?_⟩⟩;refine⟨_,_,rfl,rfl,?_⟩;refine⟨iz,((M a.l).length:Int)-1,rfl,fun hi=>?_,fun hi=>?_⟩
   rotate_left
   ·have q:=q1 (by rw[<-yl];exact hi);exact q
   rw[yl]at hi;refine⟨_,rfl,p,sn,rfl,hp,fun hgd=>?_,fun hgd=>?_⟩
   rotate_left
   ·have q:=q2 hi hgd;exact q
   obtain⟨sg,e1,e2,gt⟩:=TZ hgd;rw[<-e1,<-e2]at hp;obtain⟨i,rfl⟩:∃ i:Nat,iz=(i:Int):=⟨iz.toNat,by omega⟩;have hi:i<ss.length:=by omega
   have hlt:ss.length<=200:=((B.wv vw (.inr (.inl rfl))).gd _ _ (Za' fw)).1;have q4:=q4 (by omega) hgd sg;rw[Int.toNat_natCast]at q4;obtain⟨sg0,hsg⟩:∃ sg,ss[i]? = some sg:=⟨_,T' hi⟩;obtain⟨vp,hvp,p0,rfl,hp0⟩:=wt hg hsg;refine⟨_,rfl,_,rfl,Xk (bh.of hl) (n:=i) rfl hvp ?_⟩;refine⟨_,rfl,x,dx,_,rfl,hx,kj _ _ _,?_⟩;refine⟨_,rfl,_,rfl,_,rfl,big (by show 1<=1000;omega),fun B' hB=>?_⟩;refine⟨_,rfl,big (by show 1<=1000;omega),fun A_ hA=>?_⟩;have hA0:=FF hA;have sB:=(aq.upd (o:=.lst [V.ref p0]) hB).trans (aq.upd (o:=.lst [V.ref p]) hA);have hB2:=aq.upd (o:=.lst [V.ref p]) hA _ _ (ah (H:=H) (a:=B') (o:=.lst [V.ref p0]));have UG:=ah (H:=upd H B' (.lst [V.ref p0])) (a:=A_) (o:=.lst [V.ref p]);have lA:a.l≠A_:=ao hl hA0;generalize upd (upd H B' (.lst [V.ref p0])) A_ (.lst [V.ref p])=H2 at sB hB2 UG;intro d dd nd ndd ne;refine⟨d,dd,a.l,(i:Int),B',A_,rfl,ah,rfl,?_⟩;rw[eo];have s3:aq H2 (upd (upd H2 dd (.own d)) d (.ins t.bL dd (MD a.l (i:Int) B' A_))):=fun y o hy=>by
    rw[ak (ao hy nd),ak (ao hy ndd)];exact hy
   have UH:=ah (H:=upd H2 dd (.own d)) (a:=d) (o:=.ins t.bL dd (MD a.l (i:Int) B' A_));generalize upd (upd H2 dd (.own d)) d (.ins t.bL dd (MD a.l (i:Int) B' A_))=H3 at s3 UH;have s4:=sB.trans s3;obtain⟨_,d1,d2⟩:=b.lists (.inr ⟨a,haa,rfl⟩);refine⟨x,dx,L,D,U,d,dd,a.l,B',A_,i,ds,ux,M a.l,[.ref p0],[.ref p],rfl,s4 _ _ hx,s4 _ _ hD,s4 _ _ hU,UH,s4 _ _ hl,s3 _ _ hB2,s3 _ _ UG,lA,d1,d2,b.DU,by simp;omega,by simp;omega,by omega,?_⟩;have hM:xu ⟨d,dd,a.l,i,B',A_,[.ref p0],[.ref p]⟩ M a.l=(M a.l).take i++[.ref p]++(M a.l).drop (i+1):=h9;have keep:∀ y o,H3 y=some o->y≠a.l->y≠D->y≠U->(upd (upd (upd H3 a.l (.lst ((M a.l).take i++[.ref p]++(M a.l).drop (i+1)))) D (.lst (ds++[.ref d]))) U (.lst [])) y=some o:=fun y o hy y1 y2 y3=>by
    rw[ak y3,ak y2,ak y1];exact hy
   have k1:(upd (upd (upd H3 a.l (.lst ((M a.l).take i++[.ref p]++(M a.l).drop (i+1)))) D (.lst (ds++[.ref d]))) U (.lst [])) a.l=some (.lst ((M a.l).take i++[.ref p]++(M a.l).drop (i+1))):=by
    rw[ak d2,ak d1,ah]
   have k2:(upd (upd (upd H3 a.l (.lst ((M a.l).take i++[.ref p]++(M a.l).drop (i+1)))) D (.lst (ds++[.ref d]))) U (.lst [])) D=some (.lst (ds++[.ref d])):=by
    rw[ak b.DU,ah]
   have k3:(upd (upd (upd H3 a.l (.lst ((M a.l).take i++[.ref p]++(M a.l).drop (i+1)))) D (.lst (ds++[.ref d]))) U (.lst [])) U=some (.lst []):=ah;generalize (upd (upd (upd H3 a.l (.lst ((M a.l).take i++[.ref p]++(M a.l).drop (i+1)))) D (.lst (ds++[.ref d]))) U (.lst []))=H4 at keep k1 k2 k3;have g3:=hg.same s4;have sgN:qo H3 ((M a.l).take i++[.ref p]++(M a.l).drop (i+1)) (ss.take i++[sg]++ss.drop (i+1)):=IV (IV (MC i g3) (.cons ⟨p,rfl,s4 _ _ hp⟩ .nil)) (MB (i+1) g3);obtain⟨F',gr,fr,B4⟩:=Bk.ahr b iM pp f B.wv haa hj fw Xm (e:=⟨d,dd,a.l,i,B',A_,[.ref p0],[.ref p]⟩) rfl ⟨by show i+1<=(M a.l).length;omega,by rw[show([V.ref p0]:List V).length=1 from rfl,aoy hvp];rfl⟩ (by simp) (by simp) s4 hB hA0 ⟨rfl,UH,s3 _ _ hB2,s3 _ _ UG⟩ (by rw[hM];exact sgN) (by simp;omega) (fun s hs=>by
    have wg:=((B.wv vw (.inr (.inl rfl))).gd _ _ (Za' fw)).2;rcases Zk'.mp hs with hs|hs
    ·rcases Zk'.mp hs with hs|hs
     ·exact wg s (List.mem_of_mem_take hs)
     ·rw[Zg'.mp hs];exact gt
    ·exact wg s (List.mem_of_mem_drop hs)) hD pD keep (by rw[hM];exact k1) k2 k3
   have nT:∀{y us},H3 y=some (.tup us)->H4 y=some (.tup us):=fun {y us} hy=>keep y _ hy (lg hy (s4 _ _ hl) (by intro z;cases z)) (lg hy (s4 _ _ hD) (by intro z;cases z)) (lg hy (s4 _ _ hU) (by intro z;cases z));have sg4:qo H4 ((M a.l).take i++[.ref p]++(M a.l).drop (i+1)) (ss.take i++[sg]++ss.drop (i+1)):=cK (fun _ _ ⟨z,e1,e2⟩=>⟨z,e1,nT e2⟩) sgN;refine⟨_,rfl,_,rfl,_,rfl,.inl ⟨_,_,rfl,rfl,_,rfl,_,rfl,big (by show 2<=1000;omega),fun lc hlc=>?_⟩⟩;have sc:=aq.upd (o:=.lst [V.ref p0,V.ref p]) hlc;refine⟨a.l,lc,_,[.ref p0,.ref p],ss.take i++[sg]++ss.drop (i+1),[sg0,sg],i,i+1,rfl,bh.of (sc _ _ k1),sg4.same sc,by simp;omega,by simp;omega,by simp;omega,bh.of ah,.cons ⟨p0,rfl,sc _ _ (nT (s4 _ _ hp0))⟩ (.cons ⟨p,rfl,sc _ _ (nT (s4 _ _ hp))⟩ .nil),by simp,fun w H5 s5 hw5=>?_⟩;have s6:=sc.trans s5;exact q4 sg0 w F' H5 e1 e2 hsg hw5 gr (fun y o hy hn=>s6 _ _ (fr y o hy hn)) (B4.same s6)
inductive G8 (c:Cs)(vs:List V)(H:Hp)(Q:VK)(E:XK):Prop
 |mk (x:Addr) (F:Addr->Prop) (vw:Vw) (ps fs:List Vw) (n:Str) (eE:vs=[.ref x,.str n]) (eF:xw c H x F vw ps fs) (h8:ps.length<=900) (lh:match bc vw n with
 |none=>RX E c .cC H
 |some _=>(leans vw n=true->∀ H',aq H H'->RX E c .C0 H')/\(leans vw n=false->∀ F' H',Gr F F' H->Fr F H H'->xw c H' x F' (uI vw n) (ps++[vw]) []->Q .non H')):G8 c vs H Q E
theorem G9 (T:Txt K w mg t):bI P w K mg base (fA P w) (0+3) t.ff t.Ac ["self","name"] (G8 (cs t)):=by
 have bV:=en (P:=P) (base:=base) T;have dj:=jB (P:=P) (base:=base) T;have cR:=iQ (P:=P) (base:=base) T;have kY:=vS (P:=P) (base:=base) T;refine T.uV.Od FK (fun vs H Q E h=>?_) (fun cdv A outer s H vs Q E hr h=>?_)
 ·obtain⟨_,_,_,_,_,_,rfl,_⟩:=h;rfl
 ·obtain⟨x,F,vw,ps,fs,n,rfl,B,hps,q⟩:=h;refine aX (af (aL (i:=2) FK.nd rfl (Or.inl rfl) (bC (X:=(cj (fA P w) P w K mg base ["self","name","dropped"] "Book.drop" (ae iR) t.ff cdv A outer s H E)) (pv 0) T.aT T.d4 bV (hr.mono (by decide)) T.cJ .nil (fun _ _ z=>Or.inl z) (aa (pv 1) ag))) (af (aU (bA (aO Xz rfl T.ahF agI (aa (uy (cn:=["voice"]) rfl (il.of rfl) (iX (cv (pv 0) rfl)) (fun _=>(bg (i:=0) OO rfl (Or.inl rfl))) (fun _=>zF) (fun _=>(cS (iW (b6 Ts (cv (pv 0) rfl) jH (aA _)) (lU (b6 (bj.or (aW (aC hr))) (aJ az (cv (pv 0) rfl) ai (fun _ _=>rfl)) (pv 2) (aA _))))))) ag))) (aj (jr (X:=(cj (fA P w) P w K mg base ["self","name","dropped"] "Book.drop" (ae iR) t.ff cdv A outer s H E)) (fun _ _ z=>z) rfl T.aeI.exc rfl T.JP (aa aD ag))) aB) (aj (a8 (lL (pv 0) T.aT T.jv dj (hr.mono (by decide)) T.fG .nil aY (aa (xB T.GA cR (hr.mono (by decide)) rfl T.Gz T.eL .nil aY (aa (cv (pv 0) rfl) (aa (ke Yc' PySem.F.slot_list_index PySem.F.type_list_index ahs (sG (pv 0) T.aT T.qg kY (hr.mono (by decide)) T.kQ .nil aY) (aa (pv 1) ag)) (aa (bN (aa (pv 2) ag)) (aa (bN ag) ag))))) ag)))))) ?_;obtain⟨L,D,U,all,M,Ps,Fs,es,us,b,iM,pp,pf,f⟩:=B.ex;obtain⟨dx,hx⟩:=b.hx;obtain⟨vx,g,gv⟩:=b.xI iM;have wv:=B.wv vw (.inr (.inl rfl));have hL:=b.hL;have xl:=ck g;have vl:=ck gv;have wl:=wv.len;refine⟨_,rfl,x,dx,_,rfl,hx,eN _ _ _,_,rfl,x,dx,L,D,U,M L,vx,n,rfl,hx,b.hL,g,?_⟩;rcases MG gv (fun _ _ r=>r.2.1) n with ⟨f1,f2⟩|⟨a,th,j,f1,f2,r,an,fj,fw⟩
  ·rw[f1];rw[f2]at q;exact q
  rw[f1];rw[f2]at q;obtain⟨q1,q2⟩:=q;refine⟨_,rfl,x,_,dx,_,_,rfl,hx,T.aT,T.b9,lZ _ _ _,L,rfl,⟨_,bh.of hL⟩,fun D' b' hD'=>?_⟩;refine mw (K:=K) (xs:=M L) (fun i ys σ H'=>∃ v,σ=[v,some (.ref x),some (.str n),some (.ref a.o)]/\H'=upd H D' (.lst ys)/\ys=((vw.take i).map (sN n)).map V.bl) ⟨none,rfl,rfl,rfl⟩ ?_ ?_ ?_
  ·rintro i ys σ H' ⟨v,rfl,rfl,_⟩;exact kJ (bh.of hL) hD'
  ·rintro i ys y σ H' hy ⟨v,rfl,rfl,rfl⟩ N hN;obtain⟨a1,e1,rfl,ha1⟩:=zL g hy;obtain⟨q1',e2,_,an1,t1⟩:=zL gv e1;have hi:i<vw.length:=(S'.mp e2).1;refine lX ?_;refine⟨fun v H'=>v=.bl (sN n q1')/\H'=upd H D' (.lst (((vw.take i).map (sN n)).map V.bl)),?_,?_⟩
   ·refine⟨_,rfl,a1.o,_,a1.d,_,_,rfl,by rw[ak (ao ha1 hD')];exact ha1,T.gP,T.df,BQ _ _ _,rfl,_,rfl,?_⟩;obtain⟨m1,th1⟩:=q1';cases th1 with
    |pl ss =>
     obtain⟨e3,_⟩:=t1;rw[e3];exact bZ ⟨rfl,rfl⟩
    |cn ld lt sl tn =>
     obtain⟨p,e3,hp⟩:=t1;have hp':upd H D' (.lst (((vw.take i).map (sN n)).map V.bl)) p=some (.tup [.str ld,.int lt,.int sl,.bl tn]):=by rw[ak (ao hp hD')];exact hp
     rw[e3];refine cZ ?_;refine⟨_,rfl,a1.o,_,a1.d,_,_,rfl,by rw[ak (ao ha1 hD')];exact ha1,T.gP,T.df,BQ _ _ _,?_⟩;rw[e3];refine Uy (i:=0) hp' rfl ?_;refine⟨_,rfl,.inl ⟨rfl,?_,rfl⟩⟩;show V.bl (decide (V.str ld=V.str n))=V.bl (decide (ld=n));refine R' V.bl (decide_eq_decide.mpr ⟨fun z=>V.str.inj z,fun z=>R' V.str z⟩)
   ·rintro _ _ ⟨rfl,rfl⟩;refine⟨ah,?_,?_⟩
    ·rw[j',j',Ze'];exact ba (by omega)
    ·refine hN _ _ _ ⟨_,rfl,eo,?_⟩;rw[take_succ,e2];simp
  ·rintro ys σ H' ⟨v,rfl,rfl,rfl⟩;have ml:(M L).length=vw.length:=xl.trans vl;refine⟨rfl,D',_,rfl,bh.of ah,_,rfl,?_⟩;rw[ml,take_length,List.any_map];have sD:=aq.upd (o:=.lst ((vw.map (sN n)).map V.bl)) hD';generalize upd H D' (.lst ((vw.map (sN n)).map V.bl))=H1 at sD;refine a9 (fun h=>?_) (fun h=>?_)
   ·have q:=q1 h H1 sD;exact⟨by show 1<=sizeLine;decide,q.2⟩
   have hle:leans vw n=false:=by
    cases e:leans vw n with
    |false=>rfl
    |true=>exact P' e h
   have q2:=q2 hle;have B1:=B.same sD;have hx1:=sD _ _ hx;refine⟨_,rfl,x,dx,_,rfl,hx1,kj _ _ _,?_⟩;refine⟨_,rfl,x,_,dx,_,_,rfl,hx1,T.aT,T.b9,lZ _ _ _,?_⟩;refine⟨_,rfl,x,dx,_,rfl,hx1,rM _ _ _,x,F,vw,ps,fs,rfl,B1,fun l H2 nl s2 h2=>?_⟩;have jl:j<vw.length:=(S'.mp fw).1;have hjn:(vw.map (·.1))[j]? = some n:=by rw[Zf',fw];rfl
   refine⟨.inl ⟨rfl,_,bh.of h2⟩,_,rfl,l,vw.map (·.1),n,j,rfl,rfl,by rw[List.map_map];exact h2,hjn,fun i hi z=>?_,?_⟩
   ·have:=FD wv.nd z hjn;omega
   have s12:=sD.trans s2;clear s2 sD hx1 B1 nl h2;obtain⟨ds,hD,pD⟩:=b.hD;obtain⟨ux,hU,pU⟩:=b.hU;have dl:=ck pD;have pl:=ck pp;have pe:=b.past.len;refine⟨_,rfl,big (by show 1<=1000;omega),fun B' hB=>?_⟩;refine⟨big (by show 0<=1000;omega),fun A_ hA=>?_⟩;have hA0:=FF hA;have sB:=(aq.upd (o:=.lst [V.ref a.o]) hB).trans (aq.upd (o:=.lst []) hA);have hB2:=aq.upd (o:=.lst []) hA _ _ (ah (H:=H2) (a:=B') (o:=.lst [V.ref a.o]));have UG:=ah (H:=upd H2 B' (.lst [V.ref a.o])) (a:=A_) (o:=.lst []);have hB0:H B'=none:=s12.free hB;have hA0:H A_=none:=s12.free hA0;have LA:L≠A_:=ao hL hA0;generalize upd (upd H2 B' (.lst [V.ref a.o])) A_ (.lst [])=H3 at sB hB2 UG;have s13:=s12.trans sB;intro d dd nd ndd ne;refine⟨d,dd,L,(j:Int),B',A_,rfl,ah,rfl,?_⟩;rw[eo];have s3:aq H3 (upd (upd H3 dd (.own d)) d (.ins t.bL dd (MD L (j:Int) B' A_))):=fun y o hy=>by
    rw[ak (ao hy nd),ak (ao hy ndd)];exact hy
   have UH:=ah (H:=upd H3 dd (.own d)) (a:=d) (o:=.ins t.bL dd (MD L (j:Int) B' A_));generalize upd (upd H3 dd (.own d)) d (.ins t.bL dd (MD L (j:Int) B' A_))=H4 at s3 UH;have s4:=s13.trans s3;refine⟨x,dx,L,D,U,d,dd,L,B',A_,j,ds,ux,M L,[.ref a.o],[],rfl,s4 _ _ hx,s4 _ _ hD,s4 _ _ hU,UH,s4 _ _ hL,s3 _ _ hB2,s3 _ _ UG,LA,b.LD,b.LU,b.DU,by simp;omega,by simp;omega,by omega,?_⟩;have hj':(M L)[j]? = some (.ref a.o):=by
    obtain⟨v,hv,e1,_⟩:=wt g fj;rw[<-e1];exact hv
   have w':zw (vw.take j++vw.drop (j+1)):=by
    rw[<-OE wv.nd fw];exact wv.dropped hle
   obtain⟨F',gr,fr,B4⟩:=Bk.dropped b iM pp f B.wv hj' w' (e:=⟨d,dd,L,j,B',A_,[.ref a.o],[]⟩) rfl rfl rfl rfl s4 hB0 hA0 ⟨rfl,UH,s3 _ _ hB2,s3 _ _ UG⟩ hD pD
    (H':=upd (upd (upd H4 L (.lst ((M L).take j++[]++(M L).drop (j+1)))) D (.lst (ds++[.ref d]))) U (.lst [])) (fun y o hy y1 y2 y3=>by rw[ak y3,ak y2,ak y1];exact hy) (by rw[ak b.LU,ak b.LD,ah,append_nil]) (by rw[ak b.DU,ah]) ah
   refine q2 F' _ gr fr ?_;rw[OE wv.nd fw];exact B4
inductive Ha (c:Cs)(vs:List V)(H:Hp)(Q:VK)(E:XK):Prop
 |mk (x:Addr) (F:Addr->Prop) (vw:Vw) (ps fs:List Vw) (n:Str) (eE:vs=[.ref x,.str n]) (eF:xw c H x F vw ps fs) (h8:bc vw n=none) (lh:RX E c .cC H):Ha c vs H Q E
theorem Hb (T:Txt K w mg t):bI P w K mg base (fA P w) (0+3) t.iS t.Ad ["book","name"] (Ha (cs t)):=by
 have di:=jG (P:=P) (base:=base) T;refine T.mO.Od FL (fun vs H Q E h=>?_) (fun cdv A outer s H vs Q E hr h=>?_)
 ·obtain⟨_,_,_,_,_,_,rfl,_⟩:=h;rfl
 ·obtain⟨x,F,vw,ps,fs,n,rfl,B,hf,q⟩:=h;refine aX (af (aL (i:=2) FL.nd rfl (Or.inl rfl) (bC (X:=(cj (fA P w) P w K mg base ["book","name","terms"] "beginning" (ae kn) t.iS cdv A outer s H E)) (pv 0) T.aT T.jE di (hr.mono (by decide)) T.gK .nil (fun _ _ z=>Or.inl z) (aa (pv 1) ag))) (af (aU (au Tr (pv 2) jH (aA _)) (aj (aw ai)) aB) (aj (aw (aJ az (pv 2) ai (fun _ _=>rfl)))))) ?_;obtain⟨L,D,U,all,M,Ps,Fs,es,us,b,_⟩:=B.ex;obtain⟨dx,hx⟩:=b.hx;tm_up;refine⟨x,dx,_,rfl,hx,kK _ _ _,_,rfl,x,F,vw,ps,fs,n,rfl,B,?_⟩;rw[hf];exact q
inductive S9 (vs:List V)(H:Hp)(Q:VK)(E:XK):Prop
 |mk (p:Addr) (s:Sg) (eE:vs=[.ref p]) (eF:H p=some (.tup [.str s.1.str,.int s.2])) (h8:Q (.bl s.1.sI) H):S9 vs H Q E
theorem aeW (k:Kd):inV (.str k.str) [.str "G",.str "D",.str "s",.str "d"]=k.sI:=by cases k <;> decide +kernel
theorem aeX (T:Txt K w mg t):bI P w K mg base lB (0+1) t.tG t.OX ["sign"] S9:=by
 refine T.Gv.ok aeB (fun vs H Q E h=>?_) (fun cdv A outer s H vs Q E hr h=>?_)
 ·obtain⟨_,_,rfl,_⟩:=h;rfl
 ·obtain⟨p,s,rfl,hp,q⟩:=h;rw[<-aeW]at q;refine aX (aj (aw (b6 (cW.or cV) (aJ az (pv 0) ai (fun _ _=>rfl)) (b5 (v:=.ref t.cY) rfl T.w6 rfl) rfl))) ?_;tm_up;exact .inl ⟨_,_,rfl,.inr (T.xa _),rfl,rfl,q⟩
def ajP:TS:=fun _ _ _=>False
theorem ahX {X:Cx}{st:Stmt}:PS X st ajP:=fun _ _ _ _ _ _ h=>h.elim
inductive Yt (c:Cs)(vs:List V)(H:Hp)(Q:VK)(E:XK):Prop
 |mk (x:Addr) (F:Addr->Prop) (vw:Vw) (ps fs:List Vw) (n:Str) (eE:vs=[.ref x,.str n]) (eF:xw c H x F vw ps fs) (h8:bc vw n=none) (lh:∀ H',aq H H'->RX E c .cC H'):Yt c vs H Q E
theorem ahY (T:Txt K w mg t):bI P w K mg base (fA P w) (0+8) t.uO t.Ug ["book","name"] (Yt (cs t)):=by
 have Ax:=Hb (P:=P) (base:=base) T;have iV:=rW (P:=P) (base:=base) T;have kG:=rX (P:=P) (base:=base) T;have aoz:=aeX (P:=P) (base:=base) T;refine T.Gw.Od OJ (fun vs H Q E h=>?_) (fun cdv A outer s H vs Q E hr h=>?_)
 ·obtain⟨_,_,_,_,_,_,rfl,_⟩:=h;rfl
 ·obtain⟨x,F,vw,ps,fs,n,rfl,B,hf,q⟩:=h;refine aX (af (aL (i:=2) OJ.nd rfl (Or.inl rfl) (bN ag)) (af (aL (i:=3) OJ.nd rfl (Or.inl rfl) (kh (X:=(cj (fA P w) P w K mg base ["book","name","found","start","sign","worth"] "spans" (ae xK) t.uO cdv A outer s H E)) Ax (hr.mono (by decide)) rfl T.Gu T.mO.kp T.uX .nil (fun _ _ z=>Or.inl z) (aa (pv 0) (aa (pv 1) ag)))) (af ahX (aj (aw (pv 2)))))) ?_;refine⟨big (by show 0<=1000;omega),fun l hl=>?_⟩;have s1:=aq.upd (o:=.lst []) hl;generalize upd H l (.lst [])=H1 at s1;tm_up;exact⟨x,F,vw,ps,fs,n,rfl,B.same s1,hf,q _ s1⟩
inductive Ta (c:Cs)(vs:List V)(H:Hp)(Q:VK)(E:XK):Prop
 |mk (x:Addr) (F:Addr->Prop) (vw:Vw) (ps fs:List Vw) (n:Str) (eE:vs=[.ref x,.str n]) (eF:xw c H x F vw ps fs) (h8:bc vw n=none) (lh:RX E c .cC H):Ta c vs H Q E
theorem aeY (T:Txt K w mg t):bI P w K mg base (fA P w) (0+8) t.m8 t.OY ["book","name"] (Ta (cs t)):=by
 have Ax:=Hb (P:=P) (base:=base) T;have kG:=rX (P:=P) (base:=base) T;refine T.An.Od aeC (fun vs H Q E h=>?_) (fun cdv A outer s H vs Q E hr h=>?_)
 ·obtain⟨_,_,_,_,_,_,rfl,_⟩:=h;rfl
 ·obtain⟨x,F,vw,ps,fs,n,rfl,B,hf,q⟩:=h;refine aX (aj (aw (aP (b7.or (aV.or b8)) (kh (X:=(cj (fA P w) P w K mg base ["book","name"] "ending" (ae qt) t.m8 cdv A outer s H E)) Ax (hr.mono (by decide)) rfl T.Gu T.mO.kp T.uX .nil (fun _ _ z=>Or.inl z) (aa (pv 0) (aa (pv 1) ag))) (aO agV rfl T.al0 alr (aa (bC (X:=(cj (fA P w) P w K mg base ["book","name"] "ending" (ae qt) t.m8 cdv A outer s H E)) (pv 0) T.aT T.rV kG (hr.mono (by decide)) T.mK .nil (fun _ _ z=>Or.inl z) (aa (pv 1) ag)) ag))))) ?_;tm_up;exact⟨x,F,vw,ps,fs,n,rfl,B,hf,q⟩
inductive Pz (c:Cs)(vs:List V)(H:Hp)(Q:VK)(E:XK):Prop
 |mk (x:Addr) (F:Addr->Prop) (vw:Vw) (ps fs:List Vw) (n:Str) (k:Nat) (eE:vs=[.ref x,.int (k:Int),.str n]) (eF:xw c H x F vw ps fs) (h8:bc vw n=none) (lh:k<9) (rJ:ps.length<=900) (Rg:∀ H',aq H H'->RX E c .cC H'):Pz c vs H Q E
theorem aaK (T:Txt K w mg t):bI P w K mg base (fA P w) (0+9) t.dn t.Jz ["_law_book","_law_door","_law_name"] (Pz (cs t)):=by
 have iV:=rW (P:=P) (base:=base) T;have kG:=rX (P:=P) (base:=base) T;have di:=jG (P:=P) (base:=base) T;have DA:=MX (P:=P) (base:=base) T;have DB:=MZ (P:=P) (base:=base) T;have Ay:=G7 (P:=P) (base:=base) T;have Az:=G9 (P:=P) (base:=base) T;have ajQ:=ahY (P:=P) (base:=base) T;have ahZ:=aeY (P:=P) (base:=base) T;refine T.wY.Od Z6 (fun vs H Q E h=>?_) (fun cdv A outer s H vs Q E hr h=>?_)
 ·obtain⟨_,_,_,_,_,_,_,rfl,_⟩:=h;rfl
 ·obtain⟨x,F,vw,ps,fs,n,k,rfl,B,hf,hk,hps,q⟩:=h;refine aX (af (gp (aU (au (bj.or (aW (aC hr))) (pv 1) ai (aA _)) (aj (a8 (bC (X:=(cj (fA P w) P w K mg base ["_law_book","_law_door","_law_name"] "_law_asked" (ae dH) t.dn cdv A outer s H E)) (pv 0) T.aT T.kS iV (hr.mono (by decide)) T.iU .nil (fun _ _ z=>Or.inl z) (aa (pv 2) ag)))) aB)) (af (gp (aU (au (bj.or (aW (aC hr))) (pv 1) ai (aA _)) (aj (a8 (bC (X:=(cj (fA P w) P w K mg base ["_law_book","_law_door","_law_name"] "_law_asked" (ae dH) t.dn cdv A outer s H E)) (pv 0) T.aT T.rV kG (hr.mono (by decide)) T.mK .nil (fun _ _ z=>Or.inl z) (aa (pv 2) ag)))) aB)) (af (gp (aU (au (bj.or (aW (aC hr))) (pv 1) ai (aA _)) (aj (a8 (bC (X:=(cj (fA P w) P w K mg base ["_law_book","_law_door","_law_name"] "_law_asked" (ae dH) t.dn cdv A outer s H E)) (pv 0) T.aT T.jE di (hr.mono (by decide)) T.gK .nil (fun _ _ z=>Or.inl z) (aa (pv 2) ag)))) aB)) (af (gp (aU (au (bj.or (aW (aC hr))) (pv 1) ai (aA _)) (aj (a8 (bC (X:=(cj (fA P w) P w K mg base ["_law_book","_law_door","_law_name"] "_law_asked" (ae dH) t.dn cdv A outer s H E)) (pv 0) T.aT T.MO DA (hr.mono (by decide)) T.yb .nil (fun _ _ z=>Or.inl z) (aa (pv 2) (aa (zB sF ai) (aa (cw (aa aD (aa ai ag))) ag)))))) aB)) (af (gp (aU (au (bj.or (aW (aC hr))) (pv 1) ai (aA _)) (aj (a8 (bC (X:=(cj (fA P w) P w K mg base ["_law_book","_law_door","_law_name"] "_law_asked" (ae dH) t.dn cdv A outer s H E)) (pv 0) T.aT T.MP DB (hr.mono (by decide)) T.yd .nil (fun _ _ z=>Or.inl z) (aa (pv 2) (aa (aP Tq ai ai) ag))))) aB)) (af (gp (aU (au (bj.or (aW (aC hr))) (pv 1) ai (aA _)) (aj (a8 (bC (X:=(cj (fA P w) P w K mg base ["_law_book","_law_door","_law_name"] "_law_asked" (ae dH) t.dn cdv A outer s H E)) (pv 0) T.aT T.Gq Ay (hr.mono (by decide)) T.uU .nil (fun _ _ z=>Or.inl z) (aa (pv 2) (aa (zB sF ai) (aa (cw (aa aD (aa ai ag))) ag)))))) aB)) (af (gp (aU (au (bj.or (aW (aC hr))) (pv 1) ai (aA _)) (aj (a8 (bC (X:=(cj (fA P w) P w K mg base ["_law_book","_law_door","_law_name"] "_law_asked" (ae dH) t.dn cdv A outer s H E)) (pv 0) T.aT T.Gs Az (hr.mono (by decide)) T.uW .nil (fun _ _ z=>Or.inl z) (aa (pv 2) ag)))) aB)) (af (gp (aU (au (bj.or (aW (aC hr))) (pv 1) ai (aA _)) (aj (a8 (kh (X:=(cj (fA P w) P w K mg base ["_law_book","_law_door","_law_name"] "_law_asked" (ae dH) t.dn cdv A outer s H E)) ajQ (hr.mono (by decide)) rfl T.ahE T.Gw.kp T.Ul .nil (fun _ _ z=>Or.inl z) (aa (pv 0) (aa (pv 2) ag))))) aB)) (aj (aU (au (bj.or (aW (aC hr))) (pv 1) ai (aA _)) (aj (a8 (kh (X:=(cj (fA P w) P w K mg base ["_law_book","_law_door","_law_name"] "_law_asked" (ae dH) t.dn cdv A outer s H E)) ahZ (hr.mono (by decide)) rfl T.aeF T.An.kp T.O5 .nil (fun _ _ z=>Or.inl z) (aa (pv 0) (aa (pv 2) ag))))) aB)))))))))) ?_;obtain⟨L,D,U,all,M,Ps,Fs,es,us,b,_⟩:=B.ex;obtain⟨dx,hx⟩:=b.hx;have q0:=q H (aq.refl _);refine eX fun N hN=>?_;refine⟨fun σ H'=>k≠0/\σ=[some (.ref x),some (.int (k:Int)),some (.str n)]/\H=H',?_,?_⟩
  ·tm_up;refine a9 (fun _=>?_) (fun hc=>⟨fun z=>hc (W' (R' V.int (show(k:Int)=0 by omega))),rfl,rfl⟩);refine⟨_,rfl,x,dx,_,rfl,hx,my _ _ _,_,rfl,x,F,vw,ps,fs,n,rfl,B,?_⟩;rw[hf];exact q0
  rintro σ H' ⟨k0,rfl,rfl⟩;refine hN _ _ ?_;clear hN N;refine eX fun N hN=>?_;refine⟨fun σ H'=>k≠1/\σ=[some (.ref x),some (.int (k:Int)),some (.str n)]/\H=H',?_,?_⟩
  ·tm_up;refine a9 (fun _=>?_) (fun hc=>⟨fun z=>hc (W' (R' V.int (show(k:Int)=1 by omega))),rfl,rfl⟩);refine⟨_,rfl,x,dx,_,rfl,hx,zN _ _ _,_,rfl,x,F,vw,ps,fs,n,rfl,B,?_⟩;rw[hf];exact q0
  rintro σ H' ⟨k1,rfl,rfl⟩;refine hN _ _ ?_;clear hN N;refine eX fun N hN=>?_;refine⟨fun σ H'=>k≠2/\σ=[some (.ref x),some (.int (k:Int)),some (.str n)]/\H=H',?_,?_⟩
  ·tm_up;refine a9 (fun _=>?_) (fun hc=>⟨fun z=>hc (W' (R' V.int (show(k:Int)=2 by omega))),rfl,rfl⟩);refine⟨_,rfl,x,dx,_,rfl,hx,kK _ _ _,_,rfl,x,F,vw,ps,fs,n,rfl,B,?_⟩;rw[hf];exact q0
  rintro σ H' ⟨k2,rfl,rfl⟩;refine hN _ _ ?_;clear hN N;refine eX fun N hN=>?_;refine⟨fun σ H'=>k≠3/\σ=[some (.ref x),some (.int (k:Int)),some (.str n)]/\H=H',?_,?_⟩
  ·tm_up;refine a9 (fun _=>?_) (fun hc=>⟨fun z=>hc (W' (R' V.int (show(k:Int)=3 by omega))),rfl,rfl⟩);refine⟨_,rfl,x,dx,_,rfl,hx,Ow _ _ _,?_⟩;tm_up;refine⟨by show 2<=sizeLine;decide,fun p hp=>?_⟩;have s1:=aq.upd (o:=.tup [V.str "x",V.int 5]) hp;refine⟨x,F,vw,ps,fs,n,-1,p,("x",5),rfl,B.same s1,ah,hps,?_⟩;rw[hf];exact q _ s1
  rintro σ H' ⟨k3,rfl,rfl⟩;refine hN _ _ ?_;clear hN N;refine eX fun N hN=>?_;refine⟨fun σ H'=>k≠4/\σ=[some (.ref x),some (.int (k:Int)),some (.str n)]/\H=H',?_,?_⟩
  ·tm_up;refine a9 (fun _=>?_) (fun hc=>⟨fun z=>hc (W' (R' V.int (show(k:Int)=4 by omega))),rfl,rfl⟩);refine⟨_,rfl,x,dx,_,rfl,hx,Ox _ _ _,?_⟩;tm_up;refine⟨x,F,vw,ps,fs,n,10 ^ 9,rfl,B,hps,?_⟩;rw[hf];exact q0
  rintro σ H' ⟨k4,rfl,rfl⟩;refine hN _ _ ?_;clear hN N;refine eX fun N hN=>?_;refine⟨fun σ H'=>k≠5/\σ=[some (.ref x),some (.int (k:Int)),some (.str n)]/\H=H',?_,?_⟩
  ·tm_up;refine a9 (fun _=>?_) (fun hc=>⟨fun z=>hc (W' (R' V.int (show(k:Int)=5 by omega))),rfl,rfl⟩);refine⟨_,rfl,x,dx,_,rfl,hx,MF _ _ _,?_⟩;tm_up;refine⟨by show 2<=sizeLine;decide,fun p hp=>?_⟩;have s1:=aq.upd (o:=.tup [V.str "G",V.int 100]) hp;refine⟨x,F,vw,ps,fs,n,-7,p,("G",100),rfl,B.same s1,ah,hps,?_⟩;rw[hf];exact q _ s1
  rintro σ H' ⟨k5,rfl,rfl⟩;refine hN _ _ ?_;clear hN N;refine eX fun N hN=>?_;refine⟨fun σ H'=>k≠6/\σ=[some (.ref x),some (.int (k:Int)),some (.str n)]/\H=H',?_,?_⟩
  ·tm_up;refine a9 (fun _=>?_) (fun hc=>⟨fun z=>hc (W' (R' V.int (show(k:Int)=6 by omega))),rfl,rfl⟩);refine⟨_,rfl,x,dx,_,rfl,hx,ME _ _ _,_,rfl,x,F,vw,ps,fs,n,rfl,B,hps,?_⟩;rw[hf];exact q0
  rintro σ H' ⟨k6,rfl,rfl⟩;refine hN _ _ ?_;clear hN N;refine eX fun N hN=>?_;refine⟨fun σ H'=>k≠7/\σ=[some (.ref x),some (.int (k:Int)),some (.str n)]/\H=H',?_,?_⟩
  ·tm_up;refine a9 (fun _=>?_) (fun hc=>⟨fun z=>hc (W' (R' V.int (show(k:Int)=7 by omega))),rfl,rfl⟩);exact⟨_,rfl,_,rfl,x,F,vw,ps,fs,n,rfl,B,hf,q⟩
  rintro σ H' ⟨k7,rfl,rfl⟩;refine hN _ _ ?_;clear hN N;tm_up;refine a9 (fun _=>?_) (fun hc=>P' (W' (R' V.int (show(k:Int)=8 by omega))) hc);exact⟨_,rfl,_,rfl,x,F,vw,ps,fs,n,rfl,B,hf,q0⟩
inductive CG (c:Cs)(vs:List V)(H:Hp)(Q:VK)(E:XK):Prop
 |mk (x:Addr) (F:Addr->Prop) (vw:Vw) (ps fs:List Vw) (n:Str) (k:Nat) (eE:vs=[.ref x,.int (k:Int),.str n]) (eF:xw c H x F vw ps fs) (h8:bc vw n=none) (lh:k<9) (rJ:ps.length<=900) (Rg:∀ H',aq H H'->Q (.bl true) H'):CG c vs H Q E
theorem RB (T:Txt K w mg t):bI P w K mg base lB (0+10) t.gH t.xZ ["_law_book","_law_door","_law_name"] (CG (cs t)):=by
 have aeZ:=aaK (P:=P) (base:=base) T;refine T.nE.ok Cv (fun vs H Q E h=>?_) (fun cdv A outer s H vs Q E hr h=>?_)
 ·obtain⟨_,_,_,_,_,_,_,rfl,_⟩:=h;rfl
 ·obtain⟨x,F,vw,ps,fs,n,k,rfl,B,hf,hk,hps,q⟩:=h;refine aX (af (agZ (CT:=t.bq) (i:=3) (fun pn XS=>(aj (a8 (kh (X:=Cx.Mz (cj lB P w K mg base ["_law_book","_law_door","_law_name","e"] "_law_no_voice" (ae i8) t.gH cdv A outer s H E).nox pn) (XS:=XS) aeZ (hr.mono (by decide)) rfl T.aap T.wY.kp T.JL .nil (fun _ _ z=>z) (aa (pv 0) (aa (pv 1) (aa (pv 2) ag))))))) (fun pn a=>(af (aU (bA (aO (Og (K:=K) rfl) rfl T.bu br (aa (pv 3) (aa (cw (aa (b5 (v:=.ref t.ay) rfl T.As rfl) (aa (b5 (v:=.ref t.aE) rfl T.Ds rfl) (aa (b5 (v:=.ref t.aF) rfl T.Dt rfl) (aa (b5 (v:=.ref t.aK) rfl T.JP rfl) ag))))) ag)))) (aj (aw ik)) aB) (aj (aw (cS (iW (aO (Og (K:=K) rfl) rfl T.bu br (aa (pv 3) (aa (b5 (v:=.ref t.aG) rfl T.Dr rfl) ag))) (lU (aO (Og (K:=K) rfl) rfl T.bu br (aa (pv 3) (aa (gB (v:=.ty "ValueError") rfl T.Ru Rk rfl) ag)))))))))) Cv.nd rfl rfl rfl rfl rfl T.Ut) (aj (aw ik))) ?_;refine⟨_,rfl,_,rfl,_,rfl,?_⟩;refine⟨x,F,vw,ps,fs,n,k,rfl,B,hf,hk,hps,fun H1 S1=>?_⟩;refine⟨rfl,T.d5,fun z hz=>?_⟩;have sz:=S1.trans (aq.upd (o:=TF z (.ref ((cs t).x .cC))) hz);have ez:upd H1 z (TF z (.ref ((cs t).x .cC))) z=some (TF z (.ref t.aG)):=ah;generalize upd H1 z (TF z (.ref ((cs t).x .cC)))=H2 at sz ez;refine⟨_,rfl,by show 4<=sizeLine;decide,fun p2 hp2=>?_⟩;have s2:=aq.upd (o:=.tup [V.ref t.ay,V.ref t.aE,V.ref t.aF,V.ref t.aK]) hp2;refine .inr (.inr (.inr ⟨z,_,p2,[t.ay,t.aE,t.aF,t.aK],_,rfl,s2 _ _ ez,T.yf,ah,T.bo,_,rfl,bZ ?_⟩));have e3:=s2 _ _ ez;have S3:=sz.trans s2;generalize upd H2 p2 (.tup [V.ref t.ay,V.ref t.aE,V.ref t.aF,V.ref t.aK])=H3 at e3 S3;refine⟨fun v H'=>v=.bl true/\aq H H',?_,?_⟩
  ·refine⟨_,rfl,.inr (.inr (.inl ⟨z,_,_,_,rfl,e3,T.yf,T.fJ,_,rfl,cZ ?_⟩))⟩;exact⟨_,rfl,.inr (.inl ⟨z,_,_,_,rfl,e3,T.yf,T.dD,rfl,S3⟩)⟩
  ·rintro _ H' ⟨rfl,s'⟩;exact q _ s'
inductive PB (vs:List V)(H:Hp)(Q:VK)(E:XK):Prop
 |mk (x:Str) (eE:vs=[.str x]) (eF:x.length<=1000) (h8:∀ H',aq H H'->Q (.bl (nameB x)) H'):PB vs H Q E
theorem aaL (T:Txt K w mg t):bI P w K mg base lB (0+1) t.o7 t.JA ["name"] PB:=by
 refine T.wZ.ok Z7 (fun vs H Q E h=>?_) (fun cdv A outer s H vs Q E hr h=>?_)
 ·obtain⟨_,rfl,_⟩:=h;rfl
 ·obtain⟨x,rfl,hx,q⟩:=h;refine aX (aj (aw (cS (iW (Xr we we ai (aO (aQ.or aR) rfl T.cA cy (aa (pv 0) ag)) (b5 (v:=.int 8) rfl T.Pe ⟨_,rfl⟩)) (lU (aO ag1 rfl T.alW als (aa (uy (cn:=["letter"]) rfl (il.of rfl) (agD (pv 0)) (fun _=>(bg (i:=0) Ub rfl (Or.inl rfl))) (fun _=>zF) (fun _=>(b6 (cW.or cV) (pv 0) (b5 (v:=.str "abcdefghijklmnopqrstuvwxyz") rfl T.aeG ⟨_,rfl⟩) rfl))) ag))))))) ?_;have xb:x.length<=sizeLine:=Zh' hx (by decide);refine⟨fun v H'=>v=.bl (nameB x)/\aq H H',?_,fun _ _ ⟨e1,e2⟩=>by rw[e1];exact q _ e2⟩;unfold nameB;refine⟨_,rfl,.inr ⟨_,rfl,xb,_,_,rfl,rfl,_,rfl,?_⟩⟩;refine a9 (fun h1=>?_) (fun h1=>?_)
  rotate_left
  ·have e1:decide (1<=x.length)=false:=X' fun z=>h1 (W' (by omega));rw[e1];exact⟨_,rfl,bZ ⟨rfl,aq.refl _⟩⟩
  have e1:decide (1<=x.length)=true:=W' (by have:=U' h1;omega);rw[e1,Bool.true_and];refine⟨_,_,rfl,rfl,_,rfl,?_⟩;refine a9 (fun h2=>?_) (fun h2=>?_)
  rotate_left
  ·have e2:decide (x.length<=8)=false:=X' fun z=>h2 (W' (by omega));rw[e2];exact⟨rfl,aq.refl _⟩
  have n2:x.length<=8:=by have:=U' h2;omega
  have e2:decide (x.length<=8)=true:=W' n2;rw[e2,Bool.true_and];refine⟨_,rfl,_,rfl,fun D b hD=>?_⟩;refine agO (fun i ys σ H'=>∃ v,σ=[v,some (.str x)]/\H'=upd H D (.lst ys)/\ys=((x.cps.toList.take i).map fun c=>Rl ⟨#[c]⟩ "abcdefghijklmnopqrstuvwxyz").map V.bl/\i<=x.cps.size) ⟨none,rfl,rfl,rfl,Zj' _⟩ ?_ ?_
  ·rintro i ys c σ H' hc ⟨v,rfl,rfl,rfl,hi⟩ N hN;have hi2:i<x.cps.size:=(Array.getElem?_eq_some_iff.mp hc).1;have hcm:x.cps.toList[i]? = some c:=by simpa using hc
   have sz:x.cps.size<=8:=n2;refine lX ?_;refine⟨_,rfl,.inr ⟨_,_,rfl,rfl,ah,?_,?_⟩⟩
   ·rw[j',j',Ze'];exact ba (by omega)
   ·refine hN _ _ _ ⟨_,rfl,eo,?_,hi2⟩;rw[take_succ,hcm,map_append,map_append];rfl
  ·rintro ys σ H' ⟨v,rfl,rfl,rfl,hi⟩;refine⟨rfl,D,_,rfl,bh.of ah,?_,aq.upd hD⟩;rw[show x.cps.size=x.cps.toList.length from rfl,take_length];refine R' V.bl ?_;rw[List.all_map];rfl
theorem ah0 {x:Str}{l:List V}(h:inV (.str x) l=true):V.str x∈l:=by
 unfold inV at h;obtain⟨y,hy,e⟩:=any_eq_true.mp h;cases y with
 |str z =>
  have:z=x:=by simpa [eqV] using e
  rw[<-this];exact hy
 |_=>simp[eqV]at e
theorem aaM {x:Str}{l:List V}(h:V.str x∈l):inV (.str x) l=true:=by
 unfold inV;exact any_eq_true.mpr ⟨_,h,by simp[eqV]⟩
theorem M0 {vw:Vw}{n:Str}(h:dA vw n=none):nameB n=true/\bc vw n=none/\vw.length<12:=by
 unfold dA at h;split at h
 ·cases h
 ·next h1 =>
  split at h
  ·cases h
  ·next h2 =>
   split at h
   ·cases h
   ·next h3=>exact⟨by simpa using h1,by cases e:bc vw n with|none=>rfl|some _=>rw[e]at h2;exact P' rfl h2,by omega⟩
inductive tS (c:Cs)(vs:List V)(H:Hp)(Q:VK)(E:XK):Prop
 |mk (x:Addr) (F:Addr->Prop) (vw:Vw) (ps fs:List Vw) (n:Str) (eE:vs=[.ref x,.str n]) (eF:xw c H x F vw ps fs) (h8:n.length<=1000) (lh:match dA vw n with
 |some r=>∀ H',aq H H'->RX E c r H'
 |none=>∀ H',aq H H'->Q .non H'):tS c vs H Q E
theorem tT (T:Txt K w mg t):bI P w K mg base (fA P w) (0+2) t.bQ t.m9 ["self","name"] (tS (cs t)):=by
 have ae0:=aaL (P:=P) (base:=base) T;have kY:=vS (P:=P) (base:=base) T;refine T.j0.Od C6 (fun vs H Q E h=>?_) (fun cdv A outer s H vs Q E hr h=>?_)
 ·obtain⟨_,_,_,_,_,_,rfl,_⟩:=h;rfl
 ·obtain⟨x,F,vw,ps,fs,n,rfl,B,hlen,q⟩:=h;refine aX (af (aU (dw (bA (aM ae0 (hr.mono (by decide)) rfl T.aaq T.wZ.kp T.JM .nil aY (aa (pv 1) ag)))) (aj (jr (X:=(cj (fA P w) P w K mg base ["self","name"] "Book.refuse_new" (ae cm) t.bQ cdv A outer s H E)) (fun _ _ z=>z) rfl T.aav.exc rfl T.Dt (aa aD ag))) aB) (af (aU (au (cW.or cV) (pv 1) (sG (pv 0) T.aT T.qg kY (hr.mono (by decide)) T.kQ .nil aY) rfl) (aj (jr (X:=(cj (fA P w) P w K mg base ["self","name"] "Book.refuse_new" (ae cm) t.bQ cdv A outer s H E)) (fun _ _ z=>z) rfl T.Uu.exc rfl T.GB (aa aD ag))) aB) (aj (aU (au ac7 (aO (aQ.or aR) rfl T.cA cy (aa (cv (pv 0) rfl) ag)) (b5 (v:=.int 12) rfl T.Rx ⟨_,rfl⟩) (aA _)) (aj (jr (X:=(cj (fA P w) P w K mg base ["self","name"] "Book.refuse_new" (ae cm) t.bQ cdv A outer s H E)) (fun _ _ z=>z) rfl T.adC.exc rfl T.Us (aa aD ag))) aB)))) ?_;refine⟨_,rfl,n,rfl,hlen,fun H1 s1=>?_⟩;unfold dA at q;refine⟨_,rfl,?_⟩;cases hnb:nameB n with
  |false =>
   rw[K' hnb]at q;have q:=q H1 s1;exact cZ ⟨by show 1<=sizeLine;decide,q.2⟩
  |true =>
   rw[G' (by rw[hnb];decide)]at q;refine bZ ?_;have B1:=B.same s1;obtain⟨L,D,U,all,M,Ps,Fs,es,us,b,i,pp,pf,f⟩:=B1.ex;obtain⟨dx,hx⟩:=b.hx;refine⟨_,rfl,_,rfl,x,dx,_,rfl,hx,rM _ _ _,?_⟩;refine⟨x,F,vw,ps,fs,rfl,B1,fun l H2 hl s2 hl2=>?_⟩;refine .inl ⟨l,_,rfl,.inl (bh.of hl2),rfl,?_,_,rfl,?_⟩
   ·rw[List.all_map];exact all_eq_true.mpr fun _ _=>rfl
   have mem:inV (.str n) (vw.map fun a=>V.str a.1)=true ↔ (bc vw n).isSome=true:=by
    constructor
    ·intro h;obtain⟨a,ha,e⟩:=mem_map.mp (ah0 h);cases e2:bc vw n with
     |some _=>rfl
     |none=>exact P' (V.str.inj e) (sM e2 a ha)
    ·intro h;cases e2:bc vw n with
     |none=>rw[e2]at h;cases h
     |some th=>exact aaM (mem_map.mpr ⟨_,dm e2,rfl⟩)
   refine a9 (fun h=>?_) (fun h=>?_)
   ·rw[K' (mem.mp h)]at q;have q:=q H2 (s1.trans s2);exact⟨by show 1<=sizeLine;decide,q.2⟩
   rw[G' (fun z=>h (mem.mpr z))]at q;refine⟨_,rfl,x,_,dx,_,_,rfl,s2 _ _ hx,T.aT,T.b9,lZ _ _ _,?_⟩;refine .inl ⟨L,M L,rfl,.inl (bh.of (s2 _ _ b.hL)),?_⟩;refine⟨_,_,rfl,rfl,_,rfl,?_⟩;have ll:=ck i;refine a9 (fun h=>?_) (fun h=>?_)
   ·have h':=U' h;rw[K' (by omega)]at q;have q:=q H2 (s1.trans s2);exact⟨by show 1<=sizeLine;decide,q.2⟩
   ·rw[G' (fun z=>h (W' (by omega)))]at q;exact q _ (s1.trans s2)
inductive AA (c:Cs)(vs:List V)(H:Hp)(Q:VK)(E:XK):Prop
 |mk (x dx L D U v:Addr) (xs ds us:List V) (eE:vs=[.ref x,.ref v]) (eF:H x=some (.ins c.B dx (Fn L D U))) (h8:H L=some (.lst xs)) (lh:H D=some (.lst ds)) (rJ:H U=some (.lst us)) (Rg:L≠D) (h6_:L≠U) (h7_:D≠U) (h8_:xs.length<=12) (h9_:ds.length<=900) (aqJ:∀(e:Dd)(H1 H':Hp),e.T=L->e.i=xs.length->e.bs=[]->e.as=[.ref v]->aq H H1->H e.B=none->H e.A=none->qq c.D H1 (.ref e.o) e->(∀ y o,H1 y=some o->y≠L->y≠D->y≠U->H' y=some o)->H' L=some (.lst (xs++[.ref v]))->H' D=some (.lst (ds++[.ref e.o]))->H' U=some (.lst [])->Q .non H'):AA c vs H Q E
theorem AB (T:Txt K w mg t):bI P w K mg base lB (0+3) t.fg t.vQ ["self","voice"] (AA (cs t)):=by
 have dj:=jB (P:=P) (base:=base) T;have cR:=iQ (P:=P) (base:=base) T;refine T.qh.ok OK (fun vs H Q E h=>?_) (fun cdv A outer s H vs Q E hr h=>?_)
 ·obtain⟨_,_,_,_,_,_,_,_,_,rfl,_⟩:=h;rfl
 ·obtain⟨x,dx,L,D,U,v,xs,ds,us,rfl,hx,hL,hD,hU,n1,n2,n3,hxs,hds,q⟩:=h;refine aX (aj (a8 (lL (pv 0) T.aT T.jv dj (hr.mono (by decide)) T.fG .nil aY (aa (xB T.GA cR (hr.mono (by decide)) rfl T.Gz T.eL .nil aY (aa (cv (pv 0) rfl) (aa (aO (aQ.or aR) rfl T.cA cy (aa (cv (pv 0) rfl) ag)) (aa (bN ag) (aa (bN (aa (pv 1) ag)) ag))))) ag)))) ?_;refine⟨_,rfl,x,dx,_,rfl,hx,kj _ _ _,?_⟩;refine⟨_,rfl,x,_,dx,_,_,rfl,hx,T.aT,T.b9,lZ _ _ _,?_⟩;refine⟨_,rfl,x,_,dx,_,_,rfl,hx,T.aT,T.b9,lZ _ _ _,?_⟩;refine .inl ⟨L,xs,rfl,.inl (bh.of hL),?_⟩;refine⟨big (by show 0<=1000;omega),fun B hB=>?_⟩;refine⟨_,rfl,big (by show 1<=1000;omega),fun A_ hA=>?_⟩;have hA0:=FF hA;have LA:L≠A_:=ao (aq.upd (o:=.lst []) hB _ _ hL) hA;have sB:=(aq.upd (o:=.lst []) hB).trans (aq.upd (o:=.lst [V.ref v]) hA);have hB2:=aq.upd (o:=.lst [V.ref v]) hA _ _ (ah (H:=H) (a:=B) (o:=.lst []));have UG:=ah (H:=upd H B (.lst [])) (a:=A_) (o:=.lst [V.ref v]);generalize upd (upd H B (.lst [])) A_ (.lst [V.ref v])=H2 at sB hB2 UG;intro d dd nd ndd ne;refine⟨d,dd,L,(xs.length:Int),B,A_,rfl,ah,rfl,?_⟩;rw[eo];have s3:aq H2 (upd (upd H2 dd (.own d)) d (.ins t.bL dd (MD L (xs.length:Int) B A_))):=fun y o hy=>by
   rw[ak (ao hy nd),ak (ao hy ndd)];exact hy
  have UH:=ah (H:=upd H2 dd (.own d)) (a:=d) (o:=.ins t.bL dd (MD L (xs.length:Int) B A_));generalize upd (upd H2 dd (.own d)) d (.ins t.bL dd (MD L (xs.length:Int) B A_))=H3 at s3 UH;have s4:=sB.trans s3;refine⟨x,dx,L,D,U,d,dd,L,B,A_,xs.length,ds,us,xs,[],[.ref v],rfl,s4 _ _ hx,s4 _ _ hD,s4 _ _ hU,UH,s4 _ _ hL,s3 _ _ hB2,s3 _ _ UG,LA,n1,n2,n3,by simp,by simp;omega,hds,?_⟩;refine q ⟨d,dd,L,xs.length,B,A_,[],[.ref v]⟩ H3 _ rfl rfl rfl rfl s4 hB hA0 ⟨rfl,UH,s3 _ _ hB2,s3 _ _ UG⟩ (fun y o hy y1 y2 y3=>?_) ?_ ?_ ah
  ·rw[ak y3,ak y2,ak y1];exact hy
  ·rw[ak n2,ak n1,ah];simp
  ·rw[ak n3,ah]
inductive CH (C:Addr)(vs:List V)(H:Hp)(Q:VK)(E:XK):Prop
 |mk (x dx:Addr) (n:Str) (tm:V) (eE:vs=[.ref x,.str n,tm]) (eF:H x=some (.ins C dx [])) (h8:∀(L:Addr)(H':Hp),(∀ y o,H y=some o->y≠x->H' y=some o)->H L=none->L≠x->H' x=some (.ins C dx (voF n tm L))->H' L=some (.lst [])->Q .non H'):CH C vs H Q E
theorem vi (T:Txt K w mg t):bI P w K mg base lB (0+1) t.cX t.o8 ["self","name","terms"] (CH t.dR):=by
 refine T.kU.ok FN (fun vs H Q E h=>?_) (fun cdv A outer s H vs Q E hr h=>?_)
 ·obtain⟨_,_,_,_,rfl,_⟩:=h;rfl
 ·obtain⟨x,dx,n,tm,rfl,hx,q⟩:=h;refine aX (af (vI (pv 0) (pv 1) rfl) (af (vI (pv 0) (pv 2) rfl) (aj (vI (pv 0) (bN ag) rfl)))) ?_;refine⟨_,rfl,_,rfl,x,_,dx,_,rfl,hx,T.gP,T.ig,by show 0<1000;decide,?_⟩;refine⟨_,rfl,_,rfl,x,_,dx,_,rfl,ah,T.gP,T.df,by rw[TR];show 1<1000;decide,?_⟩;refine⟨big (by show 0<=1000;omega),fun L hL=>?_⟩;rw[eo]at hL;have nx:x≠L:=fun e=>by rw[<-e,ah]at hL;cases hL
  have hL0:H L=none:=by rw[ak (Yb' nx)]at hL;exact hL
  refine⟨_,rfl,x,_,dx,_,rfl,by rw[ak nx,eo];exact ah,T.gP,T.cP,by rw[TR,adv];show 2<1000;decide,?_⟩;rw[TR,adv,ajs];simp only [eo];refine q L _ (fun y o hy ny=>?_) hL0 (Yb' nx) ah ?_
  ·rw[ak ny,ak (ao hy hL0),ak ny];exact hy
  ·rw[ak (Yb' nx)];exact ah
inductive vj (c:Cs)(vs:List V)(H:Hp)(Q:VK)(E:XK):Prop
 |mk (x:Addr) (F:Addr->Prop) (vw:Vw) (ps fs:List Vw) (n ld:Str) (lt sl:Int) (tn:Bool) (eE:vs=[.ref x,.str n,.str ld,.int lt,.int sl,.bl tn]) (eF:xw c H x F vw ps fs) (h8:n.length<=1000) (lh:ps.length<=900) (rJ:match dA vw n with
 |some r=>∀ H',aq H H'->RX E c r H'
 |none=>match bc vw ld with
  |none=>∀ H',aq H H'->RX E c .cC H'
  |some (.cn _ _ _ _)=>∀ H',aq H H'->RX E c .iB H'
  |some (.pl _)=>(¬ i6 lt sl->∀ H',aq H H'->RX E c .uG H')/\(i6 lt sl->∀ F' H',Gr F F' H->Fr F H H'->xw c H' x F' (vw++[(n,.cn ld lt sl tn)]) (ps++[vw]) []->Q .non H')):vj c vs H Q E
theorem Hc (T:Txt K w mg t):bI P w K mg base (fA P w) (0+4) t.bX t.kP ["self","name","leader","later","slow","is_turned"] (vj (cs t)):=by
 have nK:=tT (P:=P) (base:=base) T;have cT:=ix (P:=P) (base:=base) T;have vT:=AB (P:=P) (base:=base) T;have pE:=vi (P:=P) (base:=base) T;refine T.iJ.Od FO (fun vs H Q E h=>?_) (fun cdv A outer s H vs Q E hr h=>?_)
 ·obtain⟨_,_,_,_,_,_,_,_,_,_,rfl,_⟩:=h;rfl
 ·obtain⟨x,F,vw,ps,fs,n,ld,lt,sl,tn,rfl,B,hlen,hps,q⟩:=h;refine aX (af (a8 (bC (X:=(cj (fA P w) P w K mg base ["self","name","leader","later","slow","is_turned"] "Book.add_canon" (ae cD) t.bX cdv A outer s H E)) (pv 0) T.aT T.tN nK (hr.mono (by decide)) T.j1 .nil (fun _ _ z=>Or.inl z) (aa (pv 1) ag))) (af (a8 (bC (X:=(cj (fA P w) P w K mg base ["self","name","leader","later","slow","is_turned"] "Book.add_canon" (ae cD) t.bX cdv A outer s H E)) (pv 0) T.aT T.iq cT (hr.mono (by decide)) T.dP .nil (fun _ _ z=>Or.inl z) (aa (pv 2) ag))) (af (aU (dw (cz (PW.pt (du (Fp we we ai (pv 3) (b5 (v:=.int 999) rfl T.ahH ⟨_,rfl⟩)) (eW (Fp we we ai (pv 4) (b5 (v:=.int 9) rfl T.aeH ⟨_,rfl⟩))))))) (aj (jr (X:=(cj (fA P w) P w K mg base ["self","name","leader","later","slow","is_turned"] "Book.add_canon" (ae cD) t.bX cdv A outer s H E)) (fun _ _ z=>z) rfl T.aaw.exc rfl T.Pg (aa aD ag))) aB) (aj (a8 (lL (pv 0) T.aT T.Ao vT (hr.mono (by decide)) T.qi .nil aY (aa (xB T.Ye pE (hr.mono (by decide)) rfl T.Yd T.kW .nil aY (aa (pv 1) (aa (cw (aa (pv 2) (aa (pv 3) (aa (pv 4) (aa (pv 5) ag))))) ag))) ag))))))) ?_;obtain⟨L,D,U,all,M,Ps,Fs,es,us,b,i,pp,pf,f⟩:=B.ex;obtain⟨dx,hx⟩:=b.hx;have wv:=B.wv vw (.inr (.inl rfl));refine⟨_,rfl,x,dx,_,rfl,hx,uE _ _ _,_,rfl,x,F,vw,ps,fs,n,rfl,B,hlen,?_⟩;cases ho:dA vw n with
  |some r =>
   rw[ho]at q;intro H' s';have q:=q H' s';exact q
  |none =>
   rw[ho]at q;obtain⟨_,hf,amj⟩:=M0 ho;intro H1 s1;have b1:=b.kept f (.same s1);have i1:Is H1 L all M vw:=Is.kept (F:=F) (.same s1) i;obtain⟨vx,g,gv⟩:=b1.xI i1;have hx1:=s1 _ _ hx;refine⟨_,rfl,x,dx,_,rfl,hx1,i5 _ _ _,_,rfl,x,dx,L,D,U,M L,vx,ld,rfl,hx1,b1.hL,g,?_⟩;rcases MG gv (fun _ _ r=>r.2.1) ld with ⟨f1,f2⟩|⟨a,th,j,f1,f2,r,an,fj,fw⟩
   ·rw[f1];rw[f2]at q;have q:=q H1 s1;exact q
   rw[f1];rw[f2]at q;cases th with
   |cn ld2 lt2 sl2 tn2 =>
    obtain⟨pt,SX,_⟩:=r.2.2;have q:=q H1 s1;refine⟨(fun z=>by rw[SX]at z;cases z),(fun _ _=>q),.inr ⟨pt,SX⟩⟩
   |pl ss =>
    obtain⟨Xm,hg⟩:=r.2.2;obtain⟨q1,q2⟩:=q;refine⟨fun _=>?_,(fun pz z=>by rw[Xm]at z;cases z),.inl Xm⟩;refine⟨fun bb H'=>bb=decide (i6 lt sl)/\H'=H1,?_,?_⟩
    ·refine⟨_,rfl,_,_,rfl,rfl,_,rfl,?_⟩;refine a9 (fun h1=>?_) (fun h1=>?_)
     rotate_left
     ·have e:decide (i6 lt sl)=false:=X' fun z=>h1 (W' z.1);rw[e];exact⟨_,rfl,bZ ⟨rfl,rfl⟩⟩
     refine⟨_,_,rfl,rfl,_,rfl,?_⟩;refine a9 (fun h2=>?_) (fun h2=>?_)
     rotate_left
     ·have e:decide (i6 lt sl)=false:=X' fun z=>h2 (W' z.2.1);rw[e];exact⟨rfl,rfl⟩
     refine⟨_,rfl,_,_,rfl,rfl,_,rfl,?_⟩;refine a9 (fun h3=>?_) (fun h3=>?_)
     rotate_left
     ·have e:decide (i6 lt sl)=false:=X' fun z=>h3 (W' z.2.2.1);rw[e];exact⟨_,rfl,rfl,rfl⟩
     refine⟨_,_,rfl,rfl,_,rfl,?_,rfl⟩;refine decide_eq_decide.mpr ⟨fun z=>⟨U' h1,U' h2,U' h3,z⟩,fun z=>z.2.2.2⟩
    intro bb H1' ⟨e1,e2⟩;rw[e1,e2]
    by_cases hok:i6 lt sl
    rotate_left
    ·rw[X' hok];have q:=q1 hok H1 s1;exact cZ ⟨by show 1<=sizeLine;decide,q.2⟩
    rw[W' hok];refine bZ ?_;obtain⟨ds,hD,pD⟩:=b1.hD;obtain⟨ux,hU,pU⟩:=b1.hU;have ll:=ck i;have dl:=ck pD;have pl:=ck pp;have pe:=b.past.len;refine⟨_,rfl,x,dx,_,rfl,hx1,Cr _ _ _,_,rfl,_,rfl,_,rfl,_,rfl,_,rfl,(by show 4<=sizeLine;decide),fun tp htp=>?_⟩;have st:=aq.upd (o:=.tup [V.str ld,V.int lt,V.int sl,V.bl tn]) htp;have aoA:=ah (H:=H1) (a:=tp) (o:=.tup [V.str ld,V.int lt,V.int sl,V.bl tn]);generalize upd H1 tp (.tup [V.str ld,V.int lt,V.int sl,V.bl tn])=H1t at st aoA;intro v dv nv ndv ne;refine⟨v,dv,n,.ref tp,rfl,ah,fun l H2 kp hl hlv hv2 hl2=>⟨rfl,?_⟩⟩;have s2t:aq H1t H2:=fun y o hy=>kp y o (by rw[ak (ao hy nv),ak (ao hy ndv)];exact hy) (ao hy nv);have s2:=st.trans s2t;have hl1:H1 l=none:=st.free (OC hl);refine⟨x,dx,L,D,U,v,M L,ds,ux,rfl,s2 _ _ hx1,s2 _ _ b1.hL,s2 _ _ hD,s2 _ _ hU,b.LD,b.LU,b.DU,by omega,by omega,fun e H3 H' eT ei eb ea s3 nB nA hd fr hL' hD' hU'=>?_⟩;obtain⟨F',gr,fr',B'⟩:=Bk.added b1 i1 (cK (fun _ _ q=>Is.kept (F:=F) (.same s1) q) pp) f B.wv (a:=⟨v,dv,n,.ref tp,l⟩) (th:=.cn ld lt sl tn) s2 (st.free nv) hl1 hv2 hl2 (fun M' h0=>⟨tp,rfl,s2t _ _ aoA⟩) (wv.anT (sM hf) amj (dm f2) hok.1 hok.2.1 hok.2.2.1 hok.2.2.2) eT ei eb ea s3 nB nA hd hD pD fr hL' hD' hU';exact q2 hok F' H' (gr.old s1) (fun y o hy hn=>fr' y o (s1 y o hy) hn) B'
inductive vk (c:Cs)(vs:List V)(H:Hp)(Q:VK)(E:XK):Prop
 |mk (x:Addr) (F:Addr->Prop) (vw:Vw) (ps fs:List Vw) (n:Str) (eE:vs=[.ref x,.str n]) (eF:xw c H x F vw ps fs) (h8:n.length<=1000) (lh:ps.length<=900) (rJ:match dA vw n with
 |some r=>∀ H',aq H H'->RX E c r H'
 |none=>∀ F' H',Gr F F' H->Fr F H H'->xw c H' x F' (vw++[(n,.pl [])]) (ps++[vw]) []->Q .non H'):vk c vs H Q E
theorem Hd (T:Txt K w mg t):bI P w K mg base (fA P w) (0+4) t.cE t.o9 ["self","name"] (vk (cs t)):=by
 have nK:=tT (P:=P) (base:=base) T;have vT:=AB (P:=P) (base:=base) T;have pE:=vi (P:=P) (base:=base) T;refine T.kX.Od FP (fun vs H Q E h=>?_) (fun cdv A outer s H vs Q E hr h=>?_)
 ·obtain⟨_,_,_,_,_,_,rfl,_⟩:=h;rfl
 ·obtain⟨x,F,vw,ps,fs,n,rfl,B,hlen,hps,q⟩:=h;refine aX (af (a8 (bC (X:=(cj (fA P w) P w K mg base ["self","name"] "Book.add_voice" (ae dJ) t.cE cdv A outer s H E)) (pv 0) T.aT T.tN nK (hr.mono (by decide)) T.j1 .nil (fun _ _ z=>Or.inl z) (aa (pv 1) ag))) (aj (a8 (lL (pv 0) T.aT T.Ao vT (hr.mono (by decide)) T.qi .nil aY (aa (xB T.Ye pE (hr.mono (by decide)) rfl T.Yd T.kW .nil aY (aa (pv 1) (aa jH ag))) ag))))) ?_;obtain⟨L,D,U,all,M,Ps,Fs,es,us,b,i,pp,pf,f⟩:=B.ex;obtain⟨dx,hx⟩:=b.hx;refine⟨_,rfl,x,dx,_,rfl,hx,uE _ _ _,_,rfl,x,F,vw,ps,fs,n,rfl,B,hlen,?_⟩;cases ho:dA vw n with
  |some r =>
   rw[ho]at q;intro H' s';have q:=q H' s';exact q
  |none =>
   rw[ho]at q;obtain⟨_,hf,amj⟩:=M0 ho;intro H1 s1;have b1:=b.kept f (.same s1);obtain⟨ds,hD,pD⟩:=b1.hD;obtain⟨ux,hU,pU⟩:=b1.hU;have ll:=ck i;have dl:=ck pD;have pl:=ck pp;have pe:=b.past.len;refine⟨_,rfl,x,dx,_,rfl,s1 _ _ hx,Cr _ _ _,_,rfl,?_⟩;intro v dv nv ndv ne;refine⟨v,dv,n,.non,rfl,ah,fun l H2 kp hl hlv hv2 hl2=>⟨rfl,?_⟩⟩;have s2:aq H1 H2:=fun y o hy=>kp y o (by rw[ak (ao hy nv),ak (ao hy ndv)];exact hy) (ao hy nv);have hl1:H1 l=none:=OC hl;refine⟨x,dx,L,D,U,v,M L,ds,ux,rfl,s2 _ _ (s1 _ _ hx),s2 _ _ b1.hL,s2 _ _ hD,s2 _ _ hU,b.LD,b.LU,b.DU,by omega,by omega,fun e H3 H' eT ei eb ea s3 nB nA hd fr hL' hD' hU'=>?_⟩;obtain⟨F',g,fr',B'⟩:=Bk.added b1 (Is.kept (F:=F) (.same s1) i) (cK (fun _ _ q=>Is.kept (F:=F) (.same s1) q) pp) f B.wv (a:=⟨v,dv,n,.non,l⟩) (th:=.pl []) s2 nv hl1 hv2 hl2 (fun M' h0=>⟨rfl,by rw[h0];exact .nil⟩) ((B.wv vw (.inr (.inl rfl))).anS (sM hf) amj) eT ei eb ea s3 nB nA hd hD pD fr hL' hD' hU';exact q F' H' (g.old s1) (fun y o hy hn=>fr' y o (s1 y o hy) hn) B'
inductive He (C:Addr)(vs:List V)(H:Hp)(Q:VK)(E:XK):Prop
 |mk (x dx T_ B A:Addr) (i:Nat) (xs bs as:List V) (eE:vs=[.ref x]) (eF:H x=some (.ins C dx (MD T_ (i:Int) B A))) (h8:H T_=some (.lst xs)) (lh:H B=some (.lst bs)) (rJ:H A=some (.lst as)) (Rg:T_≠B) (h6_:i+as.length<=xs.length) (h7_:xs.length+bs.length<=1000) (h8_:Q .non (upd H T_ (.lst (xs.take i++bs++xs.drop (i+as.length))))):He C vs H Q E
theorem Hf (T:Txt K w mg t):bI P w K mg base lB (0+1) t.iT t.Ae ["self"] (He t.bL):=by
 refine T.uZ.ok T9 (fun vs H Q E h=>?_) (fun cdv A outer s H vs Q E hr h=>?_)
 ·obtain⟨_,_,_,_,_,_,_,_,_,rfl,_⟩:=h;rfl
 ·obtain⟨x,dx,T_,B,A_,i,xs,bs,as,rfl,hx,hT,hB,hA,hne,hi,hz,q⟩:=h;refine aX (aj (lV (cv (pv 0) rfl) (XI (cv (pv 0) rfl) (lM (cv (pv 0) rfl)) (lM (aP (b7.or (aV.or b8)) (cv (pv 0) rfl) (aO (aQ.or aR) rfl T.cA cy (aa (cv (pv 0) rfl) ag))))))) ?_;refine⟨_,rfl,x,_,dx,_,_,rfl,hx,T.gQ,T.fI,Ov _ _ _ _,?_⟩;refine⟨_,rfl,x,_,dx,_,_,rfl,hx,T.gQ,T.fH,Ou _ _ _ _,?_⟩;refine⟨_,rfl,x,_,dx,_,_,rfl,hx,T.gQ,T.jf,TV _ _ _ _,_,rfl,?_⟩;refine⟨_,rfl,x,_,dx,_,_,rfl,hx,T.gQ,T.jf,TV _ _ _ _,?_⟩;refine⟨_,rfl,x,_,dx,_,_,rfl,hx,T.gQ,T.ij,Sy _ _ _ _,?_⟩;refine .inl ⟨A_,as,rfl,.inl (bh.of hA),.inl ⟨_,_,rfl,rfl,_,rfl,?_⟩⟩;refine⟨T_,B,xs,bs,(i:Int),((i+as.length:Nat):Int),rfl,rfl,rfl,by simp,hT,hB,hne,by omega,by omega,by omega,Zh' hz (by decide),?_⟩;rw[Int.toNat_natCast,Int.toNat_natCast];exact q
inductive Hg (c:Cs)(vs:List V)(H:Hp)(Q:VK)(E:XK):Prop
 |mk (x:Addr) (F:Addr->Prop) (vw:Vw) (ps fs:List Vw) (eE:vs=[.ref x]) (eF:xw c H x F vw ps fs) (h8:ps.length+fs.length<=900) (lh:(ps=[]->∀ H',aq H H'->RX E c .oJ H')) (rJ:(∀ ps0 v,ps=ps0++[v]->∀ H',Fr F H H'->xw c H' x F v ps0 (fs++[vw])->Q .non H')):Hg c vs H Q E
theorem UI (T:Txt K w mg t):bI P w K mg base (fA P w) (0+2) t.gI t.Af ["self"] (Hg (cs t)):=by
 have M3:=Hf (P:=P) (base:=base) T;refine T.va.Od FQ (fun vs H Q E h=>?_) (fun cdv A outer s H vs Q E hr h=>?_)
 ·obtain⟨_,_,_,_,_,rfl,_⟩:=h;rfl
 ·obtain⟨x,F,vw,ps,fs,rfl,B,hps,q1,q2⟩:=h;refine aX (af (aU (au (Ob (aC hr)) (cv (pv 0) rfl) (bN ag) (aA _)) (aj (jr (X:=(cj (fA P w) P w K mg base ["self","deed"] "Book.undo" (ae ko) t.gI cdv A outer s H E)) (fun _ _ z=>z) rfl T.SN.exc rfl T.JQ (aa aD ag))) aB) (af (aL (i:=1) FQ.nd rfl (Or.inl rfl) (Tz Yc' slot_list_pop type_list_pop agv (cv (pv 0) rfl))) (af (a8 (sG (pv 1) T.gQ T.Um M3 (hr.mono (by decide)) T.Ap .nil aY)) (aj (a8 (ke Yc' Yd' Ye' bW (cv (pv 0) rfl) (aa (pv 1) ag))))))) ?_;obtain⟨L,D,U,all,M,Ps,Fs,es,us,b,iM,pp,pf,f⟩:=B.ex;obtain⟨dx,hx⟩:=b.hx;obtain⟨ds,hD,pD⟩:=b.hD;have dl:=ck pD;have pl:=ck pp;have pe:=b.past.len;refine⟨_,rfl,x,_,dx,_,_,rfl,hx,T.aT,T.e8,FC _ _ _,big (by show 0<=1000;omega),fun e0 he0=>?_⟩;have s0:=aq.upd (o:=.lst []) he0;refine⟨D,e0,ds,rfl,rfl,bh.of (s0 _ _ hD),bh.of ah,_,rfl,?_⟩;generalize upd H e0 (.lst [])=H0 at s0;refine a9 (fun h=>?_) (fun h=>?_)
  ·have hds:ds=[]:=List.isEmpty_iff.mp h;rw[hds]at dl;have hp0:ps=[]:=List.length_eq_zero_iff.mp (by rw[<-pl,pe,<-dl];rfl);have q:=q1 hp0 H0 s0;exact⟨by show 1<=sizeLine;decide,q.2⟩
  have hne:ds≠[]:=fun z=>h (by rw[z];rfl);obtain⟨ds0,v,rfl⟩:∃ ds0 v,ds=ds0++[v]:=⟨ds.dropLast,ds.getLast hne,(List.dropLast_concat_getLast hne).symm⟩;obtain⟨es0,e,he,pD0,hd⟩:=Oz pD;have hvo:=hd.1;subst hvo;have B0:=B.same s0;have b0:=b.kept f (.same s0);have hd0:qq t.bL H0 (.ref e.o) e:=kL (F:=fun _=>True) (.same s0) ⟨trivial,trivial⟩ hd;have ok:=b.dd e (.inl (by rw[he];exact Zm' _ (List.mem_singleton_self _)));obtain⟨hT,TD,TU⟩:=b0.lists ok.1;have nTB:e.T≠e.B:=by
   rcases ok.1 with z|⟨a,ha,z⟩
   ·rw[z];exact Yb' ok.2.1.1
   ·rw[z];exact Yb' (ok.2.1.2.2.2 a ha)
  obtain⟨Ps0,S,_,_,ft,hMS⟩:=(he ▸ b.past).last;have fit:e.i+e.as.length<=(M e.T).length:=by rw[hMS];exact ajw ft
  have hx0:=s0 _ _ hx;have hD0:=s0 _ _ hD;obtain⟨ux,Xl,pU⟩:=b0.hU;have aqN:(M e.T).length<=200:=by
   rcases ok.1 with z|⟨a,ha,z⟩
   ·rw[z];exact Zh' (b.wf M (.inr (.inl rfl))).len (by decide)
   ·rw[z];exact((b.wf M (.inr (.inl rfl))).ln a ha).1
  refine⟨_,rfl,x,_,dx,_,_,rfl,hx0,T.aT,T.e8,FC _ _ _,?_⟩;refine⟨.inl ⟨rfl,_,bh.of hD0⟩,D,ds0++[V.ref e.o],V.ref e.o,rfl,rfl,hD0,by simp,?_⟩;rw[List.dropLast_concat];have nD:∀{y C d fs},H0 y=some (.ins C d fs)->y≠D:=fun hy=>lg hy hD0 (by intro z;cases z);have nT:∀{y C d fs},H0 y=some (.ins C d fs)->y≠e.T:=fun hy=>lg hy hT (by intro z;cases z);have r1:∀{y o},H0 y=some o->y≠D->upd H0 D (.lst ds0) y=some o:=fun hy hn=>by rw[ak hn];exact hy
  refine⟨_,rfl,e.o,e.d,_,rfl,r1 hd0.2.1 (nD hd0.2.1),XW _ _ _ _,?_⟩;refine⟨e.o,e.d,e.T,e.B,e.A,e.i,M e.T,e.bs,e.as,rfl,r1 hd0.2.1 (nD hd0.2.1),r1 hT TD,r1 hd0.2.2.1 ok.2.1.2.1,r1 hd0.2.2.2 ok.2.2.1.2.1,nTB,fit,by have:=ok.2.2.2.1;omega,?_⟩;have r2:∀{y o},H0 y=some o->y≠D->y≠e.T->upd (upd H0 D (.lst ds0)) e.T (.lst ((M e.T).take e.i++e.bs++(M e.T).drop (e.i+e.as.length))) y=some o:=fun hy hn hn'=>by rw[ak hn',ak hn];exact hy
  refine⟨_,rfl,x,_,dx,_,_,rfl,r2 hx0 (nD hx0) (nT hx0),T.aT,T.dg,xH _ _ _,?_⟩;have hU1:=r2 Xl (Yb' b.DU) (Yb' TU);have ul:=ck pU;have fl:=ck pf;have fe:=b.fut.len;refine⟨.inl ⟨rfl,_,bh.of hU1⟩,_,rfl,U,_,_,rfl,rfl,hU1,ba (by omega),?_⟩;obtain⟨ps0,v,e1,B2⟩:=Bk.alQ b0 (Is.kept (F:=F) (.same s0) iM) (cK (fun _ _ q=>Is.kept (F:=F) (.same s0) q) pp) (cK (fun _ _ q=>Is.kept (F:=F) (.same s0) q) pf) f B.wv he (vN (fun _ e' _ q=>kL (F:=fun _=>True) (.same s0) ⟨trivial,trivial⟩ q) pD0) hd0 pU
   (H2:=upd (upd (upd H0 D (.lst ds0)) e.T (.lst ((M e.T).take e.i++e.bs++(M e.T).drop (e.i+e.as.length)))) U (.lst (ux++[.ref e.o]))) (fun y o hy y1 y2 y3=>by rw[ak y3];exact r2 hy y2 y1) (by rw[ak TU,ah];exact R' (fun z=>some (HO.lst z)) h9.symm) (by rw[ak b.DU,ak (Yb' TD),ah]) ah
  refine q2 ps0 v e1 _ (fun y o hy hn=>?_) B2;have fT:F e.T:=by
   rcases ok.1 with z|⟨a,ha,z⟩
   ·rw[z];exact f.L
   ·rw[z];exact f.l a ha
  rw[ak (show y≠U from fun z=>hn (z ▸ f.U))];exact r2 (s0 _ _ hy) (fun z=>hn (z ▸ f.D)) (fun z=>hn (z ▸ fT))
inductive Hh (c:Cs)(vs:List V)(H:Hp)(Q:VK)(E:XK):Prop
 |mk (x:Addr) (F:Addr->Prop) (vw:Vw) (ps fs:List Vw) (eE:vs=[.ref x]) (eF:xw c H x F vw ps fs) (h8:ps.length+fs.length<=900) (lh:(fs=[]->∀ H',aq H H'->RX E c .oJ H')) (rJ:(∀ fs0 v,fs=fs0++[v]->∀ H',Fr F H H'->xw c H' x F v (ps++[vw]) fs0->Q .non H')):Hh c vs H Q E
theorem UJ (T:Txt K w mg t):bI P w K mg base (fA P w) (0+2) t.gJ t.Ag ["self"] (Hh (cs t)):=by
 have JY:=Px (P:=P) (base:=base) T;refine T.vb.Od FR (fun vs H Q E h=>?_) (fun cdv A outer s H vs Q E hr h=>?_)
 ·obtain⟨_,_,_,_,_,rfl,_⟩:=h;rfl
 ·obtain⟨x,F,vw,ps,fs,rfl,B,hps,q1,q2⟩:=h;refine aX (af (aU (au (Ob (aC hr)) (cv (pv 0) rfl) (bN ag) (aA _)) (aj (jr (X:=(cj (fA P w) P w K mg base ["self","deed"] "Book.redo" (ae kq) t.gJ cdv A outer s H E)) (fun _ _ z=>z) rfl T.SN.exc rfl T.JQ (aa aD ag))) aB) (af (aL (i:=1) FR.nd rfl (Or.inl rfl) (Tz Yc' slot_list_pop type_list_pop agv (cv (pv 0) rfl))) (af (a8 (sG (pv 1) T.gQ T.O4 JY (hr.mono (by decide)) T.B7 .nil aY)) (aj (a8 (ke Yc' Yd' Ye' bW (cv (pv 0) rfl) (aa (pv 1) ag))))))) ?_;obtain⟨L,D,U,all,M,Ps,Fs,es,us,b,iM,pp,pf,f⟩:=B.ex;obtain⟨dx,hx⟩:=b.hx;obtain⟨ux,hU,pU⟩:=b.hU;have ul:=ck pU;have fl:=ck pf;have fe:=b.fut.len;refine⟨_,rfl,x,_,dx,_,_,rfl,hx,T.aT,T.dg,xH _ _ _,big (by show 0<=1000;omega),fun e0 he0=>?_⟩;have s0:=aq.upd (o:=.lst []) he0;refine⟨U,e0,ux,rfl,rfl,bh.of (s0 _ _ hU),bh.of ah,_,rfl,?_⟩;generalize upd H e0 (.lst [])=H0 at s0;refine a9 (fun h=>?_) (fun h=>?_)
  ·have hds:ux=[]:=List.isEmpty_iff.mp h;rw[hds]at ul;have hp0:fs=[]:=List.length_eq_zero_iff.mp (by rw[<-fl,fe,<-ul];rfl);have q:=q1 hp0 H0 s0;exact⟨by show 1<=sizeLine;decide,q.2⟩
  have hne:ux≠[]:=fun z=>h (by rw[z];rfl);obtain⟨ux0,v,rfl⟩:∃ ux0 v,ux=ux0++[v]:=⟨ux.dropLast,ux.getLast hne,(List.dropLast_concat_getLast hne).symm⟩;obtain⟨us0,e,he,pU0,hd⟩:=Oz pU;have hvo:=hd.1;subst hvo;have b0:=b.kept f (.same s0);have hd0:qq t.bL H0 (.ref e.o) e:=kL (F:=fun _=>True) (.same s0) ⟨trivial,trivial⟩ hd;have ok:=b.dd e (.inr (by rw[he];exact Zm' _ (List.mem_singleton_self _)));obtain⟨hT,TD,TU⟩:=b0.lists ok.1;have nTA:e.T≠e.A:=by
   rcases ok.1 with z|⟨a,ha,z⟩
   ·rw[z];exact Yb' ok.2.2.1.1
   ·rw[z];exact Yb' (ok.2.2.1.2.2.2 a ha)
  obtain⟨Fs0,_,ft,_⟩:=(he ▸ b.fut).last;have fit:=ft.1;have hx0:=s0 _ _ hx;have Xl:=s0 _ _ hU;obtain⟨ds,hD0,pD⟩:=b0.hD;have aqN:(M e.T).length<=200:=by
   rcases ok.1 with z|⟨a,ha,z⟩
   ·rw[z];exact Zh' (b.wf M (.inr (.inl rfl))).len (by decide)
   ·rw[z];exact((b.wf M (.inr (.inl rfl))).ln a ha).1
  refine⟨_,rfl,x,_,dx,_,_,rfl,hx0,T.aT,T.dg,xH _ _ _,?_⟩;refine⟨.inl ⟨rfl,_,bh.of Xl⟩,U,ux0++[V.ref e.o],V.ref e.o,rfl,rfl,Xl,by simp,?_⟩;rw[List.dropLast_concat];have nU:∀{y C d fs},H0 y=some (.ins C d fs)->y≠U:=fun hy=>lg hy Xl (by intro z;cases z);have nT:∀{y C d fs},H0 y=some (.ins C d fs)->y≠e.T:=fun hy=>lg hy hT (by intro z;cases z);have r1:∀{y o},H0 y=some o->y≠U->upd H0 U (.lst ux0) y=some o:=fun hy hn=>by rw[ak hn];exact hy
  refine⟨_,rfl,e.o,e.d,_,rfl,r1 hd0.2.1 (nU hd0.2.1),Sz _ _ _ _,?_⟩;refine⟨e.o,e.d,e.T,e.B,e.A,e.i,M e.T,e.bs,e.as,rfl,r1 hd0.2.1 (nU hd0.2.1),r1 hT TU,r1 hd0.2.2.1 ok.2.1.2.2.1,r1 hd0.2.2.2 ok.2.2.1.2.2.1,nTA,fit,by have:=ok.2.2.2.2;omega,?_⟩;have r2:∀{y o},H0 y=some o->y≠U->y≠e.T->upd (upd H0 U (.lst ux0)) e.T (.lst ((M e.T).take e.i++e.as++(M e.T).drop (e.i+e.bs.length))) y=some o:=fun hy hn hn'=>by rw[ak hn',ak hn];exact hy
  refine⟨_,rfl,x,_,dx,_,_,rfl,r2 hx0 (nU hx0) (nT hx0),T.aT,T.e8,FC _ _ _,?_⟩;have hD1:=r2 hD0 b.DU (Yb' TD);have dl:=ck pD;have pl:=ck pp;have pe:=b.past.len;refine⟨.inl ⟨rfl,_,bh.of hD1⟩,_,rfl,D,_,_,rfl,rfl,hD1,ba (by omega),?_⟩;obtain⟨fs0,v,e1,B2⟩:=Bk.alR b0 (Is.kept (F:=F) (.same s0) iM) (cK (fun _ _ q=>Is.kept (F:=F) (.same s0) q) pp) (cK (fun _ _ q=>Is.kept (F:=F) (.same s0) q) pf) f B.wv he pD hd0 (vN (fun _ e' _ q=>kL (F:=fun _=>True) (.same s0) ⟨trivial,trivial⟩ q) pU0)
   (H2:=upd (upd (upd H0 U (.lst ux0)) e.T (.lst ((M e.T).take e.i++e.as++(M e.T).drop (e.i+e.bs.length)))) D (.lst (ds++[.ref e.o]))) (fun y o hy y1 y2 y3=>by rw[ak y2];exact r2 hy y3 y1) (by rw[ak TD,ah];exact R' (fun z=>some (HO.lst z)) h9.symm) ah (by rw[ak (Yb' b.DU),ak (Yb' TU),ah])
  refine q2 fs0 v e1 _ (fun y o hy hn=>?_) B2;have fT:F e.T:=by
   rcases ok.1 with z|⟨a,ha,z⟩
   ·rw[z];exact f.L
   ·rw[z];exact f.l a ha
  rw[ak (show y≠D from fun z=>hn (z ▸ f.D))];exact r2 (s0 _ _ hy) (fun z=>hn (z ▸ f.U)) (fun z=>hn (z ▸ fT))
theorem Ca {vw:Vw}{n:Str}{ss:List Sg}(h:bc vw n=some (.pl ss)):sO vw n=ss:=by unfold sO;rw[h]
theorem J0 {st:Std}{d:De}{a:Int}{ss:List Sg}(h:d.wy=.put\/d.wy=.cut\/d.wy=.swap)(hf:bc st.vw d.n=some (.pl ss)):iC st d a=⟨zO st.vw d.n (.pl (gD ss d.wy d.sg a.toNat)),st.ps++[st.vw],[]⟩:=by
 unfold iC;rcases h with h|h|h <;> rw[h,Ca hf]
inductive adN (c:Cs)(vs:List V)(H:Hp)(Q:VK)(E:XK):Prop
 |mk (x:Addr) (v2:V) (F:Addr->Prop) (st:Std) (de:De) (at_:Int) (eE:vs=[.ref x,v2,.int at_]) (eF:xw c H x F st.vw st.ps st.fs) (h8:DeS H v2 de) (lh:de.n.length<=1000) (rJ:de.ld.length<=1000) (Rg:st.ps.length+st.fs.length<=900) (h6_:match j8 st de at_ with
 |some r=>∀ H',aq H H'->RX E c r H'
 |none=>∀ v F' H',Gr F F' H->Fr F H H'->xw c H' x F' (iC st de at_).vw (iC st de at_).ps (iC st de at_).fs->sP H' st de at_ v->Q v H'):adN c vs H Q E
theorem ajR (T:Txt K w mg t):bI P w K mg base (fA P w) (0+5) t.lr t.aag ["_law_book","_law_deed","_law_at"] (adN (cs t)):=by
 have xm:=Hc (P:=P) (base:=base) T;have DA:=MX (P:=P) (base:=base) T;have DB:=MZ (P:=P) (base:=base) T;have Ay:=G7 (P:=P) (base:=base) T;have J1:=Hd (P:=P) (base:=base) T;have Az:=G9 (P:=P) (base:=base) T;have M3:=Hf (P:=P) (base:=base) T;have Yu:=UI (P:=P) (base:=base) T;have Yv:=UJ (P:=P) (base:=base) T;refine T.O6.Od ady (fun vs H Q E h=>?_) (fun cdv A outer s H vs Q E hr h=>?_)
 ·obtain⟨_,_,_,_,_,_,rfl,_⟩:=h;rfl
 ·obtain⟨x,v2,F,st,de,at_,rfl,B,⟨p2,xs,rfl,hp2,x0,x1,x4,x5⟩,hnl,hll,hlen,q⟩:=h;refine aX (af (ak5 (i:=3) (j:=4) rfl ady.nd rfl rfl (by decide) rfl rfl (aa (aJ az (pv 1) ai (fun _ _=>rfl)) (aa (aJ az (pv 1) ai (fun _ _=>rfl)) ag)) rfl) (af (aU (au (bj.or (aW (aC hr))) (pv 3) aD (aA _)) (aj (aw (bC (X:=(cj (fA P w) P w K mg base ["_law_book","_law_deed","_law_at","_law_way","_law_name"] "_law_do" (ae l4) t.lr cdv A outer s H E)) (pv 0) T.aT T.MO DA (hr.mono (by decide)) T.yb .nil (fun _ _ z=>Or.inl z) (aa (pv 4) (aa (pv 2) (aa (aJ az (pv 1) ai (fun _ _=>rfl)) ag)))))) aB) (af (aU (au (bj.or (aW (aC hr))) (pv 3) aD (aA _)) (aj (aw (bC (X:=(cj (fA P w) P w K mg base ["_law_book","_law_deed","_law_at","_law_way","_law_name"] "_law_do" (ae l4) t.lr cdv A outer s H E)) (pv 0) T.aT T.MP DB (hr.mono (by decide)) T.yd .nil (fun _ _ z=>Or.inl z) (aa (pv 4) (aa (pv 2) ag))))) aB) (af (aU (au (bj.or (aW (aC hr))) (pv 3) aD (aA _)) (aj (aw (bC (X:=(cj (fA P w) P w K mg base ["_law_book","_law_deed","_law_at","_law_way","_law_name"] "_law_do" (ae l4) t.lr cdv A outer s H E)) (pv 0) T.aT T.Gq Ay (hr.mono (by decide)) T.uU .nil (fun _ _ z=>Or.inl z) (aa (pv 4) (aa (pv 2) (aa (aJ az (pv 1) ai (fun _ _=>rfl)) ag)))))) aB) (af (aU (au (bj.or (aW (aC hr))) (pv 3) aD (aA _)) (aj (aw (bC (X:=(cj (fA P w) P w K mg base ["_law_book","_law_deed","_law_at","_law_way","_law_name"] "_law_do" (ae l4) t.lr cdv A outer s H E)) (pv 0) T.aT T.Gx J1 (hr.mono (by decide)) T.pB .nil (fun _ _ z=>Or.inl z) (aa (pv 4) ag)))) aB) (af (aU (au (bj.or (aW (aC hr))) (pv 3) aD (aA _)) (aj (aw (bC (X:=(cj (fA P w) P w K mg base ["_law_book","_law_deed","_law_at","_law_way","_law_name"] "_law_do" (ae l4) t.lr cdv A outer s H E)) (pv 0) T.aT T.Gs Az (hr.mono (by decide)) T.uW .nil (fun _ _ z=>Or.inl z) (aa (pv 4) ag)))) aB) (af (aU (au (bj.or (aW (aC hr))) (pv 3) aD (aA _)) (aj (aw (Sv (X:=(cj (fA P w) P w K mg base ["_law_book","_law_deed","_law_at","_law_way","_law_name"] "_law_do" (ae l4) t.lr cdv A outer s H E)) (pv 0) T.aT T.Uo Yu (hr.mono (by decide)) T.Aq .nil (fun _ _ z=>Or.inl z)))) aB) (af (aU (au (bj.or (aW (aC hr))) (pv 3) aD (aA _)) (aj (aw (Sv (X:=(cj (fA P w) P w K mg base ["_law_book","_law_deed","_law_at","_law_way","_law_name"] "_law_do" (ae l4) t.lr cdv A outer s H E)) (pv 0) T.aT T.Up Yv (hr.mono (by decide)) T.Ar .nil (fun _ _ z=>Or.inl z)))) aB) (af (aU (cz (PW.pt (du (au (bj.or (aW (aC hr))) (aJ az (pv 1) ai (fun _ _=>rfl)) ai (aA _)) (du (au (bj.or (aW (aC hr))) (aJ az (pv 1) ai (fun _ _=>rfl)) ai (aA _)) (eW (dw (bA (aJ az (pv 1) ai (fun _ _=>rfl))))))))) (aj (aw (bC (X:=(cj (fA P w) P w K mg base ["_law_book","_law_deed","_law_at","_law_way","_law_name"] "_law_do" (ae l4) t.lr cdv A outer s H E)) (pv 0) T.aT T.uY xm (hr.mono (by decide)) (um:=[.int 0,.int 1,.bl false]) T.nF (.cons ⟨_,rfl⟩ (.cons ⟨_,rfl⟩ (.cons rfl (.nil)))) (fun _ _ z=>Or.inl z) (aa (pv 4) (aa (aJ az (pv 1) ai (fun _ _=>rfl)) ag))))) aB) (aj (aw (bC (X:=(cj (fA P w) P w K mg base ["_law_book","_law_deed","_law_at","_law_way","_law_name"] "_law_do" (ae l4) t.lr cdv A outer s H E)) (pv 0) T.aT T.uY xm (hr.mono (by decide)) T.pA .nil (fun _ _ z=>Or.inl z) (aa (pv 4) (aa (aJ az (pv 1) ai (fun _ _=>rfl)) (aa (aJ az (pv 1) ai (fun _ _=>rfl)) (aa (aJ az (pv 1) ai (fun _ _=>rfl)) (aa (aJ az (pv 1) ai (fun _ _=>rfl)) ag))))))))))))))))) ?_;have hx:∃ dx L D U,H x=some (.ins t.bp dx (Fn L D U)):=by
   obtain⟨L,D,U,all,M,Ps,Fs,es,us,b,_⟩:=B.ex;obtain⟨dx,e⟩:=b.hx;exact⟨dx,L,D,U,e⟩
  obtain⟨dx,L,D,U,hx⟩:=hx;refine⟨_,rfl,cN (i:=0) hp2 x0 ⟨_,rfl,cN (i:=1) hp2 x1 ⟨_,_,rfl,?_⟩⟩⟩;tm_up;rw[show decide (V.str de.wy.str=V.str (Str.ofString "put"))=decide (de.wy=.put) from lI de.wy .put]
  by_cases z1:de.wy=.put
  ·rw[W' z1];refine cZ ?_;obtain⟨ps2,x4',aaF⟩:=x4 (.inl z1);rw[xj (.inl z1)]at q;refine⟨_,rfl,x,dx,_,rfl,hx,Ow _ _ _,_,rfl,_,rfl,_,rfl,cN (i:=4) hp2 x4' ?_⟩;refine⟨x,F,st.vw,st.ps,st.fs,de.n,at_,ps2,de.sg,rfl,B,aaF,by omega,?_⟩;cases hf:bc st.vw de.n with
   |none=>rw[mU hf]at q;exact q _ (aq.refl _)
   |some th=>cases th with
    |cn ld lt sl tn=>rw[sQ hf]at q;exact q _ (aq.refl _)
    |pl ss =>
     rw[sR hf,J0 (.inl z1) hf,K' z1]at q;refine⟨fun z=>?_,fun z g=>?_,fun z g h=>?_,fun z g h s w F' H' e1 e2 hw gr fr b=>?_⟩
     ·rw[K' (by omega)]at q;exact q _ (aq.refl _)
     ·rw[G' (by omega),K' ⟨by rw[z1];decide,g⟩]at q;exact q _ (aq.refl _)
     ·rw[G' (by omega),G' (fun y=>by rw[g]at y;exact nomatch y.2),K' ⟨z1,h⟩]at q;exact q _ (aq.refl _)
     ·rw[G' (by omega),G' (fun y=>by rw[g]at y;exact nomatch y.2),G' (fun y=>by omega)]at q;have el:gD ss de.wy de.sg at_.toNat=ss.take at_.toNat++[s]++ss.drop at_.toNat:=by unfold gD;rw[z1,FG e1 e2]
      refine q _ F' H' gr fr (by rw[el];exact b) ?_;unfold sP;rw[z1]at el ⊢;rw[Ca hf,el,FG e1 e2];exact⟨w,rfl,hw⟩
  rw[X' z1];refine bZ ?_;tm_up;rw[show decide (V.str de.wy.str=V.str (Str.ofString "cut"))=decide (de.wy=.cut) from lI de.wy .cut]
  by_cases z2:de.wy=.cut
  ·rw[W' z2];refine cZ ?_;rw[xj (.inr (.inl z2))]at q;refine⟨_,rfl,x,dx,_,rfl,hx,Ox _ _ _,_,rfl,_,rfl,?_⟩;refine⟨x,F,st.vw,st.ps,st.fs,de.n,at_,rfl,B,by omega,?_⟩;cases hf:bc st.vw de.n with
   |none=>rw[mU hf]at q;exact q _ (aq.refl _)
   |some th=>cases th with
    |cn ld lt sl tn=>rw[sQ hf]at q;exact q _ (aq.refl _)
    |pl ss =>
     rw[sR hf,J0 (.inr (.inl z2)) hf,G' (show ¬ de.wy=.put by rw[z2];decide)]at q;refine⟨fun z=>?_,fun z s w F' H' es hw gr fr b=>?_⟩
     ·rw[K' (by omega)]at q;exact q _ (aq.refl _)
     ·rw[G' (by omega),G' (fun y=>y.1 z2),G' (fun y=>by rw[z2]at y;exact nomatch y.1)]at q;have el:gD ss de.wy de.sg at_.toNat=ss.take at_.toNat++[]++ss.drop (at_.toNat+1):=by unfold gD;rw[z2]
      refine q _ F' H' gr fr (by rw[el];exact b) ?_;unfold sP;rw[z2]at el ⊢;rw[Ca hf,el];exact⟨w,rfl,s,es,hw⟩
  rw[X' z2];refine bZ ?_;tm_up;rw[show decide (V.str de.wy.str=V.str (Str.ofString "swap"))=decide (de.wy=.swap) from lI de.wy .swap]
  by_cases z3:de.wy=.swap
  ·rw[W' z3];refine cZ ?_;obtain⟨ps2,x4',aaF⟩:=x4 (.inr z3);rw[xj (.inr (.inr z3))]at q;refine⟨_,rfl,x,dx,_,rfl,hx,MF _ _ _,_,rfl,_,rfl,_,rfl,cN (i:=4) hp2 x4' ?_⟩;refine⟨x,F,st.vw,st.ps,st.fs,de.n,at_,ps2,de.sg,rfl,B,aaF,by omega,?_⟩;cases hf:bc st.vw de.n with
   |none=>rw[mU hf]at q;exact q _ (aq.refl _)
   |some th=>cases th with
    |cn ld lt sl tn=>rw[sQ hf]at q;exact q _ (aq.refl _)
    |pl ss =>
     rw[sR hf,J0 (.inr (.inr z3)) hf,G' (show ¬ de.wy=.put by rw[z3];decide)]at q;refine⟨fun z=>?_,fun z g=>?_,fun z g s s0 w F' H' e1 e2 es hw gr fr b=>?_⟩
     ·rw[K' (by omega)]at q;exact q _ (aq.refl _)
     ·rw[G' (by omega),K' ⟨by rw[z3];decide,g⟩]at q;exact q _ (aq.refl _)
     ·rw[G' (by omega),G' (fun y=>by rw[g]at y;exact nomatch y.2),G' (fun y=>by rw[z3]at y;exact nomatch y.1)]at q;have el:gD ss de.wy de.sg at_.toNat=ss.take at_.toNat++[s]++ss.drop (at_.toNat+1):=by unfold gD;rw[z3,FG e1 e2]
      refine q _ F' H' gr fr (by rw[el];exact b) ?_;unfold sP;rw[z3]at el ⊢;rw[Ca hf,el,FG e1 e2];exact⟨w,rfl,s0,es,hw⟩
  rw[X' z3];refine bZ ?_;tm_up;rw[show decide (V.str de.wy.str=V.str (Str.ofString "add"))=decide (de.wy=.add) from lI de.wy .add]
  by_cases z4:de.wy=.add
  ·rw[W' z4];refine cZ ?_;have e0:j8 st de at_=dA st.vw de.n:=by unfold j8;rw[z4]
   have eb:iC st de at_=⟨st.vw++[(de.n,.pl [])],st.ps++[st.vw],[]⟩:=by unfold iC;rw[z4]
   rw[e0,eb]at q;refine⟨_,rfl,x,dx,_,rfl,hx,IY _ _ _,_,rfl,x,F,st.vw,st.ps,st.fs,de.n,rfl,B,hnl,by omega,?_⟩;cases hn:dA st.vw de.n with
   |some r=>rw[hn]at q;exact q
   |none =>
    rw[hn]at q;exact fun F' H' gr fr b=>q _ F' H' gr fr b (by unfold sP;rw[z4])
  rw[X' z4];refine bZ ?_;tm_up;rw[show decide (V.str de.wy.str=V.str (Str.ofString "drop"))=decide (de.wy=.drop) from lI de.wy .drop]
  by_cases z5:de.wy=.drop
  ·rw[W' z5];refine cZ ?_;have e0:j8 st de at_=qd st.vw de.n:=by unfold j8;rw[z5]
   have eb:iC st de at_=⟨uI st.vw de.n,st.ps++[st.vw],[]⟩:=by unfold iC;rw[z5]
   rw[e0,eb]at q;refine⟨_,rfl,x,dx,_,rfl,hx,ME _ _ _,_,rfl,x,F,st.vw,st.ps,st.fs,de.n,rfl,B,by omega,?_⟩;cases hf:bc st.vw de.n with
   |none =>
    have ed:qd st.vw de.n=some .cC:=by unfold qd;rw[hf]
    rw[ed]at q;exact q _ (aq.refl _)
   |some th =>
    have ed:qd st.vw de.n=if leans st.vw de.n=true then some .C0 else none:=by unfold qd;rw[hf]
    rw[ed]at q;refine⟨fun z=>?_,fun z=>?_⟩
    ·rw[K' z]at q;exact q
    ·rw[G' (by rw[z];decide)]at q;exact fun F' H' gr fr b=>q _ F' H' gr fr b (by unfold sP;rw[z5])
  rw[X' z5];refine bZ ?_;tm_up;rw[show decide (V.str de.wy.str=V.str (Str.ofString "undo"))=decide (de.wy=.undo) from lI de.wy .undo]
  by_cases z6:de.wy=.undo
  ·rw[W' z6];refine cZ ?_;have e0:j8 st de at_=if st.ps=[] then some .oJ else none:=by unfold j8;rw[z6]
   rw[e0]at q;refine⟨_,rfl,x,dx,_,rfl,hx,XX _ _ _,x,F,st.vw,st.ps,st.fs,rfl,B,hlen,fun z=>?_,fun ps0 v0 ez H' fr b=>?_⟩
   ·rw[K' z]at q;exact q
   ·rw[G' (by rw[ez];simp)]at q;have eb:iC st de at_=⟨v0,ps0,st.fs++[st.vw]⟩:=by
     unfold iC;rw[z6,ez];simp
    rw[eb]at q;exact q _ F H' (Gr.refl _ _) fr b (by unfold sP;rw[z6])
  rw[X' z6];refine bZ ?_;tm_up;rw[show decide (V.str de.wy.str=V.str (Str.ofString "redo"))=decide (de.wy=.xJ) from lI de.wy .xJ]
  by_cases z7:de.wy=.xJ
  ·rw[W' z7];refine cZ ?_;have e0:j8 st de at_=if st.fs=[] then some .oJ else none:=by unfold j8;rw[z7]
   rw[e0]at q;refine⟨_,rfl,x,dx,_,rfl,hx,XY _ _ _,x,F,st.vw,st.ps,st.fs,rfl,B,hlen,fun z=>?_,fun fs0 v0 ez H' fr b=>?_⟩
   ·rw[K' z]at q;exact q
   ·rw[G' (by rw[ez];simp)]at q;have eb:iC st de at_=⟨v0,st.ps++[st.vw],fs0⟩:=by
     unfold iC;rw[z7,ez];simp
    rw[eb]at q;exact q _ F H' (Gr.refl _ _) fr b (by unfold sP;rw[z7])
  rw[X' z7];refine bZ ?_;have z8:de.wy=.canon:=by
   cases hw:de.wy with
   |put=>exact P' hw z1
   |cut=>exact P' hw z2
   |swap=>exact P' hw z3
   |add=>exact P' hw z4
   |canon=>rfl
   |drop=>exact P' hw z5
   |undo=>exact P' hw z6
   |xJ=>exact P' hw z7
  obtain⟨y2,y5,y6,y7⟩:=x5 z8;have e0:j8 st de at_=match dA st.vw de.n with|some r=>some r|none=>jt st.vw de.ld de.lt de.sl:=by unfold j8;rw[z8];try rfl
  have eb:iC st de at_=⟨st.vw++[(de.n,.cn de.ld de.lt de.sl de.tn)],st.ps++[st.vw],[]⟩:=by unfold iC;rw[z8]
  rw[e0,eb]at q;have ea:∀ H',sP H' st de at_ .non:=fun H'=>by unfold sP;rw[z8]
  have fin:∀{E':XK},(∀ cls H',E' cls none H'=E cls none H')->match dA st.vw de.n with
   |some r=>∀ H',aq H H'->RX E' (cs t) r H'
   |none=>match bc st.vw de.ld with
    |none=>∀ H',aq H H'->RX E' (cs t) .cC H'
    |some (.cn _ _ _ _)=>∀ H',aq H H'->RX E' (cs t) .iB H'
    |some (.pl _)=>(¬ i6 de.lt de.sl->∀ H',aq H H'->RX E' (cs t) .uG H')/\(i6 de.lt de.sl->∀ F' H',Gr F F' H->Fr F H H'->xw (cs t) H' x F' (st.vw++[(de.n,.cn de.ld de.lt de.sl de.tn)]) (st.ps++[st.vw]) []->Q .non H'):=by
   intro E' hE;have rx:∀{r H'},RX E (cs t) r H'->RX E' (cs t) r H':=fun {r H'} z=>⟨z.1,by rw[hE];exact z.2⟩;cases hn:dA st.vw de.n with
   |some r =>
    rw[hn]at q;exact fun H' s'=>rx (q H' s')
   |none =>
    rw[hn]at q;cases hf:bc st.vw de.ld with
    |none =>
     have ed:jt st.vw de.ld de.lt de.sl=some .cC:=by unfold jt;rw[hf]
     rw[ed]at q;exact fun H' s'=>rx (q H' s')
    |some th=>cases th with
     |cn ld lt sl tn =>
      have ed:jt st.vw de.ld de.lt de.sl=some .iB:=by unfold jt;rw[hf]
      rw[ed]at q;exact fun H' s'=>rx (q H' s')
     |pl ss =>
      have ed:jt st.vw de.ld de.lt de.sl=if i6 de.lt de.sl then none else some .uG:=by unfold jt;rw[hf]
      rw[ed]at q;refine⟨fun z=>?_,fun z=>?_⟩
      ·rw[G' z]at q;exact fun H' s'=>rx (q H' s')
      ·rw[K' z]at q;exact fun F' H' gr fr b=>q _ F' H' gr fr b (ea H')
  refine lD (decide (de.lt=0/\de.sl=1/\de.tn=false)) ?_ ?_
  ·refine⟨_,rfl,cN (i:=5) hp2 y5 ?_⟩;tm_up
   by_cases u1:de.lt=0
   ·rw[W' (R' V.int u1)];refine cZ ?_;refine⟨_,rfl,cN (i:=6) hp2 y6 ?_⟩;tm_up
    by_cases u2:de.sl=1
    ·rw[W' (R' V.int u2)];refine cZ ?_;refine⟨_,rfl,cN (i:=7) hp2 y7 ⟨_,rfl,?_,rfl⟩⟩;cases u3:de.tn with
     |true=>exact(X' (fun y=>nomatch y.2.2)).symm
     |false=>exact(W' ⟨u1,u2,rfl⟩).symm
    ·rw[X' (fun y=>u2 (V.int.inj y)),X' (fun y=>u2 y.2.1)];exact bZ ⟨rfl,rfl⟩
   ·rw[X' (fun y=>u1 (V.int.inj y)),X' (fun y=>u1 y.1)];exact bZ ⟨rfl,rfl⟩
  refine a9 (fun z=>?_) (fun z=>?_)
  ·obtain⟨u1,u2,u3⟩:=U' z;refine⟨_,rfl,x,dx,_,rfl,hx,wz _ _ _,_,rfl,_,rfl,cN (i:=2) hp2 y2 ?_⟩;rw[u1,u2,u3]at fin;refine⟨x,F,st.vw,st.ps,st.fs,de.n,de.ld,0,1,false,rfl,B,hnl,by omega,?_⟩;exact fin fun _ _=>rfl
  ·refine⟨_,rfl,x,dx,_,rfl,hx,wz _ _ _,_,rfl,_,rfl,cN (i:=2) hp2 y2 ⟨_,rfl,cN (i:=5) hp2 y5 ⟨_,rfl,cN (i:=6) hp2 y6 ⟨_,rfl,cN (i:=7) hp2 y7 ?_⟩⟩⟩⟩;refine⟨x,F,st.vw,st.ps,st.fs,de.n,de.ld,de.lt,de.sl,de.tn,rfl,B,hnl,by omega,?_⟩;exact fin fun _ _=>rfl
inductive PD (c:Cs)(vs:List V)(H:Hp)(Q:VK)(E:XK):Prop
 |mk (x:Addr) (v2:V) (F:Addr->Prop) (st:Std) (de:De) (at_:Int) (eE:vs=[.ref x,v2,.int at_]) (eF:xw c H x F st.vw st.ps st.fs) (h8:DeS H v2 de) (lh:de.n.length<=1000) (rJ:de.ld.length<=1000) (Rg:st.ps.length+st.fs.length<=900) (h6_:match j8 st de at_ with
 |some r=>∀ t H',aq H H'->H' t=some (.tup [.non,.str r.str])->Q (.ref t) H'
 |none=>∀ t v F' H',Gr F F' H->Fr F H H'->xw c H' x F' (iC st de at_).vw (iC st de at_).ps (iC st de at_).fs->sP H' st de at_ v->H' t=some (.tup [v,.str ""])->Q (.ref t) H'):PD c vs H Q E
theorem sP.same {H H':Hp}{st:Std}{de:De}{a:Int}{v:V}(s:aq H H')(h:sP H st de a v):sP H' st de a v:=by
 unfold sP at h ⊢;generalize de.wy=wy at h ⊢;cases wy with
 |put=>obtain⟨w,e,h⟩:=h;exact⟨w,e,s _ _ h⟩
 |cut=>obtain⟨w,e,x,ex,h⟩:=h;exact⟨w,e,x,ex,s _ _ h⟩
 |swap=>obtain⟨w,e,x,ex,h⟩:=h;exact⟨w,e,x,ex,s _ _ h⟩
 |_=>exact h
theorem aaN (T:Txt K w mg t):bI P w K mg base lB (0+6) t.mI t.JB ["_law_book","_law_deed","_law_at"] (PD (cs t)):=by
 have amk:=ajR (P:=P) (base:=base) T;refine T.w4.ok Z8 (fun vs H Q E h=>?_) (fun cdv A outer s H vs Q E hr h=>?_)
 ·obtain⟨_,_,_,_,_,_,rfl,_⟩:=h;rfl
 ·obtain⟨x,v2,F,st,de,at_,rfl,B,hde,hnl,hll,hlen,q⟩:=h;refine aX (aj (ajq (fun pn XS=>(aj (aw (cw (aa (kh (X:=Cx.Mz (cj lB P w K mg base ["_law_book","_law_deed","_law_at"] "_law_tried" (ae oP) t.mI cdv A outer s H E).nox pn) (XS:=XS) amk (hr.mono (by decide)) rfl T.ajB T.O6.kp T.aar .nil (fun _ _ z=>z) (aa (pv 0) (aa (pv 1) (aa (pv 2) ag)))) (aa aD ag)))))) (lE (CT:=t.aF) (fun pn a=>(aj (aw (cw (aa jH (aa aD ag)))))) rfl T.Dt (lE (CT:=t.aN) (fun pn a=>(aj (aw (cw (aa jH (aa aD ag)))))) rfl T.GB (lE (CT:=t.bY) (fun pn a=>(aj (aw (cw (aa jH (aa aD ag)))))) rfl T.Us (lE (CT:=t.aG) (fun pn a=>(aj (aw (cw (aa jH (aa aD ag)))))) rfl T.Dr (lE (CT:=t.ay) (fun pn a=>(aj (aw (cw (aa jH (aa aD ag)))))) rfl T.As (lE (CT:=t.aE) (fun pn a=>(aj (aw (cw (aa jH (aa aD ag)))))) rfl T.Ds (lE (CT:=t.aZ) (fun pn a=>(aj (aw (cw (aa jH (aa aD ag)))))) rfl T.Pf (lE (CT:=t.a6) (fun pn a=>(aj (aw (cw (aa jH (aa aD ag)))))) rfl T.Pg (lE (CT:=t.aK) (fun pn a=>(aj (aw (cw (aa jH (aa aD ag)))))) rfl T.JP (lE (CT:=t.bf) (fun pn a=>(aj (aw (cw (aa jH (aa aD ag)))))) rfl T.JQ ajp)))))))))) rfl rfl)) ?_;refine⟨_,rfl,_,rfl,_,rfl,?_⟩;refine⟨x,v2,F,st,de,at_,rfl,B,hde,hnl,hll,hlen,?_⟩;cases ho:j8 st de at_ with
  |none =>
   rw[ho]at q;intro v F' H' gr fr b an;refine⟨by show 2<=sizeLine;decide,fun t0 ht0=>?_⟩;have s1:=aq.upd (o:=.tup [v,V.str ""]) ht0;exact q t0 v F' _ gr (fun y o e n=>s1 _ _ (fr y o e n)) (b.same s1) (an.same s1) ah
  |some r =>
   rw[ho]at q;intro H' s';refine⟨rfl,?_⟩;have fin:(2<=sizeLine)/\∀ t0,H' t0=none->Q (.ref t0) (upd H' t0 (.tup [V.non,V.str r.str])):=⟨by decide,fun t0 ht0=>q t0 _ (s'.trans (aq.upd ht0)) ah⟩;cases r with
   |NV=>exact .inl ⟨T.fV,fin⟩
   |BR=>exact .inr ⟨T.ee,.inl ⟨T.dh,fin⟩⟩
   |Full=>exact .inr ⟨T.jz,.inr ⟨T.gZ,.inl ⟨T.nG,fin⟩⟩⟩
   |cC=>exact .inr ⟨T.fK,.inr ⟨T.d6,.inr ⟨T.jw,.inl ⟨T.fL,fin⟩⟩⟩⟩
   |iB=>exact .inr ⟨T.eQ,.inr ⟨T.dE,.inr ⟨T.iK,.inr ⟨T.eR,.inl ⟨T.d9,fin⟩⟩⟩⟩⟩
   |rN=>exact .inr ⟨T.fM,.inr ⟨T.d7,.inr ⟨T.jx,.inr ⟨T.fN,.inr ⟨T.eO,.inl ⟨T.fO,fin⟩⟩⟩⟩⟩⟩
   |uF=>exact .inr ⟨T.fP,.inr ⟨T.d8,.inr ⟨T.jy,.inr ⟨T.fQ,.inr ⟨T.eP,.inr ⟨T.fR,.inl ⟨T.fS,fin⟩⟩⟩⟩⟩⟩⟩
   |uG=>exact .inr ⟨T.fW,.inr ⟨T.eh,.inr ⟨T.jA,.inr ⟨T.fX,.inr ⟨T.eU,.inr ⟨T.fY,.inr ⟨T.fZ,.inl ⟨T.f6,fin⟩⟩⟩⟩⟩⟩⟩⟩
   |C0=>exact .inr ⟨T.g4,.inr ⟨T.eS,.inr ⟨T.kE,.inr ⟨T.g5,.inr ⟨T.fU,.inr ⟨T.g6,.inr ⟨T.g7,.inr ⟨T.g8,.inl ⟨T.iL,fin⟩⟩⟩⟩⟩⟩⟩⟩⟩
   |oJ=>exact .inr ⟨T.g9,.inr ⟨T.eV,.inr ⟨T.kF,.inr ⟨T.hI,.inr ⟨T.f7,.inr ⟨T.hV,.inr ⟨T.hX,.inr ⟨T.hZ,.inr ⟨T.iN,.inl ⟨T.iO,fin⟩⟩⟩⟩⟩⟩⟩⟩⟩⟩
theorem ah1 (st:Std)(d:De)(a:Int)(h:j8 st d a=none):(iC st d a).ps.length+(iC st d a).fs.length<=st.ps.length+st.fs.length+1:=by
 unfold iC;cases hw:d.wy with
 |undo =>
  show st.ps.dropLast.length+(st.fs++[st.vw]).length<=_;rw[List.length_dropLast,Z'];show _+(_+1)<=_;omega
 |xJ =>
  show(st.ps++[st.vw]).length+st.fs.dropLast.length<=_;rw[List.length_dropLast,Z'];show _+1+_<=_;omega
 |_ =>
  show(st.ps++[st.vw]).length+0<=_;rw[Z'];show _+1+0<=_;omega
def Zn (vw:Vw):Prop:=∀ n∈vw.map (·.1),noX n=true
theorem Zn.snoc {vw:Vw}{n:Str}{th:Th}(h:Zn vw)(k:noX n=true):Zn (vw++[(n,th)]):=fun m hm=>by
 rw[map_append]at hm;rcases Zk'.mp hm with z|z
 ·exact h m z
 ·rw[Zg'.mp z];exact k
theorem Zn.find {vw:Vw}{n:Str}(h:Zn vw)(k:noX n=false):bc vw n=none:=by
 cases e:bc vw n with
 |none=>rfl
 |some th =>
  have:=h n (mem_map.mpr ⟨_,dm e,rfl⟩);rw[k]at this;cases this
structure NxS (st:Std):Prop where
 vw:Zn st.vw
 ps:∀ v∈st.ps,Zn v
 fs:∀ v∈st.fs,Zn v
theorem ah2 {l:List Vw}(h:∀ v∈l,Zn v):Zn (l.getLast?.getD []):=by
 cases e:l.getLast? with
 |none=>exact fun _ z=>nomatch z
 |some v=>exact h v (List.mem_of_getLast? e)
theorem ah3 {l:List Vw}{vw:Vw}(h:∀ v∈l,Zn v)(k:Zn vw):∀ v∈l++[vw],Zn v:=fun v hv=>by
 rcases Zk'.mp hv with z|z
 ·exact h v z
 ·rw[Zg'.mp z];exact k
theorem NxS.beh {st:Std}{d:De}{a:Int}(h:NxS st)(ok:Z2 d):NxS (iC st d a):=by
 have sp:=ah3 h.ps h.vw;have nil:∀ v∈([]:List Vw),Zn v:=fun _ z=>nomatch z
 have sets:∀ ss,Zn (zO st.vw d.n (.pl ss)):=fun ss=>by unfold Zn;rw[CZ];exact h.vw
 unfold iC;cases hw:d.wy with
 |undo=>exact⟨ah2 h.ps,fun v hv=>h.ps v (List.dropLast_subset _ hv),ah3 h.fs h.vw⟩
 |xJ=>exact⟨ah2 h.fs,sp,fun v hv=>h.fs v (List.dropLast_subset _ hv)⟩
 |drop=>exact⟨fun n hn=>by
   obtain⟨q,hq,e⟩:=mem_map.mp hn;exact h.vw n (mem_map.mpr ⟨q,(BS.mp hq).1,e⟩),sp,nil⟩
 |add=>exact⟨h.vw.snoc ok.nx,sp,nil⟩
 |canon=>exact⟨h.vw.snoc ok.nx,sp,nil⟩
 |put=>exact⟨sets _,sp,nil⟩
 |cut=>exact⟨sets _,sp,nil⟩
 |swap=>exact⟨sets _,sp,nil⟩
def UK:List Str:=["ann","bo","cy","dora","a","zzzzzzzz","eve","Ann","","an"]
theorem aml {n:Str}(h:n∈UK):noX ("x" ++ Txt.slice n none (some 5))=false:=by
 have:UK.all (fun n=>!noX ("x" ++ Txt.slice n none (some 5)))=true:=by lk
 have:=all_eq_true.mp this n h
 rwa [Bool.not_eq_true']at this
theorem ah4 {n:Str}(h:n∈UK):n.length<=8:=by
 have:UK.all (fun n=>decide (n.length<=8))=true:=by lk
 exact U' (all_eq_true.mp this n h)
set_option maxHeartbeats 8000000 in
theorem amm (T:Txt K w mg t):bI P w K mg base lB (0+11) t.OZ t.ahC ["_law_script"] (Ot K):=by
 have Nq:=JR (P:=P) (base:=base) T;have aaO:=Ym (P:=P) (base:=base) T;have ae1:=aaC (P:=P) (base:=base) T;have ae2:=aaE (P:=P) (base:=base) T;have xi:=Dy (P:=P) (base:=base) T;have Yw:=UD (P:=P) (base:=base) T;have mP:=GP (P:=P) (base:=base) T;have aaP:=Yr (P:=P) (base:=base) T;have UL:=RB (P:=P) (base:=base) T;have ae3:=aaN (P:=P) (base:=base) T;refine T.adA.ok sW (fun vs H Q E h=>?_) (fun cdv A outer s H vs Q E hr h=>?_)
 ·obtain⟨a,ns,rfl,_⟩:=h;rfl
 ·obtain⟨a,ns,rfl,hS,hl,q⟩:=h;have hbody:ax zS=(ax zS).getD 0 (.Pass ⟨0,0,0,0⟩)::(ax zS).getD 1 (.Pass ⟨0,0,0,0⟩)::alL ((ax zS).getD 2 (.Pass ⟨0,0,0,0⟩)) qx::(ax zS).drop 3:=by unfold qx;rfl
  rw[hbody];refine aX (af (aL (i:=1) sW.nd rfl (Or.inl rfl) (aP (b7.or (aV.or b8)) (aM ae1 (hr.mono (by decide)) rfl T.aal T.wR.kp T.JG .nil aY (aa (aM mP (hr.mono (by decide)) rfl T.nt T.gN.kp T.kD .nil aY (aa (pv 0) (aa ai ag))) ag)) (aM ae2 (hr.mono (by decide)) rfl T.aam T.wV.kp T.JH .nil aY (aa (pv 0) (aa ai (aa (aP dy (aM mP (hr.mono (by decide)) rfl T.nt T.gN.kp T.kD .nil aY (aa (pv 0) (aa ai ag))) ai) ag)))))) (af (aL (i:=2) sW.nd rfl (Or.inl rfl) (agm T.ajE Nq (hr.mono (by decide)) rfl T.ajD T.qK .nil aY)) (af (aL (i:=3) sW.nd rfl (Or.inl rfl) ahB (Ce _ _ _)) (af (kc PassesOwn.never rfl (iX (pv 1)) (bg (i:=4) sW.nd rfl (Or.inl rfl)) (af (aL (i:=5) sW.nd rfl (Or.inl rfl) (aM xi (hr.mono (by decide)) rfl T.Dm T.ph.kp T.wW .nil aY (aa (aJ az (pv 3) ai (fun _ _=>rfl)) (aa (pv 4) ag)))) (af (aL (i:=6) sW.nd rfl (Or.inl rfl) (aM Yw (hr.mono (by decide)) rfl T.Uk T.qB.kp T.Al .nil aY (aa (pv 3) (aa (pv 4) ag)))) (af (aU (au (wd.or (oH (aC hr))) (aJ az (aM ae3 (hr.mono (by decide)) rfl T.aas T.w4.kp T.JN .nil aY (aa (pv 2) (aa (pv 4) (aa (pv 5) ag)))) ai (fun _ _=>rfl)) (pv 6) (aA _)) (aj (aw ik)) aB) (aj (aU (au (bj.or (aW (aC hr))) (pv 6) aD (aA _)) (aj (aL (i:=3) sW.nd rfl (Or.inl rfl) (aM aaP (hr.mono (by decide)) rfl T.Ya T.tJ.kp T.Dp .nil aY (aa (pv 3) (aa (pv 4) ag))))) aB)))))) (af (aL (i:=7) sW.nd rfl (Or.inl rfl) (aJ az (bN (agJ X7)) (aP dy (aM mP (hr.mono (by decide)) rfl T.nt T.gN.kp T.kD .nil aY (aa (pv 0) (aa ai ag))) ai) (fun _ _=>rfl))) (af (gp (aU (N1 (ag5 (kf hr) (pv 7) (aJ az (pv 3) ai (fun _ _=>rfl)))) (aj (aL (i:=7) sW.nd rfl (Or.inl rfl) (aP (b7.or (aV.or b8)) aD (qm (uw.or (zC.or zG)) (pv 7) uv (lM ai))))) aB)) (af (kc PassesOwn.never rfl (BN rfl T.w5 (aa ai ag)) (bg (i:=8) sW.nd rfl (Or.inl rfl)) (aj (aU (dw (bA (aM UL (hr.mono (by decide)) rfl T.Rt T.nE.kp T.ye .nil aY (aa (pv 2) (aa (pv 8) (aa (pv 7) ag)))))) (aj (aw ik)) aB))) (aj (aw (aM aaO (hr.mono (by decide)) rfl T.X9 T.tI.kp T.Dk .nil aY (aa (pv 2) (aa (aJ az (pv 3) ai (fun _ _=>rfl)) ag)))))))))))) ?_;refine eX fun N hN=>?_;tm_up;refine⟨a,ns,0,rfl,hS,hl,?_⟩;tm_up;intro l1 xs1 amn H1 n1 s1 h1 dd1 aqQ;tm_up;refine⟨a,ns,1,rfl,s1.seq hS,hl,?_⟩;tm_up;obtain⟨m,hm,atB⟩:=Ro (CF ns 1) (k:=13) (by decide);rw[hm];refine⟨a,ns,3,m,rfl,s1.seq hS,hl,by omega,fun l2 xs2 amo H2 n2 s2 h2 dd2 aqR=>?_⟩;have xl1:=ck dd1.1;have xl2:=ck dd2.1;refine .inr (.inr ⟨l1,l2,_,_,rfl,rfl,s2 _ _ h1,h2,big (by omega),fun l3 hl3=>?_⟩);have S3:=aq.upd (o:=.lst (xs1++xs2)) hl3;have k3:=ah (H:=H2) (a:=l3) (o:=.lst (xs1++xs2));generalize upd H2 l3 (.lst (xs1++xs2))=H3 at S3 k3;have s13:=(s1.trans s2).trans S3;have dd3:lK H3 (xs1++xs2) (amn++amo):=lK.app (dd1.same (s2.trans S3)) (dd2.same S3);have aqS:(amn++amo).length<=91:=by rw[Z'];omega
  generalize xs1++xs2=xs at k3 dd3;generalize amn++amo=qj at dd3 aqS;refine hN _ _ ?_;clear hN N dd1 dd2 h1 h2 n1 n2 hl3 aqQ aqR xl1 xl2;refine eX fun N hN=>?_;intro x dx nx ndx _;refine⟨x,dx,rfl,ah,fun L D U H4 kp4 nL nD nU LD LU DU hx4 hL4 hD4 hU4=>⟨rfl,?_⟩⟩;have s4:=alS nx ndx kp4;have B4:Bw (cs t) H3 H4 x [] [] [] []:=Bw.new hx4 hL4 hD4 hU4 LD LU DU s4 (OC nL) (OC nD) (OC nU);clear kp4 nL nD nU LD LU DU hL4 hD4 hU4 s4 nx ndx hx4;refine hN _ _ ?_;clear hN N;refine eX fun N hN=>?_;rw[MK];intro dd hdd;have S5:=aq.upd (o:=.dK []) hdd;have k5:=ah (H:=H4) (a:=dd) (o:=.dK []);generalize upd H4 dd (.dK [])=H5 at S5 k5;refine⟨big (by show 0<=1000;omega),fun p1 hp1=>?_⟩;have S6:=aq.upd (o:=.lst []) hp1;have k6:=ah (H:=H5) (a:=p1) (o:=.lst []);generalize upd H5 p1 (.lst [])=H6 at S6 k6;refine⟨big (by show 0<=1000;omega),fun p2 hp2=>?_⟩;have S7:=aq.upd (o:=.lst []) hp2;have k7:=ah (H:=H6) (a:=p2) (o:=.lst []);generalize upd H6 p2 (.lst [])=H7 at S7 k7;refine⟨by show 3<=sizeLine;decide,fun p hp=>?_⟩;have S8:=aq.upd (o:=.tup [V.ref dd,V.ref p1,V.ref p2]) hp;have k8:=ah (H:=H7) (a:=p) (o:=.tup [V.ref dd,V.ref p1,V.ref p2]);generalize upd H7 p (.tup [V.ref dd,V.ref p1,V.ref p2])=H8 at S8 k8;have S48:=((S5.trans S6).trans S7).trans S8;have B8:=B4.mix S48;have st8:X3 (mix H3 H4 H8) (.ref p) ⟨[],[],[]⟩:=⟨p,dd,p1,p2,[],[],rfl,B9 S48 k8 (fun _ z=>nomatch z),⟨[],B9 S48 (S8 _ _ (S7 _ _ (S6 _ _ k5))) (fun _ z=>nomatch z),.nil⟩,jm ((S5.free hp1)) (S8 _ _ (S7 _ _ k6)),.nil,jm ((S5.trans S6).free hp2) (S8 _ _ k7),.nil⟩;have hS8:bh K (mix H3 H4 H8) a (ns.map V.int):=(GY B4.sm).seq (s13.seq hS);have k38:mix H3 H4 H8 l3=some (.lst xs):=GY B4.sm _ _ k3;have dd8:lK (mix H3 H4 H8) xs qj:=dd3.same (GY B4.sm);generalize mix H3 H4 H8=H0 at B8 st8 hS8 k38 dd8;refine hN _ _ ?_;clear hN N B4 S5 S6 S7 S8 S48 k5 k6 k7 k8 hdd hp1 hp2 hp dd3 k3 s13 S3 s1 s2;refine eX fun N hN=>?_;have zl:=ck dd8.1;refine⟨_,rfl,l3,rfl,⟨_,bh.of (B8.sm _ _ k38)⟩,sE (K:=K) (xs:=xs) (fun i σ H'=>∃(u5 u6 u7 u8 u9:Option V)(vs:Addr)(st:Std)(H1:Hp),σ=[some (.ref a),some (.ref l3),some (.ref x),some (.ref vs),u5,u6,u7,u8,u9]/\Bw (cs t) H1 H' x [] st.vw st.ps st.fs/\X3 H1 (.ref vs) st/\aq H0 H1/\NxS st/\st.ps.length+st.fs.length<=i) ⟨none,none,none,none,none,p,⟨[],[],[]⟩,H0,rfl,B8,st8,aq.refl _,⟨(fun _ z=>nomatch z),(fun _ z=>nomatch z),(fun _ z=>nomatch z)⟩,Zi' _⟩ ?_ ?_ ?_⟩
  ·rintro i σ H' _ ⟨_,_,_,_,_,vs,st,H1,rfl,B,_,s1,_,_⟩;exact bh.of (B.sm _ _ (s1 _ _ k38))
  ·rintro i y0 σ H' hy ⟨u5,u6,u7,u8,u9,vs,st,H1,rfl,B,st1,s1,nxs,lps⟩;obtain⟨de,hde,ade⟩:=zL dd8.1 hy;have ok:=dd8.2 de (Za' hde);have ajS:=ade.same s1;have w:=B.wv;have hi:i<qj.length:=(S'.mp hde).1;obtain⟨q1,q2,q3,q4,q5,q6,e,g1,g2,_⟩:=id st1;cases e;refine⟨_,rfl,cN (i:=0) (B.sm _ _ g1) rfl ⟨_,rfl,?_⟩⟩;refine⟨q2,_,st.vw,de,rfl,g2.same B.sm,ajS.same B.sm,fun H2 S2=>?_⟩;have B2:=B.same S2;refine⟨_,rfl,_,rfl,_,_,st,de,rfl,st1.same B2.sm,ajS.same B2.sm,ok,w,fun H3 S3=>?_⟩;have B3:=B2.same S3;obtain⟨F3,b3,f3,z3,o3⟩:=B3.ex;refine⟨_,rfl,_,rfl,_,rfl,x,_,F3,st,de,cH st.vw de,rfl,b3,(ajS.same B3.sm).short,ok.nl,ok.ll,by omega,?_⟩;cases ho:j8 st de (cH st.vw de) with
   |some r =>
    intro t0 H4 S4 ht0;refine cN (i:=1) ht0 rfl ?_;refine⟨_,rfl,.inl ⟨rfl,_,rfl,?_⟩⟩;rw[show decide (V.str r.str=V.str (Nd (some r)))=true from W' rfl];refine bZ ?_;tm_up;rw[adK];exact bZ ⟨_,_,_,_,_,vs,st,H1,rfl,B3.same S4,st1,s1,nxs,by omega⟩
   |none =>
    intro t0 v0 F4 H4 gr4 fr4 b4 an4 ht0;obtain⟨B4,k4⟩:=Bw.mk' b4 B3.sm f3 z3 o3 gr4 fr4;refine cN (i:=1) ht0 rfl ?_;refine⟨_,rfl,.inl ⟨rfl,_,rfl,?_⟩⟩;rw[show decide (V.str ""=V.str (Nd none))=true from W' rfl];refine bZ ?_;tm_up;refine⟨_,_,st,de,H1,rfl,B4.sm,st1,ajS.same B4.sm,ok,w,by omega,ho,fun v5 H5 S5 st5=>?_⟩;have B5:=B4.mix S5;have hlen:=ah1 st de _ ho;obtain⟨q1',q2',q3',q4',q5',q6',e',g1',_⟩:=id st5;subst e';exact⟨_,_,_,_,_,q1',iC st de (cH st.vw de),mix H1 H4 H5,rfl,B5,st5,s1.trans (GY B4.sm),nxs.beh ok,by omega⟩
  rintro σ H' ⟨u5,u6,u7,u8,u9,vs,st,H1,rfl,B,st1,s1,nxs,lps⟩;refine hN _ _ ?_;clear hN N;obtain⟨q1,q2,q3,q4,q5,q6,e,g1,g2,_⟩:=id st1;cases e;refine eX fun N hN=>?_;refine⟨by show 10<=sizeLine;decide,fun m0 hm0=>?_⟩;have e10:(X7.map fun c=>V.str c.1)=UK.map V.str:=rfl;rw[e10];have S1:=aq.upd (o:=.lst (UK.map V.str)) hm0;have k1:=ah (H:=H') (a:=m0) (o:=.lst (UK.map V.str));generalize upd H' m0 (.lst (UK.map V.str))=H12 at S1 k1;have B1:=B.same S1;tm_up;refine⟨a,ns,2,rfl,B1.sm.seq (s1.seq hS8),hl,?_⟩;tm_up;obtain⟨m,hm,atL⟩:=Ro (CF ns 2) (k:=10) (by decide);obtain⟨nm,hnm,enm⟩:=strAtD (l:=UK) (m:=m) (by show m<10;omega);refine Xk (bh.of k1) (n:=m) hm enm ?_;refine hN _ _ ?_;clear hN N;refine eX fun N hN=>?_;refine⟨fun σ H'=>∃ n,σ=[some (.ref a),some (.ref l3),some (.ref x),some (.ref vs),u5,u6,u7,some (.str n),u9]/\aq H12 H'/\bc st.vw n=none,?_,?_⟩
  ·refine⟨_,rfl,_,rfl,cN (i:=0) (B1.sm _ _ g1) rfl ?_⟩;rcases (g2.same B1.sm).look nm with ⟨f1,d1⟩|⟨th,v1,f1,d1,t1⟩
   ·exact⟨q2,_,rfl,d1,_,rfl,bZ ⟨nm,rfl,aq.refl _,f1⟩⟩
   ·refine⟨q2,_,rfl,d1,_,rfl,cZ ?_⟩;have nl:=ah4 hnm;have sl:=Txt.slice_le nm none (some 5);exact⟨_,rfl,5,rfl,.inr (.inr ⟨nm,rfl,big (by omega),.inr (.inl ⟨_,_,rfl,rfl,big (by have:("x":Str).length=1:=rfl;omega),_,rfl,aq.refl _,nxs.vw.find (aml hnm)⟩)⟩)⟩
  rintro σ H13 ⟨n,rfl,S13,fn⟩;refine hN _ _ ?_;clear hN N;have B3:=B1.same S13;refine eX fun N hN=>?_;refine⟨9,rfl,by decide,by decide,?_⟩;refine wc (n:=9) (fun i σ H'=>∃ u,σ=[some (.ref a),some (.ref l3),some (.ref x),some (.ref vs),u5,u6,u7,some (.str n),u]/\aq H13 H') ⟨_,rfl,aq.refl _⟩ ?_ ?_
  ·rintro i σ H' hi ⟨u,rfl,S⟩;rw[show(0:Int)+(i:Int)=(i:Int) from Int.zero_add _];have B4:=B3.same S;obtain⟨F,b,_⟩:=B4.ex;refine⟨_,rfl,_,rfl,_,rfl,x,F,st.vw,st.ps,st.fs,n,i,rfl,b,fn,hi,by omega,fun H5 S5=>?_⟩;exact⟨_,rfl,bZ ⟨_,rfl,S.trans S5⟩⟩
  ·rintro σ H' ⟨u,rfl,S⟩;refine hN _ _ ?_;have B4:=B3.same S;refine⟨_,rfl,_,rfl,cN (i:=0) (B4.sm _ _ g1) rfl ?_⟩;obtain⟨F4,b4,_⟩:=B4.ex;exact⟨x,q2,F4,st.vw,_,_,rfl,b4,g2.same B4.sm,fun H5 S5=>q _⟩
theorem adO {us:List Value}(h:us.length=1):∃ a0,us=[a0]:=match us,h with|[a0],_=>⟨a0,rfl⟩
theorem oE {p:List Value->Prop}(h:∀ a0,p [a0])(us:List Value)(e:us.length=1):p us:=by obtain⟨_,rfl⟩:=adO e;exact h _
theorem akV {us:List Value}(h:us.length=2):∃ a0 a1,us=[a0,a1]:=match us,h with|[a0,a1],_=>⟨a0,a1,rfl⟩
theorem dQ {p:List Value->Prop}(h:∀ a0 a1,p [a0,a1])(us:List Value)(e:us.length=2):p us:=by obtain⟨_,_,rfl⟩:=akV e;exact h _ _
theorem ah5 {us:List Value}(h:(us++[]).length=2):∃ a0 a1,us=[a0,a1]:=akV (by rw[append_nil]at h;exact h)
theorem akW {us:List Value}(h:us.length=3):∃ a0 a1 a2,us=[a0,a1,a2]:=match us,h with|[a0,a1,a2],_=>⟨a0,a1,a2,rfl⟩
theorem CI {p:List Value->Prop}(h:∀ a0 a1 a2,p [a0,a1,a2])(us:List Value)(e:us.length=3):p us:=by obtain⟨_,_,_,rfl⟩:=akW e;exact h _ _ _
theorem aoD {us:List Value}(h:us.length=4):∃ a0 a1 a2 a3,us=[a0,a1,a2,a3]:=match us,h with|[a0,a1,a2,a3],_=>⟨a0,a1,a2,a3,rfl⟩
theorem PJ {p:List Value->Prop}(h:∀ a0 a1 a2 a3,p [a0,a1,a2,a3])(us:List Value)(e:us.length=4):p us:=by obtain⟨_,_,_,_,rfl⟩:=aoD e;exact h _ _ _ _
theorem aoE {us:List Value}(h:us.length=5):∃ a0 a1 a2 a3 a4,us=[a0,a1,a2,a3,a4]:=match us,h with|[a0,a1,a2,a3,a4],_=>⟨a0,a1,a2,a3,a4,rfl⟩
theorem aoF {p:List Value->Prop}(h:∀ a0 a1 a2 a3 a4,p [a0,a1,a2,a3,a4])(us:List Value)(e:us.length=5):p us:=by obtain⟨_,_,_,_,_,rfl⟩:=aoE e;exact h _ _ _ _ _
theorem aoG {us:List Value}(h:us.length=6):∃ a0 a1 a2 a3 a4 a5,us=[a0,a1,a2,a3,a4,a5]:=match us,h with|[a0,a1,a2,a3,a4,a5],_=>⟨a0,a1,a2,a3,a4,a5,rfl⟩
theorem aoH {us:List Value}(h:(us++[]).length=6):∃ a0 a1 a2 a3 a4 a5,us=[a0,a1,a2,a3,a4,a5]:=aoG (by rw[append_nil]at h;exact h)
set_option maxHeartbeats 0 in
theorem all_mk {l:OpenLaw}{w:World}{K:Frag}{h:Heap}{mg:Str->Option Value}{fa dR bL bp dq gG bU eZ oQ oR sX fB l8 uM oS ib cf xW C7 NW eG dM c8 c9 jb oU sZ BW tq cL dW ku tw oV xY tD kx l9 oW ky kz kA oX oY oZ dN dc dO kB eI ma bT Dc cM mH dX o6 md tF bR dr eJ ic dY ff iS tG uO m8 dn gH o7 bQ fg cX bX jX cE iT gI gJ lr mI OZ fh ie eK dt cY fF dZ d3 cF aG aE aZ ay bY aK bq aF aN a6 bf:Addr}(X:K.In h)(G:h.Ns mainGlobals mg)(hfa:mg "law"=some (.ref fa)){J2 J3 RC RD AD AE RE RF aaQ aaR aaS aaT ae4 ae5 Nr Nt Yx Yy UM aaU aaV PK PL yi yj ah6 ah7 ajT ajU ah8 J4 J5 Hi Hj DC DD DE DF RG RH aaW aaX ae6 ae7 aaY ae8 ae9 UN UO UP UQ UR US afa afb aaZ aa0 ah9 aia afc afd UT UU Yz YA aa1 aa2 UW UX UY UZ U0 U1 aa3 aa4 aa5 aa6 aa7 aa8 Hk Hl DG DH Hm Hn U2 U3 J6 J7 YB YC yk ym ajV ajW DI DJ aa9 aba Nu Nv abb abc YD YE afe aff Cf Cg J8 J9 YF YG YH YI U4 U7 U8 U9 Va Vb afg afh aib aic afi afj abd abe RI RJ abf abg DK DM PM PN Ho Hq Hr Hs DN Ht Hu Vc Vd Ve Vf Vg Vh ajX ajY abh abi amq amr PQ PR Ka Kb Hv Nw:Option Addr}{Kc RK AF RL abj abk afk Nx YJ Vi abl PU yn aid ajZ aie Ke Hw DO DP RM abm afl abn afm Vj Vk Vl afn abo aif afo Vm YK abp Vn Vo Vp abq abr abt Hy DQ Hz Vq Kf YL yo aj0 DR abu Ny abv YM afp Ci Kg YN YO Vr Vs Vt afq aih afr abw RN abx DS PV HA HB DT HC Vu Vv Vy aj1 aby ams PX PY Kh Ki HD Nz:Array (Option Value)}{Kj Kk Kl Km xn Kn RO RP RQ RS CJ RT AG AH AI AJ qD AK RU RV RW RY CK RZ abz abA abB abC PZ abD abE abF abG abH P0 abI afs aft afu afv Tb afw NA NB NC ND zr NF YQ YR YS YT M4 YU Vz abJ abK abL abM P1 abN P2 P4 P5 P6 AL P7 yp yq yr yt nM yu aii aij aik ail YV aim aj2 aj3 aj4 aj5 adP aj6 ain Ko Kp Kq Kr xo Ks HE HF HG HH vm HI DV DW DX DY tU DZ D0 D1 D2 D3 tV D4 R0 R1 R3 R4 CL R5 abO abP abQ abR P8 abS afx afy afz afA Tc afB abT afC afD afE afF Td afG VA VB VC VD HJ VE VF VG VH VI HK VJ VL VM VN VO HL VP afH afI afJ afK Te afL abU abV abW abX P9 abY aio aip aiq air YW ais afM afN afO afP Tf afQ VQ VR VS VT HM VU YX YY YZ Y0 M5 Y1 abZ ab0 ab1 ab2 Qa ab3 VW VX VY VZ HN V0 V1 V2 V3 V4 HP V5 V6 V7 V8 V9 HQ Wa ab4 ab5 ab6 ab7 Qb ab8 ab9 aca acb acd Qc ace acf acg ach aci Qd acj HR HS HU HV vn HW D5 D6 D7 D8 tW D9 HX HY HZ Ia vo Ib Wb Wc Wd We Ic Wf Kt Ku Kv Kw xp Kx Y2 Y3 Y4 Y5 M6 Y6 yv yw yx yy nN yz aj7 aj8 aj9 aka adQ akb Ea Eb Ec Ed tX Ee ack acm acn aco Qe acp NG NH NI NJ zt NK acq acr acs acu Qf acv Y7 Y8 Y9 Za M7 Zb afR afS afT afU Tg afV Cj Ck Cm Cn rH Co Ky Kz KA KC xq KG Zc Zd Ze Zf M8 Zg Zh Zi Zj Zk M9 Zl Wg Wh Wi Wj Ie Wk Wl Wm Wn Wo Ig Wq Wr Ws Wt Wu Ih Wv afW afX afY afZ Ti af0 ait aiu aiv aiw Zm aix af1 af2 af3 af4 Tj af5 acw acx acy acz Qg acA R6 R7 R8 R9 CM Sa acB acC acD acE Qh acF Ef Eg Eh Ei tY Ej Qi Qj Qk Ql AM Qm Ii Ij Ik Il vq Im Io Ip Iq Ir vt Iu Ek Iv Iw Iy Iz vv IA Ww Wx Wz WA IB WB WC WE WG WH IC WI WJ WK WL WM ID WN akc akd ake akf adR akg acG acH acI acJ Qn acK amt amu amv amw aiy amx:Value}{mX zV tf fD fE Qo Qp Qq Qr Qs Qt KH KJ KL KN KO IE IF IG IH NL NM NN NO NP nc KP KQ KR KS KU KW KY KZ K0 K1 K2 K3 K4 K5 K6 K7 K8 K9 La Lb Lc Ld El Em En Eo rQ jY lP ng BX nh qf rR Gf BY:Tok}{WO aiz acL Ep Sb Sd NQ NR Le Qu Qv Qw Lf:Nat}(Qx:nsIn K mainGlobals "Voice"=some (some (.ref dR)))(WQ:nsIn K mainGlobals "Deed"=some (some (.ref bL)))(WR:nsIn K mainGlobals "Book"=some (some (.ref bp)))(qN:findIn K (.ref bp) "__init__"=some (some (.ref dq)))(qO:K.lookup dq=some ⟨Kj,J2,.func (fnOf "__init__" "Book.__init__" (aH gs) (ax gs) (ae gs) .none Kk Kl Km J3 xn Kn),Kc⟩)(qP:codeIn K xn "Book.__init__" = true)(qQ:keepIn K (.ref dq)=true)(pF:isFn K (.ref dq)=true)(yA:findIn K (.ref bp) "names"=some (some (.ref gG)))(yB:K.lookup gG=some ⟨RO,RC,.func (fnOf "names" "Book.names" (aH kM) (ax kM) (ae kM) .none RP RQ RS RD CJ RT),RK⟩)(yC:codeIn K CJ "Book.names" = true)(rY:keepIn K (.ref gG)=true)(vU:isFn K (.ref gG)=true)(lu:findIn K (.ref bp) "voice_called"=some (some (.ref bU)))(lx:K.lookup bU=some ⟨AG,AD,.func (fnOf "voice_called" "Book.voice_called" (aH cI) (ax cI) (ae cI) .none AH AI AJ AE qD AK),AF⟩)(ly:codeIn K qD "Book.voice_called" = true)(iy:keepIn K (.ref bU)=true)(kH:isFn K (.ref bU)=true)(yD:findIn K (.ref bp) "canon"=some (some (.ref eZ)))(yE:K.lookup eZ=some ⟨RU,RE,.func (fnOf "canon" "Book.canon" (aH i7) (ax i7) (ae i7) .none RV RW RY RF CK RZ),RL⟩)(yF:codeIn K CK "Book.canon" = true)(rZ:keepIn K (.ref eZ)=true)(vV:isFn K (.ref eZ)=true)(Lg:nsIn K mainGlobals "_law_whole"=some (some (.ref oQ)))(Lh:K.lookup oQ=some ⟨abz,aaQ,.func (fnOf "_law_whole" "_law_whole" (aH r0) (ax r0) (ae r0) .none abA abB abC aaR PZ abD),abj⟩)(Li:codeIn K PZ "_law_whole"=true)(Lj:keepIn K (.ref oQ)=true)(Lk:nsIn K mainGlobals "_law_signs"=some (some (.ref oR)))(Ll:K.lookup oR=some ⟨abE,aaS,.func (fnOf "_law_signs" "_law_signs" (aH r6) (ax r6) (ae r6) .none abF abG abH aaT P0 abI),abk⟩)(Lm:codeIn K P0 "_law_signs"=true)(Ln:keepIn K (.ref oR)=true)(Qy:nsIn K mainGlobals "_law_nums"=some (some (.ref sX)))(Qz:K.lookup sX=some ⟨afs,ae4,.func (fnOf "_law_nums" "_law_nums" (aH wA) (ax wA) (ae wA) .none aft afu afv ae5 Tb afw),afk⟩)(QA:codeIn K Tb "_law_nums"=true)(QB:keepIn K (.ref sX)=true)(tZ:nsIn K mainGlobals "sets_measure"=some (some (.ref fB)))(t6:K.lookup fB=some ⟨NA,Nr,.func (fnOf "sets_measure" "sets_measure" (aH iD) (ax iD) (ae iD) .none NB NC ND Nt zr NF),Nx⟩)(t7:codeIn K zr "sets_measure"=true)(ua:keepIn K (.ref fB)=true)(Er:nsIn K mainGlobals "measures"=some (some (.ref l8)))(Es:K.lookup l8=some ⟨YQ,Yx,.func (fnOf "measures" "measures" (aH oK) (ax oK) (ae oK) (.ref uM) YR YS YT Yy M4 YU),YJ⟩)(Et:codeIn K M4 "measures"=true)(Eu:keepIn K (.ref l8)=true)(vy:K.lookup uM=some ⟨Vz,UM,.seq #[.int 3 mX] WO,Vi⟩)(Lo:nsIn K mainGlobals "kind_at"=some (some (.ref oS)))(Lp:K.lookup oS=some ⟨abJ,aaU,.func (fnOf "kind_at" "kind_at" (aH r9) (ax r9) (ae r9) .none abK abL abM aaV P1 abN),abl⟩)(Lq:codeIn K P1 "kind_at"=true)(Lr:keepIn K (.ref oS)=true)(vW:nsIn K mainGlobals "plain_worth"=some (some (.ref ib)))(vX:K.lookup ib=some ⟨P2,PK,.func (fnOf "plain_worth" "plain_worth" (aH jC) (ax jC) (ae jC) .none P4 P5 P6 PL AL P7),PU⟩)(vY:codeIn K AL "plain_worth"=true)(vZ:keepIn K (.ref ib)=true)(jM:nsIn K mainGlobals "worths_without_runs"=some (some (.ref cf)))(jN:K.lookup cf=some ⟨yp,yi,.func (fnOf "worths_without_runs" "worths_without_runs" (aH cO) (ax cO) (ae cO) .none yq yr yt yj nM yu),yn⟩)(jO:codeIn K nM "worths_without_runs"=true)(jP:keepIn K (.ref cf)=true)(WS:nsIn K mainGlobals "small"=some (some (.ref xW)))(WT:K.lookup xW=some ⟨aii,ah6,.func (fnOf "small" "small" (aH BU) (ax BU) (ae BU) .none aij aik ail ah7 YV aim),aid⟩)(WU:codeIn K YV "small"=true)(GD:keepIn K (.ref xW)=true)(acM:nsIn K mainGlobals "runs"=some (some (.ref C7)))(acN:K.lookup C7=some ⟨aj2,ajT,.func (fnOf "runs" "runs" (aH IZ) (ax IZ) (ae IZ) (.ref NW) aj3 aj4 aj5 ajU adP aj6),ajZ⟩)(acO:codeIn K adP "runs"=true)(acP:keepIn K (.ref C7)=true)(NY:K.lookup NW=some ⟨ain,ah8,.seq #[.int 3 zV] aiz,aie⟩)(qR:nsIn K mainGlobals "has_left_note"=some (some (.ref eG)))(qS:K.lookup eG=some ⟨Ko,J4,.func (fnOf "has_left_note" "has_left_note" (aH gu) (ax gu) (ae gu) .none Kp Kq Kr J5 xo Ks),Ke⟩)(qT:codeIn K xo "has_left_note"=true)(qU:keepIn K (.ref eG)=true)(pG:nsIn K mainGlobals "has_right_note"=some (some (.ref dM)))(pH:K.lookup dM=some ⟨HE,Hi,.func (fnOf "has_right_note" "has_right_note" (aH fi) (ax fi) (ae fi) .none HF HG HH Hj vm HI),Hw⟩)(pI:codeIn K vm "has_right_note"=true)(pJ:keepIn K (.ref dM)=true)(nP:nsIn K mainGlobals "settle_one_over"=some (some (.ref c8)))(nQ:K.lookup c8=some ⟨DV,DC,.func (fnOf "settle_one_over" "settle_one_over" (aH et) (ax et) (ae et) .none DW DX DY DD tU DZ),DO⟩)(nR:codeIn K tU "settle_one_over"=true)(nS:keepIn K (.ref c8)=true)(nV:nsIn K mainGlobals "settle_two_over"=some (some (.ref c9)))(nW:K.lookup c9=some ⟨D0,DE,.func (fnOf "settle_two_over" "settle_two_over" (aH eA) (ax eA) (ae eA) .none D1 D2 D3 DF tV D4),DP⟩)(nX:codeIn K tV "settle_two_over"=true)(nY:keepIn K (.ref c9)=true)(yG:nsIn K mainGlobals "settle_run"=some (some (.ref jb)))(yH:K.lookup jb=some ⟨R0,RG,.func (fnOf "settle_run" "settle_run" (aH kO) (ax kO) (ae kO) .none R1 R3 R4 RH CL R5),RM⟩)(yI:codeIn K CL "settle_run"=true)(yJ:keepIn K (.ref jb)=true)(Ls:nsIn K mainGlobals "reading"=some (some (.ref oU)))(Lu:K.lookup oU=some ⟨abO,aaW,.func (fnOf "reading" "reading" (aH sd) (ax sd) (ae sd) .none abP abQ abR aaX P8 abS),abm⟩)(Lv:codeIn K P8 "reading"=true)(Lw:keepIn K (.ref oU)=true)(QC:nsIn K mainGlobals "worths"=some (some (.ref sZ)))(QD:K.lookup sZ=some ⟨afx,ae6,.func (fnOf "worths" "worths" (aH wB) (ax wB) (ae wB) (.ref BW) afy afz afA ae7 Tc afB),afl⟩)(QE:codeIn K Tc "worths"=true)(QF:keepIn K (.ref sZ)=true)(Cb:K.lookup BW=some ⟨abT,aaY,.seq #[.int 3 tf] acL,abn⟩)(QG:nsIn K mainGlobals "turned"=some (some (.ref tq)))(QH:K.lookup tq=some ⟨afC,ae8,.func (fnOf "turned" "turned" (aH wC) (ax wC) (ae wC) .none afD afE afF ae9 Td afG),afm⟩)(QI:codeIn K Td "turned"=true)(QJ:keepIn K (.ref tq)=true)(AN:findIn K (.ref bp) "line"=some (some (.ref cL)))(AO:K.lookup cL=some ⟨VA,UN,.func (fnOf "line" "Book.line" (aH dU) (ax dU) (ae dU) .none VB VC VD UO HJ VE),Vj⟩)(AQ:codeIn K HJ "Book.line" = true)(vz:keepIn K (.ref cL)=true)(yK:isFn K (.ref cL)=true)(AR:findIn K (.ref bp) "kept"=some (some (.ref dW)))(AS:K.lookup dW=some ⟨VF,UP,.func (fnOf "kept" "Book.kept" (aH gE) (ax gE) (ae gE) .none VG VH VI UQ HK VJ),Vk⟩)(AU:codeIn K HK "Book.kept" = true)(vA:keepIn K (.ref dW)=true)(yL:isFn K (.ref dW)=true)(AV:nsIn K mainGlobals "_law_line_of"=some (some (.ref ku)))(AW:K.lookup ku=some ⟨VL,UR,.func (fnOf "_law_line_of" "_law_line_of" (aH mz) (ax mz) (ae mz) .none VM VN VO US HL VP),Vl⟩)(AX:codeIn K HL "_law_line_of"=true)(AY:keepIn K (.ref ku)=true)(QK:nsIn K mainGlobals "_law_base"=some (some (.ref tw)))(QL:K.lookup tw=some ⟨afH,afa,.func (fnOf "_law_base" "_law_base" (aH wD) (ax wD) (ae wD) .none afI afJ afK afb Te afL),afn⟩)(QM:codeIn K Te "_law_base"=true)(QN:keepIn K (.ref tw)=true)(Lx:nsIn K mainGlobals "_law_three"=some (some (.ref oV)))(Ly:K.lookup oV=some ⟨abU,aaZ,.func (fnOf "_law_three" "_law_three" (aH se) (ax se) (ae se) .none abV abW abX aa0 P9 abY),abo⟩)(Lz:codeIn K P9 "_law_three"=true)(LB:keepIn K (.ref oV)=true)(WV:nsIn K mainGlobals "_law_run"=some (some (.ref xY)))(WW:K.lookup xY=some ⟨aio,ah9,.func (fnOf "_law_run" "_law_run" (aH BV) (ax BV) (ae BV) .none aip aiq air aia YW ais),aif⟩)(WY:codeIn K YW "_law_run"=true)(WZ:keepIn K (.ref xY)=true)(QO:nsIn K mainGlobals "_law_read"=some (some (.ref tD)))(QP:K.lookup tD=some ⟨afM,afc,.func (fnOf "_law_read" "_law_read" (aH wF) (ax wF) (ae wF) .none afN afO afP afd Tf afQ),afo⟩)(QR:codeIn K Tf "_law_read"=true)(QS:keepIn K (.ref tD)=true)(AZ:nsIn K mainGlobals "_law_kept_of"=some (some (.ref kx)))(A0:K.lookup kx=some ⟨VQ,UT,.func (fnOf "_law_kept_of" "_law_kept_of" (aH mB) (ax mB) (ae mB) .none VR VS VT UU HM VU),Vm⟩)(A1:codeIn K HM "_law_kept_of"=true)(A2:keepIn K (.ref kx)=true)(Ew:nsIn K mainGlobals "_law_stands"=some (some (.ref l9)))(Ex:K.lookup l9=some ⟨YX,Yz,.func (fnOf "_law_stands" "_law_stands" (aH oM) (ax oM) (ae oM) .none YY YZ Y0 YA M5 Y1),YK⟩)(Ey:codeIn K M5 "_law_stands"=true)(Ez:keepIn K (.ref l9)=true)(LC:nsIn K mainGlobals "_law_begun"=some (some (.ref oW)))(LF:K.lookup oW=some ⟨abZ,aa1,.func (fnOf "_law_begun" "_law_begun" (aH sf) (ax sf) (ae sf) .none ab0 ab1 ab2 aa2 Qa ab3),abp⟩)(LG:codeIn K Qa "_law_begun"=true)(LH:keepIn K (.ref oW)=true)(A3:nsIn K mainGlobals "_law_cell_at"=some (some (.ref ky)))(A4:K.lookup ky=some ⟨VW,UW,.func (fnOf "_law_cell_at" "_law_cell_at" (aH mC) (ax mC) (ae mC) .none VX VY VZ UX HN V0),Vn⟩)(A5:codeIn K HN "_law_cell_at"=true)(A6:keepIn K (.ref ky)=true)(A7:nsIn K mainGlobals "_law_sign_by"=some (some (.ref kz)))(A8:K.lookup kz=some ⟨V1,UY,.func (fnOf "_law_sign_by" "_law_sign_by" (aH mD) (ax mD) (ae mD) .none V2 V3 V4 UZ HP V5),Vo⟩)(A9:codeIn K HP "_law_sign_by"=true)(Ba:keepIn K (.ref kz)=true)(Bb:nsIn K mainGlobals "_law_deed_by"=some (some (.ref kA)))(Bc:K.lookup kA=some ⟨V6,U0,.func (fnOf "_law_deed_by" "_law_deed_by" (aH bS) (ax bS) (ae bS) .none V7 V8 V9 U1 HQ Wa),Vp⟩)(Bd:codeIn K HQ "_law_deed_by"=true)(Be:keepIn K (.ref kA)=true)(LI:nsIn K mainGlobals "_law_mixed"=some (some (.ref oX)))(LJ:K.lookup oX=some ⟨ab4,aa3,.func (fnOf "_law_mixed" "_law_mixed" (aH si) (ax si) (ae si) .none ab5 ab6 ab7 aa4 Qb ab8),abq⟩)(LK:codeIn K Qb "_law_mixed"=true)(LL:keepIn K (.ref oX)=true)(LM:nsIn K mainGlobals "_law_deeds"=some (some (.ref oY)))(LN:K.lookup oY=some ⟨ab9,aa5,.func (fnOf "_law_deeds" "_law_deeds" (aH sj) (ax sj) (ae sj) .none aca acb acd aa6 Qc ace),abr⟩)(LO:codeIn K Qc "_law_deeds"=true)(LP:keepIn K (.ref oY)=true)(LQ:nsIn K mainGlobals "_law_place"=some (some (.ref oZ)))(LR:K.lookup oZ=some ⟨acf,aa7,.func (fnOf "_law_place" "_law_place" (aH sq) (ax sq) (ae sq) .none acg ach aci aa8 Qd acj),abt⟩)(LS:codeIn K Qd "_law_place"=true)(LV:keepIn K (.ref oZ)=true)(pK:nsIn K mainGlobals "_law_name_refused"=some (some (.ref dN)))(pL:K.lookup dN=some ⟨HR,Hk,.func (fnOf "_law_name_refused" "_law_name_refused" (aH fk) (ax fk) (ae fk) .none HS HU HV Hl vn HW),Hy⟩)(pM:codeIn K vn "_law_name_refused"=true)(pN:keepIn K (.ref dN)=true)(nZ:nsIn K mainGlobals "_law_canon_refused"=some (some (.ref dc)))(n0:K.lookup dc=some ⟨D5,DG,.func (fnOf "_law_canon_refused" "_law_canon_refused" (aH eB) (ax eB) (ae eB) .none D6 D7 D8 DH tW D9),DQ⟩)(n5:codeIn K tW "_law_canon_refused"=true)(n6:keepIn K (.ref dc)=true)(pO:nsIn K mainGlobals "_law_line_refused"=some (some (.ref dO)))(pP:K.lookup dO=some ⟨HX,Hm,.func (fnOf "_law_line_refused" "_law_line_refused" (aH fm) (ax fm) (ae fm) .none HY HZ Ia Hn vo Ib),Hz⟩)(pQ:codeIn K vo "_law_line_refused"=true)(pR:keepIn K (.ref dO)=true)(Bf:nsIn K mainGlobals "_law_refused"=some (some (.ref kB)))(Bg:K.lookup kB=some ⟨Wb,U2,.func (fnOf "_law_refused" "_law_refused" (aH mE) (ax mE) (ae mE) .none Wc Wd We U3 Ic Wf),Vq⟩)(Bh:codeIn K Ic "_law_refused"=true)(Bi:keepIn K (.ref kB)=true)(qV:nsIn K mainGlobals "_law_line_behind"=some (some (.ref eI)))(qW:K.lookup eI=some ⟨Kt,J6,.func (fnOf "_law_line_behind" "_law_line_behind" (aH gw) (ax gw) (ae gw) .none Ku Kv Kw J7 xp Kx),Kf⟩)(qX:codeIn K xp "_law_line_behind"=true)(qY:keepIn K (.ref eI)=true)(EA:nsIn K mainGlobals "_law_behind"=some (some (.ref ma)))(EB:K.lookup ma=some ⟨Y2,YB,.func (fnOf "_law_behind" "_law_behind" (aH oN) (ax oN) (ae oN) .none Y3 Y4 Y5 YC M6 Y6),YL⟩)(EC:codeIn K M6 "_law_behind"=true)(ED:keepIn K (.ref ma)=true)(jQ:nsIn K mainGlobals "refuse_other_places"=some (some (.ref bT)))(jR:K.lookup bT=some ⟨yv,yk,.func (fnOf "refuse_other_places" "refuse_other_places" (aH cb) (ax cb) (ae cb) .none yw yx yy ym nN yz),yo⟩)(jS:codeIn K nN "refuse_other_places"=true)(jT:keepIn K (.ref bT)=true)(acQ:nsIn K mainGlobals "good"=some (some (.ref Dc)))(acR:K.lookup Dc=some ⟨aj7,ajV,.func (fnOf "good" "good" (aH Ja) (ax Ja) (ae Ja) .none aj8 aj9 aka ajW adQ akb),aj0⟩)(acS:codeIn K adQ "good"=true)(acT:keepIn K (.ref Dc)=true)(n8:nsIn K mainGlobals "refuse_bad_sign"=some (some (.ref cM)))(n9:K.lookup cM=some ⟨Ea,DI,.func (fnOf "refuse_bad_sign" "refuse_bad_sign" (aH c7) (ax c7) (ae c7) .none Eb Ec Ed DJ tX Ee),DR⟩)(oa:codeIn K tX "refuse_bad_sign"=true)(og:keepIn K (.ref cM)=true)(LW:findIn K (.ref bL) "do"=some (some (.ref mH)))(LX:K.lookup mH=some ⟨ack,aa9,.func (fnOf "do" "Deed.do" (aH sr) (ax sr) (ae sr) .none acm acn aco aba Qe acp),abu⟩)(LY:codeIn K Qe "Deed.do" = true)(Cc:keepIn K (.ref mH)=true)(EF:isFn K (.ref mH)=true)(ub:findIn K (.ref bp) "perform"=some (some (.ref dX)))(uc:K.lookup dX=some ⟨NG,Nu,.func (fnOf "perform" "Book.perform" (aH iE) (ax iE) (ae iE) .none NH NI NJ Nv zt NK),Ny⟩)(ud:codeIn K zt "Book.perform" = true)(oh:keepIn K (.ref dX)=true)(qZ:isFn K (.ref dX)=true)(LZ:nsIn K mainGlobals "low_end"=some (some (.ref o6)))(L0:K.lookup o6=some ⟨acq,abb,.func (fnOf "low_end" "low_end" (aH su) (ax su) (ae su) .none acr acs acu abc Qf acv),abv⟩)(L1:codeIn K Qf "low_end"=true)(L3:keepIn K (.ref o6)=true)(EG:nsIn K mainGlobals "high_end"=some (some (.ref md)))(EH:K.lookup md=some ⟨Y7,YD,.func (fnOf "high_end" "high_end" (aH oO) (ax oO) (ae oO) .none Y8 Y9 Za YE M7 Zb),YM⟩)(EI:codeIn K M7 "high_end"=true)(EJ:keepIn K (.ref md)=true)(QT:nsIn K mainGlobals "window"=some (some (.ref tF)))(QU:K.lookup tF=some ⟨afR,afe,.func (fnOf "window" "window" (aH wG) (ax wG) (ae wG) .none afS afT afU aff Tg afV),afp⟩)(QV:codeIn K Tg "window"=true)(QW:keepIn K (.ref tF)=true)(mh:findIn K (.ref bp) "plain_voice"=some (some (.ref bR)))(mi:K.lookup bR=some ⟨Cj,Cf,.func (fnOf "plain_voice" "Book.plain_voice" (aH cB) (ax cB) (ae cB) .none Ck Cm Cn Cg rH Co),Ci⟩)(mj:codeIn K rH "Book.plain_voice" = true)(jo:keepIn K (.ref bR)=true)(lz:isFn K (.ref bR)=true)(q8:findIn K (.ref bL) "__init__"=some (some (.ref dr)))(q9:K.lookup dr=some ⟨Ky,J8,.func (fnOf "__init__" "Deed.__init__" (aH gx) (ax gx) (ae gx) .none Kz KA KC J9 xq KG),Kg⟩)(rb:codeIn K xq "Deed.__init__" = true)(rf:keepIn K (.ref dr)=true)(pS:isFn K (.ref dr)=true)(EK:findIn K (.ref bp) "put"=some (some (.ref eJ)))(EL:K.lookup eJ=some ⟨Zc,YF,.func (fnOf "put" "Book.put" (aH ia) (ax ia) (ae ia) .none Zd Ze Zf YG M8 Zg),YN⟩)(EM:codeIn K M8 "Book.put" = true)(yM:keepIn K (.ref eJ)=true)(Bj:isFn K (.ref eJ)=true)(EN:findIn K (.ref bp) "cut"=some (some (.ref ic)))(EO:K.lookup ic=some ⟨Zh,YH,.func (fnOf "cut" "Book.cut" (aH km) (ax km) (ae km) .none Zi Zj Zk YI M9 Zl),YO⟩)(ER:codeIn K M9 "Book.cut" = true)(yN:keepIn K (.ref ic)=true)(Bl:isFn K (.ref ic)=true)(Bm:findIn K (.ref bp) "swap"=some (some (.ref dY)))(Bn:K.lookup dY=some ⟨Wg,U4,.func (fnOf "swap" "Book.swap" (aH gF) (ax gF) (ae gF) .none Wh Wi Wj U7 Ie Wk),Vr⟩)(Bo:codeIn K Ie "Book.swap" = true)(vB:keepIn K (.ref dY)=true)(yO:isFn K (.ref dY)=true)(Bp:findIn K (.ref bp) "drop"=some (some (.ref ff)))(Br:K.lookup ff=some ⟨Wl,U8,.func (fnOf "drop" "Book.drop" (aH iR) (ax iR) (ae iR) .none Wm Wn Wo U9 Ig Wq),Vs⟩)(Bs:codeIn K Ig "Book.drop" = true)(vC:keepIn K (.ref ff)=true)(yP:isFn K (.ref ff)=true)(Bt:nsIn K mainGlobals "beginning"=some (some (.ref iS)))(Bu:K.lookup iS=some ⟨Wr,Va,.func (fnOf "beginning" "beginning" (aH kn) (ax kn) (ae kn) .none Ws Wt Wu Vb Ih Wv),Vt⟩)(Bv:codeIn K Ih "beginning"=true)(Bx:keepIn K (.ref iS)=true)(QX:nsIn K mainGlobals "sounds"=some (some (.ref tG)))(QY:K.lookup tG=some ⟨afW,afg,.func (fnOf "sounds" "sounds" (aH wH) (ax wH) (ae wH) .none afX afY afZ afh Ti af0),afq⟩)(QZ:codeIn K Ti "sounds"=true)(xh:keepIn K (.ref tG)=true)(W0:nsIn K mainGlobals "spans"=some (some (.ref uO)))(W2:K.lookup uO=some ⟨ait,aib,.func (fnOf "spans" "spans" (aH xK) (ax xK) (ae xK) .none aiu aiv aiw aic Zm aix),aih⟩)(W3:codeIn K Zm "spans"=true)(W4:keepIn K (.ref uO)=true)(Q0:nsIn K mainGlobals "ending"=some (some (.ref m8)))(Q1:K.lookup m8=some ⟨af1,afi,.func (fnOf "ending" "ending" (aH qt) (ax qt) (ae qt) .none af2 af3 af4 afj Tj af5),afr⟩)(Q2:codeIn K Tj "ending"=true)(Q3:keepIn K (.ref m8)=true)(L4:nsIn K mainGlobals "_law_asked"=some (some (.ref dn)))(L5:K.lookup dn=some ⟨acw,abd,.func (fnOf "_law_asked" "_law_asked" (aH dH) (ax dH) (ae dH) .none acx acy acz abe Qg acA),abw⟩)(L6:codeIn K Qg "_law_asked"=true)(L7:keepIn K (.ref dn)=true)(yQ:nsIn K mainGlobals "_law_no_voice"=some (some (.ref gH)))(yR:K.lookup gH=some ⟨R6,RI,.func (fnOf "_law_no_voice" "_law_no_voice" (aH i8) (ax i8) (ae i8) .none R7 R8 R9 RJ CM Sa),RN⟩)(yS:codeIn K CM "_law_no_voice"=true)(yT:keepIn K (.ref gH)=true)(L8:nsIn K mainGlobals "is_name"=some (some (.ref o7)))(L9:K.lookup o7=some ⟨acB,abf,.func (fnOf "is_name" "is_name" (aH sv) (ax sv) (ae sv) .none acC acD acE abg Qh acF),abx⟩)(Ma:codeIn K Qh "is_name"=true)(Mb:keepIn K (.ref o7)=true)(oi:findIn K (.ref bp) "refuse_new"=some (some (.ref bQ)))(oj:K.lookup bQ=some ⟨Ef,DK,.func (fnOf "refuse_new" "Book.refuse_new" (aH cm) (ax cm) (ae cm) .none Eg Eh Ei DM tY Ej),DS⟩)(om:codeIn K tY "Book.refuse_new" = true)(j6:keepIn K (.ref bQ)=true)(mn:isFn K (.ref bQ)=true)(v7:findIn K (.ref bp) "put_in"=some (some (.ref fg)))(v8:K.lookup fg=some ⟨Qi,PM,.func (fnOf "put_in" "Book.put_in" (aH jD) (ax jD) (ae jD) .none Qj Qk Ql PN AM Qm),PV⟩)(v9:codeIn K AM "Book.put_in" = true)(qk:keepIn K (.ref fg)=true)(ue:isFn K (.ref fg)=true)(pT:findIn K (.ref dR) "__init__"=some (some (.ref cX)))(pV:K.lookup cX=some ⟨Ii,Ho,.func (fnOf "__init__" "Voice.__init__" (aH fo) (ax fo) (ae fo) .none Ij Ik Il Hq vq Im),HA⟩)(pW:codeIn K vq "Voice.__init__" = true)(pX:keepIn K (.ref cX)=true)(oo:isFn K (.ref cX)=true)(pY:findIn K (.ref bp) "add_canon"=some (some (.ref bX)))(pZ:K.lookup bX=some ⟨Io,Hr,.func (fnOf "add_canon" "Book.add_canon" (aH cD) (ax cD) (ae cD) (.ref jX) Ip Iq Ir Hs vt Iu),HB⟩)(p3:codeIn K vt "Book.add_canon" = true)(kZ:keepIn K (.ref bX)=true)(oq:isFn K (.ref bX)=true)(j7:K.lookup jX=some ⟨Ek,DN,.seq #[.int 0 fD,.int 1 fE,.bool false] Ep,DT⟩)(p4:findIn K (.ref bp) "add_voice"=some (some (.ref cE)))(p5:K.lookup cE=some ⟨Iv,Ht,.func (fnOf "add_voice" "Book.add_voice" (aH dJ) (ax dJ) (ae dJ) .none Iw Iy Iz Hu vv IA),HC⟩)(p6:codeIn K vv "Book.add_voice" = true)(k9:keepIn K (.ref cE)=true)(ot:isFn K (.ref cE)=true)(By:findIn K (.ref bL) "undo"=some (some (.ref iT)))(Bz:K.lookup iT=some ⟨Ww,Vc,.func (fnOf "undo" "Deed.undo" (aH mF) (ax mF) (ae mF) .none Wx Wz WA Vd IB WB),Vu⟩)(BA:codeIn K IB "Deed.undo" = true)(vD:keepIn K (.ref iT)=true)(yU:isFn K (.ref iT)=true)(BB:findIn K (.ref bp) "undo"=some (some (.ref gI)))(BC:K.lookup gI=some ⟨WC,Ve,.func (fnOf "undo" "Book.undo" (aH ko) (ax ko) (ae ko) .none WE WG WH Vf IC WI),Vv⟩)(BD:codeIn K IC "Book.undo" = true)(vE:keepIn K (.ref gI)=true)(yV:isFn K (.ref gI)=true)(BE:findIn K (.ref bp) "redo"=some (some (.ref gJ)))(BF:K.lookup gJ=some ⟨WJ,Vg,.func (fnOf "redo" "Book.redo" (aH kq) (ax kq) (ae kq) .none WK WL WM Vh ID WN),Vy⟩)(BG:codeIn K ID "Book.redo" = true)(vF:keepIn K (.ref gJ)=true)(yW:isFn K (.ref gJ)=true)(acU:nsIn K mainGlobals "_law_do"=some (some (.ref lr)))(acV:K.lookup lr=some ⟨akc,ajX,.func (fnOf "_law_do" "_law_do" (aH l4) (ax l4) (ae l4) .none akd ake akf ajY adR akg),aj1⟩)(acW:codeIn K adR "_law_do"=true)(acX:keepIn K (.ref lr)=true)(Mc:nsIn K mainGlobals "_law_tried"=some (some (.ref mI)))(Md:K.lookup mI=some ⟨acG,abh,.func (fnOf "_law_tried" "_law_tried" (aH oP) (ax oP) (ae oP) .none acH acI acJ abi Qn acK),aby⟩)(Me:codeIn K Qn "_law_tried"=true)(Mf:keepIn K (.ref mI)=true)(adS:nsIn K mainGlobals "law"=some (some (.ref OZ)))(aiA:K.lookup OZ=some ⟨amt,amq,.func (fnOf "law" "law" (aH zS) (ax zS) (ae zS) .none amu amv amw amr aiy amx),ams⟩)(aiB:codeIn K aiy "law"=true)(aiC:keepIn K (.ref OZ)=true)(yX:nsIn K mainGlobals "ValueError"=some none)(aiD:nsIn K mainGlobals "all"=some none)(aiE:nsIn K mainGlobals "any"=some none)(acY:nsIn K mainGlobals "bool"=some none)(acZ:nsIn K mainGlobals "dict"=some none)(BH:nsIn K mainGlobals "enumerate"=some none)(aiF:nsIn K mainGlobals "int"=some none)(yY:nsIn K mainGlobals "isinstance"=some none)(aiG:nsIn K mainGlobals "len"=some none)(ac0:nsIn K mainGlobals "list"=some none)(aiH:nsIn K mainGlobals "max"=some none)(aiI:nsIn K mainGlobals "min"=some none)(W5:nsIn K mainGlobals "range"=some none)(aiJ:nsIn K mainGlobals "str"=some none)(aiK:nsIn K mainGlobals "sum"=some none)(W6:nsIn K mainGlobals "tuple"=some none)(aiL:nsIn K mainGlobals "zip"=some none)(uf:nsIn K mainGlobals "GREAT_KINDS"=some (some (.ref fh)))(ug:K.lookup fh=some ⟨.type "tuple",PQ,.seq #[.str (Str.ofString "G") Qo,.str (Str.ofString "D") Qp,.str (Str.ofString "R") Qq] Sb,PX⟩)(uh:nsIn K mainGlobals "SMALL_KINDS"=some (some (.ref ie)))(ui:K.lookup ie=some ⟨.type "tuple",PR,.seq #[.str (Str.ofString "s") Qr,.str (Str.ofString "d") Qs,.str (Str.ofString "r") Qt] Sd,PY⟩)(p7:nsIn K mainGlobals "PARTING_KINDS"=some (some (.ref eK)))(p8:K.lookup eK=some ⟨.type "tuple",Ka,.seq #[.str (Str.ofString ".") KH,.str (Str.ofString "3") KJ,.str (Str.ofString "2") KL] NQ,Kh⟩)(p9:nsIn K mainGlobals "MEASURE_KINDS"=some (some (.ref dt)))(qa:K.lookup dt=some ⟨.type "tuple",Kb,.seq #[.str (Str.ofString "3") KN,.str (Str.ofString "2") KO] NR,Ki⟩)(ou:nsIn K mainGlobals "SOUNDING_KINDS"=some (some (.ref cY)))(ow:K.lookup cY=some ⟨.type "tuple",Hv,.seq #[.str (Str.ofString "G") IE,.str (Str.ofString "D") IF,.str (Str.ofString "s") IG,.str (Str.ofString "d") IH] Le,HD⟩)(rg:nsIn K mainGlobals "SILENT_KINDS"=some (some (.ref fF)))(rh:K.lookup fF=some ⟨.type "tuple",Nw,.seq #[.str (Str.ofString "R") NL,.str (Str.ofString "r") NM,.str (Str.ofString ".") NN,.str (Str.ofString "3") NO,.str (Str.ofString "2") NP] Qu,Nz⟩)(rj:nsIn K mainGlobals "HIGHEST_TONE"=some (some (.int 99 nc)))(rk:nsIn K mainGlobals "TURNED_KINDS"=some (some (.ref dZ)))(rl:K.lookup dZ=some ⟨.type "dict",none,.dict #[⟨PyData.keyHash w.params (Str.ofString "3"),.str (Str.ofString "3") KR,.str (Str.ofString "2") KP⟩,⟨PyData.keyHash w.params (Str.ofString "2"),.str (Str.ofString "2") KS,.str (Str.ofString "3") KQ⟩] Qv,#[]⟩)(rm:(dZ==sysModules)=false)(rp:nsIn K mainGlobals "PLAIN_WORTHS"=some (some (.ref d3)))(rq:K.lookup d3=some ⟨.type "dict",none,.dict #[⟨PyData.keyHash w.params (Str.ofString "G"),.str (Str.ofString "G") K5,.int 3 KU⟩,⟨PyData.keyHash w.params (Str.ofString "D"),.str (Str.ofString "D") K6,.int 2 KW⟩,⟨PyData.keyHash w.params (Str.ofString "R"),.str (Str.ofString "R") K7,.int 3 KY⟩,⟨PyData.keyHash w.params (Str.ofString "s"),.str (Str.ofString "s") K8,.int 1 KZ⟩,⟨PyData.keyHash w.params (Str.ofString "d"),.str (Str.ofString "d") K9,.int 1 K0⟩,⟨PyData.keyHash w.params (Str.ofString "r"),.str (Str.ofString "r") La,.int 1 K1⟩,⟨PyData.keyHash w.params (Str.ofString "."),.str (Str.ofString ".") Lb,.int 0 K2⟩,⟨PyData.keyHash w.params (Str.ofString "3"),.str (Str.ofString "3") Lc,.int 0 K3⟩,⟨PyData.keyHash w.params (Str.ofString "2"),.str (Str.ofString "2") Ld,.int 0 K4⟩] Qw,#[]⟩)(rA:(d3==sysModules)=false)(ox:nsIn K mainGlobals "TWOFOLD_WORTHS"=some (some (.ref cF)))(oy:K.lookup cF=some ⟨.type "dict",none,.dict #[⟨PyData.keyHash w.params (Str.ofString "G"),.str (Str.ofString "G") En,.int 2 El⟩,⟨PyData.keyHash w.params (Str.ofString "R"),.str (Str.ofString "R") Eo,.int 2 Em⟩] Lf,#[]⟩)(oz:(cF==sysModules)=false)(wa:nsIn K mainGlobals "FULL_WORTH"=some (some (.int 3 rQ)))(mq:nsIn K mainGlobals "SHORTENED_WORTH"=some (some (.int 2 jY)))(qb:nsIn K mainGlobals "DOUBLED_WORTH"=some (some (.int 2 lP)))(rB:nsIn K mainGlobals "DOTTED_WORTH"=some (some (.int 3 ng)))(ES:nsIn K mainGlobals "LETTERS"=some (some (.str (Str.ofString "abcdefghijklmnopqrstuvwxyz") BX)))(rC:nsIn K mainGlobals "LONGEST_NAME"=some (some (.int 8 nh)))(uj:nsIn K mainGlobals "MOST_VOICES"=some (some (.int 12 qf)))(wb:nsIn K mainGlobals "MOST_SIGNS"=some (some (.int 200 rR)))(Mg:nsIn K mainGlobals "LATEST"=some (some (.int 999 Gf)))(ET:nsIn K mainGlobals "SLOWEST"=some (some (.int 9 BY)))(Mh:makesIn K dR=true)(Mi:keepIn K (.ref dR)=true)(Q4:plainGet K dR Str.empty=true)(Q5:hasDictIn K dR=true)(Q6:plainOver K dR=true)(Q7:findIn K (.ref dR) "__setattr__"=some (some (.builtin "object.__setattr__")))(ig:findIn K (.ref dR) "name"=some none)(df:findIn K (.ref dR) "terms"=some none)(cP:findIn K (.ref dR) "signs"=some none)(Q8:makesIn K bL=true)(Q9:keepIn K (.ref bL)=true)(W7:plainGet K bL Str.empty=true)(W8:hasDictIn K bL=true)(W9:plainOver K bL=true)(Xa:findIn K (.ref bL) "__setattr__"=some (some (.builtin "object.__setattr__")))(fH:findIn K (.ref bL) "things"=some none)(jf:findIn K (.ref bL) "at"=some none)(fI:findIn K (.ref bL) "before"=some none)(ij:findIn K (.ref bL) "after"=some none)(Ra:makesIn K bp=true)(Rb:keepIn K (.ref bp)=true)(Xb:plainGet K bp Str.empty=true)(Xc:hasDictIn K bp=true)(Xd:plainOver K bp=true)(Xe:findIn K (.ref bp) "__setattr__"=some (some (.builtin "object.__setattr__")))(b9:findIn K (.ref bp) "voices"=some none)(e8:findIn K (.ref bp) "done"=some none)(dg:findIn K (.ref bp) "undone"=some none)(EU:nsIn K mainGlobals "NoVoice"=some (some (.ref aG)))(EV:nsIn K mainGlobals "NoPlace"=some (some (.ref aE)))(EW:nsIn K mainGlobals "BadSign"=some (some (.ref aZ)))(BI:nsIn K mainGlobals "NotPlain"=some (some (.ref ay)))(Xf:nsIn K mainGlobals "Full"=some (some (.ref bY)))(Mj:nsIn K mainGlobals "Leaned"=some (some (.ref aK)))(yZ:nsIn K mainGlobals "NoteError"=some (some (.ref bq)))(EX:nsIn K mainGlobals "BadName"=some (some (.ref aF)))(y8:nsIn K mainGlobals "NameTaken"=some (some (.ref aN)))(EY:nsIn K mainGlobals "BadTerm"=some (some (.ref a6)))(Ml:nsIn K mainGlobals "NoMore"=some (some (.ref bf)))(EZ:excIn K aG mT "ValueError.__new__" = true)(E2:findIn K (.ref aG) "__getattribute__"=some (some (.builtin "BaseException.__getattribute__")))(E3:findIn K (.ref aG) "__getattr__"=some none)(E4:findIn K (.ref aG) "__class__"=some (some (.builtin "object.__class__")))(E5:excIn K aE mT "ValueError.__new__" = true)(E6:findIn K (.ref aE) "__getattribute__"=some (some (.builtin "BaseException.__getattribute__")))(E7:findIn K (.ref aE) "__getattr__"=some none)(E8:findIn K (.ref aE) "__class__"=some (some (.builtin "object.__class__")))(E9:excIn K aZ mT "ValueError.__new__" = true)(Fb:findIn K (.ref aZ) "__getattribute__"=some (some (.builtin "BaseException.__getattribute__")))(Fc:findIn K (.ref aZ) "__getattr__"=some none)(Fd:findIn K (.ref aZ) "__class__"=some (some (.builtin "object.__class__")))(BJ:excIn K ay mT "ValueError.__new__" = true)(BK:findIn K (.ref ay) "__getattribute__"=some (some (.builtin "BaseException.__getattribute__")))(BL:findIn K (.ref ay) "__getattr__"=some none)(BM:findIn K (.ref ay) "__class__"=some (some (.builtin "object.__class__")))(Xg:excIn K bY mT "ValueError.__new__" = true)(Xh:findIn K (.ref bY) "__getattribute__"=some (some (.builtin "BaseException.__getattribute__")))(Xi:findIn K (.ref bY) "__getattr__"=some none)(Xj:findIn K (.ref bY) "__class__"=some (some (.builtin "object.__class__")))(Mm:excIn K aK mT "ValueError.__new__" = true)(Mn:findIn K (.ref aK) "__getattribute__"=some (some (.builtin "BaseException.__getattribute__")))(Mo:findIn K (.ref aK) "__getattr__"=some none)(Mp:findIn K (.ref aK) "__class__"=some (some (.builtin "object.__class__")))(Fe:excIn K aF mT "ValueError.__new__" = true)(Ff:findIn K (.ref aF) "__getattribute__"=some (some (.builtin "BaseException.__getattribute__")))(Fg:findIn K (.ref aF) "__getattr__"=some none)(Fh:findIn K (.ref aF) "__class__"=some (some (.builtin "object.__class__")))(y9:excIn K aN mT "ValueError.__new__" = true)(za:findIn K (.ref aN) "__getattribute__"=some (some (.builtin "BaseException.__getattribute__")))(zb:findIn K (.ref aN) "__getattr__"=some none)(zc:findIn K (.ref aN) "__class__"=some (some (.builtin "object.__class__")))(Fi:excIn K a6 mT "ValueError.__new__" = true)(Fj:findIn K (.ref a6) "__getattribute__"=some (some (.builtin "BaseException.__getattribute__")))(Fl:findIn K (.ref a6) "__getattr__"=some none)(Fm:findIn K (.ref a6) "__class__"=some (some (.builtin "object.__class__")))(Mq:excIn K bf mT "ValueError.__new__" = true)(Mr:findIn K (.ref bf) "__getattribute__"=some (some (.builtin "BaseException.__getattribute__")))(Mt:findIn K (.ref bf) "__getattr__"=some none)(Mu:findIn K (.ref bf) "__class__"=some (some (.builtin "object.__class__")))(d5:exmOne K (.ref aG) (.ref bq)=some true)(gR:exmOne K (.ref aE) (.ref bq)=some true)(gS:exmOne K (.ref aZ) (.ref bq)=some true)(gf:exmOne K (.ref ay) (.ref bq)=some true)(j3:exmOne K (.ref bY) (.ref bq)=some true)(ir:exmOne K (.ref aK) (.ref bq)=some true)(gT:exmOne K (.ref aF) (.ref bq)=some true)(e9:exmOne K (.ref aN) (.ref bq)=some true)(gU:exmOne K (.ref a6) (.ref bq)=some true)(iu:exmOne K (.ref bf) (.ref bq)=some true)(bo:kitAny K (.ref aG) [.ref ay,.ref aE,.ref aF,.ref aK]=some false)(bE:kitAny K (.ref aE) [.ref ay,.ref aE,.ref aF,.ref aK]=some true)(bF:kitAny K (.ref aZ) [.ref ay,.ref aE,.ref aF,.ref aK]=some false)(bB:kitAny K (.ref ay) [.ref ay,.ref aE,.ref aF,.ref aK]=some true)(bM:kitAny K (.ref bY) [.ref ay,.ref aE,.ref aF,.ref aK]=some false)(bJ:kitAny K (.ref aK) [.ref ay,.ref aE,.ref aF,.ref aK]=some true)(bG:kitAny K (.ref aF) [.ref ay,.ref aE,.ref aF,.ref aK]=some true)(bx:kitAny K (.ref aN) [.ref ay,.ref aE,.ref aF,.ref aK]=some false)(bH:kitAny K (.ref a6) [.ref ay,.ref aE,.ref aF,.ref aK]=some false)(bK:kitAny K (.ref bf) [.ref ay,.ref aE,.ref aF,.ref aK]=some false)(fJ:kitOne K (.ref aG) (.ref aG)=some true)(jg:kitOne K (.ref aE) (.ref aG)=some false)(jh:kitOne K (.ref aZ) (.ref aG)=some false)(iw:kitOne K (.ref ay) (.ref aG)=some false)(lT:kitOne K (.ref bY) (.ref aG)=some false)(j4:kitOne K (.ref aK) (.ref aG)=some false)(ji:kitOne K (.ref aF) (.ref aG)=some false)(gW:kitOne K (.ref aN) (.ref aG)=some false)(jj:kitOne K (.ref a6) (.ref aG)=some false)(j5:kitOne K (.ref bf) (.ref aG)=some false)(dD:kitOne K (.ref aG) (.type "ValueError")=some true)(gh:kitOne K (.ref aE) (.type "ValueError")=some true)(gi:kitOne K (.ref aZ) (.type "ValueError")=some true)(fb:kitOne K (.ref ay) (.type "ValueError")=some true)(jk:kitOne K (.ref bY) (.type "ValueError")=some true)(gX:kitOne K (.ref aK) (.type "ValueError")=some true)(gj:kitOne K (.ref aF) (.type "ValueError")=some true)(eD:kitOne K (.ref aN) (.type "ValueError")=some true)(gk:kitOne K (.ref a6) (.type "ValueError")=some true)(gY:kitOne K (.ref bf) (.type "ValueError")=some true)(fK:exmOne K (.ref aG) (.ref aF)=some false)(d6:exmOne K (.ref aG) (.ref aN)=some false)(jw:exmOne K (.ref aG) (.ref bY)=some false)(fL:exmOne K (.ref aG) (.ref aG)=some true)(fM:exmOne K (.ref aE) (.ref aF)=some false)(d7:exmOne K (.ref aE) (.ref aN)=some false)(jx:exmOne K (.ref aE) (.ref bY)=some false)(fN:exmOne K (.ref aE) (.ref aG)=some false)(eO:exmOne K (.ref aE) (.ref ay)=some false)(fO:exmOne K (.ref aE) (.ref aE)=some true)(fP:exmOne K (.ref aZ) (.ref aF)=some false)(d8:exmOne K (.ref aZ) (.ref aN)=some false)(jy:exmOne K (.ref aZ) (.ref bY)=some false)(fQ:exmOne K (.ref aZ) (.ref aG)=some false)(eP:exmOne K (.ref aZ) (.ref ay)=some false)(fR:exmOne K (.ref aZ) (.ref aE)=some false)(fS:exmOne K (.ref aZ) (.ref aZ)=some true)(eQ:exmOne K (.ref ay) (.ref aF)=some false)(dE:exmOne K (.ref ay) (.ref aN)=some false)(iK:exmOne K (.ref ay) (.ref bY)=some false)(eR:exmOne K (.ref ay) (.ref aG)=some false)(d9:exmOne K (.ref ay) (.ref ay)=some true)(jz:exmOne K (.ref bY) (.ref aF)=some false)(gZ:exmOne K (.ref bY) (.ref aN)=some false)(nG:exmOne K (.ref bY) (.ref bY)=some true)(g4:exmOne K (.ref aK) (.ref aF)=some false)(eS:exmOne K (.ref aK) (.ref aN)=some false)(kE:exmOne K (.ref aK) (.ref bY)=some false)(g5:exmOne K (.ref aK) (.ref aG)=some false)(fU:exmOne K (.ref aK) (.ref ay)=some false)(g6:exmOne K (.ref aK) (.ref aE)=some false)(g7:exmOne K (.ref aK) (.ref aZ)=some false)(g8:exmOne K (.ref aK) (.ref a6)=some false)(iL:exmOne K (.ref aK) (.ref aK)=some true)(fV:exmOne K (.ref aF) (.ref aF)=some true)(ee:exmOne K (.ref aN) (.ref aF)=some false)(dh:exmOne K (.ref aN) (.ref aN)=some true)(fW:exmOne K (.ref a6) (.ref aF)=some false)(eh:exmOne K (.ref a6) (.ref aN)=some false)(jA:exmOne K (.ref a6) (.ref bY)=some false)(fX:exmOne K (.ref a6) (.ref aG)=some false)(eU:exmOne K (.ref a6) (.ref ay)=some false)(fY:exmOne K (.ref a6) (.ref aE)=some false)(fZ:exmOne K (.ref a6) (.ref aZ)=some false)(f6:exmOne K (.ref a6) (.ref a6)=some true)(g9:exmOne K (.ref bf) (.ref aF)=some false)(eV:exmOne K (.ref bf) (.ref aN)=some false)(kF:exmOne K (.ref bf) (.ref bY)=some false)(hI:exmOne K (.ref bf) (.ref aG)=some false)(f7:exmOne K (.ref bf) (.ref ay)=some false)(hV:exmOne K (.ref bf) (.ref aE)=some false)(hX:exmOne K (.ref bf) (.ref aZ)=some false)(hZ:exmOne K (.ref bf) (.ref a6)=some false)(iN:exmOne K (.ref bf) (.ref aK)=some false)(iO:exmOne K (.ref bf) (.ref bf)=some true) :
  ∃ fd:FuncData,(∀(s:Shared)(v:Value),BindsTo s fd ⟨[v],[]⟩ [("_law_script",v)])/\∀ base:Heap,K.In base->base.Ns mainGlobals mg->bI l.prog w K mg base lB 11 fa fd ["_law_script"] (Ot K):=by
 have e:=hfa.symm.trans (mg_of X G adS);cases e;have lQ:=a7 (st:=gs) qO qP qQ;have qK:=lQ.binds (ps:=["self"]) fun _ _ _ _ _ _=>oE fun _=>rfl;have rS:=a7 (st:=kM) yB yC rY;have kQ:=rS.binds (ps:=["self"]) fun _ _ _ _ _ _=>oE fun _=>rfl;have ip:=a7 (st:=cI) lx ly iy;have cJ:=ip.binds (ps:=["self","name"]) fun _ _ _ _ _ _=>dQ fun _ _=>rfl;have rT:=a7 (st:=i7) yE yF rZ;have gK:=rT.binds (ps:=["self","name"]) fun _ _ _ _ _ _=>dQ fun _ _=>rfl;have mJ:=a7 (st:=r0) Lh Li Lj;have sy:=mJ.binds (ps:=["_law_found"]) fun _ _ _ _ _ _=>oE fun _=>rfl;have wJ:=a7 (st:=r6) Ll Lm Ln;have JC:=wJ.binds (ps:=["_law_found","_law_due"]) fun _ _ _ _ _ _=>dQ fun _ _=>rfl;have Ah:=a7 (st:=wA) Qz QA QB;have O0:=Ah.binds (ps:=["_law_found","_law_due"]) fun _ _ _ _ _ _=>dQ fun _ _=>rfl;have iG:=a7 (st:=iD) t6 t7 ua;have nj:=iG.binds (ps:=["sign"]) fun _ _ _ _ _ _=>oE fun _=>rfl;have mf:=NT (st:=oK) Es Et Eu;have x6:Binds K _ ["line","begin"] []:=mf.binds (ds:=[]) vy rfl fun _ _ _ _ _ _ us hl=>by obtain⟨_,_,rfl⟩:=ah5 hl;exact⟨_,rfl,rfl⟩
 have ML:Binds K _ ["line","begin"] [.int 3 mX]:=mf.binds vy rfl fun _ _ _ _ _ _ us hl=>by have hl:us.length=1:=(by simpa using hl);obtain⟨_,rfl⟩:=adO hl;exact⟨_,rfl,rfl⟩
 have gy:=a7 (st:=r9) Lp Lq Lr;have jF:=gy.binds (ps:=["line","at"]) fun _ _ _ _ _ _=>dQ fun _ _=>rfl;have lJ:=a7 (st:=jC) vX vY vZ;have vR:=lJ.binds (ps:=["kind","measure"]) fun _ _ _ _ _ _=>dQ fun _ _=>rfl;have dB:=a7 (st:=cO) jN jO jP;have jL:=dB.binds (ps:=["line","begin"]) fun _ _ _ _ _ _=>dQ fun _ _=>rfl;have BZ:=a7 (st:=BU) WT WU GD;have NX:=BZ.binds (ps:=["sign"]) fun _ _ _ _ _ _=>oE fun _=>rfl;have JD:=NT (st:=IZ) acN acO acP;have aai:Binds K _ ["line","begin"] []:=JD.binds (ds:=[]) NY rfl fun _ _ _ _ _ _ us hl=>by obtain⟨_,_,rfl⟩:=ah5 hl;exact⟨_,rfl,rfl⟩
 have adz:Binds K _ ["line","begin"] [.int 3 zV]:=JD.binds NY rfl fun _ _ _ _ _ _ us hl=>by have hl:us.length=1:=(by simpa using hl);obtain⟨_,rfl⟩:=adO hl;exact⟨_,rfl,rfl⟩
 have gA:=a7 (st:=gu) qS qT qU;have lR:=gA.binds (ps:=["line","found","first"]) fun _ _ _ _ _ _=>CI fun _ _ _=>rfl;have fq:=a7 (st:=fi) pH pI pJ;have kR:=fq.binds (ps:=["line","behind"]) fun _ _ _ _ _ _=>dQ fun _ _=>rfl;have gL:=a7 (st:=et) nQ nR nS;have nk:=gL.binds (ps:=["line","found","first","behind"]) fun _ _ _ _ _ _=>PJ fun _ _ _ _=>rfl;have gM:=a7 (st:=eA) nW nX nY;have nq:=gM.binds (ps:=["line","found","first","behind"]) fun _ _ _ _ _ _=>PJ fun _ _ _ _=>rfl;have nr:=a7 (st:=kO) yH yI yJ;have x9:=nr.binds (ps:=["line","found","first","behind"]) fun _ _ _ _ _ _=>PJ fun _ _ _ _=>rfl;have wL:=a7 (st:=sd) Lu Lv Lw;have JE:=wL.binds (ps:=["line","begin"]) fun _ _ _ _ _ _=>dQ fun _ _=>rfl;have tH:=NT (st:=wB) QD QE QF;have Gg:Binds K _ ["line","begin"] []:=tH.binds (ds:=[]) Cb rfl fun _ _ _ _ _ _ us hl=>by obtain⟨_,_,rfl⟩:=ah5 hl;exact⟨_,rfl,rfl⟩
 have SI:Binds K _ ["line","begin"] [.int 3 tf]:=tH.binds Cb rfl fun _ _ _ _ _ _ us hl=>by have hl:us.length=1:=(by simpa using hl);obtain⟨_,rfl⟩:=adO hl;exact⟨_,rfl,rfl⟩
 have wN:=a7 (st:=wC) QH QI QJ;have Gh:=wN.binds (ps:=["line"]) fun _ _ _ _ _ _=>oE fun _=>rfl;have qy:=a7 (st:=dU) AO AQ vz;have iU:=qy.binds (ps:=["self","name"]) fun _ _ _ _ _ _=>dQ fun _ _=>rfl;have uQ:=a7 (st:=gE) AS AU vA;have mK:=uQ.binds (ps:=["self","name"]) fun _ _ _ _ _ _=>dQ fun _ _=>rfl;have mL:=a7 (st:=mz) AW AX AY;have uR:=mL.binds (ps:=["_law_voices","_law_name"]) fun _ _ _ _ _ _=>dQ fun _ _=>rfl;have Ai:=a7 (st:=wD) QL QM QN;have O2:=Ai.binds (ps:=["_law_line","_law_begin"]) fun _ _ _ _ _ _=>dQ fun _ _=>rfl;have wO:=a7 (st:=se) Ly Lz LB;have JF:=wO.binds (ps:=["_law_line","_law_begin"]) fun _ _ _ _ _ _=>dQ fun _ _=>rfl;have Gj:=a7 (st:=BV) WW WY WZ;have Uh:=Gj.binds (ps:=["_law_line","_law_told","_law_low","_law_high"]) fun _ _ _ _ _ _=>PJ fun _ _ _ _=>rfl;have wQ:=a7 (st:=wF) QP QR QS;have Gk:=wQ.binds (ps:=["_law_line","_law_begin"]) fun _ _ _ _ _ _=>dQ fun _ _=>rfl;have qz:=a7 (st:=mB) A0 A1 A2;have Aj:=qz.binds (ps:=["_law_voices","_law_name"]) fun _ _ _ _ _ _=>dQ fun _ _=>rfl;have tI:=a7 (st:=oM) Ex Ey Ez;have Dk:=tI.binds (ps:=["_law_book","_law_voices"]) fun _ _ _ _ _ _=>dQ fun _ _=>rfl;have wR:=a7 (st:=sf) LF LG LH;have JG:=wR.binds (ps:=["_law_cell"]) fun _ _ _ _ _ _=>oE fun _=>rfl;have gN:=a7 (st:=mC) A4 A5 A6;have kD:=gN.binds (ps:=["_law_script","_law_k"]) fun _ _ _ _ _ _=>dQ fun _ _=>rfl;have qA:=a7 (st:=mD) A8 A9 Ba;have Ak:=qA.binds (ps:=["_law_number"]) fun _ _ _ _ _ _=>oE fun _=>rfl;have mM:=a7 (st:=bS) Bc Bd Be;have uS:=mM.binds (ps:=["_law_number"]) fun _ _ _ _ _ _=>oE fun _=>rfl;have pb:=a7 (st:=si) LJ LK LL;have wU:=pb.binds (ps:=["_law_seed","_law_k"]) fun _ _ _ _ _ _=>dQ fun _ _=>rfl;have wV:=a7 (st:=sj) LN LO LP;have JH:=wV.binds (ps:=["_law_script","_law_at","_law_many"]) fun _ _ _ _ _ _=>CI fun _ _ _=>rfl;have ph:=a7 (st:=sq) LR LS LV;have wW:=ph.binds (ps:=["_law_voices","_law_deed"]) fun _ _ _ _ _ _=>dQ fun _ _=>rfl;have iH:=a7 (st:=fk) pL pM pN;have pj:=iH.binds (ps:=["_law_voices","_law_name"]) fun _ _ _ _ _ _=>dQ fun _ _=>rfl;have gO:=a7 (st:=eB) n0 n5 n6;have nu:=gO.binds (ps:=["_law_voices","_law_deed"]) fun _ _ _ _ _ _=>dQ fun _ _=>rfl;have iI:=a7 (st:=fm) pP pQ pR;have pq:=iI.binds (ps:=["_law_voices","_law_deed"]) fun _ _ _ _ _ _=>dQ fun _ _=>rfl;have qB:=a7 (st:=mE) Bg Bh Bi;have Al:=qB.binds (ps:=["_law_stand","_law_deed"]) fun _ _ _ _ _ _=>dQ fun _ _=>rfl;have ju:=a7 (st:=gw) qW qX qY;have qL:=ju.binds (ps:=["_law_line","_law_deed","_law_at"]) fun _ _ _ _ _ _=>CI fun _ _ _=>rfl;have tJ:=a7 (st:=oN) EB EC ED;have Dp:=tJ.binds (ps:=["_law_stand","_law_deed"]) fun _ _ _ _ _ _=>dQ fun _ _=>rfl;have cg:=a7 (st:=cb) jR jS jT;have dC:=cg.binds (ps:=["at","last"]) fun _ _ _ _ _ _=>dQ fun _ _=>rfl;have O3:=a7 (st:=Ja) acR acS acT;have aan:=O3.binds (ps:=["sign"]) fun _ _ _ _ _ _=>oE fun _=>rfl;have eC:=a7 (st:=c7) n9 oa og;have jZ:=eC.binds (ps:=["sign"]) fun _ _ _ _ _ _=>oE fun _=>rfl;have B6:=a7 (st:=sr) LX LY Cc;have B7:=B6.binds (ps:=["self"]) fun _ _ _ _ _ _=>oE fun _=>rfl;have nC:=a7 (st:=iE) uc ud oh;have fG:=nC.binds (ps:=["self","deed"]) fun _ _ _ _ _ _=>dQ fun _ _=>rfl;have wX:=a7 (st:=su) L0 L1 L3;have JJ:=wX.binds (ps:=["line","at"]) fun _ _ _ _ _ _=>dQ fun _ _=>rfl;have tL:=a7 (st:=oO) EH EI EJ;have Dq:=tL.binds (ps:=["line","first","kinds"]) fun _ _ _ _ _ _=>CI fun _ _ _=>rfl;have tM:=a7 (st:=wG) QU QV QW;have Am:=tM.binds (ps:=["line","at","behind","changed"]) fun _ _ _ _ _ _=>PJ fun _ _ _ _=>rfl;have jd:=a7 (st:=cB) mi mj jo;have dP:=jd.binds (ps:=["self","name"]) fun _ _ _ _ _ _=>dQ fun _ _=>rfl;have lS:=a7 (st:=gx) q9 rb rf;have eL:=lS.binds (ps:=["self","things","at","before","after"]) fun _ _ _ _ _ _=>aoF fun _ _ _ _ _=>rfl;have ya:=a7 (st:=ia) EL EM yM;have yb:=ya.binds (ps:=["self","name","at","sign"]) fun _ _ _ _ _ _=>PJ fun _ _ _ _=>rfl;have yc:=a7 (st:=km) EO ER yN;have yd:=yc.binds (ps:=["self","name","at"]) fun _ _ _ _ _ _=>CI fun _ _ _=>rfl;have uT:=a7 (st:=gF) Bn Bo vB;have uU:=uT.binds (ps:=["self","name","at","sign"]) fun _ _ _ _ _ _=>PJ fun _ _ _ _=>rfl;have uV:=a7 (st:=iR) Br Bs vC;have uW:=uV.binds (ps:=["self","name"]) fun _ _ _ _ _ _=>dQ fun _ _=>rfl;have mO:=a7 (st:=kn) Bu Bv Bx;have uX:=mO.binds (ps:=["book","name"]) fun _ _ _ _ _ _=>dQ fun _ _=>rfl;have Gv:=a7 (st:=wH) QY QZ xh;have Yc:=Gv.binds (ps:=["sign"]) fun _ _ _ _ _ _=>oE fun _=>rfl;have Gw:=a7 (st:=xK) W2 W3 W4;have Ul:=Gw.binds (ps:=["book","name"]) fun _ _ _ _ _ _=>dQ fun _ _=>rfl;have An:=a7 (st:=qt) Q1 Q2 Q3;have O5:=An.binds (ps:=["book","name"]) fun _ _ _ _ _ _=>dQ fun _ _=>rfl;have wY:=a7 (st:=dH) L5 L6 L7;have JL:=wY.binds (ps:=["_law_book","_law_door","_law_name"]) fun _ _ _ _ _ _=>CI fun _ _ _=>rfl;have nE:=a7 (st:=i8) yR yS yT;have ye:=nE.binds (ps:=["_law_book","_law_door","_law_name"]) fun _ _ _ _ _ _=>CI fun _ _ _=>rfl;have wZ:=a7 (st:=sv) L9 Ma Mb;have JM:=wZ.binds (ps:=["name"]) fun _ _ _ _ _ _=>oE fun _=>rfl;have j0:=a7 (st:=cm) oj om j6;have j1:=j0.binds (ps:=["self","name"]) fun _ _ _ _ _ _=>dQ fun _ _=>rfl;have qh:=a7 (st:=jD) v8 v9 qk;have qi:=qh.binds (ps:=["self","voice"]) fun _ _ _ _ _ _=>dQ fun _ _=>rfl;have kU:=a7 (st:=fo) pV pW pX;have kW:=kU.binds (ps:=["self","name","terms"]) fun _ _ _ _ _ _=>CI fun _ _ _=>rfl;have iJ:=NT (st:=cD) pZ p3 kZ;have pA:Binds K _ ["self","name","leader","later","slow","is_turned"] []:=iJ.binds (ds:=[]) j7 rfl fun _ _ _ _ _ _ us hl=>by obtain⟨_,_,_,_,_,_,rfl⟩:=aoH hl;exact⟨_,rfl,rfl⟩
 have nF:Binds K _ ["self","name","leader","later","slow","is_turned"] [.int 0 fD,.int 1 fE,.bool false]:=iJ.binds j7 rfl fun _ _ _ _ _ _ us hl=>by have hl:us.length=3:=(by simpa using hl);obtain⟨_,_,_,rfl⟩:=akW hl;exact⟨_,rfl,rfl⟩
 have kX:=a7 (st:=dJ) p5 p6 k9;have pB:=kX.binds (ps:=["self","name"]) fun _ _ _ _ _ _=>dQ fun _ _=>rfl;have uZ:=a7 (st:=mF) Bz BA vD;have Ap:=uZ.binds (ps:=["self"]) fun _ _ _ _ _ _=>oE fun _=>rfl;have va:=a7 (st:=ko) BC BD vE;have Aq:=va.binds (ps:=["self"]) fun _ _ _ _ _ _=>oE fun _=>rfl;have vb:=a7 (st:=kq) BF BG vF;have Ar:=vb.binds (ps:=["self"]) fun _ _ _ _ _ _=>oE fun _=>rfl;have O6:=a7 (st:=l4) acV acW acX;have aar:=O6.binds (ps:=["_law_book","_law_deed","_law_at"]) fun _ _ _ _ _ _=>CI fun _ _ _=>rfl;have w4:=a7 (st:=oP) Md Me Mf;have JN:=w4.binds (ps:=["_law_book","_law_deed","_law_at"]) fun _ _ _ _ _ _=>CI fun _ _ _=>rfl;have adA:=a7 (st:=zS) aiA aiB aiC;have akR:=adA.binds (ps:=["_law_script"]) fun _ _ _ _ _ _=>oE fun _=>rfl;have T:Txt K w mg ⟨_,_,_,_,_,_,_,_,_,_,_,_,_,_,_,_,_,_,_,mX,_,_,_,_,_,_,_,_,_,_,_,zV,_,_,_,_,_,_,_,_,_,_,_,_,_,_,_,tf,_,_,_,_,_,_,_,_,_,_,_,_,_,_,_,_,_,_,_,_,_,_,_,_,_,_,_,_,_,_,_,_,_,_,_,_,_,_,_,_,_,_,_,_,_,_,_,_,_,_,_,_,_,_,_,_,_,_,_,_,_,_,_,_,_,_,_,_,_,_,_,_,_,_,_,_,_,_,_,_,_,_,_,_,_,_,_,_,_,_,_,_,_,_,_,_,_,fD,fE,_,_,_,_,_,_,_,_,_,_,_,_,_,_,fh,ie,eK,dt,cY,fF,nc,dZ,d3,cF,rQ,jY,lP,ng,BX,nh,qf,rR,Gf,BY,dR,bL,bp,aG,aE,aZ,ay,bY,aK,bq,aF,aN,a6,bf⟩:=⟨lQ,qK,rS,kQ,⟨yA,vU,rY⟩,ip,cJ,⟨lu,kH,iy⟩,rT,gK,⟨yD,vV,rZ⟩,mJ,sy,mg_of X G Lg,wJ,JC,mg_of X G Lk,Ah,O0,mg_of X G Qy,iG,nj,mg_of X G tZ,mf,ML,x6,mg_of X G Er,gy,jF,mg_of X G Lo,lJ,vR,mg_of X G vW,dB,jL,mg_of X G jM,BZ,NX,mg_of X G WS,JD,adz,aai,mg_of X G acM,gA,lR,mg_of X G qR,fq,kR,mg_of X G pG,gL,nk,mg_of X G nP,gM,nq,mg_of X G nV,nr,x9,mg_of X G yG,wL,JE,mg_of X G Ls,tH,SI,Gg,mg_of X G QC,wN,Gh,mg_of X G QG,qy,iU,⟨AN,yK,vz⟩,uQ,mK,⟨AR,yL,vA⟩,mL,uR,mg_of X G AV,Ai,O2,mg_of X G QK,wO,JF,mg_of X G Lx,Gj,Uh,mg_of X G WV,wQ,Gk,mg_of X G QO,qz,Aj,mg_of X G AZ,tI,Dk,mg_of X G Ew,wR,JG,mg_of X G LC,gN,kD,mg_of X G A3,qA,Ak,mg_of X G A7,mM,uS,mg_of X G Bb,pb,wU,mg_of X G LI,wV,JH,mg_of X G LM,ph,wW,mg_of X G LQ,iH,pj,mg_of X G pK,gO,nu,mg_of X G nZ,iI,pq,mg_of X G pO,qB,Al,mg_of X G Bf,ju,qL,mg_of X G qV,tJ,Dp,mg_of X G EA,cg,dC,mg_of X G jQ,O3,aan,mg_of X G acQ,eC,jZ,mg_of X G n8,B6,B7,⟨LW,EF,Cc⟩,nC,fG,⟨ub,qZ,oh⟩,wX,JJ,mg_of X G LZ,tL,Dq,mg_of X G EG,tM,Am,mg_of X G QT,jd,dP,⟨mh,lz,jo⟩,lS,eL,ya,yb,⟨EK,Bj,yM⟩,yc,yd,⟨EN,Bl,yN⟩,uT,uU,⟨Bm,yO,vB⟩,uV,uW,⟨Bp,yP,vC⟩,mO,uX,mg_of X G Bt,Gv,Yc,mg_of X G QX,Gw,Ul,mg_of X G W0,An,O5,mg_of X G Q0,wY,JL,mg_of X G L4,nE,ye,mg_of X G yQ,wZ,JM,mg_of X G L8,j0,j1,⟨oi,mn,j6⟩,qh,qi,⟨v7,ue,qk⟩,kU,kW,iJ,nF,pA,⟨pY,oq,kZ⟩,kX,pB,⟨p4,ot,k9⟩,uZ,Ap,⟨By,yU,vD⟩,va,Aq,⟨BB,yV,vE⟩,vb,Ar,⟨BE,yW,vF⟩,O6,aar,mg_of X G acU,w4,JN,mg_of X G Mc,adA,akR,mg_of X G adS,mg_none_of X G yX,mg_none_of X G aiD,mg_none_of X G aiE,mg_none_of X G acY,mg_none_of X G acZ,mg_none_of X G BH,mg_none_of X G aiF,mg_none_of X G yY,mg_none_of X G aiG,mg_none_of X G ac0,mg_none_of X G aiH,mg_none_of X G aiI,mg_none_of X G W5,mg_none_of X G aiJ,mg_none_of X G aiK,mg_none_of X G W6,mg_none_of X G aiL,mg_of X G uf,(fun H=>.inr ⟨_,_,_,ug,rfl,rfl,(by show 3<=sizeLine;decide),(.cons ⟨_,rfl⟩ (.cons ⟨_,rfl⟩ (.cons ⟨_,rfl⟩ .nil)))⟩),mg_of X G uh,(fun H=>.inr ⟨_,_,_,ui,rfl,rfl,(by show 3<=sizeLine;decide),(.cons ⟨_,rfl⟩ (.cons ⟨_,rfl⟩ (.cons ⟨_,rfl⟩ .nil)))⟩),mg_of X G p7,(fun H=>.inr ⟨_,_,_,p8,rfl,rfl,(by show 3<=sizeLine;decide),(.cons ⟨_,rfl⟩ (.cons ⟨_,rfl⟩ (.cons ⟨_,rfl⟩ .nil)))⟩),mg_of X G p9,(fun H=>.inr ⟨_,_,_,qa,rfl,rfl,(by show 2<=sizeLine;decide),(.cons ⟨_,rfl⟩ (.cons ⟨_,rfl⟩ .nil))⟩),mg_of X G ou,(fun H=>.inr ⟨_,_,_,ow,rfl,rfl,(by show 4<=sizeLine;decide),(.cons ⟨_,rfl⟩ (.cons ⟨_,rfl⟩ (.cons ⟨_,rfl⟩ (.cons ⟨_,rfl⟩ .nil))))⟩),mg_of X G rg,(fun H=>.inr ⟨_,_,_,rh,rfl,rfl,(by show 5<=sizeLine;decide),(.cons ⟨_,rfl⟩ (.cons ⟨_,rfl⟩ (.cons ⟨_,rfl⟩ (.cons ⟨_,rfl⟩ (.cons ⟨_,rfl⟩ .nil)))))⟩),mg_of X G rj,mg_of X G rk,⟨rm,_,_,rl,(.cons ⟨_,rfl⟩ (.cons ⟨_,rfl⟩ .nil)),by lk⟩,mg_of X G rp,⟨rA,_,_,rq,(.cons ⟨_,rfl⟩ (.cons ⟨_,rfl⟩ (.cons ⟨_,rfl⟩ (.cons ⟨_,rfl⟩ (.cons ⟨_,rfl⟩ (.cons ⟨_,rfl⟩ (.cons ⟨_,rfl⟩ (.cons ⟨_,rfl⟩ (.cons ⟨_,rfl⟩ .nil))))))))),by lk⟩,mg_of X G ox,⟨oz,_,_,oy,(.cons ⟨_,rfl⟩ (.cons ⟨_,rfl⟩ .nil)),by lk⟩,mg_of X G wa,mg_of X G mq,mg_of X G qb,mg_of X G rB,mg_of X G ES,mg_of X G rC,mg_of X G uj,mg_of X G wb,mg_of X G Mg,mg_of X G ET,mg_of X G Qx,⟨Mh,pT,oo,Mi⟩,⟨Q4,Q5,Q6,Q7⟩,ig,df,cP,mg_of X G WQ,⟨Q8,q8,pS,Q9⟩,⟨W7,W8,W9,Xa⟩,fH,jf,fI,ij,mg_of X G WR,⟨Ra,qN,pF,Rb⟩,⟨Xb,Xc,Xd,Xe⟩,b9,e8,dg,mg_of X G EU,mg_of X G EV,mg_of X G EW,mg_of X G BI,mg_of X G Xf,mg_of X G Mj,mg_of X G yZ,mg_of X G EX,mg_of X G y8,mg_of X G EY,mg_of X G Ml,⟨EZ,E2,E3,E4⟩,⟨E5,E6,E7,E8⟩,⟨E9,Fb,Fc,Fd⟩,⟨BJ,BK,BL,BM⟩,⟨Xg,Xh,Xi,Xj⟩,⟨Mm,Mn,Mo,Mp⟩,⟨Fe,Ff,Fg,Fh⟩,⟨y9,za,zb,zc⟩,⟨Fi,Fj,Fl,Fm⟩,⟨Mq,Mr,Mt,Mu⟩,d5,gR,gS,gf,j3,ir,gT,e9,gU,iu,bo,bE,bF,bB,bM,bJ,bG,bx,bH,bK,fJ,jg,jh,iw,lT,j4,ji,gW,jj,j5,dD,gh,gi,fb,jk,gX,gj,eD,gk,gY,fK,d6,jw,fL,fM,d7,jx,fN,eO,fO,fP,d8,jy,fQ,eP,fR,fS,eQ,dE,iK,eR,d9,jz,gZ,nG,g4,eS,kE,g5,fU,g6,g7,g8,iL,fV,ee,dh,fW,eh,jA,fX,eU,fY,fZ,f6,g9,eV,kF,hI,f7,hV,hX,hZ,iN,iO⟩;exact⟨_,fun s v=>.of_eq rfl,fun base _ _=>amm T⟩
theorem walk {l:OpenLaw}{q:Program}{loose:List Str}{XP:(Str->Option Value)->Heap->Prop}{YP:World->Heap->Prop}{d:DefRec}{K:Params->Frag}(hn:l.most=some 63)(hdf:d.params.defaults=[])
  (hY:∀(w:World)(h:Heap),YP w h->(K w.params).In h)
  (F:∀(w:World)(mg:Str->Option Value)(fa:Addr)(h:Heap),(K w.params).In h->h.Ns mainGlobals mg->mg d.name=some (.ref fa) ->
   ∃ fd:FuncData,(∀(s:Shared)(u:Value),BindsTo s fd ⟨[u],[]⟩ [("_law_script",u)])/\∀ base:Heap,(K w.params).In base->base.Ns mainGlobals mg->bI l.prog w (K w.params) mg base lB 11 fa fd ["_law_script"] (Ot (K w.params))) :
  WalkO q loose XP YP l.row.toRowW d [] (fun f vs=>PySem.call f vs) :=
 L2.ai6 (n:=63) (k:=11) (x:="_law_script") (CX:=fun _=>lB) (sp:=fun w=>Ot (K w.params)) hn (by decide) hdf ⟨rfl,by decide,by decide⟩ hY F (fun _ H a ns hl hO hS=>aeu hl hO hS) fun _ _ _ _ _ z=>z
end IU
namespace PySem.W.Fast
def tw7020832422567357646:=()
def tw11104518664363622823:=()
def tw15626145979489499432:=()
def tw12114761308966237990:=()
def tw11528316397001279766:=()
def tw178712949680812290:=()
def tw13411478188820926465:=()
def tw5385255721540461087:=()
def tw13176010483946870764:=()
def tw8586985401795369000:=()
def tw10155551992684982088:=()
def tw9283283380899169379:=()
def tw16883870225010938355:=()
def tw12954582720126814220:=()
def tw11985575365324664172:=()
def tw919942550854549965:=()
def tw13120853125624721352:=()
def tw10928150309265123956:=()
def tw10212501230618408135:=()
def tw18224409225421963289:=()
def tw13692928618330081148:=()
def tw2021613725641740811:=()
def tw15035857244245920940:=()
def tw1820065538636857763:=()
def tw14561605621825737287:=()
def tw9797398403077705868:=()
def tw3686273823704076167:=()
def tw12217702613165312521:=()
def tw3916953312598016291:=()
def tw16132699123639415554:=()
def tw6733722138326316428:=()
def tw14586491730290401206:=()
def tw15724273686809157842:=()
def tw4840921826645667108:=()
def tw5071640733823391430:=()
def tw871968543236229908:=()
def tw16486814097930496402:=()
def tw5322393959331160082:=()
def tw13310176626698180279:=()
def tw8390267734414427922:=()
def tw8512206250149120492:=()
def tw17292000495099620178:=()
def tw10483595916906967161:=()
def tw1931283261345824297:=()
def tw14088778596908137620:=()
def tw14175738936577501849:=()
def tw15186480947960745259:=()
def tw17067429699689420366:=()
def tw12122319735421769425:=()
def tw13405268780673863123:=()
def tw16591973066552523369:=()
def tw12065887711805491636:=()
def tw6408880088407167681:=()
def tw12106770731542081320:=()
def tw5356792569926239847:=()
def tw11037600511839421928:=()
def tw2908134558081785004:=()
def tw15122936388941452684:=()
def tw12949996854391407528:=()
def tw9383520040498380495:=()
def tw8006007232069102656:=()
def tw15972367774044319149:=()
def tw3572482531982631960:=()
def tw6615701111368455131:=()
def tw10090163914137233398:=()
def tw11002579468283511949:=()
def tw6409452181838079941:=()
def tw15636796745220326687:=()
def tw9437838282775472821:=()
def tw18305711460505833607:=()
def tw4524699594373695972:=()
def tw10125343251978064691:=()
def tw18442152968731775046:=()
def tw13876952807065946214:=()
def tw5225539382220638324:=()
def tw12135552022515993818:=()
def tw13689637623905571285:=()
def tw6048571829354212842:=()
def tw13309286274125209534:=()
def tw4257291939829819929:=()
def tw11070184424013370657:=()
def tw3719834702383670881:=()
def tw7902131017939225020:=()
def tw7680623994019548951:=()
def tw1168544886510324110:=()
def tw3492604362703374023:=()
def tw7683464000102665773:=()
def tw2141234065865893575:=()
def tw11567931017341330062:=()
def tw5444891996646163831:=()
def tw17763008468288732894:=()
def tw2717285117684136230:=()
def tw5639417668668167206:=()
def tw12150911000497876187:=()
def tw8014757285108099027:=()
def tw1998044630004235065:=()
def tw16449837801830974994:=()
def tw11183759812348987771:=()
def tw16396645951029289175:=()
def tw849691543903325789:=()
def tw10346791674993710689:=()
def tw4570229775315430620:=()
def tw14128023547716023358:=()
def tw4144891668624577261:=()
def tw11119356136911871633:=()
def tw2927563694725977638:=()
def tw5965745137664382210:=()
def tw16388952501990112839:=()
def tw9517525674765877843:=()
def tw57577100336728249:=()
def tw5450695660604179354:=()
def tw2628879777838207470:=()
def tw8932886396034251638:=()
def tw1324380062195308569:=()
def tw18411287474736754969:=()
def tw3691010276679931046:=()
def tw6366257027381927827:=()
def tw16937136550416323740:=()
def tw1542040499569328712:=()
def tw12407939850666688038:=()
def tw5722241955370792736:=()
def tw7463936318623053179:=()
def tw4849792128860898920:=()
def tw13504809548353739679:=()
def tw9758257469882984426:=()
def tw5569118309287017555:=()
def tw18005395281635173138:=()
def tw8045102103592204599:=()
def tw8821768609608326816:=()
def tw11981012106602033505:=()
def tw5029063239447290567:=()
def tw5882327060436764602:=()
def tw3459379354134900322:=()
def tw7527013334590454564:=()
def tw705804951782858352:=()
def tw10354332954059090990:=()
def tw14411679718815691691:=()
def tw5650771991366334373:=()
def tw6322020190302131208:=()
def tw12994050236492695785:=()
def tw9711651421511106701:=()
def tw10745053317011158523:=()
def tw10709104095811467922:=()
def tw12341309043561268583:=()
def tw2790515471528312213:=()
def tw185239938794152863:=()
def tw14684611997503590463:=()
def tw8335115306769397563:=()
def tw1915678483540100364:=()
def tw11274197288595155499:=()
def tw13217559915972934084:=()
def tw11500848710540319865:=()
def tw2649511958394371741:=()
def tw16946176545038130713:=()
def tw15712547100147454907:=()
def tw9553202929281753203:=()
def tw14212744944856379154:=()
def tw14257530641394557822:=()
def tw4899315263316866978:=()
def tw13053556116173450694:=()
def tw10720982426562986189:=()
def tw10360370939397912327:=()
def tw14337526664572362056:=()
def tw13461692918091043448:=()
def tw5299531301443090596:=()
def tw9107356626942488863:=()
def tw16575594744540459723:=()
def tw6264234033793799774:=()
def tw5711761639395999707:=()
def tw10857161557351081503:=()
def tw6380081445382770992:=()
def tw13460368910561408673:=()
def tw6457679569801721411:=()
def tw2854202637296732500:=()
def tw12091632300627942560:=()
def tw3019173920716630427:=()
def tw7334500761999863162:=()
def tw2550249803098876773:=()
def tw11735026446334495285:=()
def tw626271208189881649:=()
def tw15671155395266060818:=()
def tw16693970613787876986:=()
def tw1966690882415592861:=()
def tw14096377395481437792:=()
def tw10273004884710249866:=()
def tw9234915888674070591:=()
def tw1873280892206112702:=()
def tw14800577004885136216:=()
def tw16311742662517468238:=()
def tw12699192532059324366:=()
def tw3761374250266231682:=()
def tw6091787041516435824:=()
def tw10561242337375910110:=()
def tw870969111735150311:=()
def tw5867816356661258182:=()
def tw10459300174183372587:=()
def tw2598126704610461460:=()
def tw3314824834399987075:=()
def tw8011134853141928018:=()
def tw17185357509401929928:=()
def tw13701696063706172421:=()
def tw7096660932787364669:=()
def tw16940309953766801741:=()
def tw8210703290058584725:=()
def tw17260142289589714117:=()
def tw16785889664703036641:=()
def tw4163380753885250536:=()
def tw15092381633530649177:=()
def tw17024252338042600839:=()
def tw13343015498475814145:=()
def tw5404509044996552541:=()
def tw12604009646149458433:=()
def tw1817646454597028631:=()
def tw15583442899701774603:=()
def tw4764026640889852549:=()
def tw5987452547349957200:=()
def tw5724716190167572890:=()
def tw8492918601646821695:=()
def tw15547277398050584389:=()
def tw11796859055544905071:=()
def tw16742877180679224938:=()
def tw6557412041492201476:=()
def tw11886602989709264321:=()
def tw5003529203324098506:=()
def tw13328996462538962101:=()
def tw15694803425983442319:=()
def tw2883160668376466890:=()
def tw16537362631389416434:=()
def tw9626343097227781868:=()
def tw4583454089651715387:=()
def tw12661657766844948599:=()
def tw1337723444763950667:=()
def tw9842335360889572101:=()
def tw18312167842792078418:=()
def tw3827720107355132101:=()
def tw4431845869651232364:=()
def tw11453443468791264026:=()
def tw12717502611563750232:=()
def tw14805119303311555942:=()
def tw9834188498835751266:=()
def tw10610798327830436983:=()
def tw8547811084044170422:=()
def tw17216397607487714044:=()
def tw499259468637558018:=()
def tw6636852075949317746:=()
def tw4622234797660470931:=()
def tw108448056081696233:=()
def tw9621481135041292854:=()
def tw4610587976967073775:=()
def tw15370814213444051266:=()
def tw11766099881212686407:=()
def tw17873198105853999068:=()
def tw15849311751636918450:=()
def tw8476389412012184244:=()
def tw8859285629155923373:=()
def tw4289130461394958196:=()
def tw9472347687940019498:=()
def tw8745522657314506822:=()
def tw3405920237369573926:=()
def tw18196646825661058196:=()
def tw17421640777464694138:=()
def tw16189398408385514708:=()
def tw14864681510431798783:=()
def tw13530778892086015708:=()
def tw5560703860423513278:=()
def tw15311710798027810601:=()
def tw4123156886175437574:=()
def tw16961221609352960852:=()
def tw16457622158995490019:=()
def tw5611615656825585412:=()
def tw9180442026077703888:=()
def tw15796704815158197345:=()
def tw4491390787848915043:=()
def tw1000041843287222947:=()
def tw2541363996300143913:=()
def tw17121528172056166591:=()
def tw7134255938287076005:=()
def tw2822799732794711524:=()
def tw4353845598788516257:=()
def tw3730629435620366585:=()
def tw117031038560408059:=()
def tw16107781997198754770:=()
def tw6004358275402910692:=()
def tw3397861341687011315:=()
def tw10031127209785595649:=()
def tw3499089536117255583:=()
def tw11054070937860695698:=()
def tw9429604097738256987:=()
def tw3075420586294030229:=()
def tw17609136756419591704:=()
def tw7616967223467817026:=()
def tw17173099150535041352:=()
def tw16983413104753580763:=()
def tw2208642304721891809:=()
def tw11144116865837946020:=()
def tw4876775753749769677:=()
def tw2938311118911229157:=()
def tw7937344381035963957:=()
def tw5669313348778919352:=()
def tw1115091036768134827:=()
def tw17897003651852463128:=()
def tw8144161171126790600:=()
def tw239917316931630009:=()
def tw7645654798100709882:=()
def tw17175587481072323485:=()
def tw6772672816430164136:=()
def tw10549975168599205023:=()
def tw9129166921420781255:=()
def tw3410435927891320728:=()
def tw16785392024541258791:=()
def tw16711328357059931026:=()
def tw10662910320651230514:=()
def tw7951605466658012082:=()
def tw3305525653274871247:=()
def tw4893678171309028812:=()
def tw1828850740484619924:=()
def tw13864170378822932397:=()
def tw1013570614784900640:=()
def tw3281015379907604373:=()
def tw3155742213108221579:=()
def tw11100607541598210685:=()
def tw18048867402734313732:=()
def tw6397263874486227660:=()
def tw12457392205417489655:=()
def tw7611663901910909136:=()
def tw5917827562793599090:=()
def tw5581928433604352993:=()
def tw363358814476230266:=()
def tw17796974525564934185:=()
def tw13622467989997636359:=()
def tw12699146018247034108:=()
def tw955486080218576778:=()
def tw9710078309392477913:=()
def tw8451888672751191870:=()
def tw16233410287305475260:=()
def tw6425425804042972279:=()
def tw18207004442512637433:=()
def tw14853503702267289863:=()
def tw1414419343458158780:=()
def tw7716024997758108263:=()
def tw7347543485696151059:=()
def tw16987060693633865586:=()
def tw9756491570197783445:=()
def tw1867305984112654665:=()
def tw18295892238031270717:=()
def tw16827774281221125977:=()
def tw13285354329457438755:=()
def tw12978089283033706721:=()
def tw10740541071451220672:=()
def tw11331415474488002568:=()
def tw17804269858041208897:=()
def tw10029708537147438446:=()
def tw6548135398464190577:=()
def tw821322331961101120:=()
def tw4111473729888827144:=()
def tw9232013626524868796:=()
def tw2739711766755144946:=()
def tw8320974491024671266:=()
def tw17477734615913505368:=()
def tw14585233878839926264:=()
def tw2199642187899543617:=()
def tw17466037367673557645:=()
def tw16738466559077578021:=()
def tw15800909904291136245:=()
def tw1550728052706946951:=()
def tw9306829488897620007:=()
def tw7538445752594864316:=()
def tw753157129536157696:=()
def tw16506980640961716786:=()
def tw15325503802988192356:=()
def tw13857467396695474739:=()
def tw13473076077608085562:=()
def tw7483172729027536519:=()
def tw5823606075052400201:=()
def tw11600473335313527022:=()
def tw6353087668763812570:=()
def tw3678084169024299576:=()
def tw3418813716127072055:=()
def tw18402374655884505248:=()
def tw2233741518442287115:=()
def tw13274917767325601066:=()
def tw11560082692944967058:=()
def tw6361622785577590017:=()
def tw11688791535063100028:=()
def tw11353824659315054481:=()
def tw9999125040030437346:=()
def tw5218466865004579223:=()
def tw15136886775191197504:=()
def tw14541824521026634626:=()
def tw10253375835675662729:=()
def tw8865456191991623941:=()
def tw3983878752183812274:=()
def tw17803070888942158989:=()
def tw17516734164850949083:=()
def tw6314222129189703206:=()
def tw12197921121528685662:=()
def tw7572853097674279997:=()
def tw12544238611255055563:=()
def tw4305310335625187699:=()
def tw4268227697816482190:=()
def tw3315295556947513131:=()
def tw17130455622822616825:=()
def tw11651062107387055436:=()
def tw4851560161649825969:=()
def tw15250094398995461042:=()
def tw10062714447059747922:=()
def tw8177381618289343858:=()
def tw2444572614336188080:=()
def tw12442657487032984953:=()
def tw6009062583568244368:=()
def tw11072778760901623565:=()
def tw14216915675393745584:=()
def tw6010941875109141836:=()
def tw5277592412527482598:=()
def tw11228629778806196892:=()
def tw12416211926139492757:=()
def tw9890723244079781098:=()
def tw10830972541802151440:=()
def tw10196838472218865461:=()
def tw5678797654406707039:=()
def tw6265289772089371355:=()
def tw16979889617368218258:=()
def tw971851286387157910:=()
def tw1453669833715106466:=()
def tw12245429307616881345:=()
def tw6301180721105571365:=()
def tw11836802494520160256:=()
def tw13443583065186961850:=()
def tw17008314494877616556:=()
def tw8701818039548612219:=()
def tw18356011008177524009:=()
def tw5564717285751575377:=()
def tw5553672046883606054:=()
def tw2953648576730722909:=()
def tw15546985565876760461:=()
def tw4792257498033168748:=()
def tw15286477077194293149:=()
def tw10449696436806795967:=()
def tw8719779728241835818:=()
def tw17252009131209489449:=()
def tw13212871894907822480:=()
def tw1370769222653235703:=()
def tw9290115795251297442:=()
def tw5350235966521464515:=()
def tw9343611499777753101:=()
def tw15193900339396804535:=()
def tw2097557181679269466:=()
def tw15347986117301897998:=()
def tw14210735480537145795:=()
def tw13001556550168273580:=()
def tw8660390305534219023:=()
def tw8560116418320402930:=()
def tw2860486409846017067:=()
def tw4990973787677823890:=()
def tw7406266456538684605:=()
def tw3513419270031851511:=()
def tw16595955831645904260:=()
def tw15645159219804253583:=()
end PySem.W.Fast
open PySem PySem.W PyProof.Rows
set_option maxRecDepth 100000 in
set_option maxHeartbeats 0 in
theorem PySem.Challenge.cw_noteworth_k35_doors_that_ask_a_voice_holds : PySem.Challenge.rw_noteworth_k35_doors_that_ask_a_voice.Holds := by
 w_on;o_law;k_head;(case hw=>w_witness2)
 k_fill
 refine IU.walk (l:=PySem.Challenge.rw_noteworth_k35_doors_that_ask_a_voice) rfl rfl (fun w h Y=>PySem.W.kIn_of Y) ?F
 case F =>
  intro w mg fa h KX G hmg
  refine' IU.all_mk KX G hmg ?Qx ?WQ ?WR ?qN ?qO ?qP ?qQ ?pF ?yA ?yB ?yC ?rY ?vU ?lu ?lx ?ly ?iy ?kH ?yD ?yE ?yF ?rZ ?vV ?Lg ?Lh ?Li ?Lj ?Lk ?Ll ?Lm ?Ln ?Qy ?Qz ?QA ?QB ?tZ ?t6 ?t7 ?ua ?Er ?Es ?Et ?Eu ?vy ?Lo ?Lp ?Lq ?Lr ?vW ?vX ?vY ?vZ ?jM ?jN ?jO ?jP ?WS ?WT ?WU ?GD ?acM ?acN ?acO ?acP ?NY ?qR ?qS ?qT ?qU ?pG ?pH ?pI ?pJ ?nP ?nQ ?nR ?nS ?nV ?nW ?nX ?nY ?yG ?yH ?yI ?yJ ?Ls ?Lu ?Lv ?Lw ?QC ?QD ?QE ?QF ?Cb ?QG ?QH ?QI ?QJ ?AN ?AO ?AQ ?vz ?yK ?AR ?AS ?AU ?vA ?yL ?AV ?AW ?AX ?AY ?QK ?QL ?QM ?QN ?Lx ?Ly ?Lz ?LB ?WV ?WW ?WY ?WZ ?QO ?QP ?QR ?QS ?AZ ?A0 ?A1 ?A2 ?Ew ?Ex ?Ey ?Ez ?LC ?LF ?LG ?LH ?A3 ?A4 ?A5 ?A6 ?A7 ?A8 ?A9 ?Ba ?Bb ?Bc ?Bd ?Be ?LI ?LJ ?LK ?LL ?LM ?LN ?LO ?LP ?LQ ?LR ?LS ?LV ?pK ?pL ?pM ?pN ?nZ ?n0 ?n5 ?n6 ?pO ?pP ?pQ ?pR ?Bf ?Bg ?Bh ?Bi ?qV ?qW ?qX ?qY ?EA ?EB ?EC ?ED ?jQ ?jR ?jS ?jT ?acQ ?acR ?acS ?acT ?n8 ?n9 ?oa ?og ?LW ?LX ?LY ?Cc ?EF ?ub ?uc ?ud ?oh ?qZ ?LZ ?L0 ?L1 ?L3 ?EG ?EH ?EI ?EJ ?QT ?QU ?QV ?QW ?mh ?mi ?mj ?jo ?lz ?q8 ?q9 ?rb ?rf ?pS ?EK ?EL ?EM ?yM ?Bj ?EN ?EO ?ER ?yN ?Bl ?Bm ?Bn ?Bo ?vB ?yO ?Bp ?Br ?Bs ?vC ?yP ?Bt ?Bu ?Bv ?Bx ?QX ?QY ?QZ ?xh ?W0 ?W2 ?W3 ?W4 ?Q0 ?Q1 ?Q2 ?Q3 ?L4 ?L5 ?L6 ?L7 ?yQ ?yR ?yS ?yT ?L8 ?L9 ?Ma ?Mb ?oi ?oj ?om ?j6 ?mn ?v7 ?v8 ?v9 ?qk ?ue ?pT ?pV ?pW ?pX ?oo ?pY ?pZ ?p3 ?kZ ?oq ?j7 ?p4 ?p5 ?p6 ?k9 ?ot ?By ?Bz ?BA ?vD ?yU ?BB ?BC ?BD ?vE ?yV ?BE ?BF ?BG ?vF ?yW ?acU ?acV ?acW ?acX ?Mc ?Md ?Me ?Mf ?adS ?aiA ?aiB ?aiC ?yX ?aiD ?aiE ?acY ?acZ ?BH ?aiF ?yY ?aiG ?ac0 ?aiH ?aiI ?W5 ?aiJ ?aiK ?W6 ?aiL ?uf ?ug ?uh ?ui ?p7 ?p8 ?p9 ?qa ?ou ?ow ?rg ?rh ?rj ?rk ?rl ?rm ?rp ?rq ?rA ?ox ?oy ?oz ?wa ?mq ?qb ?rB ?ES ?rC ?uj ?wb ?Mg ?ET ?Mh ?Mi ?Q4 ?Q5 ?Q6 ?Q7 ?ig ?df ?cP ?Q8 ?Q9 ?W7 ?W8 ?W9 ?Xa ?fH ?jf ?fI ?ij ?Ra ?Rb ?Xb ?Xc ?Xd ?Xe ?b9 ?e8 ?dg ?EU ?EV ?EW ?BI ?Xf ?Mj ?yZ ?EX ?y8 ?EY ?Ml ?EZ ?E2 ?E3 ?E4 ?E5 ?E6 ?E7 ?E8 ?E9 ?Fb ?Fc ?Fd ?BJ ?BK ?BL ?BM ?Xg ?Xh ?Xi ?Xj ?Mm ?Mn ?Mo ?Mp ?Fe ?Ff ?Fg ?Fh ?y9 ?za ?zb ?zc ?Fi ?Fj ?Fl ?Fm ?Mq ?Mr ?Mt ?Mu ?d5 ?gR ?gS ?gf ?j3 ?ir ?gT ?e9 ?gU ?iu ?bo ?bE ?bF ?bB ?bM ?bJ ?bG ?bx ?bH ?bK ?fJ ?jg ?jh ?iw ?lT ?j4 ?ji ?gW ?jj ?j5 ?dD ?gh ?gi ?fb ?jk ?gX ?gj ?eD ?gk ?gY ?fK ?d6 ?jw ?fL ?fM ?d7 ?jx ?fN ?eO ?fO ?fP ?d8 ?jy ?fQ ?eP ?fR ?fS ?eQ ?dE ?iK ?eR ?d9 ?jz ?gZ ?nG ?g4 ?eS ?kE ?g5 ?fU ?g6 ?g7 ?g8 ?iL ?fV ?ee ?dh ?fW ?eh ?jA ?fX ?eU ?fY ?fZ ?f6 ?g9 ?eV ?kF ?hI ?f7 ?hV ?hX ?hZ ?iN ?iO
  (case Qx|WQ|WR|qN|qO|qP|qQ|pF|yA|yB|yC|rY|vU|lu|lx|ly|iy|kH|yD|yE|yF|rZ|vV|Lg|Lh|Li|Lj|Lk|Ll|Lm|Ln|Qy|Qz|QA|QB|tZ|t6|t7|ua|Er|Es|Et|Eu|vy|Lo|Lp|Lq|Lr|vW|vX|vY|vZ|jM|jN|jO|jP|WS|WT|WU|GD|acM|acN|acO|acP|NY|qR|qS|qT|qU|pG|pH|pI|pJ|nP|nQ|nR|nS|nV|nW|nX|nY|yG|yH|yI|yJ|Ls|Lu|Lv|Lw|QC|QD|QE|QF|Cb|QG|QH|QI|QJ|AN|AO|AQ|vz|yK|AR|AS|AU|vA|yL|AV|AW|AX|AY|QK|QL|QM|QN|Lx|Ly|Lz|LB|WV|WW|WY|WZ|QO|QP|QR|QS|AZ|A0|A1|A2|Ew|Ex|Ey|Ez|LC|LF|LG|LH|A3|A4|A5|A6|A7|A8|A9|Ba|Bb|Bc|Bd|Be|LI|LJ|LK|LL|LM|LN|LO|LP|LQ|LR|LS|LV|pK|pL|pM|pN|nZ|n0|n5|n6|pO|pP|pQ|pR|Bf|Bg|Bh|Bi|qV|qW|qX|qY|EA|EB|EC|ED|jQ|jR|jS|jT|acQ|acR|acS|acT|n8|n9|oa|og|LW|LX|LY|Cc|EF|ub|uc|ud|oh|qZ|LZ|L0|L1|L3|EG|EH|EI|EJ|QT|QU|QV|QW|mh|mi|mj|jo|lz|q8|q9|rb|rf|pS|EK|EL|EM|yM|Bj|EN|EO|ER|yN|Bl|Bm|Bn|Bo|vB|yO|Bp|Br|Bs|vC|yP|Bt|Bu|Bv|Bx|QX|QY|QZ|xh|W0|W2|W3|W4|Q0|Q1|Q2|Q3|L4|L5|L6|L7|yQ|yR|yS|yT|L8|L9|Ma|Mb|oi|oj|om|j6|mn|v7|v8|v9|qk|ue|pT|pV|pW|pX|oo|pY|pZ|p3|kZ|oq|j7|p4|p5|p6|k9|ot|By|Bz|BA|vD|yU|BB|BC|BD|vE|yV|BE|BF|BG|vF|yW|acU|acV|acW|acX|Mc|Md|Me|Mf|adS|aiA|aiB|aiC|yX|aiD|aiE|acY|acZ|BH|aiF|yY|aiG|ac0|aiH|aiI|W5|aiJ|aiK|W6|aiL|uf|ug|uh|ui|p7|p8|p9|qa|ou|ow|rg|rh|rj|rk|rl=>k_is)
  (case rm=>rfl)
  (case rp|rq=>k_is)
  (case rA=>rfl)
  (case ox|oy=>k_is)
  (case oz=>rfl)
  (case wa|mq|qb|rB|ES|rC|uj|wb|Mg|ET|Mh|Mi|Q4|Q5|Q6|Q7|ig|df|cP|Q8|Q9|W7|W8|W9|Xa|fH|jf|fI|ij|Ra|Rb|Xb|Xc|Xd|Xe|b9|e8|dg|EU|EV|EW|BI|Xf|Mj|yZ|EX|y8|EY|Ml=>k_is)
  (case EZ=>k_exc)
  (case E2|E3|E4=>k_is)
  (case E5=>k_exc)
  (case E6|E7|E8=>k_is)
  (case E9=>k_exc)
  (case Fb|Fc|Fd=>k_is)
  (case BJ=>k_exc)
  (case BK|BL|BM=>k_is)
  (case Xg=>k_exc)
  (case Xh|Xi|Xj=>k_is)
  (case Mm=>k_exc)
  (case Mn|Mo|Mp=>k_is)
  (case Fe=>k_exc)
  (case Ff|Fg|Fh=>k_is)
  (case y9=>k_exc)
  (case za|zb|zc=>k_is)
  (case Fi=>k_exc)
  (case Fj|Fl|Fm=>k_is)
  (case Mq=>k_exc)
  (case Mr|Mt|Mu=>k_is)
  (case d5|gR|gS|gf|j3|ir|gT|e9|gU|iu=>kts_exm)
  (case bo|bE|bF|bB|bM|bJ|bG|bx|bH|bK|fJ|jg|jh|iw|lT|j4|ji|gW|jj|j5|dD|gh|gi|fb|jk|gX|gj|eD|gk|gY=>kit_is)
  (case fK|d6|jw|fL|fM|d7|jx|fN|eO|fO|fP|d8|jy|fQ|eP|fR|fS|eQ|dE|iK|eR|d9|jz|gZ|nG|g4|eS|kE|g5|fU|g6|g7|g8|iL|fV|ee|dh|fW|eh|jA|fX|eU|fY|fZ|f6|g9|eV|kF|hI|f7|hV|hX|hZ|iN|iO=>kts_exm)
