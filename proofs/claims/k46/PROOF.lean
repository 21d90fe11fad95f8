import PyProof.Rows.All
import Wide.All
import OpenK.AllK
import Wide.FinOn
import Lean
import PyProof.EqAt
import PyProof.EqKinds
import PyProof.TupleCall
import PySem.Challenge.RW_noteworth_k46_whole_books_there_and_back
set_option Elab.async false
set_option linter.all false
set_option maxRecDepth 100000
open PySem.W (Frag OpenLaw WalkO callWith_K callWith_K0 codeIn emptyDict exmOne exm_one findIn fnOf handedIn hasDictIn hideAll hideAll_get hideAll_none instObj isFn keepIn kia_one kitOne kitx_dict kitx_list lookIn makesIn methodCall_KW methodObj mg_of mroIn nsIn of_hideAll plainGet plainGet_of plainOver specialIn takerIn)
open List (length_map length_append length_take length_drop mem_append mem_singleton mem_cons_self mem_cons_of_mem mem_append_left mem_append_right mem_of_getElem? size_toArray take_length getElem?_map map_append map_cons length_cons take_succ getElem?_eq_getElem mem_map any_eq_true all_eq_true length_reverse mem_range getElem?_drop take_append_drop length_singleton append_nil nil_append getElem?_of_mem)
open PySem.F (args_dict_get_3 entry_dict_get entry_zip_next plainAttrs_dict plainAttrs_list plainAttrs_str slot_dict_get slot_dict_pop slot_enumerate_next slot_list_clear slot_list_pop slot_str_join slot_str_split slot_zip_next type_dict_get type_list_clear type_list_pop type_str_join type_str_split)
noncomputable section
set_option compiler.extract_closed false
set_option bootstrap.genMatcherCode false
set_option genSizeOf false
local macro_rules | `(tactic| lk) => `(tactic| decide +kernel)
local macro_rules | `(tactic| z_go) => `(tactic| first | (exact fun _ _ _ _ _ _ us hl => match us, hl with | [_], _ => rfl) | (exact fun _ _ _ _ _ _ us hl => match us, hl with | [_, _], _ => rfl) | (exact fun _ _ _ _ _ _ us hl => match us, hl with | [_, _, _], _ => rfl) | (exact fun _ _ _ _ _ _ us hl => match us, hl with | [_, _, _, _], _ => rfl) | (exact fun _ _ _ _ _ _ us hl => match us, hl with | [_, _, _, _, _], _ => rfl) | (exact fun _ _ _ _ _ _ us hl => match us, hl with | [_, _, _, _, _, _], _ => rfl))
def A' := @decide_eq_true
def C' := @PySem.wpAny_bind
def G' := @of_decide_eq_true
def J' := @decide_eq_false
def K' := @List.getElem?_eq_some_iff
def L' := @List.length_map
def N' := @List.getElem?_eq_getElem
def P' := @PySem.Heap.get?_push_of_some
def R' := @Nat.le_refl
def S' := @absurd
def T' := @if_neg
def U' := @PySem.wpAny_pure
def V' := @List.length_append
def W' := @PySem.Heap.lt_size
def X' := @if_pos
def Y' := @Bool.eq_false_iff
def Z' := @Option.some.inj
def j' := @Bool.false_ne_true
def Za' := @Nat.lt_of_lt_of_le
def Zb' := @Nat.le_trans
def Zc' := @PySem.F.plainAttrs_list
def Zd' := @List.getElem?_map
def Ze' := @List.size_toArray
def Zf' := @List.mem_of_getElem?
def Zg' := @List.mem_singleton
def Zh' := @Ne.symm
def Zi' := @List.mem_append_right
def Zj' := @congrArg
def Zk' := @PySem.F.type_list_append
def Zl' := @PySem.F.slot_list_append
def Zm' := @PySem.Heap.get?_push_size
def Zn' := @Nat.ne_of_lt
def Zo' := @List.length_take
def Zp' := @List.mem_append
def Zq' := @Nat.zero_le
def Ya' := @List.length_cons
def Yb' := @List.mem_append_left
def Yc' := @List.mem_cons_of_mem
def Yd' := @List.length_drop
namespace L2
open PySem PySem.Spec PyProof.Rows
noncomputable abbrev Key:=Sum Int Str
noncomputable def zH:Key->Value->Bool
 |.inl k,v=>Value.isInt k v
 |.inr x,v=>Value.isStrOf x v
noncomputable def Wh (w:World):Key->Int
 |.inl k=>hashInt k
 |.inr x=>hashStr w x
theorem dF:∀{k:Key} {v:Value},zH k v=true->(∃ i t,k=Sum.inl i/\v=Value.int i t)\/(∃ x t,k=Sum.inr x/\v=Value.str x t)
 |.inl i,v,h=>by
  obtain⟨t,e⟩:=Value.isInt_shape (k:=i) (v:=v) h;exact .inl ⟨i,t,rfl,e⟩
 |.inr x,v,h=>by
  obtain⟨t,e⟩:=Value.isStrOf_shape (x:=x) (v:=v) h;exact .inr ⟨x,t,rfl,e⟩
theorem KS (i:Int)(t:Tok):zH (.inl i) (.int i t)=true:=by simp[zH,Value.isInt]
theorem KU (x:Str)(t:Tok):zH (.inr x) (.str x t)=true:=by simp[zH,Value.isStrOf]
theorem QS (a b:Int):decide ((Sum.inl a:Key)=Sum.inl b)=(a==b):=by
 by_cases e:a=b
 ·subst e;simp
 ·have h:¬(Sum.inl a:Key)=Sum.inl b:=fun q=>e (Sum.inl.inj q);rw[J' h];exact(beq_eq_false_iff_ne.mpr e).symm
theorem QT (a b:Str):decide ((Sum.inr a:Key)=Sum.inr b)=decide (a=b):=by
 by_cases e:a=b
 ·subst e;simp
 ·have h:¬(Sum.inr a:Key)=Sum.inr b:=fun q=>e (Sum.inr.inj q);rw[J' h,J' e]
theorem QU (a:Int)(b:Str):decide ((Sum.inl a:Key)=Sum.inr b)=false:=J' (fun q=>nomatch q)
theorem QV (a:Str)(b:Int):decide ((Sum.inr a:Key)=Sum.inl b)=false:=J' (fun q=>nomatch q)
noncomputable def cf (prog:Program)(w:World):PySem.KeyKind prog w Key where
 is:=zH
 hash:=Wh w
 inj:=fun v a b ha hb=>by
  rcases dF ha with ⟨i,t,rfl,rfl⟩|⟨x,t,rfl,rfl⟩
  ·rcases dF hb with ⟨j,u,rfl,e⟩|⟨y,u,rfl,e⟩
   ·injection e with e1 _;rw[e1]
   ·exact nomatch e
  ·rcases dF hb with ⟨j,u,rfl,e⟩|⟨y,u,rfl,e⟩
   ·exact nomatch e
   ·injection e with e1 _;rw[e1]
 byValue:=fun k v h=>by
  rcases dF h with ⟨i,t,rfl,rfl⟩|⟨x,t,rfl,rfl⟩ <;> rfl
 pyHash:=fun hv h=>by
  rcases dF hv with ⟨i,t,rfl,rfl⟩|⟨x,t,rfl,rfl⟩
  ·exact wpAny_pyHash_int h
  ·exact wpAny_pyHash_str h
 eqBool:=fun hu hv h=>by
  rcases dF hu with ⟨i,t,rfl,rfl⟩|⟨x,t,rfl,rfl⟩
  ·rcases dF hv with ⟨j,u,rfl,rfl⟩|⟨y,u,rfl,rfl⟩
   ·rw[QS]at h;exact wpAny_eqBool_int h
   ·rw[QU]at h;exact SeqAt.EqAt.int_str i t y u _ _ _ _ h
  ·rcases dF hv with ⟨j,u,rfl,rfl⟩|⟨y,u,rfl,rfl⟩
   ·rw[QV]at h;exact SeqAt.EqAt.str_int x t j u _ _ _ _ h
   ·rw[QT]at h;exact wpAny_eqBool_str h
 «strs»:=fun k x t v h=>by
  rcases dF h with ⟨i,u,rfl,e⟩|⟨y,u,rfl,e⟩
  ·exact nomatch e
  ·injection e with e1 _
   subst e1;cases v <;> rfl
theorem Fu (prog:Program)(w:World)(i:Int)(t:Tok):(cf prog w).is (.inl i) (.int i t)=true:=KS i t
theorem fW (prog:Program)(w:World)(x:Str)(t:Tok):(cf prog w).is (.inr x) (.str x t)=true:=KU x t
end L2
namespace L2
open PySem PySem.Spec PyProof.Rows
inductive V where
 |non|bl (b:Bool)|int (i:Int)|str (x:Str)|Mh (b:Array UInt8)|flt (b:UInt64)|ref (a:Addr)|ty (n:String)
 deriving DecidableEq
def RelV:V->Value->Prop
 |.non,u=>u=Value.none
 |.bl b,u=>u=Value.bool b
 |.int i,u=>∃ t,u=Value.int i t
 |.str x,u=>∃ t,u=Value.str x t
 |.Mh b,u=>∃ t,u=Value.bytes b t
 |.flt b,u=>∃ t,u=Value.float b t
 |.ref a,u=>u=Value.ref a
 |.ty n,u=>u=Value.type n
abbrev Vals:List V->List Value->Prop:=Paired RelV
theorem Vals.length {xs:List V}{us:List Value}(r:Vals xs us):xs.length=us.length:=Paired.length r
theorem Vals.get:∀{xs:List V} {us:List Value} {i:Nat} {x:V},Vals xs us->xs[i]? = some x->∃ u,us[i]? = some u/\RelV x u
 |_,_,_,_,.nil,e=>by simp at e
 |_,_,0,_,.cons r _,e=>by simp at e;subst e;exact⟨_,rfl,r⟩
 |_,_,i+1,x,.cons _ t,e=>by
  obtain⟨u,h1,h2⟩:=Vals.get (i:=i) (x:=x) t (by simpa using e);exact⟨u,by simpa using h1,h2⟩
theorem Vals.set {x:V}{u:Value}(r:RelV x u):∀{xs:List V} {us:List Value} (i:Nat),Vals xs us->Vals (xs.set i x) (us.set i u)
 |_,_,_,.nil=>.nil
 |_,_,0,.cons _ t=>.cons r t
 |_,_,i+1,.cons q t=>.cons q (Vals.set r i t)
theorem Vals.append:∀{xs ys:List V} {us ws:List Value},Vals xs us->Vals ys ws->Vals (xs++ys) (us++ws)
 |_,_,_,_,.nil,s=>s
 |_,_,_,_,.cons r t,s=>.cons r (Vals.append t s)
theorem Vals.take:∀{xs:List V} {us:List Value} (n:Nat),Vals xs us->Vals (xs.take n) (us.take n)
 |_,_,0,_=>.nil
 |_,_,_+1,.nil=>.nil
 |_,_,n+1,.cons r t=>.cons r (Vals.take n t)
theorem Vals.drop:∀{xs:List V} {us:List Value} (n:Nat),Vals xs us->Vals (xs.drop n) (us.drop n)
 |_,_,0,r=>r
 |_,_,_+1,.nil=>.nil
 |_,_,n+1,.cons _ t=>Vals.drop n t
def jH:Option V->Option Value->Prop
 |some v,some u=>RelV v u
 |none,none=>True
 |_,_=>False
def KV {κ:Type}:List (κ×V)->List (κ×Value)->Prop:=Paired fun(p:κ×V)(q:κ×Value)=>p.1=q.1/\RelV p.2 q.2
noncomputable def kV:Key->V
 |.inl i=>.int i
 |.inr x=>.str x
inductive HO where
 /-- a list -/
 |lst (xs:List V)
 /-- a tuple (never changes) -/
 |tup (xs:List V)
 /-- a dict whose keys are ints and texts;one whose keys are tuples of ints and texts (the empty one is both) -/
 |dK (kvs:List (Key×V))|dT (kvs:List (List Key×V))
 /-- a set of ints: its members,its size -/
 |set (S:Int->Bool) (n:Nat)
 /-- an instance of the class at C,its dict at dx,its attributes -/
 |ins (C dx:Addr) (fs:List (Str×V))
 /-- the dict of the instance at x -/
 |own (x:Addr)
 /-- the dict of an exception -/
 |xd (fs:List (Str×V))
 /-- a bound method,f of x -/
 |met (f x:Addr)
 /-- a range object lo,lo+1,.. below hi -/
 |Wi (lo hi:Int)
 /-- a thing that is known to the object (the script;a dict while a loop walks it): read,never written while it is so -/
 |Jz (o:Obj) (u:HO)
 /-- a code object's table -/
 |QW (ps:Array Value)
 /-- any other thing,by what is true of its one object (a def of one's own: Zs a S n:=HO.ext fun h=>..) -/
 |ext (φ:Heap->Prop)
noncomputable abbrev Hp:=Addr->Option HO
noncomputable def upd (H:Hp)(a:Addr)(o:HO):Hp:=fun b=>if b=a then some o else H b
theorem af {H:Hp}{a:Addr}{o:HO}:upd H a o a=some o:=by unfold upd;rw[X' rfl]
theorem ak {H:Hp}{a b:Addr}{o:HO}(h:b≠a):upd H a o b=H b:=by unfold upd;rw[T' h]
theorem cR {H:Hp}{a:Addr}{o u:HO}:upd (upd H a o) a u=upd H a u:=by
 funext b;unfold upd;split <;> rfl
theorem fX {H:Hp}{a b:Addr}{o u:HO}(h:H a=some o)(h':H b=some u)(d:o≠u):a≠b:=by
 intro e;subst e;rw[h]at h';exact d (Z' h')
theorem au {H:Hp}{a b:Addr}{o:HO}(h:H a=some o)(h':H b=none):a≠b:=by
 intro e;subst e;rw[h]at h';cases h'
section
variable (P:Program) (w:World)
def eC (H:Hp)(h:Heap)(a:Addr):HO->Prop
 |.lst xs=>xs.length<=sizeLine/\∃(its:List Value)(n:Nat),Vals xs its/\h.get? a=some { cls:=.type "list",data:=.seq its.toArray n }
 |.tup xs=>xs.length<=sizeLine/\∃ its:List Value,Vals xs its/\IsTup h a its.toArray
 |.dK kvs=>kvs.length<=sizeLine/\(a==sysModules)=false/\∃ vs,KV kvs vs/\h.DictOf (cf P w) a vs
 |.dT kvs=>kvs.length<=sizeLine/\(a==sysModules)=false/\∃ xs:List (List Key×Addr×Value),
   Paired (fun(p:List Key×V)(q:List Key×Addr×Value)=>p.1=q.1/\H q.2.1=some (.tup (p.1.map kV))/\RelV p.2 q.2.2) kvs xs /\
   ∃ o es ep,h.get? a=some o/\o.ExactDict/\o.data=.dict es ep/\es.toList=xs.map (entryOfKey (tupleKind (cf P w)))/\(xs.map (·.1)).Nodup
 |.set S n=>h.SetOf (intKind P w) a S n
 |.ins C dx fs=>H dx=some (.own a)/\fs.length<=1000/\dx≠a/\h.get? a=some (instObj C dx) /\
   ∃ mA,h.Ns1 dx mA/\(∀ f,jH (fs.lookup f) (mA f))/\PySem.Within mA (fs.map (·.1))
 |.own _=>∃ o,h.get? a=some o
 |.xd fs=>∃ mA,h.Ns1 a mA/\∀ f,jH (fs.lookup f) (mA f)
 |.Wi lo hi=>∃ t u v,h.get? a=some { cls:=.type "range",data:=.fields #[.int lo t,.int hi u,.int 1 v] }
 |.Jz o u=>h.get? a=some o/\eC H h a u
 |.QW ps=>h.get? a=some { cls:=.none,data:=.fields ps }
 |.met f x=>h.get? a=some (methodObj (.ref f) (.ref x))
 |.ext φ=>φ h/\(∃ o,h.get? a=some o)/\∀ h1 h2:Heap,φ h1->(∀ o,h1.get? a=some o->h2.get? a=some o)->φ h2
def pH (H:Hp)(h:Heap):Prop:=∀ a o,H a=some o->eC P w H h a o
end
section
variable {P:Program} {w:World} {H H':Hp} {h h':Heap} {a:Addr} {o:HO}
theorem eC.lt (x:eC P w H h a o):a<h.objs.size:=by
 cases o with
 |lst xs=>obtain⟨_,_,_,_,e⟩:=x;exact W' e
 |tup xs=>obtain⟨_,_,_,p⟩:=x;exact p.lt
 |dK kvs=>obtain⟨_,_,_,_,o,_,_,e,_⟩:=x;exact W' e
 |dT kvs=>obtain⟨_,_,_,_,o,_,_,e,_⟩:=x;exact W' e
 |set S n=>obtain⟨o,_,_,_,e,_⟩:=x;exact W' e
 |ins C dx fs=>obtain⟨_,_,_,e,_⟩:=x;exact W' e
 |own y=>obtain⟨_,e⟩:=x;exact W' e
 |xd fs=>obtain⟨_,⟨_,_,_,e,_⟩,_⟩:=x;exact W' e
 |Wi lo hi=>obtain⟨_,_,_,e⟩:=x;exact W' e
 |Jz ob u=>obtain⟨e,_⟩:=x;exact W' e
 |QW ps=>exact W' (show h.get? a=some _ from x)
 |met f y=>exact W' (show h.get? a=some _ from x)
 |ext φ=>obtain⟨_,⟨_,e⟩,_⟩:=x;exact W' e
theorem Paired.QX {α β:Type}{F G:α->β->Prop}:∀{l₁:List α} {l₂:List β},Paired F l₁ l₂->(∀ a b,F a b->G a b)->Paired G l₁ l₂
 |_,_,.nil,_=>.nil
 |_,_,.cons r t,f=>.cons (f _ _ r) (Paired.QX t f)
theorem eC.stay (x:eC P w H h a o)(k:∀ b u,(b=a\/H b=some (.own a))->h.get? b=some u->h'.get? b=some u)
  (ho:∀ b,H b=some (.own a)->H' b=some (.own a)) (ht:∀ b xs,H b=some (.tup xs)->H' b=some (.tup xs)):eC P w H' h' a o:=by
 induction o with
 |lst xs=>obtain⟨z,its,n,r,e⟩:=x;exact⟨z,its,n,r,k _ _ (.inl rfl) e⟩
 |tup xs=>obtain⟨z,its,r,ob,e,c⟩:=x;exact⟨z,its,r,ob,k _ _ (.inl rfl) e,c⟩
 |dK kvs=>obtain⟨z,y,vs,r,ob,es,ep,e,c⟩:=x;exact⟨z,y,vs,r,ob,es,ep,k _ _ (.inl rfl) e,c⟩
 |dT kvs =>
  obtain⟨z,y,xs,r,ob,es,ep,e,c⟩:=x;exact⟨z,y,xs,Paired.QX r fun p q z=>⟨z.1,ht _ _ z.2.1,z.2.2⟩,ob,es,ep,k _ _ (.inl rfl) e,c⟩
 |set S n=>obtain⟨ob,es,ep,t,e,c⟩:=x;exact⟨ob,es,ep,t,k _ _ (.inl rfl) e,c⟩
 |ins C dx fs =>
  obtain⟨d,z,ne,e,mA,⟨od,es,ep,e2,c⟩,r⟩:=x;exact⟨ho _ d,z,ne,k _ _ (.inl rfl) e,mA,⟨od,es,ep,k _ _ (.inr d) e2,c⟩,r⟩
 |own y=>obtain⟨ob,e⟩:=x;exact⟨ob,k _ _ (.inl rfl) e⟩
 |xd fs=>obtain⟨mA,⟨od,es,ep,e,c⟩,r⟩:=x;exact⟨mA,⟨od,es,ep,k _ _ (.inl rfl) e,c⟩,r⟩
 |Wi lo hi=>obtain⟨t,u,v,e⟩:=x;exact⟨t,u,v,k _ _ (.inl rfl) e⟩
 |Jz ob u ih=>obtain⟨e,q⟩:=x;exact⟨k _ _ (.inl rfl) e,ih q⟩
 |QW ps =>
  have e:h.get? a=some { cls:=.none,data:=.fields ps }:=x;show h'.get? a=some { cls:=.none,data:=.fields ps };exact k a _ (.inl rfl) e
 |met f y =>
  have e:h.get? a=some (methodObj (.ref f) (.ref y)):=x;show h'.get? a=some (methodObj (.ref f) (.ref y));exact k a _ (.inl rfl) e
 |ext φ=>obtain⟨p,⟨o,e⟩,st⟩:=x;exact⟨st _ _ p fun o q=>k _ _ (.inl rfl) q,⟨o,k _ _ (.inl rfl) e⟩,st⟩
theorem pH.lt (x:pH P w H h)(e:H a=some o):a<h.objs.size:=(x a o e).lt
theorem pH.fresh (x:pH P w H h)(e:h.objs.size<=a):H a=none:=by
 cases q:H a with
 |none=>rfl
 |some u=>exact S' (Za' (x.lt q) e) (Nat.lt_irrefl _)
theorem pH.kept (x:pH P w H h)(k:∀ b u,h.get? b=some u->h'.get? b=some u):pH P w H h':=fun a o e =>
 (x a o e).stay (fun b u _ q=>k b u q) (fun _ q=>q) fun _ _ q=>q
theorem pH.laid (x:pH P w H h)(k:∀ b u,h.get? b=some u->h'.get? b=some u)(hp:h.objs.size<=a)(new:eC P w (upd H a o) h' a o):pH P w (upd H a o) h':=fun b u e=>by
 have hn:=x.fresh hp
 by_cases hb:b=a
 ·subst hb;rw[af]at e;cases e;exact new
 ·rw[ak hb]at e;exact(x b u e).stay (fun c v _ q=>k c v q) (fun c q=>by rw[ak (au q hn)];exact q) fun c xs q=>by rw[ak (au q hn)];exact q
end
def Rd (H:Hp)(a:Addr)(u:HO):Prop:=H a=some u\/∃ o,H a=some (.Jz o u)
theorem Rd.ok {P:Program}{w:World}{H:Hp}{h:Heap}{a:Addr}{u:HO}(r:Rd H a u)(x:pH P w H h):eC P w H h a u:=by
 rcases r with r|⟨o,r⟩
 ·exact x a u r
 ·obtain⟨_,q⟩:=x a _ r;exact q
def Tr:Option HO->Prop
 |some (.lst _)=>True
 |some (.dK _)=>True
 |some (.dT _)=>True
 |some (.set _ _)=>True
 |some (.ins _ _ _)=>True
 |some (.ext _)=>True
 |_=>False
section
variable {P:Program} {w:World} {H:Hp} {h h':Heap} {x e:Addr} {o':HO}
theorem pH.write (ok:pH P w H h)(mu:Tr (H x))(he:e=x\/H e=some (.own x))(k:∀ b u,b≠e->h.get? b=some u->h'.get? b=some u)(heo:∃ u,h'.get? e=some u)
  (new:eC P w (upd H x o') h' x o'):pH P w (upd H x o') h':=fun b u q=>by
 have Ts:∀ c y,H c=some (.own y)->c≠x:=fun c y r z=>by subst z;rw[r]at mu;exact mu
 have Wj:∀ c xs,H c=some (.tup xs)->c≠x:=fun c xs r z=>by subst z;rw[r]at mu;exact mu
 by_cases hb:b=x
 ·subst hb;rw[af]at q;cases q;exact new
 ·rw[ak hb]at q
  by_cases hbe:b=e
  ·have q':H b=some (.own x):=by
    rcases he with z|z
    ·exact S' (hbe.trans z) hb
    ·rw[hbe];exact z
   rw[q]at q';cases q';obtain⟨v,hv⟩:=heo;exact⟨v,by rw[hbe];exact hv⟩
  ·refine(ok b u q).stay (fun c v hc r=>k c v ?_ r) (fun c r=>by rw[ak (Ts c b r)];exact r) fun c xs r=>by rw[ak (Wj c xs r)];exact r
   rcases hc with rfl|hc
   ·exact hbe
   ·rintro rfl;rcases he with z|z
    ·exact Ts c b hc z
    ·rw[hc]at z;cases z;exact hb rfl
end
structure Un (fs ex:List Addr)(H H':Hp)(h h':Heap):Prop where
 keep:∀ b o,h.get? b=some o->H b=none->b ∉ fs->b ∉ ex->h'.get? b=some o
 slot:∀ b o,h.get? b=some o->H b=none->b∈fs->b ∉ ex->∃ sl,h'.get? b=some { o with slots:=sl }
 free:∀ b o,h.get? b=some o->H b=none->b ∉ ex->H' b=none
 there:∀ b o,h.get? b=some o->b ∉ ex->∃ o',h'.get? b=some o'
 tups:∀ b xs,H b=some (.tup xs)->H' b=some (.tup xs)
 zI:∀ b o u,H b=some (.Jz o u)->H' b=some (.Jz o u)
 BM:∀ b ps,H b=some (.QW ps)->∃ more,H' b=some (.QW (ps++more))
section
variable {fs fs' ex ex':List Addr} {H H1 H2:Hp} {h h1 h2 h':Heap} {a x e:Addr} {o:HO}
theorem Un.any (u:Un fs ex H H1 h h1){b:Addr}{ob:Obj}(q:h.get? b=some ob)(n:H b=none)(hx:b ∉ ex):∃ sl,h1.get? b=some { ob with slots:=sl }:=by
 by_cases hb:b∈fs
 ·exact u.slot b ob q n hb hx
 ·exact⟨ob.slots,u.keep b ob q n hb hx⟩
theorem Un.kept (k:∀ b u,h.get? b=some u->h'.get? b=some u):Un fs ex H H h h' :=
 ⟨fun b ob q _ _ _=>k b ob q,fun b ob q _ _ _=>⟨ob.slots,k b ob q⟩,fun _ _ _ n _=>n,fun b ob q _=>⟨ob,k b ob q⟩,fun _ _ q=>q,fun _ _ _ q=>q,fun _ ps q=>⟨#[],by rw[q];simp⟩⟩
theorem Un.refl:Un fs ex H H h h:=Un.kept fun _ _ q=>q
theorem Un.laid (k:∀ b u,h.get? b=some u->h'.get? b=some u)(hp:h.objs.size<=a)(hn:H a=none):Un fs ex H (upd H a o) h h' where
 keep:=fun b u q _ _ _=>k b u q
 slot:=fun b u q _ _ _=>⟨u.slots,k b u q⟩
 free:=fun b u q n _=>by rw[ak (Zn' (Za' (W' q) hp))];exact n
 there:=fun b u q _=>⟨u,k b u q⟩
 tups:=fun b xs q=>by rw[ak (au q hn)];exact q
 zI:=fun b u xs q=>by rw[ak (au q hn)];exact q
 BM:=fun b ps q=>⟨#[],by rw[ak (au q hn),q];simp⟩
theorem Un.write (mu:Tr (H x))(he:e=x\/H e=some (.own x))(k:∀ b u,b≠e->h.get? b=some u->h'.get? b=some u)(heo:∃ u,h'.get? e=some u):Un fs ex H (upd H x o) h h':=by
 have hx:∀ b,H b=none->b≠x:=fun b n z=>by subst z;rw[n]at mu;exact mu
 have hb:∀ b,H b=none->b≠e:=fun b n z=>by
  subst z;rcases he with r|r
  ·exact hx b n r
  ·rw[n]at r;cases r
 have hm:∀ b u,H b=some u->¬ Tr (some u)->b≠x:=fun b u q nm z=>by subst z;rw[q]at mu;exact nm mu
 refine⟨fun b u q n _ _=>k b u (hb b n) q,fun b u q n _ _=>⟨u.slots,k b u (hb b n) q⟩,fun b u q n _=>by rw[ak (hx b n)];exact n,fun b u q _=>?_,
  fun b xs q=>by rw[ak (hm b _ q fun z=>z)];exact q,fun b u xs q=>by rw[ak (hm b _ q fun z=>z)];exact q,fun b ps q=>⟨#[],by rw[ak (hm b _ q fun z=>z),q];simp⟩⟩
 by_cases hbe:b=e
 ·subst hbe;exact heo
 ·exact⟨u,k b u hbe q⟩
end
noncomputable def VR (h:Heap)(H:Hp):List Addr:=(List.range h.objs.size).filter fun a=>(H a).isSome
noncomputable def D9 (h:Heap)(H:Hp):Heap:=hideAll h (VR h H)
theorem KW (h:Heap)(H:Hp):(D9 h H).objs.size=h.objs.size:=PySem.W.hideAll_size _ _
theorem Mn {h:Heap}{H:Hp}{b:Addr}{o:Obj}(e:h.get? b=some o)(n:H b=none):(D9 h H).get? b=some o :=
 hideAll_get _ e fun hm=>by
  have q:(H b).isSome=true:=(List.mem_filter.mp hm).2;rw[n]at q;simp at q
theorem OU {h:Heap}{H:Hp}{b:Addr}{o:Obj}(e:(D9 h H).get? b=some o):h.get? b=some o/\H b=none:=by
 have e':h.get? b=some o:=of_hideAll (VR h H) e;refine⟨e',?_⟩;cases q:H b with
 |none=>rfl
 |some x =>
  have hm:b∈VR h H:=List.mem_filter.mpr ⟨mem_range.mpr (W' e'),by simp[q]⟩;have z:(D9 h H).get? b=none:=hideAll_none (VR h H) hm;rw[z]at e;cases e
noncomputable def OV (g h:Heap)(L:Addr):List (Addr×Obj):=(List.range h.objs.size).filterMap fun a=>if a=L\/(g.get? a).isSome=true then none else(h.get? a).map fun o=>(a,o)
noncomputable def rest (g h:Heap)(L d:Addr):List (Addr×Obj):=(OV g h L).filter fun p=>decide (p.1≠d)
end L2
namespace L2
open PySem PySem.Spec PyProof.Rows
structure Mod (K:Frag)(mg:Str->Option Value)(base:Heap):Prop where
 Qc:K.In base
 glob:base.Ns mainGlobals mg
 blt:∃ mb,base.Ns builtinsNs mb/\∀ x:Str,x ≠ "__name__"->mb x=bootBuiltins x
 nolimit:base.NoLimit
structure Cx where
 prog:Program
 w:World
 K:Frag
 mg:Str->Option Value
 base:Heap
 A:Around
 N:List Str
 s₀:Shared
 H₀:Hp
 env:Env
 outer:List Env
 stack:List Env
 ex:List Addr
 fn:Str->Bool
 calm:Bool
 pn:List (Addr×Obj)
 xe:Value->Shared->Prop
noncomputable def frs (l:List Env):List Addr:=l.filterMap (·.frame)
noncomputable abbrev Cx.fs (X:Cx):List Addr:=frs X.outer
def Tt (sc:Scope)(x:Str):Prop:=sc.names.lookup x=some .local\/sc.names.lookup x=some .cell\/sc.names.lookup x=some .free
def Loc (sc:Scope)(x:Str):Prop:=sc.names.lookup x=some .local\/sc.names.lookup x=some .cell
def Look (env:Env)(h:Heap)(m:Str->Option Value)(x:Str)(u:Value):Prop :=
 (env.kindOf x=some .local/\m x=some u)\/((env.kindOf x=some .cell\/env.kindOf x=some .free)/\∃ c,env.cells.lookup x=some c/\h.IsCell c (some u))
structure Cx.Ok (X:Cx):Prop where
 mod:Mod X.K X.mg X.base
 kind:X.env.scope.kind=.function
 glob:X.env.globals=mainGlobals
 blt:X.env.builtins=builtinsNs
 above:X.s₀.heap.objs.size<=X.env.locals
 inj:∀ x y c,X.env.cells.lookup x=some c->X.env.cells.lookup y=some c->x=y
 has:∀ x,(X.env.kindOf x=some .cell\/X.env.kindOf x=some .free)->∃ c,X.env.cells.lookup x=some c
 cab:∀ x c,X.fn x=true->X.env.cells.lookup x=some c->X.s₀.heap.objs.size<=c
 hd:X.calm=true->X.A.handled=none
 frames:X.A.frames=some X.stack
 SK:X.stack=X.outer\/(X.stack=X.env::X.outer/\X.env.frame=some X.env.locals)
 SM:∀ b∈X.ex,b≠X.env.locals/\∀ x c,X.env.cells.lookup x=some c->c≠b
 bs:∀ b o,X.base.get? b=some o->X.s₀.heap.get? b=some o/\X.H₀ b=none
 Mi:X.base.objs.size<=X.s₀.heap.objs.size
 HM:∀ b o,X.base.get? b=some o->b ∉ X.ex
 HN:∀ b∈X.ex,b ∉ X.fs
 tL:X.s₀.heap.FunFrames X.base X.outer
 OW:∀ b∈X.fs,X.H₀ b=none
structure Inv (X:Cx)(pins:List (Addr×Obj))(σ:List (Option V))(H:Hp)(s:Shared):Prop where
 ok:X.Ok
 os:s.os=X.s₀.os
 bare:AllBare s.gens
 base:Un X.fs X.ex X.H₀ H X.s₀.heap s.heap
 loc:∃ m,s.heap.Ns X.env.locals m/\∀(i:Nat)(x:Str)(v:V),X.N[i]? = some x->σ[i]? = some (some v)->Tt X.env.scope x->∃ u,RelV v u/\Look X.env s.heap m x u
 cell:∀ x c,X.env.cells.lookup x=some c->∃ v,s.heap.IsCell c v
 free:H X.env.locals=none
 lj:∀ x c,X.env.cells.lookup x=some c->H c=none
 pin:∀ p∈X.pn++pins,s.heap.get? p.1=some p.2/\H p.1=none/\p.1≠X.env.locals/\p.1 ∉ X.fs/\∀ v,p.2.data≠.cell v
 hok:pH X.prog X.w H s.heap
 len:σ.length=X.N.length
section
variable {X:Cx} {pins:List (Addr×Obj)} {σ:List (Option V)} {H H':Hp} {s:Shared} {h':Heap}
theorem Cx.Ok.Wk (ok:X.Ok){b:Addr}{o:Obj}(e:X.base.get? b=some o):b ∉ X.fs:=fun hb=>by
 have:=(ok.tL.mem hb).1;rw[e]at this;cases this
theorem Inv.bs (I:Inv X pins σ H s):∀ b o,X.base.get? b=some o->s.heap.get? b=some o/\H b=none:=fun b o e =>
 ⟨I.base.keep b o (I.ok.bs b o e).1 (I.ok.bs b o e).2 (I.ok.Wk e) (I.ok.HM b o e),I.base.free b o (I.ok.bs b o e).1 (I.ok.bs b o e).2 (I.ok.HM b o e)⟩
theorem Inv.bk (I:Inv X pins σ H s):∀ b o,X.base.get? b=some o->s.heap.get? b=some o:=fun b o e=>(I.bs b o e).1
theorem Inv.mod (I:Inv X pins σ H s):Mod X.K X.mg X.base:=I.ok.mod
theorem Inv.pE (I:Inv X pins σ H s):X.K.In s.heap:=I.ok.mod.Qc.keeps I.bk
theorem Inv.lt (I:Inv X pins σ H s):X.env.locals<s.heap.objs.size:=let ⟨_,hn,_⟩:=I.loc;hn.lt
theorem Inv.sz (I:Inv X pins σ H s):X.s₀.heap.objs.size<=s.heap.objs.size:=Zb' I.ok.above (Nat.le_of_lt I.lt)
theorem Inv.Wl (I:Inv X pins σ H s){a:Addr}(h:s.heap.objs.size<=a):a ∉ X.fs:=fun hb=>by
 obtain⟨_,o,ho,_⟩:=I.ok.tL.mem hb;exact S' (Za' (W' ho) (Zb' I.sz h)) (Nat.lt_irrefl _)
theorem Inv.QY (I:Inv X pins σ H s):∀ x c,X.env.cells.lookup x=some c->c≠X.env.locals:=fun x c e z=>by
 obtain⟨v,o,ho,hd⟩:=I.cell x c e;obtain⟨m,⟨o',es,ep,ho',hd',_⟩,_⟩:=I.loc;rw[z,ho']at ho;cases ho;rw[hd']at hd;cases hd
theorem Inv.tL (I:Inv X pins σ H s):s.heap.FunFrames X.base X.outer:=by
 have all:∀(l:List Env),(∀ b∈frs l,b∈X.fs)->X.s₀.heap.FunFrames X.base l->s.heap.FunFrames X.base l:=by
  intro l
  induction l with
  |nil=>intro _ _;trivial
  |cons env r ih =>
   intro hs hl;obtain⟨hk,⟨L,o,hf,hn,ho,hd⟩,hr⟩:=hl;have hL:L∈X.fs:=hs L (by unfold frs;rw[List.filterMap_cons,hf];exact mem_cons_self);obtain⟨sl,e⟩:=I.base.slot L o ho (I.ok.OW L hL) hL fun z=>I.ok.HN L z hL;exact⟨hk,⟨L,_,hf,hn,e,hd⟩,ih (fun b hb=>hs b (by unfold frs;rw[List.filterMap_cons,hf];exact Yc' _ hb)) hr⟩
 exact all X.outer (fun _ hb=>hb) I.ok.tL
theorem Inv.stack (I:Inv X pins σ H s):s.heap.FunFrames X.base X.stack:=by
 rcases I.ok.SK with e|⟨e,hf⟩
 ·rw[e];exact I.tL
 ·rw[e];obtain⟨m,hn,_⟩:=I.loc;refine .cons (by rw[I.ok.kind];decide) hf hn ?_ I.tL;exact Heap.get?_none_of_le (Zb' I.ok.Mi I.ok.above)
theorem Inv.HP (I:Inv X pins σ H s):∀ b∈frs X.stack,b∈X.env.locals::X.fs:=fun b hb=>by
 rcases I.ok.SK with e|⟨e,hf⟩
 ·rw[e]at hb;exact Yc' _ hb
 ·rw[e]at hb;unfold frs at hb;rw[List.filterMap_cons,hf]at hb;exact hb
theorem Inv.Ea (I:Inv X pins σ H s):∀ b∈frs X.stack,H b=none:=fun b hb=>by
 rcases List.mem_cons.mp (I.HP b hb) with e|hb
 ·rw[e];exact I.free
 ·obtain⟨_,o,ho,_⟩:=I.ok.tL.mem hb;exact I.base.free b o ho (I.ok.OW b hb) fun z=>I.ok.HN b z hb
theorem Inv.step {g':Array GenState}{t':Nat}{d':Drawn}{ch:List Addr}(I:Inv X pins σ H s)
  (hch:∀ b∈ch,(b∈X.ex\/X.s₀.heap.objs.size<=b)/\b≠X.env.locals/\(∀ x c,X.env.cells.lookup x=some c->c≠b)/\∀ p∈X.pn++pins,p.1≠b)
  (keep:∀ b o,b≠X.env.locals->b ∉ X.fs->b ∉ ch->s.heap.get? b=some o->H b=none->h'.get? b=some o)
  (slot:∀ b o,b≠X.env.locals->b∈X.fs->b ∉ ch->s.heap.get? b=some o->H b=none->∃ sl,h'.get? b=some { o with slots:=sl }) (free:∀ b o,b ∉ ch->s.heap.get? b=some o->H b=none->H' b=none)
  (there:∀ b o,b ∉ ch->s.heap.get? b=some o->∃ o',h'.get? b=some o')
  (tups:∀ b xs,H b=some (.tup xs)->H' b=some (.tup xs)) (zI:∀ b o u,H b=some (.Jz o u)->H' b=some (.Jz o u)) (BM:∀ b ps,H b=some (.QW ps)->∃ more,H' b=some (.QW (ps++more)))
  (ns:∀ m,s.heap.Ns X.env.locals m->h'.Ns X.env.locals m) (hok:pH X.prog X.w H' h') (hg:AllBare g') :
  Inv X pins σ H' { s with heap:=h',gens:=g',drawn:=d',toks:=t' }:=by
 have Yn:∀ b o,X.s₀.heap.get? b=some o->b≠X.env.locals:=fun b o e=>Zn' (Za' (W' e) I.ok.above);have Qd:∀ b o,X.s₀.heap.get? b=some o->b ∉ X.ex->b ∉ ch:=fun b o e hx hb=>by
  rcases (hch b hb).1 with z|z
  ·exact hx z
  ·exact S' (Za' (W' e) z) (Nat.lt_irrefl _)
 have cellK:∀ x c,X.env.cells.lookup x=some c->∀ v,s.heap.IsCell c v->h'.IsCell c v:=fun x c e v ⟨o,ho,hd⟩=>by
  have Tu:c ∉ ch:=fun z=>(hch c z).2.2.1 x c e rfl
  by_cases hc:c∈X.fs
  ·obtain⟨sl,q⟩:=slot c o (I.QY x c e) hc Tu ho (I.lj x c e);exact⟨_,q,hd⟩
  ·exact⟨o,keep c o (I.QY x c e) hc Tu ho (I.lj x c e),hd⟩
 refine⟨I.ok,I.os,hg,⟨fun b o e n hb hx=>?_,fun b o e n hb hx=>?_,fun b o e n hx=>?_,fun b o e hx=>?_,fun b xs e=>tups b xs (I.base.tups b xs e),fun b o xs e=>zI b o xs (I.base.zI b o xs e),fun b ps e=>?_⟩,?_,fun x c e=>?_,?_,fun x c e=>?_,fun p hp=>?_,hok,I.len⟩
 ·exact keep b o (Yn b o e) hb (Qd b o e hx) (I.base.keep b o e n hb hx) (I.base.free b o e n hx)
 ·obtain⟨sl,e1⟩:=I.base.slot b o e n hb hx;obtain⟨sl',e2⟩:=slot b _ (Yn b o e) hb (Qd b o e hx) e1 (I.base.free b o e n hx);exact⟨sl',e2⟩
 ·obtain⟨o',e1⟩:=I.base.there b o e hx;exact free b o' (Qd b o e hx) e1 (I.base.free b o e n hx)
 ·obtain⟨o',e1⟩:=I.base.there b o e hx;exact there b o' (Qd b o e hx) e1
 ·obtain⟨m1,e1⟩:=I.base.BM b ps e;obtain⟨m2,e2⟩:=BM b _ e1;exact⟨m1++m2,by rw[e2,Array.append_assoc]⟩
 ·obtain⟨m,hn,hl⟩:=I.loc;refine⟨m,ns m hn,fun i x v e1 e2 e3=>?_⟩;obtain⟨u,r,l⟩:=hl i x v e1 e2 e3;refine⟨u,r,?_⟩;rcases l with l|⟨k,c,e,z⟩
  ·exact .inl l
  ·exact .inr ⟨k,c,e,cellK x c e _ z⟩
 ·obtain⟨v,z⟩:=I.cell x c e;exact⟨v,cellK x c e v z⟩
 ·obtain⟨m,⟨o,_,_,ho,_⟩,_⟩:=I.loc;exact free _ o (fun z=>(hch _ z).2.1 rfl) ho I.free
 ·obtain⟨v,o,ho,hd⟩:=I.cell x c e;exact free c o (fun z=>(hch c z).2.2.1 x c e rfl) ho (I.lj x c e)
 ·obtain⟨e,n,ne,nf,d⟩:=I.pin p hp;have Tu:p.1 ∉ ch:=fun z=>(hch p.1 z).2.2.2 p hp rfl;exact⟨keep p.1 p.2 ne nf Tu e n,free p.1 p.2 Tu e n,ne,nf,d⟩
theorem Inv.un {t':Nat}(I:Inv X pins σ H s)(u:Un X.fs [] H H' s.heap h')(hok:pH X.prog X.w H' h'):Inv X pins σ H' { s with heap:=h',toks:=t' }:=by
 obtain⟨m,⟨o,es,ep,ho,r⟩,_⟩:=id I.loc;obtain⟨sl,hL⟩:=u.any ho I.free (by simp);exact I.step (g':=s.gens) (d':=s.drawn) (ch:=[]) (fun _ z=>nomatch z) (fun b o _ hb _ e n=>u.keep b o e n hb (by simp)) (fun b o _ hb _ e n=>u.slot b o e n hb (by simp)) (fun b o _ e n=>u.free b o e n (by simp)) (fun b o _ e=>u.there b o e (by simp)) u.tups u.zI u.BM (fun m' hm=>by
  obtain⟨o',es',ep',ho',r'⟩:=hm;rw[ho]at ho';cases ho';exact⟨_,es',ep',hL,r'⟩) hok I.bare
theorem Inv.call {g':Array GenState}{t':Nat}{d':Drawn}{ch:List Addr}(I:Inv X pins σ H s)(u:Un (frs X.stack) ch H H' s.heap h')(hok:pH X.prog X.w H' h')(hg:AllBare g')
  (hch:∀ b∈ch,(b∈X.ex\/X.s₀.heap.objs.size<=b)/\b≠X.env.locals/\(∀ x c,X.env.cells.lookup x=some c->c≠b)/\∀ p∈X.pn++pins,p.1≠b) :
  Inv X pins σ H' { s with heap:=h',gens:=g',drawn:=d',toks:=t' }:=by
 obtain⟨m,⟨o,es,ep,ho,r⟩,_⟩:=id I.loc;obtain⟨sl,hL⟩:=u.any ho I.free fun z=>(hch _ z).2.1 rfl;exact I.step (ch:=ch) hch (fun b o hL hb hc e n=>u.keep b o e n (fun z=>(List.mem_cons.mp (I.HP b z)).elim hL hb) hc) (fun b o _ _ hc e n=>u.any e n hc) (fun b o hc e n=>u.free b o e n hc) (fun b o hc e=>u.there b o e hc) u.tups u.zI u.BM (fun m' hm=>by
  obtain⟨o',es',ep',ho',r'⟩:=hm;rw[ho]at ho';cases ho';exact⟨_,es',ep',hL,r'⟩) hok hg
theorem Inv.turned {t':Nat}{it:Addr}(I:Inv X pins σ H s)(k:∀ b o,b≠it->s.heap.get? b=some o->h'.get? b=some o)(hn:H it=none)(hL:it≠X.env.locals)
  (h1:it∈X.ex\/X.s₀.heap.objs.size<=it) (h2:∀ x c,X.env.cells.lookup x=some c->c≠it) (h3:∀ p∈X.pn++pins,p.1≠it):Inv X pins σ H { s with heap:=h',toks:=t' }:=by
 have Yo:∀ b u,H b=some u->b≠it:=fun b u e z=>by rw[z,hn]at e;cases e
 refine I.step (g':=s.gens) (d':=s.drawn) (ch:=[it]) (fun b hb=>?_) (fun b o _ _ hc e _=>k b o (fun z=>hc (by simp[z])) e) (fun b o _ _ hc e _=>⟨o.slots,k b o (fun z=>hc (by simp[z])) e⟩) (fun _ _ _ _ n=>n)
  (fun b o hc e=>⟨o,k b o (fun z=>hc (by simp[z])) e⟩) (fun _ _ e=>e) (fun _ _ _ e=>e) (fun b ps e=>⟨#[],by rw[e];simp⟩) (fun m hm=>?_) (fun b u e=>?_) I.bare
 ·have e:b=it:=by simpa using hb
  subst e;exact⟨h1,hL,h2,h3⟩
 ·obtain⟨o,es,ep,ho,r⟩:=hm;exact⟨o,es,ep,k _ o (Zh' hL) ho,r⟩
 ·refine(I.hok b u e).stay (fun c v hc q=>k c v ?_ q) (fun _ q=>q) fun _ _ q=>q;rcases hc with z|z
  ·rw[z];exact Yo b u e
  ·exact Yo c _ z
theorem Inv.tok (I:Inv X pins σ H s)(t:Nat):Inv X pins σ H { s with toks:=t }:=I.un (h':=s.heap) (t':=t) Un.refl I.hok
theorem Inv.kept {t':Nat}(I:Inv X pins σ H s)(k:∀ b u,s.heap.get? b=some u->h'.get? b=some u):Inv X pins σ H { s with heap:=h',toks:=t' }:=I.un (Un.kept k) (I.hok.kept k)
theorem Inv.laid {a:Addr}{o:HO}{t':Nat}(I:Inv X pins σ H s)(k:∀ b u,s.heap.get? b=some u->h'.get? b=some u)(hp:s.heap.objs.size<=a)(new:eC X.prog X.w (upd H a o) h' a o) :
  Inv X pins σ (upd H a o) { s with heap:=h',toks:=t' }:=I.un (Un.laid k hp (I.hok.fresh hp)) (I.hok.laid k hp new)
theorem Inv.write {x e:Addr}{o:HO}{t':Nat}(I:Inv X pins σ H s)(mu:Tr (H x))(he:e=x\/H e=some (.own x))(k:∀ b u,b≠e->s.heap.get? b=some u->h'.get? b=some u)(heo:∃ u,h'.get? e=some u)
  (new:eC X.prog X.w (upd H x o) h' x o):Inv X pins σ (upd H x o) { s with heap:=h',toks:=t' }:=I.un (Un.write mu he k heo) (I.hok.write mu he k heo new)
theorem Inv.JA {Fv:List (Addr×Obj)}(I:Inv X pins σ H s)(h:∀ p∈Fv,s.heap.get? p.1=some p.2/\H p.1=none/\p.1≠X.env.locals/\p.1 ∉ X.fs/\∀ v,p.2.data≠.cell v):Inv X Fv σ H s :=
 ⟨I.ok,I.os,I.bare,I.base,I.loc,I.cell,I.free,I.lj,fun p hp=>(Zp'.mp hp).elim (fun z=>I.pin p (Yb' _ z)) (h p),I.hok,I.len⟩
theorem Fx {N:List Str}(hN:N.Nodup){i j:Nat}{x:Str}(a:N[i]? = some x)(b:N[j]? = some x):i=j:=by
 obtain⟨h1,e1⟩:=K'.mp a;obtain⟨h2,e2⟩:=K'.mp b;exact(List.getElem_inj hN).mp (e1.trans e2.symm)
theorem Cn {M:Model}{A:Around}{E:Value->Shared->Prop}{i:Nat}{x:Str}{v:V}{u:Value}{Q:Unit->Shared->Prop}(I:Inv X pins σ H s)(hN:X.N.Nodup)(hi:X.N[i]? = some x)(hx:Loc X.env.scope x)(r:RelV v u)
  (h:∀ s',Inv X pins (σ.set i (some v)) H s'->(∃ a,Heap.SameBut a s.heap s'.heap/\(a=X.env.locals\/X.env.cells.lookup x=some a))->Q () s') (hf:X.fn x=true\/X.env.scope.names.lookup x=some .local:=by first|exact .inl rfl|exact .inr rfl|assumption):wpAny M A (storeName X.env x u) Q E s:=by
 obtain⟨m,hn,hl⟩:=id I.loc;have hcls:(X.env.scope.kind == .class||(X.env.scope.kind == .module&&X.env.locals != X.env.globals))=false:=by rw[I.ok.kind];rfl
 have Yp:i<σ.length:=by rw[I.len];exact(K'.mp hi).1
 have QY:=I.QY;have tracked:∀{a:Addr} {h':Heap},(∃ o,s.heap.get? a=some o/\H a=none)->Heap.SameBut a s.heap h'->pH X.prog X.w H h':=fun {a h'} ha hs b ob e=>by
  obtain⟨_,_,hfree⟩:=ha;refine(I.hok b ob e).stay (fun c w' hc q=>(hs.2 c ?_).trans q) (fun _ q=>q) fun _ _ q=>q;rintro rfl;rcases hc with rfl|hc
  ·rw[hfree]at e;cases e
  ·rw[hfree]at hc;cases hc
 rcases hx with hk|hk
 ·refine wpAny_storeName_local hk hn (fun h' hn' hs=>?_) hcls;obtain⟨oL,_,_,hoL,_⟩:=id hn;refine h _ ⟨I.ok,I.os,I.bare,⟨fun b o e n hb hx=>?_,fun b o e n hb hx=>?_,I.base.free,fun b o e hx=>?_,I.base.tups,I.base.zI,I.base.BM⟩,⟨_,hn',fun j y v' e1 e2 e3=>?_⟩,fun y c e=>?_,I.free,I.lj,fun p hp=>?_,tracked ⟨oL,hoL,I.free⟩ hs,by simpa using I.len⟩ ⟨_,hs,.inl rfl⟩
  ·exact(hs.2 b (Zn' (Za' (W' e) I.ok.above))).trans (I.base.keep b o e n hb hx)
  ·obtain⟨sl,e1⟩:=I.base.slot b o e n hb hx;exact⟨sl,(hs.2 b (Zn' (Za' (W' e) I.ok.above))).trans e1⟩
  ·obtain⟨o',e1⟩:=I.base.there b o e hx;exact⟨o',(hs.2 b (Zn' (Za' (W' e) I.ok.above))).trans e1⟩
  ·by_cases hj:j=i
   ·subst hj;rw[hi]at e1;cases e1;rw[List.getElem?_set_self Yp]at e2;cases e2;exact⟨u,r,.inl ⟨hk,by simp⟩⟩
   ·rw[List.getElem?_set_ne (Zh' hj)]at e2;obtain⟨u',r',q⟩:=hl j y v' e1 e2 e3;refine⟨u',r',?_⟩;rcases q with ⟨k,e⟩|⟨k,c,e,z⟩
    ·refine .inl ⟨k,?_⟩;have:y≠x:=fun e=>hj (Fx hN e1 (e ▸ hi));simp[this,e]
    ·exact .inr ⟨k,c,e,z.sameBut hs (QY y c e)⟩
  ·obtain⟨w',z⟩:=I.cell y c e;exact⟨w',z.sameBut hs (QY y c e)⟩
  ·obtain⟨e,n,ne,nf,d⟩:=I.pin p hp;exact⟨(hs.2 p.1 ne).trans e,n,ne,nf,d⟩
 ·have hfn:X.fn x=true:=by
   rcases hf with z|z
   ·exact z
   ·rw[z]at hk;cases hk
  obtain⟨c,hc⟩:=I.ok.has x (.inl hk);obtain⟨w',z⟩:=I.cell x c hc;refine wpAny_storeName_cell I.ok.kind hk hc z (fun h' hc' hs=>?_);obtain⟨oc,hoc,Wm⟩:=id z;refine h { s with heap:=h' } ⟨I.ok,I.os,I.bare,⟨fun b o e n hb hx=>?_,fun b o e n hb hx=>?_,I.base.free,fun b o e hx=>?_,I.base.tups,I.base.zI,I.base.BM⟩,⟨m,hn.sameBut hs (Zh' (QY x c hc)),fun j y v' e1 e2 e3=>?_⟩,fun y c' e=>?_,I.free,I.lj,fun p hp=>?_,tracked ⟨oc,hoc,I.lj x c hc⟩ hs,by simpa using I.len⟩ ⟨c,hs,.inr hc⟩
  ·exact(hs.2 b (Zn' (Za' (W' e) (I.ok.cab x c hfn hc)))).trans (I.base.keep b o e n hb hx)
  ·obtain⟨sl,e1⟩:=I.base.slot b o e n hb hx;exact⟨sl,(hs.2 b (Zn' (Za' (W' e) (I.ok.cab x c hfn hc)))).trans e1⟩
  ·obtain⟨o',e1⟩:=I.base.there b o e hx;exact⟨o',(hs.2 b (Zn' (Za' (W' e) (I.ok.cab x c hfn hc)))).trans e1⟩
  ·by_cases hj:j=i
   ·subst hj;rw[hi]at e1;cases e1;rw[List.getElem?_set_self Yp]at e2;cases e2;exact⟨u,r,.inr ⟨.inl hk,c,hc,hc'⟩⟩
   ·rw[List.getElem?_set_ne (Zh' hj)]at e2;obtain⟨u',r',q⟩:=hl j y v' e1 e2 e3;refine⟨u',r',?_⟩;rcases q with q|⟨k,c',e,z'⟩
    ·exact .inl q
    ·refine .inr ⟨k,c',e,z'.sameBut hs ?_⟩;rintro rfl;exact hj (Fx hN e1 (I.ok.inj _ _ _ e hc ▸ hi))
  ·by_cases hcc:c'=c
   ·subst hcc;exact⟨_,hc'⟩
   ·obtain⟨w2,z2⟩:=I.cell y c' e;exact⟨w2,z2.sameBut hs hcc⟩
  ·obtain⟨e,n,ne,nf,d⟩:=I.pin p hp;refine⟨(hs.2 p.1 ?_).trans e,n,ne,nf,d⟩;intro q;rw[q,hoc]at e;have q':oc=p.2:=Z' e;exact d w' (by rw[<-q'];exact Wm)
theorem jo {M:Model}{A:Around}{E:Value->Shared->Prop}{i:Nat}{x:Str}{v:V}{u:Value}{Q:Unit->Shared->Prop}(I:Inv X pins σ H s)(hN:X.N.Nodup)(hi:X.N[i]? = some x)(hx:Loc X.env.scope x)(r:RelV v u)
  (h:∀ s',Inv X pins (σ.set i (some v)) H s'->Q () s') (hf:X.fn x=true\/X.env.scope.names.lookup x=some .local:=by first|exact .inl rfl|exact .inr rfl|assumption):wpAny M A (storeName X.env x u) Q E s :=
 Cn I hN hi hx r (fun s' I' _=>h s' I') hf
theorem Inv.call' {s':Shared}{ch:List Addr}(I:Inv X pins σ H s)(ho:s'.os=s.os)(u:Un (frs X.stack) ch H H' s.heap s'.heap)(hok:pH X.prog X.w H' s'.heap)(hg:AllBare s'.gens)
  (hch:∀ b∈ch,(b∈X.ex\/X.s₀.heap.objs.size<=b)/\b≠X.env.locals/\(∀ x c,X.env.cells.lookup x=some c->c≠b)/\∀ p∈X.pn++pins,p.1≠b):Inv X pins σ H' s':=by
 obtain⟨h',g',d',t',o'⟩:=s';have e:o'=s.os:=ho;subst e;exact I.call (g':=g') (t':=t') (d':=d') u hok hg hch
end
abbrev XK:=Value->Option Addr->Hp->Prop
noncomputable abbrev St:=List (Option V)
abbrev VK:=V->Hp->Prop
abbrev TE:=St->Hp->VK->Prop
abbrev TT:=St->Hp->(Bool->Hp->Prop)->Prop
abbrev TA:=St->Hp->(List V->Hp->Prop)->Prop
structure Ends where
 nx:St->Hp->Prop
 rt:VK
 bk:St->Hp->Prop:=fun _ _=>False
 ct:St->Hp->Prop:=fun _ _=>False
abbrev TS:=Ends->St->Hp->Prop
def EP (X:Cx)(pins:List (Addr×Obj))(σ:St)(Q:VK)(u:Value)(s':Shared):Prop:=∃ v H',Inv X pins σ H' s'/\RelV v u/\Q v H'
def TP (X:Cx)(pins:List (Addr×Obj))(σ:St)(Q:Bool->Hp->Prop)(b:Bool)(s':Shared):Prop:=∃ H',Inv X pins σ H' s'/\Q b H'
def AP (X:Cx)(pins:List (Addr×Obj))(σ:St)(Q:List V->Hp->Prop)(us:List Value)(s':Shared):Prop:=∃ vs H',Inv X pins σ H' s'/\Vals vs us/\Q vs H'
def SP (X:Cx)(pins:List (Addr×Obj))(D:Ends)(f:Flow)(s':Shared):Prop :=
 match f with
 |.next=>∃ σ' H',Inv X pins σ' H' s'/\D.nx σ' H'
 |.brk=>∃ σ' H',Inv X pins σ' H' s'/\D.bk σ' H'
 |.cont=>∃ σ' H',Inv X pins σ' H' s'/\D.ct σ' H'
 |.ret u=>∃ v σ' H',Inv X pins σ' H' s'/\RelV v u/\D.rt v H'
def PE (X:Cx)(e:Expr)(t:TE):Prop :=
 ∀(pins:List (Addr×Obj)) (s:Shared) (σ:St) (H:Hp) (Q:VK),Inv X pins σ H s->t σ H Q->wpAny (model X.prog X.w) X.A (eval e X.env) (EP X pins σ Q) X.xe s
def PT (X:Cx)(e:Expr)(t:TT):Prop :=
 ∀(pins:List (Addr×Obj)) (s:Shared) (σ:St) (H:Hp) (Q:Bool->Hp->Prop),Inv X pins σ H s->t σ H Q->wpAny (model X.prog X.w) X.A (isTrue e X.env (eval e X.env)) (TP X pins σ Q) X.xe s
def PW (X:Cx)(e:Expr)(t:TT):Prop :=
 ∀(whole:Sem Value)(pins:List (Addr×Obj)) (s:Shared) (σ:St) (H:Hp) (Q:Bool->Hp->Prop),Inv X pins σ H s->t σ H Q->wpAny (model X.prog X.w) X.A (isTrue e X.env whole) (TP X pins σ Q) X.xe s
theorem PW.pt {X:Cx}{e:Expr}{t:TT}(h:PW X e t):PT X e t:=h _
def PA (X:Cx)(es:List Expr)(t:TA):Prop :=
 ∀(pos:Pos)(pins:List (Addr×Obj)) (s:Shared) (σ:St) (H:Hp) (Q:List V->Hp->Prop),Inv X pins σ H s->t σ H Q->wpAny (model X.prog X.w) X.A (spliced (backTo pos (starEach es X.env))) (AP X pins σ Q) X.xe s
def PS (X:Cx)(st:Stmt)(t:TS):Prop :=
 ∀(pins:List (Addr×Obj)) (s:Shared) (σ:St) (H:Hp) (D:Ends),Inv X pins σ H s->t D σ H->wpAny (model X.prog X.w) X.A (exec st X.env) (SP X pins D) X.xe s
def zy (X:Cx)(st:List Stmt)(t:TS):Prop :=
 ∀(pins:List (Addr×Obj)) (s:Shared) (σ:St) (H:Hp) (D:Ends),Inv X pins σ H s->t D σ H->wpAny (model X.prog X.w) X.A (execs st X.env) (SP X pins D) X.xe s
theorem cu {α:Type}{t:Sem α}{Q Q':α->Shared->Prop}{M:Model}{A:Around}{E:Value->Shared->Prop}{s:Shared}(h:wpAny M A t Q E s)(hQ:∀ a s,Q a s->Q' a s):wpAny M A t Q' E s:=wpAny_mono h hQ fun _ _ x=>x
end L2
namespace L2
open PySem PySem.Spec PyProof.Rows
section
variable {X:Cx}
inductive Qe (i:Nat)(σ:St)(H:Hp)(Q:VK):Prop
 |mk (v:_) (cT:σ[i]? = some (some v)) (cU:Q v H):Qe i σ H Q
def Tv (i:Nat):TE:=fun σ H Q=>Qe i σ H Q
def tC (v:V):TE:=fun _ H Q=>Q v H
theorem QZ {i:Nat}{x:Str}{pos:Pos}(hN:X.N[i]? = some x)(hv:Tt X.env.scope x)(hd:(x==("__debug__":Str))=false:=by decide)(hcd:(x==("__classdict__":Str))=false:=by decide):PE X (.Name x pos) (Tv i):=by
 intro pins s σ H Q I h;obtain⟨v,e,h⟩:=h;obtain⟨m,hn,hl⟩:=I.loc;obtain⟨u,r,l⟩:=hl i x v hN e hv;have fin:EP X pins σ Q u s:=⟨v,H,I,r,h⟩;rcases l with ⟨hk,hm⟩|⟨hk,c,hc,hcell⟩
 ·exact wpAny_Name (wpAny_loadName_local I.ok.kind hk hn hm fin) hd
 ·rcases hk with hk|hk
  ·exact wpAny_Name (wpAny_loadName_cell I.ok.kind hk hc hcell fin) hd
  ·exact wpAny_Name (wpAny_loadName_free I.ok.kind hk hc hcell fin hcd) hd
theorem ai {i j pos}:PE X (.Constant (.int i) j pos) (tC (.int i)):=fun _ _ _ H _ I h=>wpAny_Constant_int ⟨.int i,H,I.tok _,⟨_,rfl⟩,h⟩
theorem cE {b j pos}:PE X (.Constant (.bool b) j pos) (tC (.bl b)):=fun _ _ _ H _ I h=>Constant_bool ⟨.bl b,H,I,rfl,h⟩
theorem c8 {j pos}:PE X (.Constant .none j pos) (tC .non):=fun _ _ _ H _ I h=>Constant_none ⟨.non,H,I,rfl,h⟩
theorem av {x j pos}:PE X (.Constant (.str x) j pos) (tC (.str x)):=fun _ _ _ H _ I h=>Calls.Constant_str ⟨.str x,H,I.tok _,⟨_,rfl⟩,h⟩
def Gl (X:Cx)(x:Str):Prop:=X.env.kindOf x=some .globalImplicit
theorem n9 {E:Value->Shared->Prop}{pins:List (Addr×Obj)}{s:Shared}{σ:St}{H:Hp}{x:Str}{u:Value}{pos:Pos}{Q:Value->Shared->Prop}(I:Inv X pins σ H s)(hg:Gl X x)(hm:X.mg x=some u)(h:Q u s)
  (hd:(x==("__debug__":Str))=false:=by decide):wpAny (model X.prog X.w) X.A (eval (.Name x pos) X.env) Q E s :=
 Calls.Name_function_global I.ok.kind hg (Calls.loadGlobal_global (by rw[I.ok.glob];exact I.mod.glob.keeps I.bk) hm h) hd
theorem my {E:Value->Shared->Prop}{pins:List (Addr×Obj)}{s:Shared}{σ:St}{H:Hp}{x:Str}{u:Value}{pos:Pos}{Q:Value->Shared->Prop}(I:Inv X pins σ H s)(hg:Gl X x)(hm:X.mg x=none)(hv:bootBuiltins x=some u)(h:Q u s)
  (hn:x ≠ "__name__":=by decide) (hd:(x==("__debug__":Str))=false:=by decide):wpAny (model X.prog X.w) X.A (eval (.Name x pos) X.env) Q E s:=by
 obtain⟨mb,h1,h2⟩:=I.mod.blt;exact Calls.Name_function_global I.ok.kind hg (Calls.loadGlobal_builtin (by rw[I.ok.glob];exact I.mod.glob.keeps I.bk) hm (by rw[I.ok.blt];exact h1.keeps I.bk) ((h2 x hn).trans hv) h) hd
theorem bA {x:Str}{v:V}{u:Value}{pos:Pos}(hg:Gl X x)(hm:X.mg x=some u)(r:RelV v u)(hd:(x==("__debug__":Str))=false:=by decide):PE X (.Name x pos) (tC v) :=
 fun _ _ _ H _ I h=>n9 I hg hm ⟨v,H,I,r,h⟩ hd
theorem dW {x:Str}{v:V}{u:Value}{pos:Pos}(hg:Gl X x)(hm:X.mg x=none)(hv:bootBuiltins x=some u)(r:RelV v u)(hn:x ≠ "__name__":=by decide)(hd:(x==("__debug__":Str))=false:=by decide):PE X (.Name x pos) (tC v) :=
 fun _ _ _ H _ I h=>my I hg hm hv ⟨v,H,I,r,h⟩ hn hd
variable {a b:Expr} {ta tb:TE} {pos:Pos}
def PC (X:Cx)(op:CmpOp)(a b:Expr)(t:TE):Prop :=
 ∀(pins:List (Addr×Obj)) (s:Shared) (σ:St) (H:Hp) (Q:VK),Inv X pins σ H s->t σ H Q ->
  wpAny (model X.prog X.w) X.A (eval a X.env) (fun v s₁=>wpAny (model X.prog X.w) X.A (eval b X.env) (fun u s₂=>wpAny (model X.prog X.w) X.A (compareOp op v u) (EP X pins σ Q) X.xe s₂) X.xe s₁) X.xe s
def tB (t:TE):TT:=fun σ H Q=>t σ H fun x H1=>∃ c,x=.bl c/\Q c H1
theorem Eb {op:CmpOp}{t:TE}(h:PC X op a b t)(h1:behindInMarks op b=false:=by first|exact Tw _ (by decide) (by decide)|rfl):PT X (.Compare a [op] [b] pos) (tB t):=by
 intro pins s σ H Q I hw;refine wpAny_isTrue_Compare1 (cu (h pins s σ H _ I hw) fun v s1 h1=>cu h1 fun u s2 h2=>cu h2 fun c s3 ⟨x,H1,I1,r1,q1⟩=>?_) h1;obtain⟨d,rfl,q⟩:=q1;cases r1;exact wpAny_truthy_bool ⟨H1,I1,q⟩
theorem aR {e:Expr}{t:TE}(h:PE X e t)(he:∀ whole,isTrue e X.env whole=(do let v <-whole;standAt e.pos;holding [v] (truthy v)):=by intro _;rfl):PT X e (tB t):=by
 intro pins s σ H Q I hw;refine isTrue_plain (cu (h pins s σ H _ I hw) fun v s1 ⟨x,H1,I1,r1,q1⟩=>?_) (he _);obtain⟨d,rfl,q⟩:=q1;cases r1;exact wpAny_truthy_bool ⟨H1,I1,q⟩
variable {tA VS:TT} {rest:List Expr}
def Wn (t u:TT):TT:=fun σ H Q=>t σ H fun c H1=>if c=true then u σ H1 Q else Q false H1
def Zw (t u:TT):TT:=fun σ H Q=>t σ H fun c H1=>if c=true then Q true H1 else u σ H1 Q
def Wo (t:TT):TT:=fun σ H Q=>t σ H fun c H1=>Q (!c) H1
theorem cX (ha:PT X a tA):PW X (.BoolOp .And [a] pos) tA:=by
 intro wh pins s σ H Q I h;refine isTrue_and (cu (ha pins s σ H Q I h) fun c s1 e=>?_);cases c with
 |true=>exact isTrue_and_nil e
 |false=>exact e
theorem d7 (ha:PT X a tA):PW X (.BoolOp .Or [a] pos) tA:=by
 intro wh pins s σ H Q I h;refine isTrue_or (cu (ha pins s σ H Q I h) fun c s1 e=>?_);cases c with
 |false=>exact isTrue_or_nil e
 |true=>exact e
theorem cB (ha:PT X a tA)(hb:PW X (.BoolOp .And (b::rest) pos) VS):PW X (.BoolOp .And (a::b::rest) pos) (Wn tA VS):=by
 intro wh pins s σ H Q I h;refine isTrue_and (cu (ha pins s σ H _ I h) fun c s1 fS=>?_);obtain⟨H1,I1,q1⟩:=fS;cases c with
 |true=>exact hb wh pins s1 σ H1 Q I1 q1
 |false=>exact⟨H1,I1,q1⟩
theorem fq (ha:PT X a tA)(hb:PW X (.BoolOp .Or (b::rest) pos) VS):PW X (.BoolOp .Or (a::b::rest) pos) (Zw tA VS):=by
 intro wh pins s σ H Q I h;refine isTrue_or (cu (ha pins s σ H _ I h) fun c s1 fS=>?_);obtain⟨H1,I1,q1⟩:=fS;cases c with
 |true=>exact⟨H1,I1,q1⟩
 |false=>exact hb wh pins s1 σ H1 Q I1 q1
theorem bW (ha:PT X a tA):PT X (.UnaryOp .Not a pos) (Wo tA):=by
 intro pins s σ H Q I h;exact isTrue_not (ha pins s σ H (fun c H1=>Q (!c) H1) I h)
def Tx (ta tb:TE):TE:=fun σ H Q=>ta σ H fun x H1=>∃ c,x=.bl c/\if c=true then tb σ H1 Q else Q (.bl false) H1
def Wq (ta tb:TE):TE:=fun σ H Q=>ta σ H fun x H1=>∃ c,x=.bl c/\if c=true then Q (.bl true) H1 else tb σ H1 Q
def Tz (ta:TE):TE:=fun σ H Q=>ta σ H fun x H1=>∃ c,x=.bl c/\Q (.bl (!c)) H1
theorem eD {op}{t:TE}(h:PE X a t):PE X (.BoolOp op [a] pos) t:=fun pins s σ H Q I hw=>BoolOp_one (h pins s σ H Q I hw)
theorem dy (ha:PE X a ta)(hb:PE X (.BoolOp .And (b::rest) pos) tb):PE X (.BoolOp .And (a::b::rest) pos) (Tx ta tb):=by
 intro pins s σ H Q I h;refine BoolOp_and (cu (ha pins s σ H _ I h) fun v s1 fS=>?_);obtain⟨x,H1,I1,r1,q1⟩:=fS;obtain⟨c,rfl,q1⟩:=q1;cases r1;refine wpAny_truthy_bool ?_;cases c with
 |true=>exact hb pins s1 σ H1 Q I1 q1
 |false=>exact⟨.bl false,H1,I1,rfl,q1⟩
theorem JB (ha:PE X a ta)(hb:PE X (.BoolOp .Or (b::rest) pos) tb):PE X (.BoolOp .Or (a::b::rest) pos) (Wq ta tb):=by
 intro pins s σ H Q I h;refine BoolOp_or (cu (ha pins s σ H _ I h) fun v s1 fS=>?_);obtain⟨x,H1,I1,r1,q1⟩:=fS;obtain⟨c,rfl,q1⟩:=q1;cases r1;refine wpAny_truthy_bool ?_;cases c with
 |false=>exact hb pins s1 σ H1 Q I1 q1
 |true=>exact⟨.bl true,H1,I1,rfl,q1⟩
theorem Q0 (ha:PE X a ta):PE X (.UnaryOp .Not a pos) (Tz ta):=by
 intro pins s σ H Q I h;refine UnaryOp_ (cu (ha pins s σ H _ I h) fun v s1 fS=>?_);obtain⟨x,H1,I1,r1,q1⟩:=fS;obtain⟨c,rfl,q1⟩:=q1;cases r1;exact not_of (wpAny_truthy_bool ⟨.bl (!c),H1,I1,rfl,q1⟩)
def Zx (t:TT)(ta tb:TE):TE:=fun σ H Q=>t σ H fun c H1=>if c=true then ta σ H1 Q else tb σ H1 Q
theorem cz {c:Expr}(hc:PT X c tA)(ha:PE X a ta)(hb:PE X b tb):PE X (.IfExp c a b pos) (Zx tA ta tb):=by
 intro pins s σ H Q I h;refine wpAny_IfExp (cu (hc pins s σ H _ I h) fun d s1 fS=>?_);obtain⟨H1,I1,q1⟩:=fS;cases d with
 |true=>exact ha pins s1 σ H1 Q I1 q1
 |false=>exact hb pins s1 σ H1 Q I1 q1
end
end L2
namespace L2
open PySem PySem.Spec PyProof.Rows
def aM (K:Frag)(H:Hp)(a:Addr)(xs:List V):Prop :=
 Rd H a (.lst xs) \/
  ∃(o:Obj)(its:Array Value)(n:Nat),K.lookup a=some o/\o.cls=.type "list"/\o.dict=none/\o.data=.seq its n/\its.size<=sizeLine/\Vals xs its.toList
def jf (K:Frag)(H:Hp)(a:Addr)(xs:List V):Prop :=
 Rd H a (.tup xs) \/
  ∃(o:Obj)(its:Array Value)(n:Nat),K.lookup a=some o/\o.cls=.type "tuple"/\o.data=.seq its n/\its.size<=sizeLine/\Vals xs its.toList
noncomputable def Wr:Value->Option V
 |.none=>some .non
 |.bool b=>some (.bl b)
 |.int i _=>some (.int i)
 |.str x _=>some (.str x)
 |.bytes b _=>some (.Mh b)
 |.float b _=>some (.flt b)
 |.ref a=>some (.ref a)
 |.type n=>some (.ty n)
 |_=>none
theorem RelV.abs {x:V}{u:Value}(r:RelV x u):Wr u=some x:=by
 cases x with
 |non=>cases r;rfl
 |bl _=>cases r;rfl
 |int _=>obtain⟨t,rfl⟩:=r;rfl
 |str _=>obtain⟨t,rfl⟩:=r;rfl
 |Mh _=>obtain⟨t,rfl⟩:=r;rfl
 |flt _=>obtain⟨t,rfl⟩:=r;rfl
 |ref _=>cases r;rfl
 |ty _=>cases r;rfl
theorem RelV.inj {x y:V}{u:Value}(r:RelV x u)(q:RelV y u):x=y:=Z' (r.abs.symm.trans q.abs)
theorem Vals.inj:∀{xs ys:List V} {us:List Value},Vals xs us->Vals ys us->xs=ys
 |_,_,_,.nil,.nil=>rfl
 |_,_,_,.cons r t,.cons r' t'=>by rw[r.inj r',Vals.inj t t']
section
variable {X:Cx} {pins:List (Addr×Obj)} {σ:St} {H:Hp} {s:Shared} {a:Addr} {xs ys:List V}
theorem aM.of {K:Frag}(h:H a=some (.lst xs)):aM K H a xs:=.inl (.inl h)
theorem jf.of {K:Frag}(h:H a=some (.tup xs)):jf K H a xs:=.inl (.inl h)
theorem Inv.list (I:Inv X pins σ H s)(h:aM X.K H a xs):∃ its:List Value,Vals xs its/\PlainL s.heap a its.toArray/\xs.length<=sizeLine:=by
 rcases h with h|⟨o,its,n,hk,hc,hd,hs,hz,r⟩
 ·obtain⟨z,its,n,r,e⟩:=h.ok I.hok;exact⟨its,r,⟨_,n,e,rfl,rfl,rfl⟩,z⟩
 ·refine⟨its.toList,r,⟨o,n,I.pE a o hk,hc,hd,by simpa using hs⟩,?_⟩;have e:=r.length;simp only [Array.length_toList]at e;omega
theorem Inv.tuple (I:Inv X pins σ H s)(h:jf X.K H a xs):∃ its:List Value,Vals xs its/\IsTup s.heap a its.toArray/\xs.length<=sizeLine:=by
 rcases h with h|⟨o,its,n,hk,hc,hs,hz,r⟩
 ·obtain⟨z,its,r,p⟩:=h.ok I.hok;exact⟨its,r,p,z⟩
 ·refine⟨its.toList,r,⟨o,I.pE a o hk,hc,n,by simpa using hs⟩,?_⟩;have e:=r.length;simp only [Array.length_toList]at e;omega
theorem Inv.Fy (I:Inv X pins σ H s)(h:aM X.K H a xs)(h':aM X.K H a ys):xs=ys:=by
 obtain⟨its,r,⟨o,n,e,_,_,d⟩,_⟩:=I.list h;obtain⟨its',r',⟨o',n',e',_,_,d'⟩,_⟩:=I.list h';rw[e]at e';cases e';rw[d]at d'
 injection d' with d1 _
 have:its=its':=by simpa using Zj' Array.toList d1
 subst this;exact r.inj r'
end
abbrev Cx.wish (X:Cx)(E:Value->Shared->Prop):Cx:={ X with xe:=E }
noncomputable abbrev Cx.Qf (X:Cx):Cx:=X.wish fun _ _=>False
theorem Cx.Ok.wish {X:Cx}(ok:X.Ok)(E:Value->Shared->Prop):(X.wish E).Ok :=
 ⟨ok.mod,ok.kind,ok.glob,ok.blt,ok.above,ok.inj,ok.has,ok.cab,ok.hd,ok.frames,ok.SK,ok.SM,ok.bs,ok.Mi,ok.HM,ok.HN,ok.tL,ok.OW⟩
theorem Cx.Ok.iU {X:Cx}{E:Value->Shared->Prop}(ok:(X.wish E).Ok):X.Ok :=
 ⟨ok.mod,ok.kind,ok.glob,ok.blt,ok.above,ok.inj,ok.has,ok.cab,ok.hd,ok.frames,ok.SK,ok.SM,ok.bs,ok.Mi,ok.HM,ok.HN,ok.tL,ok.OW⟩
section
variable {X:Cx} {pins:List (Addr×Obj)} {σ:St} {H:Hp} {s:Shared} {E:Value->Shared->Prop}
theorem Inv.wish (I:Inv X pins σ H s)(E:Value->Shared->Prop):Inv (X.wish E) pins σ H s:=⟨I.ok.wish E,I.os,I.bare,I.base,I.loc,I.cell,I.free,I.lj,I.pin,I.hok,I.len⟩
theorem Inv.iU (I:Inv (X.wish E) pins σ H s):Inv X pins σ H s:=⟨I.ok.iU,I.os,I.bare,I.base,I.loc,I.cell,I.free,I.lj,I.pin,I.hok,I.len⟩
theorem SP.iU {D:Ends}{f:Flow}{s':Shared}(h:SP (X.wish E) pins D f s'):SP X pins D f s':=by
 cases f with
 |next=>obtain⟨σ',H',I,q⟩:=h;exact⟨σ',H',I.iU,q⟩
 |brk=>obtain⟨σ',H',I,q⟩:=h;exact⟨σ',H',I.iU,q⟩
 |cont=>obtain⟨σ',H',I,q⟩:=h;exact⟨σ',H',I.iU,q⟩
 |ret u=>obtain⟨v,σ',H',I,r,q⟩:=h;exact⟨v,σ',H',I.iU,r,q⟩
theorem zy.Qf {st:List Stmt}{t:TS}(h:zy X.Qf st t):zy X st t:=fun pins s σ H D I hw =>
 wpAny_mono (h pins s σ H D (I.wish _) hw) (fun _ _ q=>q.iU) fun _ _ z=>False.elim z
end
section
variable {X:Cx} {st:Stmt} {rest:List Stmt} {t u:TS} {e:Expr} {te:TE} {pos:Pos}
def TB:TS:=fun D σ H=>D.nx σ H
def OX (t u:TS):TS:=fun D σ H=>t { D with nx:=u D } σ H
theorem ay:zy X [] TB:=fun _ _ σ H _ I h=>wpAny_execs_nil ⟨σ,H,I,h⟩
theorem ae (h1:PS X st t)(h2:zy X rest u):zy X (st::rest) (OX t u):=by
 intro pins s σ H D I h;refine wpAny_execs_cons (cu (h1 pins s σ H { D with nx:=u D } I h) fun f s1 q=>?_);cases f with
 |next =>
  obtain⟨σ',H',I',q⟩:=q;exact h2 pins s1 σ' H' D I' q
 |ret v=>exact q
 |brk=>exact q
 |cont=>exact q
theorem ah (h1:PS X st t):zy X [st] t:=by
 intro pins s σ H D I h;refine wpAny_execs_cons (cu (h1 pins s σ H D I h) fun f s1 q=>?_);cases f with
 |next=>exact wpAny_execs_nil q
 |ret v=>exact q
 |brk=>exact q
 |cont=>exact q
theorem Inv.quiet {pins:List (Addr×Obj)}{σ:St}{H:Hp}{s:Shared}(I:Inv X pins σ H s):interactive X.env=false:=by simp[interactive,I.ok.kind]
def TC (te:TE):TS:=fun D σ H=>te σ H fun _ H1=>D.nx σ H1
theorem aP (he:PE X e te)(hs:swapsWith e none pos.line X.env=pure false:=by rfl):PS X (.Expr e pos) (TC te):=by
 intro pins s σ H D I h;exact wpAny_Expr_any (cu (he pins s σ H _ I h) fun v s1 ⟨x,H1,I1,r1,q1⟩=>⟨σ,H1,I1,q1⟩) I.quiet hs
def Ws (te:TE):TS:=fun D σ H=>te σ H D.rt
theorem ar (he:PE X e te):PS X (.Return (some e) pos) (Ws te):=by
 intro pins s σ H D I h;exact wpAny_Return_some (cu (he pins s σ H _ I h) fun v s1 ⟨x,H1,I1,r1,q1⟩=>⟨x,σ,H1,I1,r1,q1⟩)
def Wt (c:TT)(t u:TS):TS:=fun D σ H=>c σ H fun b H1=>if b=true then t D σ H1 else u D σ H1
theorem aH {c:Expr}{a b:List Stmt}{tc:TT}(hc:PT X c tc)(ha:zy X a t)(hb:zy X b u):PS X (.If c a b pos) (Wt tc t u):=by
 intro pins s σ H D I h;refine wpAny_If (cu (hc pins s σ H _ I h) fun d s1 fS=>?_);obtain⟨H1,I1,q1⟩:=fS;cases d with
 |true=>exact ha pins s1 σ H1 D I1 q1
 |false=>exact hb pins s1 σ H1 D I1 q1
def Q3:TS:=fun _ _ _=>False
theorem Fz:PS X st Q3:=fun _ _ _ _ _ _ h=>h.elim
end
abbrev TG:=V->St->Hp->(St->Hp->Prop)->Prop
abbrev OY:=List V->St->Hp->(St->Hp->Prop)->Prop
def PG (X:Cx)(target:Expr)(t:TG):Prop :=
 ∀(pins:List (Addr×Obj)) (s:Shared) (σ:St) (H:Hp) (v:V) (u:Value) (Q:St->Hp->Prop),Inv X pins σ H s->RelV v u->t v σ H Q ->
  wpAny (model X.prog X.w) X.A (assign target X.env u) (fun _ s'=>∃ σ' H',Inv X pins σ' H' s'/\Q σ' H') X.xe s
def VT (X:Cx)(ts:List Expr)(t:OY):Prop :=
 ∀(pins:List (Addr×Obj)) (s:Shared) (σ:St) (H:Hp) (vs:List V) (us:List Value) (Q:St->Hp->Prop),Inv X pins σ H s->Vals vs us->t vs σ H Q ->
  wpAny (model X.prog X.w) X.A (assignInOrder ((assignEach ts X.env).map (·.2)) us) (fun _ s'=>∃ σ' H',Inv X pins σ' H' s'/\Q σ' H') X.xe s
abbrev Q4:=V->V->V->Hp->(Hp->Prop)->Prop
def TF (X:Cx)(t:Q4):Prop :=
 ∀(pins:List (Addr×Obj)) (s:Shared) (σ:St) (H:Hp) (o i v:V) (ov iv u:Value) (Q:Hp->Prop),Inv X pins σ H s->RelV o ov->RelV i iv->RelV v u->t o i v H Q ->
  wpAny (model X.prog X.w) X.A (setItem ov iv u) (fun _ s'=>∃ H',Inv X pins σ H' s'/\Q H') X.xe s
abbrev VU:=V->V->Hp->VK->Prop
def Yq (X:Cx)(op:Operator)(t:VU):Prop :=
 ∀(pins:List (Addr×Obj)) (s:Shared) (σ:St) (H:Hp) (x y:V) (v u:Value) (Q:VK),Inv X pins σ H s->RelV x v->RelV y u->t x y H Q ->
  wpAny (model X.prog X.w) X.A (inplaceOp op v u) (EP X pins σ Q) X.xe s
section
variable {X:Cx} {pos:Pos}
def xp (i:Nat):TG:=fun v σ H Q=>Q (σ.set i (some v)) H
theorem dX {i:Nat}{x:Str}(hN:X.N.Nodup)(hi:X.N[i]? = some x)(hx:Loc X.env.scope x)(hf:X.fn x=true\/X.env.scope.names.lookup x=some .local:=by first|exact .inl rfl|exact .inr rfl|assumption):PG X (.Name x pos) (xp i):=by
 intro pins s σ H v u Q I r h;exact wpAny_assign_Name (jo I hN hi hx r (fun s' I'=>⟨_,H,I',h⟩) hf)
noncomputable def Wu:OY:=fun vs σ H Q=>vs=[]/\Q σ H
inductive Mo (t:TG)(u:OY)(vs:List V)(σ:St)(H:Hp)(Q:(St->Hp->Prop)):Prop
 |mk (v:_) (r:_) (cT:vs=v::r) (cU:t v σ H fun σ' H'=>u r σ' H' Q):Mo t u vs σ H Q
def TJ (t:TG)(u:OY):OY:=fun vs σ H Q=>Mo t u vs σ H Q
theorem eo:VT X [] Wu:=by
 intro pins s σ H vs us Q I r h;obtain⟨e,h⟩:=h;subst e;cases r;exact assignInOrder_nil ⟨σ,H,I,h⟩
theorem aQ {e:Expr}{es:List Expr}{t:TG}{u:OY}(h1:PG X e t)(h2:VT X es u)
  (hs:(assignEach (e::es) X.env).map (·.2)=assign e X.env::(assignEach es X.env).map (·.2):=by rfl):VT X (e::es) (TJ t u):=by
 intro pins s σ H vs us Q I r h;obtain⟨v,vr,e1,h⟩:=h;subst e1;cases r with
 |cons r rr =>
  rw[hs];refine assignInOrder_cons (cu (h1 pins s σ H _ _ _ I r h) fun _ s1 fS=>?_);obtain⟨σ1,H1,I1,q1⟩:=fS;exact h2 pins s1 σ1 H1 _ _ Q I1 rr q1
inductive Qg (K:Frag)(n:Nat)(t:OY)(v:V)(σ:St)(H:Hp)(Q:(St->Hp->Prop)):Prop
 |mk (a:_) (xs:_) (cT:v=.ref a) (cU:jf K H a xs) (dH:xs.length=n) (fL:t xs σ H Q):Qg K n t v σ H Q
def Wv (K:Frag)(n:Nat)(t:OY):TG:=fun v σ H Q=>Qg K n t v σ H Q
theorem gG {es:List Expr}{k:Nat}{t:OY}{n:Nat}(hc:X.calm=true)(h:VT X es t)
  (hn:(assignEach es X.env).length=n:=by rfl) (hst:(assignEach es X.env).findIdx? (·.1)=none:=by rfl):PG X (.Tuple es k pos) (Wv X.K n t):=by
 intro pins s σ H v u Q I r hw;obtain⟨a,xs,e1,hq,hl,hw⟩:=hw;subst e1;cases r;obtain⟨its,rv,ht,hz⟩:=I.tuple hq;refine assign_Tuple_tuple (I.ok.hd hc) ht (by simp[hn,<-hl,rv.length]) hst fun h' hx=>?_;have I1:Inv X pins σ H { s with heap:=h' }:=I.kept (t':=s.toks) fun b o e=>hx b o (Zn' (W' e)) e;exact h pins _ σ H xs _ Q I1 (by simpa using rv) hw
def Ww (to ti:TE)(t:Q4):TG:=fun v σ H Q=>to σ H fun o H1=>ti σ H1 fun i H2=>t o i v H2 fun H3=>Q σ H3
theorem pI {o i:Expr}{to ti:TE}{t:Q4}(ho:PE X o to)(hi:PE X i ti)(hs:TF X t)
  (ha:∀ v,assign (.Subscript o i pos) X.env v=(do
   let ov <-holding [v] (eval o X.env)
   let iv <-holding [v,ov] (eval i X.env)
   standAt pos
   holding [v,ov,iv] (setItem ov iv v)
   release [v,ov,iv] []):=by intro _;rfl):PG X (.Subscript o i pos) (Ww to ti t):=by
 intro pins s σ H v u Q I r h;rw[ha];refine C' (wpAny_holding (cu (ho pins s σ H _ I h) fun ov s1 fS=>?_));obtain⟨x,H1,I1,r1,q1⟩:=fS;refine C' (wpAny_holding (cu (hi pins s1 σ H1 _ I1 q1) fun iv s2 fS=>?_));obtain⟨y,H2,I2,r2,q2⟩:=fS;refine C' (wpAny_standAt (C' (wpAny_holding (cu (hs pins s2 σ H2 x y v ov iv u _ I2 r1 r2 r q2) fun _ s3 fS=>?_))));obtain⟨H3,I3,q3⟩:=fS;exact wpAny_release ⟨σ,H3,I3,q3⟩
def Mp (te:TE)(g:TG):TS:=fun D σ H=>te σ H fun x H1=>g x σ H1 D.nx
theorem fI {tg e:Expr}{te:TE}{g:TG}(he:PE X e te)(hg:PG X tg g)(hs:swapsWithSole [tg] e pos.line X.env=pure false:=by rfl)(hw:swappedStores [tg] e X.env=pure none:=by rfl)
  (h1:(assignEach [tg] X.env).map (·.2)=[assign tg X.env]:=by rfl):PS X (.Assign [tg] e pos) (Mp te g):=by
 intro pins s σ H D I h;refine wpAny_Assign_stores (cu (he pins s σ H _ I h) fun v s1 ⟨x,H1,I1,r1,q1⟩=>?_) hs hw;rw[h1];exact cu (hg pins s1 σ H1 x v _ I1 r1 q1) fun _ s2 q=>q
theorem pJ {i:Nat}{x:Str}{e:Expr}{te:TE}{pos':Pos}(hN:X.N.Nodup)(hi:X.N[i]? = some x)(hx:Loc X.env.scope x)(he:PE X e te)(hs:swapsWith e (some (.Name x pos')) pos.line X.env=pure false:=by rfl)(hf:X.fn x=true\/X.env.scope.names.lookup x=some .local:=by first|exact .inl rfl|exact .inr rfl|assumption) :
  PS X (.Assign [.Name x pos'] e pos) (Mp te (xp i)):=by
 intro pins s σ H D I h;refine wpAny_Assign_Name (cu (he pins s σ H _ I h) fun v s1 ⟨y,H1,I1,r1,q1⟩=>?_) hs;exact jo I1 hN hi hx r1 (fun s2 I2=>⟨_,H1,I2,q1⟩) hf
def Wx (i j:Nat)(ta:TA):TS:=fun D σ H=>ta σ H fun vs H1=>∃ v w,vs=[v,w]/\D.nx ((σ.set i (some v)).set j (some w)) H1
theorem Q5 {i j:Nat}{x y:Str}{a b:Expr}{ta:TA}{px py pt:Pos}{kt k2 Q6}(hc:X.calm=true)(hN:X.N.Nodup)(hi:X.N[i]? = some x)(hj:X.N[j]? = some y)(hij:i≠j)
  (hx:X.env.scope.names.lookup x=some .local) (hy:X.env.scope.names.lookup y=some .local) (ha:PA X [a,b] ta)
  (hw:swappedStores [.Tuple [.Name x px,.Name y py] kt pt] (.Tuple [a,b] k2 Q6) X.env=pure (some [x,y]))
  (hs:swapsWithSole [.Tuple [.Name x px,.Name y py] kt pt] (.Tuple [a,b] k2 Q6) pos.line X.env=pure false:=by rfl) :
  PS X (.Assign [.Tuple [.Name x px,.Name y py] kt pt] (.Tuple [a,b] k2 Q6) pos) (Wx i j ta):=by
 intro pins s σ H D I h;rw[exec_Assign_arm];refine C' (wpAny_standAt ?_);rw[hs];refine C' (U' ?_);rw[T' (by decide)];refine C' (Tuple_ (cu (ha _ pins s σ H _ I h) fun us s1 fS=>?_));obtain⟨vs,H1,I1,r1,q1⟩:=fS;obtain⟨v,w,e1,q1⟩:=q1;subst e1;obtain⟨u1,u2,rfl,rv,FA⟩:∃ u1 u2,us=[u1,u2]/\RelV v u1/\RelV w u2:=by
  cases r1 with
  |cons p q =>
   cases q with
   |cons p' q' =>
    cases q';exact⟨_,_,rfl,p,p'⟩
 refine wpAny_newObj_type ?_ (by show 2<=sizeLine;decide);have I2:Inv X pins σ H1 { s1 with heap:=s1.heap.push { cls:=.type "tuple",data:=.seq [u1,u2].toArray } }:=I1.kept (t':=s1.toks) fun b o e=>P' _ e;rw[hw];refine C' (U' ?_);show wpAny (model X.prog X.w) X.A (do rule "assign.swapped-stores";let items <-unpackItems (.ref s1.heap.objs.size) 2 none;assignInOrder [fun v=>bindName X.env y v,fun v=>bindName X.env x v] items.reverse;pure Flow.next) _ _ _;refine C' (wpAny_rule (C' (unpackItems_tuple (items:=#[u1,u2]) (I.ok.hd hc) (IsTup.new s1.heap _) fun h' hx'=>?_)));have I3:=I2.kept (h':=h') (t':=s1.toks) fun b o e=>hx' b o (Zn' (W' e)) e;show wpAny _ _ (assignInOrder [fun v=>bindName X.env y v,fun v=>bindName X.env x v] [u2,u1] >>= fun _=>pure Flow.next) _ _ _;refine C' (assignInOrder_cons (wpAny_bindName (jo I3 hN hj (.inl hy) FA (fun s2 I4=>?_) (.inr hy))));refine assignInOrder_cons (wpAny_bindName (jo I4 hN hi (.inl hx) rv (fun s3 I5=>assignInOrder_nil (U' ?_)) (.inr hx)));rw[List.set_comm _ _ (Zh' hij)]at I5;exact⟨_,H1,I5,q1⟩
def Wz (i:Nat)(te:TE)(ti:VU):TS:=fun D σ H=>∃ x,σ[i]? = some (some x)/\te σ H fun y H1=>ti x y H1 fun z H2=>D.nx (σ.set i (some z)) H2
theorem Q7 {i:Nat}{x:Str}{e:Expr}{te:TE}{op:Operator}{ti:VU}{pos':Pos}(hN:X.N.Nodup)(hi:X.N[i]? = some x)(hx:Loc X.env.scope x)(he:PE X e te)(ho:Yq X op ti)(hf:X.fn x=true\/X.env.scope.names.lookup x=some .local:=by first|exact .inl rfl|exact .inr rfl|assumption) :
  PS X (.AugAssign (.Name x pos') op e pos) (Wz i te ti):=by
 intro pins s σ H D I h;obtain⟨v,e1,h⟩:=h;obtain⟨m,hn,hl⟩:=I.loc;have WA:Tt X.env.scope x:=by rcases hx with k|k;exact .inl k;exact .inr (.inl k)
 obtain⟨u,r,l⟩:=hl i x v hi e1 WA;refine wpAny_AugAssign_Name ?_;have go:wpAny (model X.prog X.w) X.A (eval e X.env) (fun w s₂=>wpAny (model X.prog X.w) X.A (inplaceOp op u w) (fun r s₃=>wpAny (model X.prog X.w) X.A (storeName X.env x r) (fun _=>SP X pins D .next) X.xe s₃) X.xe s₂) X.xe s:=by
  refine cu (he pins s σ H _ I h) fun w s1 fS=>?_;obtain⟨y,H1,I1,r1,q1⟩:=fS;refine cu (ho pins s1 σ H1 v y u w _ I1 r r1 q1) fun z s2 fS=>?_;obtain⟨zv,H2,I2,r2,q2⟩:=fS;exact jo I2 hN hi hx r2 (fun s3 I3=>⟨_,H2,I3,q2⟩) hf
 rcases l with ⟨hk,hm⟩|⟨hk,c,hc,hcell⟩
 ·exact wpAny_loadName_local I.ok.kind hk hn hm go
 ·rcases hk with hk|hk
  ·exact wpAny_loadName_cell I.ok.kind hk hc hcell go
  ·rcases hx with k|k
   ·have:X.env.scope.names.lookup x=some .free:=hk;rw[k]at this;cases this
   ·have:X.env.scope.names.lookup x=some .free:=hk;rw[k]at this;cases this
noncomputable def Zy (f:Int->Int->Int):VU:=fun x y H Q=>∃ i j,x=.int i/\y=.int j/\Q (.int (f i j)) H
theorem Q8:Yq X .Add (Zy fun i j=>i+j):=by
 intro pins s σ H x y v u Q I r1 r2 h;obtain⟨i,j,e1,e2,q⟩:=h;subst e1;subst e2;obtain⟨t,rfl⟩:=r1;obtain⟨t',rfl⟩:=r2;exact iadd_int ⟨.int _,H,I.tok _,⟨_,rfl⟩,q⟩
end
section
variable {X:Cx} {pos:Pos}
def Q9 (c:TT)(tb:TS):TS:=fun D σ H=>∃ W:Nat->St->Hp->Prop,(∃ m,W m σ H)/\∀ m σ H,W m σ H ->
 c σ H fun b H1=>if b=true then ∃ N:St->Hp->Prop,(∀ σ' H',N σ' H'->∃ m',m'<m/\W m' σ' H')/\tb { D with nx:=N,ct:=N,bk:=D.nx } σ H1 else D.nx σ H1
theorem zJ {c:Expr}{body:List Stmt}{tc:TT}{tb:TS}(hp:PassesOwn (model X.prog X.w) X.A X.env X.xe)(hc:PT X c tc)(hb:zy X body tb):PS X (.While c body [] pos) (Q9 tc tb):=by
 intro pins s σ H D I h;obtain⟨W,⟨m0,w0⟩,turn⟩:=h;refine wpAny_While (codeAny_whileLoop (fun n s'=>∃ σ' H',Inv X pins σ' H' s'/\W n σ' H') ?_ m0 ⟨σ,H,I,w0⟩);rintro n s1 ⟨σ1,H1,I1,w1⟩;refine wpAny_passesOwn hp (cu (hc pins s1 σ1 H1 _ I1 (turn n σ1 H1 w1)) fun b s2 fS=>?_);obtain⟨H2,I2,q2⟩:=fS;cases b with
 |true =>
  obtain⟨N,hN,q2⟩:=q2;rw[X' rfl];refine wpAny_passesOwn hp (cu (hb pins s2 σ1 H2 _ I2 q2) fun f s3 q3=>?_);cases f with
  |next =>
   obtain⟨σ3,H3,I3,n3⟩:=q3;obtain⟨m',hm,w3⟩:=hN σ3 H3 n3;exact⟨m',hm,σ3,H3,I3,w3⟩
  |cont =>
   obtain⟨σ3,H3,I3,n3⟩:=q3;obtain⟨m',hm,w3⟩:=hN σ3 H3 n3;exact⟨m',hm,σ3,H3,I3,w3⟩
  |brk=>exact q3
  |ret v=>exact q3
 |false =>
  rw[T' j'];exact wpAny_execs_nil ⟨σ1,H2,I2,q2⟩
end
structure It where
 go:Nat->Hp->Prop
 KZ:Nat->Hp->V->Hp->Prop
 stop:Nat->Hp->Prop
def jV (X:Cx)(pins:List (Addr×Obj))(H:Hp)(b:Addr):Prop :=
 H b=none/\b≠X.env.locals/\b ∉ X.fs/\(b∈X.ex\/X.s₀.heap.objs.size<=b)/\(∀ x c,X.env.cells.lookup x=some c->c≠b)/\∀ p∈X.pn++pins,p.1≠b
theorem Inv.Ec {X:Cx}{pins:List (Addr×Obj)}{σ:St}{H H':Hp}{s:Shared}{b:Addr}(I:Inv X pins σ H s)(hb:s.heap.objs.size<=b)(hn:H' b=none):jV X pins H' b:=by
 refine⟨hn,Nat.ne_of_gt (Za' I.lt hb),I.Wl hb,.inr (Zb' I.sz hb),fun x c e z=>?_,fun p hp z=>?_⟩
 ·obtain⟨v,q⟩:=I.cell x c e;exact S' (Za' q.lt (by rw[z];exact hb)) (Nat.lt_irrefl _)
 ·exact S' (Za' (W' (I.pin p hp).1) (by rw[z];exact hb)) (Nat.lt_irrefl _)
structure Turn (P:Program)(w:World)(K:Frag)(tg:Expr)(J:It)(fp:List Addr)(it:Addr)(tn:Nat->Heap->Prop):Prop where
 mem:it∈fp
 obj:∀ i h,tn i h->∀ b∈fp,∃ o,h.get? b=some o/\∀ v,o.data≠.cell v
 keep:∀ i h h',tn i h->(∀ b∈fp,∀ o,h.get? b=some o->h'.get? b=some o)->tn i h'
 item:∀(X:Cx),X.prog=P->X.w=w->X.K=K->X.calm=true->∀(i:Nat)(pins:List (Addr×Obj)) (s:Shared) (σ:St) (H:Hp) (E:Value->Shared->Prop),Inv X pins σ H s->(∀ b∈fp,jV X pins H b)->tn i s.heap->J.go i H ->
  wpAny (model P w) X.A (pyNext (.ref it)) (fun r s1=>∃ u,r=some u /\
   wpAny (model P w) X.A (letOwnedTupleGo tg (.ref it) u) (fun _ s2=>∃ x H',Inv X pins σ H' s2/\RelV x u/\J.KZ i H x H'/\tn (i+1) s2.heap/\∀ b∈fp,H' b=none) E s1) E s
 done:∀(X:Cx),X.prog=P->X.w=w->X.K=K->X.calm=true->∀(i:Nat)(pins:List (Addr×Obj)) (s:Shared) (σ:St) (H:Hp) (E:Value->Shared->Prop),Inv X pins σ H s->(∀ b∈fp,jV X pins H b)->tn i s.heap->J.stop i H ->
  wpAny (model P w) X.A (pyNext (.ref it)) (fun r s1=>r=none/\Inv X pins σ H s1) E s
 self:∀(A:Around)(i:Nat)(s:Shared)(Q:Value->Shared->Prop)(E:Value->Shared->Prop),tn i s.heap->Q (.ref it) s->wpAny (model P w) A (pyIter (.ref it)) Q E s
abbrev TI:=St->Hp->(It->Hp->Prop)->Prop
def PIE (X:Cx)(pins:List (Addr×Obj))(σ:St)(tg:Expr)(R:It->Hp->Prop)(itv:Value)(s2:Shared):Prop :=
 ∃(it:Addr)(fp:List Addr)(tn:Nat->Heap->Prop)(J:It)(H':Hp),itv=.ref it/\Inv X pins σ H' s2/\Turn X.prog X.w X.K tg J fp it tn/\tn 0 s2.heap/\(∀ b∈fp,jV X pins H' b)/\R J H'
def PI (X:Cx)(tg iter:Expr)(wi:TI):Prop :=
 ∀(pins:List (Addr×Obj)) (s:Shared) (σ:St) (H:Hp) (R:It->Hp->Prop),Inv X pins σ H s->wi σ H R ->
  wpAny (model X.prog X.w) X.A (eval iter X.env) (fun v s1=>wpAny (model X.prog X.w) X.A (pyIter v) (PIE X pins σ tg R) X.xe s1) X.xe s
theorem JC {M:Model}{A:Around}{E:Value->Shared->Prop}{s:Shared}{tg:Expr}{it:Addr}{u:Value}{o:Obj}{n:String}{vs:Array Value}{Q:Unit->Shared->Prop}(ho:s.heap.get? it=some o)(hc:o.cls=.type n)(hd:o.data=.fields vs)
  (hn:["enumerate","zip","dict_itemiterator","dict_reverseitemiterator","odict_iterator","itertools.zip_longest","itertools.pairwise"].contains n=false) (hQ:Q () s):wpAny M A (letOwnedTupleGo tg (.ref it) u) Q E s:=by
 unfold letOwnedTupleGo;cases tg <;> first
  |exact U' hQ
  |(cases u <;> first
    |exact U' hQ
    |(refine C' (wpAny_load ho ?_);rw[hc,hd];show wpAny M A (if(["enumerate","zip","dict_itemiterator","dict_reverseitemiterator","odict_iterator","itertools.zip_longest","itertools.pairwise"].contains n&&vs[0]? == some (rawInt _))=true then _ else _) Q E s;rw[T' (by intro h;rw[hn,Bool.false_and]at h;cases h)];exact U' hQ))
noncomputable def SN (K:Frag)(a:Addr):It :=
 ⟨fun i H=>∃ xs x,aM K H a xs/\xs[i]? = some x,fun i H x H'=>H'=H/\∀ xs,aM K H a xs->xs[i]? = some x,fun i H=>∃ xs,aM K H a xs/\xs.length<=i⟩
noncomputable def Qh (lo:Int)(n:Nat):It:=⟨fun i _=>i<n,fun i H x H'=>H'=H/\x=.int (lo+i),fun i _=>n<=i⟩
theorem K0 {P:Program}{w:World}{K:Frag}{tg:Expr}(a it:Addr):Turn P w K tg (SN K a) [it] it (fun i h=>h.IsListIter it a i) where
 mem:=by simp
 obj:=fun i h st b hb=>by
  have e:b=it:=by simpa using hb
  subst e;obtain⟨o,e,c,d⟩:=st;exact⟨o,e,fun v z=>by rw[d]at z;cases z⟩
 keep:=fun i h h' st k=>st.at fun o e=>k it (by simp) o e
 item:=by
  intro X hP hw hK hc i pins s σ H E I hf st hg;subst hP hw hK;obtain⟨xs,x,hq,hx⟩:=hg;obtain⟨its,rv,p,hz⟩:=I.list hq;obtain⟨u,hu,ru⟩:=rv.get hx;obtain⟨f0,f1,f2,f3,f4,f5⟩:=hf it (by simp);refine wpAny_pyNext_list_item st p.isList (x:=u) (by simpa using hu) fun h' st' sb=>?_;have I1:Inv X pins σ H { s with heap:=h' }:=I.turned (t':=s.toks) (fun b o hb e=>(sb.2 b hb).trans e) f0 f1 f3 f4 f5;obtain⟨o,e,c,d⟩:=id st';exact⟨u,rfl,JC (s:={ s with heap:=h' }) e c d (by decide) ⟨x,H,I1,ru,⟨rfl,fun ys hy=>by rw[I.Fy hy hq];exact hx⟩,st',fun b hb=>(hf b hb).1⟩⟩
 done:=by
  intro X hP hw hK hc i pins s σ H E I hf st hg;subst hP hw hK;obtain⟨xs,hq,hx⟩:=hg;obtain⟨its,rv,p,hz⟩:=I.list hq;obtain⟨f0,f1,f2,f3,f4,f5⟩:=hf it (by simp);have hl:=rv.length;exact wpAny_pyNext_list_end (I.ok.hd hc) st p.isList (by simp;omega) fun h' eb=>⟨rfl,I.turned (t':=s.toks) (fun b o hb e=>eb b o hb e) f0 f1 f3 f4 f5⟩
 self:=fun _ _ _ _ _ st h=>wpAny_pyIter_listiter st h
theorem HQ {P:Program}{w:World}{K:Frag}{tg:Expr}(it:Addr)(lo:Int)(n:Nat):Turn P w K tg (Qh lo n) [it] it (fun i h=>IsRangeIter h it (lo+(i:Nat) * 1) ((n:Int)-(i:Nat)) 1) where
 mem:=by simp
 obj:=fun i h st b hb=>by
  have e:b=it:=by simpa using hb
  subst e;exact⟨_,st,fun v z=>by
   have z':Data.fields _=Data.cell v:=z;cases z'⟩
 keep:=fun i h h' st k=>k it (by simp) _ st
 item:=by
  intro X hP hw hK hc i pins s σ H E I hf st hg;subst hP hw hK;obtain⟨f0,f1,f2,f3,f4,f5⟩:=hf it (by simp);have W:=Walks.range (prog:=X.prog) (w:=X.w) (I.ok.hd hc) it lo 1 n;refine W.item i s _ _ hg st fun v h' tk hv st' kk=>?_;obtain⟨t,rfl⟩:=hv;have I1:Inv X pins σ H { s with heap:=h',toks:=tk }:=I.turned (fun b o hb e=>kk b o (by simpa using hb) e) f0 f1 f3 f4 f5;refine⟨_,rfl,JC (s:={ s with heap:=h',toks:=tk }) (n:="range_iterator") st' rfl rfl (by decide) ⟨.int (lo+i),H,I1,⟨t,?_⟩,⟨rfl,rfl⟩,st',fun b hb=>(hf b hb).1⟩⟩;rw[Int.mul_one]
 done:=by
  intro X hP hw hK hc i pins s σ H E I hf st hg;subst hP hw hK;obtain⟨f0,f1,f2,f3,f4,f5⟩:=hf it (by simp);exact wpAny_pyNext_range_end (I.ok.hd hc) st (by have:n<=i:=hg;omega) fun h' eb=>⟨rfl,I.turned (t':=s.toks) (fun b o hb e=>eb b o hb e) f0 f1 f3 f4 f5⟩
 self:=fun _ _ _ _ _ st h=>wpAny_pyIter_rangeiter st h
end L2
namespace L2
open PySem PySem.Spec PyProof.Rows
section
variable {X:Cx} {tg:Expr}
inductive Mq (K:Frag)(R:(It->Hp->Prop))(x:V)(H1:Hp):Prop
 |mk (a:_) (cT:x=.ref a) (cU:(∃ xs,aM K H1 a xs)/\R (SN K a) H1):Mq K R x H1
def TK (K:Frag)(tl:TE):TI:=fun σ H R=>tl σ H fun x H1=>Mq K R x H1
theorem dz {l:Expr}{tl:TE}(hl:PE X l tl):PI X tg l (TK X.K tl):=by
 intro pins s σ H R I h;refine cu (hl pins s σ H _ I h) fun v s1 fS=>?_;obtain⟨x,H1,I1,r1,q1⟩:=fS;obtain⟨a,e,⟨xs,hq⟩,q⟩:=q1;subst e;cases r1;obtain⟨its,rv,p,hz⟩:=I1.list hq;refine wpAny_pyIter_list p.isList ?_;refine⟨s1.heap.objs.size,[s1.heap.objs.size],_,_,H1,rfl,I1.kept (t':=s1.toks) fun b o e=>P' _ e,K0 a _,⟨_,Zm' _ rfl,rfl,rfl⟩,fun b hb=>?_,q⟩;have e:b=s1.heap.objs.size:=by simpa using hb
 subst e;exact I1.Ec (R' _) (I1.hok.fresh (R' _))
theorem FC {pins:List (Addr×Obj)}{σ:St}{H:Hp}{s:Shared}{R:It->Hp->Prop}{E:Value->Shared->Prop}{lo hi:Int}{t u v:Tok}{tk:Nat}(I:Inv X pins σ H s)(h1:-(2 ^ 62)<=lo)(h2:lo<2 ^ 62)(h3:-(2 ^ 62)<=hi)(h4:hi<2 ^ 62)
  (q:R (Qh lo (hi-lo).toNat) H):wpAny (model X.prog X.w) X.A (pyIter (.ref s.heap.objs.size)) (PIE X pins σ tg R) E { s with heap:=s.heap.push { cls:=.type "range",data:=.fields #[.int lo t,.int hi u,.int 1 v] },toks:=tk }:=by
 refine wpAny_pyIter_range (IsRange.new ..) (small_one h1 h2 h3 h4) ?_;have I1:Inv X pins σ H { s with heap:=s.heap.push { cls:=.type "range",data:=.fields #[.int lo t,.int hi u,.int 1 v] },toks:=tk }:=I.kept fun b o e=>P' _ e;refine⟨(s.heap.push { cls:=.type "range",data:=.fields #[.int lo t,.int hi u,.int 1 v] }).objs.size,[(s.heap.push { cls:=.type "range",data:=.fields #[.int lo t,.int hi u,.int 1 v] }).objs.size],_,_,H,rfl,
  I1.kept (t':=tk) fun b o e=>P' _ e,HQ _ lo (hi-lo).toNat,?_,fun b hb=>?_,q⟩
 ·have e1:lo+((0:Nat):Int) * 1=lo:=by simp
  have e2:(((hi-lo).toNat:Nat):Int)-((0:Nat):Int)=Builtin.Range.rangeSize lo hi 1:=by rw[rangeSize_one];split <;> omega
  show IsRangeIter _ _ (lo+((0:Nat):Int) * 1) ((((hi-lo).toNat:Nat):Int)-((0:Nat):Int)) 1;rw[e1,e2];exact Zm' _ rfl
 ·have e:b=(s.heap.push { cls:=.type "range",data:=.fields #[.int lo t,.int hi u,.int 1 v] }).objs.size:=by simpa using hb
  subst e;exact I1.Ec (R' _) (I1.hok.fresh (R' _))
inductive Mr (R:(It->Hp->Prop))(vs:List V)(H1:Hp):Prop
 |mk (j:Int) (cT:vs=[.int j]) (cU:-(2 ^ 62)<=j/\j<2 ^ 62/\R (Qh 0 j.toNat) H1):Mr R vs H1
def TM (ta:TA):TI:=fun σ H R=>ta σ H fun vs H1=>Mr R vs H1
inductive Mt (R:(It->Hp->Prop))(vs:List V)(H1:Hp):Prop
 |mk (i j:Int) (cT:vs=[.int i,.int j]) (cU:(-(2 ^ 62)<=i/\i<2 ^ 62/\-(2 ^ 62)<=j/\j<2 ^ 62)) (dH:R (Qh i (j-i).toNat) H1):Mt R vs H1
def TN (ta:TA):TI:=fun σ H R=>ta σ H fun vs H1=>Mt R vs H1
theorem mR {a:Expr}{ta:TA}{p pos:Pos}(hg:Gl X "range")(hm:X.mg "range"=none)(ha:PA X [a] ta)(hs:starEach [a] X.env=[(false,eval a X.env)]:=by rfl):PI X tg (.Call (.Name "range" p) [a] [] pos) (TM ta):=by
 intro pins s σ H R I h;refine Call_ (my I hg hm boot_range (PyProof.Rows.callWith_type1 (cu (ha pos pins s σ H _ I h) fun us s1 ⟨vs,H1,I1,r1,q1⟩=>?_) hs rfl));obtain⟨j,e,q1,q2,q⟩:=q1;subst e;cases r1 with
 |cons r rr =>
  cases rr;obtain⟨t,rfl⟩:=r;exact call_range_1 (FC I1 (by omega) (by omega) q1 q2 (by simpa using q))
theorem Co {a b:Expr}{ta:TA}{p pos:Pos}(hg:Gl X "range")(hm:X.mg "range"=none)(ha:PA X [a,b] ta)(hs:starEach [a,b] X.env=[(false,eval a X.env),(false,eval b X.env)]:=by rfl)(hs2:starEach [b] X.env=[(false,eval b X.env)]:=by rfl) :
  PI X tg (.Call (.Name "range" p) [a,b] [] pos) (TN ta):=by
 intro pins s σ H R I h;refine Call_ (my I hg hm boot_range (PyProof.Rows.callWith_type1 (cu (ha pos pins s σ H _ I h) fun us s1 ⟨vs,H1,I1,r1,q1⟩=>?_) (by rw[hs,hs2]) (by rw[hs2];rfl)));obtain⟨i,j,e,⟨q1,q2,q3,q4⟩,q⟩:=q1;subst e;cases r1 with
 |cons r rr =>
  cases rr with
  |cons r' rr =>
   cases rr;obtain⟨t,rfl⟩:=r;obtain⟨t',rfl⟩:=r';exact call_range_2 (FC I1 q1 q2 q3 q4 q)
def WB (wi:TI)(g:TG)(tb:TS):TS:=fun D σ H=>wi σ H fun J H1=>∃ W:Nat->Nat->St->Hp->Prop,(∃ m,W 0 m σ H1)/\∀ i m σ H,W i m σ H ->
 (J.stop i H/\D.nx σ H)\/(J.go i H/\∃ N:St->Hp->Prop,(∀ σ' H',N σ' H'->∃ m',m'<m/\W (i+1) m' σ' H')/\∀ x H',J.KZ i H x H'->g x σ H' fun σ2 H2=>tb { D with nx:=N,ct:=N,bk:=D.nx } σ2 H2)
noncomputable def zK (fp:List Addr)(h:Heap):List (Addr×Obj):=fp.filterMap fun b=>(h.get? b).map fun o=>(b,o)
theorem oa {fp:List Addr}{h:Heap}{b:Addr}{o:Obj}(hb:b∈fp)(e:h.get? b=some o):(b,o)∈zK fp h:=List.mem_filterMap.mpr ⟨b,hb,by rw[e];rfl⟩
theorem K1 {fp:List Addr}{h:Heap}{p:Addr×Obj}(hp:p∈zK fp h):p.1∈fp/\h.get? p.1=some p.2:=by
 obtain⟨b,hb,e⟩:=List.mem_filterMap.mp hp;cases q:h.get? b with
 |none=>rw[q]at e;cases e
 |some o =>
  rw[q]at e;have e':(b,o)=p:=Z' e;subst e';exact⟨hb,q⟩
theorem Inv.pinned {pins:List (Addr×Obj)}{σ:St}{H:Hp}{s:Shared}{fp:List Addr}(I:Inv X pins σ H s)(hf:∀ b∈fp,jV X pins H b)(ho:∀ b∈fp,∃ o,s.heap.get? b=some o/\∀ v,o.data≠.cell v):Inv X (pins++zK fp s.heap) σ H s :=
 I.JA fun p hp=>(Zp'.mp hp).elim (fun z=>I.pin p (Zi' _ z)) fun z=>by
  obtain⟨hb,e⟩:=K1 z;obtain⟨f0,f1,f2,_⟩:=hf p.1 hb;obtain⟨o,e',d⟩:=ho p.1 hb;rw[e]at e';cases e';exact⟨e,f0,f1,f2,d⟩
theorem Inv.pK {pins pl:List (Addr×Obj)}{σ:St}{H:Hp}{s:Shared}(I:Inv X (pins++pl) σ H s):Inv X pins σ H s:=I.JA fun p hp=>I.pin p (Zi' _ (Yb' _ hp))
theorem d8 {iter:Expr}{body:List Stmt}{wi:TI}{g:TG}{tb:TS}{pos:Pos}(hp:PassesOwn (model X.prog X.w) X.A X.env X.xe)(hc:X.calm=true)(hi:PI X tg iter wi)(hg:PG X tg g)(hb:zy X body tb)
  (hs:∀ x,foldedSetIterable iter X.env x=pure x:=by intro _;rfl):PS X (.For tg iter body [] pos) (WB wi g tb):=by
 intro pins s σ H D I h;refine wpAny_For (cu (hi pins s σ H _ I h) fun v s1 h1=>cu h1 fun itv s2 h2=>?_) hs;obtain⟨it,fp,tn,J,H2,e,I2,T,st2,f2,W,⟨m0,w0⟩,turn⟩:=h2;subst e;have stat:∀{H':Hp},(∀ b∈fp,H' b=none)->∀ b∈fp,jV X pins H' b:=fun hn b hb=>⟨hn b hb,(f2 b hb).2⟩;refine codeAny_forLoop_any (fun n s'=>∃ i σ' H',Inv X pins σ' H' s'/\tn i s'.heap/\(∀ b∈fp,H' b=none)/\W i n σ' H') ?_ m0 ⟨0,σ,H2,I2,st2,fun b hb=>(f2 b hb).1,w0⟩;rintro n s3 ⟨i,σ3,H3,I3,st3,VW,w3⟩;rcases turn i n σ3 H3 w3 with ⟨stop,qn⟩|⟨go,N,hN,step⟩
 ·refine wpAny_passesOwn hp (cu (T.done X rfl rfl rfl hc i pins s3 σ3 H3 X.xe I3 (stat VW) st3 stop) fun r s4 fS=>?_);obtain⟨hr,I4⟩:=fS;subst hr;exact wpAny_execs_nil ⟨σ3,H3,I4,qn⟩
 ·refine wpAny_passesOwn hp (cu (T.item X rfl rfl rfl hc i pins s3 σ3 H3 X.xe I3 (stat VW) st3 go) fun r s4 fS=>?_);obtain⟨u,hr,h4⟩:=fS;subst hr;refine wpAny_passesOwn hp (cu h4 fun _ s5 fS=>?_);obtain⟨x,H5,I5,r5,y5,OQ,WC⟩:=fS;have WE:=I5.pinned (stat WC) (T.obj _ _ OQ);refine wpAny_passesOwn hp (cu (hg _ s5 σ3 H5 x u _ WE r5 (step x H5 y5)) fun _ s6 fS=>?_);obtain⟨σ6,H6,I6,q6⟩:=fS;refine wpAny_passesOwn hp (cu (hb _ s6 σ6 H6 _ I6 q6) fun f s7 q7=>?_);have again:∀{σ7:St} {H7:Hp},Inv X (pins++zK fp s5.heap) σ7 H7 s7->N σ7 H7->∃ m,m<n/\∃ i σ' H',Inv X pins σ' H' s7/\tn i s7.heap/\(∀ b∈fp,H' b=none)/\W i m σ' H':=fun {σ7 H7} I7 n7=>by
   obtain⟨m',hm,w7⟩:=hN σ7 H7 n7;refine⟨m',hm,i+1,σ7,H7,I7.pK,T.keep _ _ _ OQ fun b hb o e=>(I7.pin (b,o) (Zi' _ (Zi' _ (oa hb e)))).1,fun b hb=>?_,w7⟩;obtain⟨o,e,d⟩:=T.obj _ _ OQ b hb;exact(I7.pin (b,o) (Zi' _ (Zi' _ (oa hb e)))).2.1
  cases f with
  |next=>obtain⟨σ7,H7,I7,n7⟩:=q7;exact again I7 n7
  |cont=>obtain⟨σ7,H7,I7,n7⟩:=q7;exact again I7 n7
  |brk=>obtain⟨σ7,H7,I7,q7⟩:=q7;exact⟨σ7,H7,I7.pK,q7⟩
  |ret v=>obtain⟨x7,σ7,H7,I7,r7,q7⟩:=q7;exact⟨x7,σ7,H7,I7.pK,r7,q7⟩
end
theorem ij {K:Frag}{a:Addr}{xs:List V}{g:TG}{tb:TS}{D:Ends}{σ:St}{H:Hp}(Pv:Nat->St->Hp->Prop)(h0:Pv 0 σ H)(hl:∀ i σ H,i<=xs.length->Pv i σ H->aM K H a xs)
  (hs:∀ i x σ H,xs[i]? = some x->Pv i σ H->g x σ H fun σ2 H2=>tb { D with nx:=Pv (i+1),ct:=Pv (i+1),bk:=D.nx } σ2 H2) (hd:∀ σ H,Pv xs.length σ H->D.nx σ H) :
  ∃ W:Nat->Nat->St->Hp->Prop,(∃ m,W 0 m σ H)/\∀ i m σ H,W i m σ H ->
   ((SN K a).stop i H/\D.nx σ H)\/((SN K a).go i H/\∃ N:St->Hp->Prop,(∀ σ' H',N σ' H'->∃ m',m'<m/\W (i+1) m' σ' H')/\∀ x H',(SN K a).KZ i H x H'->g x σ H' fun σ2 H2=>tb { D with nx:=N,ct:=N,bk:=D.nx } σ2 H2):=by
 refine⟨fun i m σ H=>m=xs.length-i/\i<=xs.length/\Pv i σ H,⟨xs.length,by simp,Zq' _,h0⟩,?_⟩;rintro i m σ H ⟨rfl,hi,p⟩;have q:=hl i σ H hi p
 by_cases hlt:i<xs.length
 ·refine .inr ⟨⟨xs,xs[i],q,by simp[hlt]⟩,Pv (i+1),fun σ' H' p'=>⟨xs.length-(i+1),by omega,rfl,hlt,p'⟩,fun x H' y=>?_⟩;obtain⟨e,y⟩:=y;subst e;exact hs i x σ _ (y xs q) p
 ·have e:i=xs.length:=by omega
  subst e;exact .inl ⟨⟨xs,q,R' _⟩,hd σ H p⟩
theorem mS {lo:Int}{n:Nat}{g:TG}{tb:TS}{D:Ends}{σ:St}{H:Hp}(Pv:Nat->St->Hp->Prop)(h0:Pv 0 σ H)
  (hs:∀ i σ H,i<n->Pv i σ H->g (.int (lo+i)) σ H fun σ2 H2=>tb { D with nx:=Pv (i+1),ct:=Pv (i+1),bk:=D.nx } σ2 H2) (hd:∀ σ H,Pv n σ H->D.nx σ H) :
  ∃ W:Nat->Nat->St->Hp->Prop,(∃ m,W 0 m σ H)/\∀ i m σ H,W i m σ H ->
   ((Qh lo n).stop i H/\D.nx σ H)\/((Qh lo n).go i H/\∃ N:St->Hp->Prop,(∀ σ' H',N σ' H'->∃ m',m'<m/\W (i+1) m' σ' H')/\∀ x H',(Qh lo n).KZ i H x H'->g x σ H' fun σ2 H2=>tb { D with nx:=N,ct:=N,bk:=D.nx } σ2 H2):=by
 refine⟨fun i m σ H=>m=n-i/\i<=n/\Pv i σ H,⟨n,by simp,Zq' _,h0⟩,?_⟩;rintro i m σ H ⟨rfl,hi,p⟩
 by_cases hlt:i<n
 ·refine .inr ⟨hlt,Pv (i+1),fun σ' H' p'=>⟨n-(i+1),by omega,rfl,hlt,p'⟩,fun x H' y=>?_⟩;obtain⟨e,y⟩:=y;subst e y;exact hs i σ _ hlt p
 ·have e:i=n:=by omega
  subst e;exact .inl ⟨R' _,hd σ H p⟩
end L2
namespace L2
open PySem PySem.Spec PyProof.Rows
abbrev R2:=V->V->Hp->VK->Prop
def mP (X:Cx)(f:Value->Value->Sem Value)(r:R2):Prop :=
 ∀(pins:List (Addr×Obj)) (s:Shared) (σ:St) (H:Hp) (x y:V) (v u:Value) (Q:VK),Inv X pins σ H s->RelV x v->RelV y u->r x y H Q ->
  wpAny (model X.prog X.w) X.A (f v u) (EP X pins σ Q) X.xe s
def WG (X:Cx)(f:Value->Sem Value)(r:V->Hp->VK->Prop):Prop :=
 ∀(pins:List (Addr×Obj)) (s:Shared) (σ:St) (H:Hp) (x:V) (v:Value) (Q:VK),Inv X pins σ H s->RelV x v->r x H Q ->
  wpAny (model X.prog X.w) X.A (f v) (EP X pins σ Q) X.xe s
def ik (X:Cx)(f:Value)(r:List V->Hp->VK->Prop):Prop :=
 ∀(pins:List (Addr×Obj)) (s:Shared) (σ:St) (H:Hp) (xs:List V) (us:List Value) (Q:VK),Inv X pins σ H s->Vals xs us->r xs H Q ->
  wpAny (model X.prog X.w) X.A (call f us) (EP X pins σ Q) X.xe s
def TQ (r:R2)(ta tb:TE):TE:=fun σ H Q=>ta σ H fun x H1=>tb σ H1 fun y H2=>r x y H2 Q
def K2 (r:V->Hp->VK->Prop)(ta:TE):TE:=fun σ H Q=>ta σ H fun x H1=>r x H1 Q
inductive Yr (C:Int->Int->Prop)(g:Int->Int->V)(x:V)(y:V)(H:Hp)(Q:VK):Prop
 |mk (i:_) (j:_) (cT:x=.int i) (cU:y=.int j) (dH:C i j/\Q (g i j) H):Yr C g x y H Q
def rI (C:Int->Int->Prop)(g:Int->Int->V):R2:=fun x y H Q=>Yr C g x y H Q
inductive TR (g:Int->Int->V)(x:V)(y:V)(H:Hp)(Q:VK):Prop
 |mk (i:_) (j:_) (cT:x=.int i) (cU:y=.int j) (dH:Q (g i j) H):TR g x y H Q
def Qi (g:Int->Int->V):R2:=fun x y H Q=>TR g x y H Q
def rU (g:Int->V):V->Hp->VK->Prop:=fun x H Q=>∃ i,x=.int i/\Q (g i) H
section
variable {X:Cx} {a b c:Expr} {ta tb tc:TE} {pos:Pos}
theorem Ra (ha:PE X a ta)(hb:PE X b tb){pins:List (Addr×Obj)}{s:Shared}{σ:St}{H:Hp}{R:V->V->Hp->Prop}(I:Inv X pins σ H s)
  (h:ta σ H fun x H1=>tb σ H1 fun y H2=>R x y H2) {Q:Value->Shared->Prop} {f:Value->Value->Sem Value}
  (hf:∀ v u s2 x y H2,Inv X pins σ H2 s2->RelV x v->RelV y u->R x y H2->wpAny (model X.prog X.w) X.A (f v u) Q X.xe s2) :
  wpAny (model X.prog X.w) X.A (eval a X.env) (fun v s₁=>wpAny (model X.prog X.w) X.A (eval b X.env) (fun u s₂=>wpAny (model X.prog X.w) X.A (f v u) Q X.xe s₂) X.xe s₁) X.xe s:=by
 refine cu (ha pins s σ H _ I h) fun v s1 fS=>?_;obtain⟨x,H1,I1,r1,q1⟩:=fS;refine cu (hb pins s1 σ H1 _ I1 q1) fun u s2 fS=>?_;obtain⟨y,H2,I2,r2,q2⟩:=fS;exact hf v u s2 x y H2 I2 r1 r2 q2
theorem aE {op:Operator}{r:R2}(ho:mP X (binaryOp op) r)(ha:PE X a ta)(hb:PE X b tb):PE X (.BinOp a op b pos) (TQ r ta tb):=by
 intro pins s σ H Q I h;exact wpAny_BinOp (Ra ha hb I h fun v u s2 x y H2 I2 rx ry q=>ho pins s2 σ H2 x y v u Q I2 rx ry q)
theorem rh {op:UnaryOp}{r:V->Hp->VK->Prop}(ho:WG X (unaryOp op) r)(ha:PE X a ta):PE X (.UnaryOp op a pos) (K2 r ta):=by
 intro pins s σ H Q I h;exact UnaryOp_ (cu (ha pins s σ H _ I h) fun v s1 ⟨x,H1,I1,r1,q1⟩=>ho pins s1 σ H1 x v Q I1 r1 q1)
theorem TV {f:Value->Value->Sem Value}{C:Int->Int->Prop}{g:Int->Int->Int}
  (rule:∀(i j:Int)(t u:Tok)(s:Shared)(Q:Value->Shared->Prop)(E:Value->Shared->Prop),C i j->Q (.int (g i j) s.toks) { s with toks:=s.toks+1 }->wpAny (model X.prog X.w) X.A (f (.int i t) (.int j u)) Q E s) :
  mP X f (rI C fun i j=>.int (g i j)):=by
 intro pins s σ H x y v u Q I rx ry h;obtain⟨i,j,rfl,rfl,hc,q⟩:=h;obtain⟨t,rfl⟩:=rx;obtain⟨t',rfl⟩:=ry;exact rule i j t t' s _ _ hc ⟨.int (g i j),H,I.tok _,⟨_,rfl⟩,q⟩
theorem TX {f:Value->Value->Sem Value}{g:Int->Int->Int}
  (rule:∀(i j:Int)(t u:Tok)(s:Shared)(Q:Value->Shared->Prop)(E:Value->Shared->Prop),Q (.int (g i j) s.toks) { s with toks:=s.toks+1 }->wpAny (model X.prog X.w) X.A (f (.int i t) (.int j u)) Q E s) :
  mP X f (Qi fun i j=>.int (g i j)):=by
 intro pins s σ H x y v u Q I rx ry h;obtain⟨i,j,rfl,rfl,q⟩:=h;obtain⟨t,rfl⟩:=rx;obtain⟨t',rfl⟩:=ry;exact rule i j t t' s _ _ ⟨.int (g i j),H,I.tok _,⟨_,rfl⟩,q⟩
theorem OZ {f:Value->Value->Sem Value}{g:Int->Int->Bool}
  (rule:∀(i j:Int)(t u:Tok)(s:Shared)(Q:Value->Shared->Prop)(E:Value->Shared->Prop),Q (.bool (g i j)) s->wpAny (model X.prog X.w) X.A (f (.int i t) (.int j u)) Q E s) :
  mP X f (Qi fun i j=>.bl (g i j)):=by
 intro pins s σ H x y v u Q I rx ry h;obtain⟨i,j,rfl,rfl,q⟩:=h;obtain⟨t,rfl⟩:=rx;obtain⟨t',rfl⟩:=ry;exact rule i j t t' s _ _ ⟨.bl (g i j),H,I,rfl,q⟩
def WH (i j:Int):Prop:=0<j/\j<1073741824
def WI (i j:Int):Prop:=0<=j/\j<=1000000/\i.natAbs<2 ^ 64
def Rb (i j:Int):Prop:=(-(2 ^ 64)<i/\i<2 ^ 64)\/(-(2 ^ 64)<j/\j<2 ^ 64)
theorem Rb.ok {i j:Int}(h:Rb i j):IntMulOk i j:=by
 rcases h with ⟨h1,h2⟩|⟨h1,h2⟩
 ·exact .of_left (intBits_le_64 h1 h2)
 ·exact .of_right (intBits_le_64 h1 h2)
theorem bp:mP X (binaryOp .Add) (Qi fun i j=>.int (i+j)):=TX fun _ _ _ _ _ _ _ q=>add_int q
theorem eW:mP X (binaryOp .Sub) (Qi fun i j=>.int (i-j)):=TX fun _ _ _ _ _ _ _ q=>sub_int q
theorem iV:mP X (binaryOp .Mult) (rI Rb fun i j=>.int (i * j)):=TV fun _ _ _ _ _ _ _ hc q=>mul_int q hc.ok
theorem dY:mP X (binaryOp .FloorDiv) (rI WH fun i j=>.int (i / j)):=TV fun i j _ _ _ _ _ hc q=>by
 have h1:(0:Int)<j:=hc.1;have h2:j<1073741824:=hc.2;exact floordiv_int (by omega) (by rw[Int.fdiv_eq_ediv_of_nonneg i (by omega)];exact q) (.inl (PyProof.noPylong_small (by omega)))
theorem cV:mP X (binaryOp .Mod) (rI (fun _ j=>0<j) fun i j=>.int (i % j)):=TV fun i j _ _ _ _ _ hc q=>by
 have h1:(0:Int)<j:=hc;exact mod_int' (by omega) (by rw[Int.fmod_eq_emod_of_nonneg i (by omega)];exact q)
theorem HR:mP X (binaryOp .Pow) (rI WI fun i j=>.int (i ^ j.toNat)):=TV fun _ _ _ _ _ _ _ hc q=>pow_int_small hc.1 hc.2.1 hc.2.2 q
theorem ZA {f:Value->Sem Value}{g:Int->Int}
  (rule:∀(i:Int)(t:Tok)(s:Shared)(Q:Value->Shared->Prop)(E:Value->Shared->Prop),Q (.int (g i) s.toks) { s with toks:=s.toks+1 }->wpAny (model X.prog X.w) X.A (f (.int i t)) Q E s) :
  WG X f (rU fun i=>.int (g i)):=by
 intro pins s σ H x v Q I rx h;obtain⟨i,rfl,q⟩:=h;obtain⟨t,rfl⟩:=rx;exact rule i t s _ _ ⟨.int (g i),H,I.tok _,⟨_,rfl⟩,q⟩
theorem mz:WG X (unaryOp .USub) (rU fun i=>.int (-i)):=ZA fun _ _ _ _ _ q=>neg_int q
end
noncomputable def TY:V->V->Bool
 |.non,.non=>true|.non,.int _=>true|.int _,.non=>true|.non,.bl _=>true|.bl _,.non=>true|.non,.str _=>true|.str _,.non=>true
 |.int _,.int _=>true|.bl _,.bl _=>true|.str _,.str _=>true|.Mh _,.Mh _=>true
 |.int _,.str _=>true|.str _,.int _=>true|.bl _,.str _=>true|.str _,.bl _=>true
 |_,_=>false
def ZC:R2:=fun x y H Q=>TY x y=true/\Q (.bl (decide (x=y))) H
def ZD:R2:=fun x y H Q=>TY x y=true/\Q (.bl (!decide (x=y))) H
theorem JD {i j:Int}:decide (V.int i=V.int j)=(i==j):=by
 rw[Bool.eq_iff_iff];simp
theorem Mu {i j:Bool}:decide (V.bl i=V.bl j)=(i==j):=by
 rw[Bool.eq_iff_iff];simp
theorem JE {i j:Str}:decide (V.str i=V.str j)=(i==j):=by
 rw[Bool.eq_iff_iff];simp
theorem JF {i j:Array UInt8}:decide (V.Mh i=V.Mh j)=(i.toList==j.toList):=by
 rw[Bool.eq_iff_iff];cases i;cases j;simp
section
variable {X:Cx} {a b c:Expr} {ta tb tc:TE} {pos:Pos}
theorem b8 {pins:List (Addr×Obj)}{σ:St}{H:Hp}{s:Shared}{Q:VK}{k k':Bool}(I:Inv X pins σ H s)(q:Q (.bl k) H)(e:k=k'):EP X pins σ Q (.bool k') s:=by
 subst e;exact⟨.bl k,H,I,rfl,q⟩
theorem aS:mP X (compareOp .Eq) ZC:=by
 intro pins s σ H x y v u Q I rx ry h;obtain⟨hs,q⟩:=h;cases x with
 |non =>
  cases rx;cases y with
  |non=>cases ry;exact PySem.EqNone.eq_none_none (b8 I q (by simp))
  |bl j=>cases ry;exact PySem.EqNone.eq_none_bool (b8 I q (by simp))
  |int j=>obtain⟨t',rfl⟩:=ry;exact PySem.EqNone.eq_none_int (b8 I q (by simp))
  |str j=>obtain⟨t',rfl⟩:=ry;exact PySem.EqNone.eq_none_str (b8 I q (by simp))
  |_=>exact S' (show false=true from hs) j'
 |bl i =>
  cases rx;cases y with
  |non=>cases ry;exact PySem.EqNone.eq_bool_none (b8 I q (by simp))
  |bl j=>cases ry;exact eq_bool (b8 I q Mu)
  |str j=>obtain⟨t',rfl⟩:=ry;exact PySem.EqMixed.eq_bool_str (b8 I q (by simp))
  |_=>exact S' (show false=true from hs) j'
 |int i =>
  obtain⟨t,rfl⟩:=rx;cases y with
  |non=>cases ry;exact PySem.EqNone.eq_int_none (b8 I q (by simp))
  |int j=>obtain⟨t',rfl⟩:=ry;exact eq_int (b8 I q JD)
  |str j=>obtain⟨t',rfl⟩:=ry;exact PySem.EqMixed.eq_int_str (b8 I q (by simp))
  |_=>exact S' (show false=true from hs) j'
 |str i =>
  obtain⟨t,rfl⟩:=rx;cases y with
  |non=>cases ry;exact PySem.EqNone.eq_str_none (b8 I q (by simp))
  |bl j=>cases ry;exact PySem.EqMixed.eq_str_bool (b8 I q (by simp))
  |int j=>obtain⟨t',rfl⟩:=ry;exact PySem.EqMixed.eq_str_int (b8 I q (by simp))
  |str j=>obtain⟨t',rfl⟩:=ry;exact eq_str (b8 I q JE)
  |_=>exact S' (show false=true from hs) j'
 |Mh i =>
  obtain⟨t,rfl⟩:=rx;cases y with
  |Mh j=>obtain⟨t',rfl⟩:=ry;exact PySem.W.eq_bytes (b8 I q JF)
  |_=>exact S' (show false=true from hs) j'
 |_=>cases y <;> exact S' (show false=true from hs) j'
theorem hX:mP X (compareOp .NotEq) ZD:=by
 intro pins s σ H x y v u Q I rx ry h;obtain⟨hs,q⟩:=h;cases x with
 |non =>
  cases rx;cases y with
  |non=>cases ry;exact PySem.EqNone.ne_none_none (b8 I q (by simp))
  |bl j=>cases ry;exact PySem.EqNone.ne_none_bool (b8 I q (by simp))
  |int j=>obtain⟨t',rfl⟩:=ry;exact PySem.EqNone.ne_none_int (b8 I q (by simp))
  |str j=>obtain⟨t',rfl⟩:=ry;exact PySem.EqNone.ne_none_str (b8 I q (by simp))
  |_=>exact S' (show false=true from hs) j'
 |bl i =>
  cases rx;cases y with
  |non=>cases ry;exact PySem.EqNone.ne_bool_none (b8 I q (by simp))
  |bl j=>cases ry;exact ne_bool (b8 I q (Zj' not Mu))
  |str j=>obtain⟨t',rfl⟩:=ry;exact PySem.EqMixed.ne_bool_str (b8 I q (by simp))
  |_=>exact S' (show false=true from hs) j'
 |int i =>
  obtain⟨t,rfl⟩:=rx;cases y with
  |non=>cases ry;exact PySem.EqNone.ne_int_none (b8 I q (by simp))
  |int j=>obtain⟨t',rfl⟩:=ry;exact ne_int (b8 I q (Zj' not JD))
  |str j=>obtain⟨t',rfl⟩:=ry;exact PySem.EqMixed.ne_int_str (b8 I q (by simp))
  |_=>exact S' (show false=true from hs) j'
 |str i =>
  obtain⟨t,rfl⟩:=rx;cases y with
  |non=>cases ry;exact PySem.EqNone.ne_str_none (b8 I q (by simp))
  |bl j=>cases ry;exact PySem.EqMixed.ne_str_bool (b8 I q (by simp))
  |int j=>obtain⟨t',rfl⟩:=ry;exact PySem.EqMixed.ne_str_int (b8 I q (by simp))
  |str j=>obtain⟨t',rfl⟩:=ry;exact ne_str (b8 I q (Zj' not JE))
  |_=>exact S' (show false=true from hs) j'
 |Mh i =>
  obtain⟨t,rfl⟩:=rx;cases y with
  |Mh j=>obtain⟨t',rfl⟩:=ry;exact PySem.W.ne_bytes (b8 I q (Zj' not JF))
  |_=>exact S' (show false=true from hs) j'
 |_=>cases y <;> exact S' (show false=true from hs) j'
theorem jq:mP X (compareOp .Lt) (Qi fun i j=>.bl (decide (i<j))):=OZ fun _ _ _ _ _ _ _ q=>lt_int q
theorem j6:mP X (compareOp .LtE) (Qi fun i j=>.bl (decide (i<=j))):=OZ fun _ _ _ _ _ _ _ q=>le_int q
theorem Cp:mP X (compareOp .Gt) (Qi fun i j=>.bl (decide (j<i))):=OZ fun _ _ _ _ _ _ _ q=>gt_int q
theorem JG:mP X (compareOp .GtE) (Qi fun i j=>.bl (decide (j<=i))):=OZ fun _ _ _ _ _ _ _ q=>ge_int q
theorem bN:mP X (compareOp .In) (fun x y H Q=>∃ i j,x=.str i/\y=.str j/\Q (.bl (!(Builtin.Str.occurrences j i 0 j.length 1).isEmpty)) H):=by
 intro pins s σ H x y v u Q I rx ry h;obtain⟨i,j,rfl,rfl,q⟩:=h;obtain⟨t,rfl⟩:=rx;obtain⟨t',rfl⟩:=ry;exact in_str (b8 I q rfl)
theorem pL:mP X (compareOp .Is) (fun x y H Q=>y=.non/\Q (.bl (decide (x=.non))) H):=by
 intro pins s σ H x y v u Q I rx ry h;obtain⟨rfl,q⟩:=h;cases ry;refine is_none_gen (b8 I q ?_);cases x <;> first
  |(cases rx;rfl)
  |(obtain⟨t,rfl⟩:=rx;rfl)
theorem Ed:mP X (compareOp .IsNot) (fun x y H Q=>y=.non/\Q (.bl (!decide (x=.non))) H):=by
 intro pins s σ H x y v u Q I rx ry h;obtain⟨rfl,q⟩:=h;cases ry;refine isnot_none_gen (b8 I q ?_);cases x <;> first
  |(cases rx;rfl)
  |(obtain⟨t,rfl⟩:=rx;rfl)
theorem mP.or {f:Value->Value->Sem Value}{r r':R2}(h:mP X f r)(h':mP X f r'):mP X f (fun x y H Q=>r x y H Q\/r' x y H Q):=by
 intro pins s σ H x y v u Q I rx ry q;rcases q with q|q
 ·exact h pins s σ H x y v u Q I rx ry q
 ·exact h' pins s σ H x y v u Q I rx ry q
theorem aw (b:Expr){op:CmpOp}(h:op≠.In:=by decide)(h2:op≠.NotIn:=by decide):behindInMarks op b=false:=by
 have e1:(op==CmpOp.In)=false:=by cases op <;> first|rfl|exact S' rfl h
 have e2:(op==CmpOp.NotIn)=false:=by cases op <;> first|rfl|exact S' rfl h2
 cases b <;> simp[behindInMarks,e1,e2]
theorem aZ {op:CmpOp}{r:R2}(ho:mP X (compareOp op) r)(ha:PE X a ta)(hb:PE X b tb)(hm:behindInMarks op b=false):PE X (.Compare a [op] [b] pos) (TQ r ta tb):=by
 intro pins s σ H Q I h;exact wpAny_Compare1 (Ra ha hb I h fun v u s2 x y H2 I2 rx ry q=>ho pins s2 σ H2 x y v u Q I2 rx ry q) hm
inductive Mv (Q:(Bool->Hp->Prop))(x:V)(H':Hp):Prop
 |mk (k:_) (cT:x=.bl k) (cU:Q k H'):Mv Q x H'
def Qj (t:TE):TT:=fun σ H Q=>t σ H fun x H'=>Mv Q x H'
theorem aq {op:CmpOp}{r:R2}(ho:mP X (compareOp op) r)(ha:PE X a ta)(hb:PE X b tb)(hm:behindInMarks op b=false):PT X (.Compare a [op] [b] pos) (Qj (TQ r ta tb)):=by
 intro pins s σ H Q I h;refine wpAny_isTrue_Compare1 (cu (ha pins s σ H _ I h) fun v s1 ⟨x,H1,I1,r1,q1⟩=>cu (hb pins s1 σ H1 _ I1 q1) fun u s2 ⟨y,H2,I2,r2,q2⟩ =>
  cu (ho pins s2 σ H2 x y v u _ I2 r1 r2 q2) fun c s3 ⟨z,H3,I3,r3,k,e,q3⟩=>?_) hm
 subst e;cases r3;exact wpAny_truthy_bool ⟨H3,I3,q3⟩
def Mw (r r':R2)(ta tb tc:TE):TE:=fun σ H Q=>ta σ H fun x H1=>tb σ H1 fun y H2=>r x y H2 fun z H3=>∃ k,z=.bl k /\
 (if k=true then tc σ H3 fun w' H4=>r' y w' H4 Q else Q (.bl false) H3)
theorem FD {op op':CmpOp}{r r':R2}(ho:mP X (compareOp op) r)(ho':mP X (compareOp op') r')(ha:PE X a ta)(hb:PE X b tb)(hc:PE X c tc)
  (hm:lastMarks [op,op'] [b,c]=false:=by with_unfolding_all rfl):PE X (.Compare a [op,op'] [b,c] pos) (Mw r r' ta tb tc):=by
 intro pins s σ H Q I h;refine Compare_chain (cu (ha pins s σ H _ I h) fun v s1 ⟨x,H1,I1,r1,q1⟩=>chain_link (cu (hb pins s1 σ H1 _ I1 q1) fun u s2 ⟨y,H2,I2,r2,q2⟩ =>
  cu (ho pins s2 σ H2 x y v u _ I2 r1 r2 q2) fun d s3 ⟨z,H3,I3,r3,k,e,q3⟩=>?_)) hm
 subst e;cases r3;refine wpAny_truthy_bool ?_;cases k with
 |false=>exact ite_ff ⟨.bl false,H3,I3,rfl,q3⟩
 |true=>exact ite_tt (chain_last (cu (hc pins s3 σ H3 _ I3 q3) fun w' s4 ⟨z',H4,I4,r4,q4⟩=>ho' pins s4 σ H4 y z' u w' Q I4 r2 r4 q4))
theorem pM {op op':CmpOp}{r r':R2}(ho:mP X (compareOp op) r)(ho':mP X (compareOp op') r')(ha:PE X a ta)(hb:PE X b tb)(hc:PE X c tc)
  (hm:lastMarks [op,op'] [b,c]=false:=by with_unfolding_all rfl):PT X (.Compare a [op,op'] [b,c] pos) (Qj (Mw r r' ta tb tc)):=by
 intro pins s σ H Q I h;refine isTrue_chain (cu (ha pins s σ H _ I h) fun v s1 ⟨x,H1,I1,r1,q1⟩=>test_link (cu (hb pins s1 σ H1 _ I1 q1) fun u s2 ⟨y,H2,I2,r2,q2⟩ =>
  cu (ho pins s2 σ H2 x y v u _ I2 r1 r2 q2) fun d s3 ⟨z,H3,I3,r3,k,e,q3⟩=>?_)) hm
 subst e;cases r3;refine wpAny_truthy_bool ?_;cases k with
 |false =>
  obtain⟨k',e',q'⟩:=q3;cases e';exact ite_ff ⟨H3,I3,q'⟩
 |true =>
  refine ite_tt (test_last (cu (hc pins s3 σ H3 _ I3 q3) fun w' s4 ⟨z',H4,I4,r4,q4⟩=>cu (ho' pins s4 σ H4 y z' u w' _ I4 r2 r4 q4) fun d' s5 ⟨z2,H5,I5,r5,k2,e2,q5⟩=>?_));subst e2;cases r5;exact wpAny_truthy_bool ⟨H5,I5,q5⟩
theorem wd:(sizeLine:Nat)<2 ^ 63:=by rw[sizeLine_eq];decide
theorem aF:mP X (binaryOp .Add) (fun x y H Q=>∃ i j,x=.str i/\y=.str j/\i.length+j.length<=sizeLine/\Q (.str (i++j)) H):=by
 intro pins s σ H x y v u Q I rx ry h;obtain⟨i,j,rfl,rfl,hz,q⟩:=h;obtain⟨t,rfl⟩:=rx;obtain⟨t',rfl⟩:=ry;exact add_str (fun t' tk=>⟨.str (i++j),H,I.tok _,⟨_,rfl⟩,q⟩) hz
theorem vals1 {x:V}{us:List Value}(r:Vals [x] us):∃ u,us=[u]/\RelV x u:=by
 cases r with
 |cons r1 r2=>cases r2;exact⟨_,rfl,r1⟩
theorem vals2 {x y:V}{us:List Value}(r:Vals [x,y] us):∃ u w',us=[u,w']/\RelV x u/\RelV y w':=by
 cases r with
 |cons r1 r2 =>
  cases r2 with
  |cons r3 r4=>cases r4;exact⟨_,_,rfl,r1,r3⟩
theorem K3 (hc:X.calm=true):ik X (.builtin "max") (fun xs H Q=>∃ i j,xs=[.int i,.int j]/\Q (.int (if j > i then j else i)) H):=by
 intro pins s σ H xs us Q I r h;obtain⟨i,j,rfl,q⟩:=h;obtain⟨u,w',rfl,⟨t,rfl⟩,⟨t',rfl⟩⟩:=vals2 r;refine max_two_ints (I.ok.hd hc) fun h' tk k=>⟨_,H,I.kept k,?_,q⟩
 by_cases hj:j > i
 ·rw[X' hj,X' hj];exact⟨_,rfl⟩
 ·rw[T' hj,T' hj];exact⟨_,rfl⟩
theorem K4 (hc:X.calm=true):ik X (.builtin "min") (fun xs H Q=>∃ i j,xs=[.int i,.int j]/\Q (.int (if j<i then j else i)) H):=by
 intro pins s σ H xs us Q I r h;obtain⟨i,j,rfl,q⟩:=h;obtain⟨u,w',rfl,⟨t,rfl⟩,⟨t',rfl⟩⟩:=vals2 r;refine min_two_ints (I.ok.hd hc) fun h' tk k=>⟨_,H,I.kept k,?_,q⟩
 by_cases hj:j<i
 ·rw[X' hj,X' hj];exact⟨_,rfl⟩
 ·rw[T' hj,T' hj];exact⟨_,rfl⟩
theorem iW:ik X (.type "int") (fun xs H Q=>(∃ i,xs=[.int i]/\Q (.int i) H)\/∃ k,xs=[.bl k]/\Q (.int (if k then 1 else 0)) H):=by
 intro pins s σ H xs us Q I r h;rcases h with ⟨i,rfl,q⟩|⟨k,rfl,q⟩
 ·obtain⟨u,rfl,t,rfl⟩:=vals1 r;exact call_int_int ⟨.int i,H,I,⟨_,rfl⟩,q⟩
 ·obtain⟨u,rfl,r1⟩:=vals1 r;cases r1;exact call_int_bool ⟨.int (if k then 1 else 0),H,I.tok _,⟨_,rfl⟩,q⟩
end
end L2
namespace L2
open PySem PySem.Spec PyProof.Rows
structure HS (h:Heap)(x dx C:Addr)(mA:Str->Option Value):Prop where
 obj:h.get? x=some (instObj C dx)
 ns:h.Ns1 dx mA
 ne:dx≠x
theorem K5 {h:Heap}{dx:Addr}{mA:Str->Option Value}(n:h.Ns1 dx mA):∃ od,h.get? dx=some od/\∀ name,lookIn name od=some (mA name):=by
 obtain⟨o,es,ep,ho,hd,hk,_,hm⟩:=n;refine⟨o,ho,fun name=>?_⟩;have e:=hm name;unfold nsFind findBy at e;rw[<-Array.find?_toList]at e;unfold lookIn;rw[hd];dsimp only;split
 ·rename_i y q
  rw[q]at e;exact Zj' some e
 ·rename_i q
  rw[q]at e;have a:es.toList.any (·.refKey)=false:=by
   rw[List.any_eq_false];intro y hy;obtain⟨z,t,hkey⟩:=hk y (Array.mem_toList_iff.mp hy);simp[DictEntry.refKey,hkey]
  have a':¬ es.toList.any (·.refKey)=true:=by rw[a];exact j'
  rw[T' a'];exact Zj' some e
theorem HS.look {h:Heap}{x dx C:Addr}{mA:Str->Option Value}(I:HS h x dx C mA):∃ od,PySem.W.InstAt h x (instObj C dx) C (some od)/\∀ name,lookIn name od=some (mA name) :=
 let ⟨od,ho,hl⟩:=K5 I.ns
 ⟨od,⟨I.obj,rfl,rfl,ho⟩,hl⟩
section
variable {prog:Program} {w:World} {A:Around} {E:Value->Shared->Prop} {s:Shared} {K:Frag} {x dx C f:Addr} {mA:Str->Option Value} {name:Str} {v:Value}
theorem get_map {expr:Bool}{Q:Value->Shared->Prop}(X:K.In s.heap)(I:HS s.heap x dx C mA)(hg:plainGet K C name=true)(hh:hasDictIn K C=true)
  (ha:findIn K (.ref C) name=some none) (hv:mA name=some v) (hv':handedIn v=true) (h:Q v { s with toks:=s.toks+1 }) :
  wpAny (model prog w) A (getAttr (.ref x) name expr) Q E s:=by
 obtain⟨od,J,hl⟩:=I.look;exact PySem.W.get_value X J (plainGet_of hg).1 (PySem.W.findObj_own hh ha rfl (by rw[hl,hv])) hv' h
theorem Mx {pl:Sem Bool}{Q:Value×List Value->Shared->Prop}(X:K.In s.heap)(I:HS s.heap x dx C mA)(hg:plainGet K C name=true)
  (hf:findIn K (.ref C) name=some (some (.ref f))) (ht:isFn K (.ref f)=true) (hv:mA name=none) (h:Q (.ref f,[.ref x]) s) :
  wpAny (model prog w) A (getMethod (.ref x) name pl) Q E s:=by
 obtain⟨od,J,hl⟩:=I.look;exact PySem.W.method_fn X J (plainGet_of hg).1 (plainGet_of hg).2 hf (beq_iff_eq.mp ht) (by show(lookIn name od).map (·.isSome)=some false;rw[hl,hv];rfl) h
theorem jg {ns:List Str}{Q:Unit->Shared->Prop}(X:K.In s.heap)(I:HS s.heap x dx C mA)
  (hs:findIn K (.ref C) "__setattr__"=some (some (.builtin "object.__setattr__"))) (hp:plainOver K C=true) (ht:takerIn K C name=some none) (hh:hasDictIn K C=true)
  (hw:PySem.Within mA ns) (hsz:ns.length<=sizeLine)
  (h:∀ h',HS h' x dx C (fun y=>if y=name then some v else mA y)->Heap.SameBut dx s.heap h'->Q () { s with heap:=h',toks:=s.toks+2 }) :
  wpAny (model prog w) A (setAttr (.ref x) name v) Q E s:=by
 obtain⟨od,J,hl⟩:=I.look;refine PySem.W.set_plain X J hs (PySem.W.osa_open (s:={ s with toks:=s.toks+1 }) (r:=none) X J hp ht fun b=>?_);obtain⟨cd,hc,hd'⟩:=PySem.W.any_some hh;have hx:s.heap.get? x=some ⟨.ref C,some dx,.plain,#[]⟩:=I.obj;refine C' (U' (C' (C' (wpAny_loadPart hx (C' (PySem.W.Looks.here (s:={ s with toks:=s.toks+1 }) (PySem.W.looks_clsIn X hc) ?_))))));rw[hd'];refine U' (a:=some dx) (C' (U' (C' ?_)));refine wpAny_nsSet1 (s:={ s with toks:=s.toks+1 }) I.ns fun h' hn2 hs2=>?_;obtain⟨oD,esD,epD,hoD,hdD,hcD⟩:=hn2.count (PySem.Within.cons name v hw);refine C' (wpAny_lookBehind hoD (by rw[hdD];exact pastItsLine_dict (Zb' hcD (by rw[Ya'];omega))) ?_);exact U' (h _ ⟨(hs2.2 _ (Zh' I.ne)).trans I.obj,hn2,I.ne⟩ hs2)
theorem My {R:Result->Shared->Prop}{vs:List Value}{kw:List (Str×Value)}(X:K.In s.heap)(hm:makesIn K C=true)
  (hi:findIn K (.ref C) "__init__"=some (some (.ref f))) (hf:PySem.W.typeIn K (.ref f)=some (.type "function"))
  (h:codeAny (model prog w) (A.under (.builtin "type.__call__" ⟨.ref C::vs,kw⟩)) (.call (.ref f) ⟨.ref (s.heap.objs.size+1)::vs,kw⟩) (PySem.W.InitBack (s.heap.objs.size+1) R)
   { s with heap:=(s.heap.push emptyDict).push (instObj C s.heap.objs.size) }) :
  codeAny (model prog w) A (.call (.ref C) ⟨vs,kw⟩) R s:=by
 obtain⟨hh,g,d,t,os⟩:=s;exact PySem.W.make_core (PySem.W.makes_of X hm) (PySem.W.looks_findIn X hi) (fun self=>PySem.W.bind_fn X self hf) (.inl rfl) h
end
noncomputable def iK (f:Str)(v:V):List (Str×V)->List (Str×V)
 |[]=>[(f,v)]
 |(g,x)::r=>if g=f then(g,v)::r else(g,x)::iK f v r
theorem xq (f g:Str)(v:V):∀ fs:List (Str×V),(iK f v fs).lookup g=if g=f then some v else fs.lookup g
 |[]=>by
  show List.lookup g [(f,v)]=_
  by_cases h:g=f
  ·have hb:(g==f)=true:=beq_iff_eq.mpr h;simp only [List.lookup,hb,X' h]
  ·have hb:(g==f)=false:=beq_eq_false_iff_ne.mpr h;simp only [List.lookup,hb,T' h]
 |(k,x)::r=>by
  have ih:=xq f g v r;rw[show iK f v ((k,x)::r)=(if k=f then(k,v)::r else(k,x)::iK f v r) from rfl]
  by_cases hk:k=f
  ·rw[X' hk]
   by_cases h:g=k
   ·have hb:(g==k)=true:=beq_iff_eq.mpr h;simp only [List.lookup,hb,X' (h.trans hk)]
   ·have hb:(g==k)=false:=beq_eq_false_iff_ne.mpr h;simp only [List.lookup,hb,T' (fun e:g=f=>h (e.trans hk.symm))]
  ·rw[T' hk]
   by_cases h:g=k
   ·have hb:(g==k)=true:=beq_iff_eq.mpr h;simp only [List.lookup,hb,T' (fun e:g=f=>hk (h.symm.trans e))]
   ·have hb:(g==k)=false:=beq_eq_false_iff_ne.mpr h;simp only [List.lookup,hb];exact ih
theorem we (f:Str)(v:V):∀ fs:List (Str×V),f∈(iK f v fs).map (·.1)/\∀ g,g∈fs.map (·.1)->g∈(iK f v fs).map (·.1)
 |[]=>⟨by simp[iK],fun g h=>by simp at h⟩
 |(k,x)::r=>by
  obtain⟨i1,i2⟩:=we f v r;rw[show iK f v ((k,x)::r)=(if k=f then(k,v)::r else(k,x)::iK f v r) from rfl]
  by_cases hk:k=f
  ·rw[X' hk];subst hk;exact⟨by simp,fun g h=>by simpa using h⟩
  ·rw[T' hk];refine⟨?_,fun g h=>?_⟩
   ·rw[map_cons];exact Yc' _ i1
   ·rw[map_cons]at h ⊢;rcases List.mem_cons.mp h with e|e
    ·exact List.mem_cons.mpr (.inl e)
    ·exact Yc' _ (i2 g e)
theorem xr (f:Str)(v:V):∀ fs:List (Str×V),(iK f v fs).length<=fs.length+1
 |[]=>by simp[iK]
 |(k,x)::r=>by
  have ih:=xr f v r;rw[show iK f v ((k,x)::r)=(if k=f then(k,v)::r else(k,x)::iK f v r) from rfl]
  by_cases hk:k=f
  ·rw[X' hk,Ya',Ya'];omega
  ·rw[T' hk,Ya',Ya'];omega
theorem jH.some_of {v:V}{o:Option Value}(r:jH (some v) o):∃ u,o=some u/\RelV v u:=by
 cases o with
 |none=>exact(show False from r).elim
 |some u=>exact⟨u,rfl,r⟩
theorem jH.none_of {o:Option Value}(r:jH none o):o=none:=by
 cases o with
 |none=>rfl
 |some u=>exact(show False from r).elim
theorem K6 {v:V}{u:Value}(r:RelV v u):handedIn u=true:=by
 cases v with
 |non=>cases (show u=Value.none from r);rfl
 |bl b=>cases (show u=Value.bool b from r);rfl
 |int i=>obtain⟨t,e⟩:=(show ∃ t,u=Value.int i t from r);cases e;rfl
 |str x=>obtain⟨t,e⟩:=(show ∃ t,u=Value.str x t from r);cases e;rfl
 |Mh b=>obtain⟨t,e⟩:=(show ∃ t,u=Value.bytes b t from r);cases e;rfl
 |flt b=>obtain⟨t,e⟩:=(show ∃ t,u=Value.float b t from r);cases e;rfl
 |ref a=>cases (show u=Value.ref a from r);rfl
 |ty n=>cases (show u=Value.type n from r);rfl
section
variable {P:Program} {w:World} {H H':Hp} {h h':Heap} {a C dx:Addr} {fs fs':List (Str×V)}
theorem zA (hok:pH P w H h)(e:H a=some (.ins C dx fs)):∃ mA,HS h a dx C mA/\(∀ f,jH (fs.lookup f) (mA f))/\PySem.Within mA (fs.map (·.1))/\fs.length<=1000/\H dx=some (.own a):=by
 obtain⟨d,z,ne,ob,mA,n,r,q⟩:=(show eC P w H h a (.ins C dx fs) from hok a _ e);exact⟨mA,⟨ob,n,ne⟩,r,q,z,d⟩
end
structure HU (K:Frag)(C:Addr):Prop where
 pg:plainGet K C Str.empty=true
 hd:hasDictIn K C=true
 po:plainOver K C=true
 sa:findIn K (.ref C) "__setattr__"=some (some (.builtin "object.__setattr__"))
theorem HU.get {K:Frag}{C:Addr}(c:HU K C)(f:Str):plainGet K C f=true:=c.pg
def gH (K:Frag)(C:Addr)(f:Str):Prop:=findIn K (.ref C) f=some none
theorem gH.taker {K:Frag}{C:Addr}{f:Str}(n:gH K C f):takerIn K C f=some none:=by
 unfold takerIn;rw[show findIn K (.ref C) f=some none from n];rfl
structure Meth (K:Frag)(C:Addr)(m:Str)(f:Addr):Prop where
 at_:findIn K (.ref C) m=some (some (.ref f))
 fn:isFn K (.ref f)=true
 kp:keepIn K (.ref f)=true
section
variable {X:Cx} {pins:List (Addr×Obj)} {σ:St} {H:Hp} {s:Shared} {a C dx:Addr} {fs:List (Str×V)} {f:Str} {v:V} {A:Around} {E:Value->Shared->Prop}
theorem HV {b:Bool}{Q:Value->Shared->Prop}(I:Inv X pins σ H s)(e:H a=some (.ins C dx fs))(c:HU X.K C)(n:gH X.K C f)(l:fs.lookup f=some v)
  (h:∀ u s',Inv X pins σ H s'->RelV v u->Q u s'):wpAny (model X.prog X.w) A (getAttr (.ref a) f b) Q E s:=by
 obtain⟨mA,O,r,_,_,_⟩:=zA I.hok e;obtain⟨u,hu,ru⟩:=jH.some_of (v:=v) (o:=mA f) (by rw[<-l];exact r f);exact get_map I.pE O (c.get f) c.hd n hu (K6 ru) (h u _ (I.tok _) ru)
theorem og {m:Str}{g:Addr}{pl:Sem Bool}{Q:Value×List Value->Shared->Prop}(I:Inv X pins σ H s)(e:H a=some (.ins C dx fs))(c:HU X.K C)(k:Meth X.K C m g)(l:fs.lookup m=none)
  (h:Q (.ref g,[.ref a]) s):wpAny (model X.prog X.w) A (getMethod (.ref a) m pl) Q E s:=by
 obtain⟨mA,O,r,_,_,_⟩:=zA I.hok e;have hn:mA m=none:=jH.none_of (by rw[<-l];exact r m);exact Mx I.pE O (c.get m) k.at_ k.fn hn h
theorem HW {y:V}{u:Value}{Q:Unit->Shared->Prop}(I:Inv X pins σ H s)(e:H a=some (.ins C dx fs))(c:HU X.K C)(n:gH X.K C f)(hl:fs.length<1000)(ry:RelV y u)
  (h:∀ s',Inv X pins σ (upd H a (.ins C dx (iK f y fs))) s'->Q () s'):wpAny (model X.prog X.w) A (setAttr (.ref a) f u) Q E s:=by
 obtain⟨mA,O,r,wi,_,ho⟩:=zA I.hok e;have hz:(fs.map (·.1)).length<=sizeLine:=by rw[L',sizeLine_eq];omega
 refine jg I.pE O c.sa c.po n.taker c.hd wi hz fun h' O' sb=>h _ ?_;have hd:∃ o,h'.get? dx=some o:=let ⟨o,_,_,e',_⟩:=O'.ns;⟨o,e'⟩;refine I.write (x:=a) (e:=dx) (by rw[e];exact True.intro) (.inr ho) (fun b q hb z=>(sb.2 b hb).trans z) hd ?_;refine⟨by rw[ak O.ne];exact ho,?_,O.ne,O'.obj,_,O'.ns,fun g=>?_,fun g hg=>?_⟩
 ·have:=xr f y fs;omega
 ·show jH ((iK f y fs).lookup g) (if g=f then some u else mA g);rw[xq]
  by_cases q:g=f
  ·rw[X' q,X' q];exact ry
  ·rw[T' q,T' q];exact r g
 ·by_cases q:g=f
  ·rw[q];exact(we f y fs).1
  ·refine(we f y fs).2 g (wi g fun z=>hg ?_);show(if g=f then some u else mA g)=none;rw[T' q];exact z
theorem Inv.made (I:Inv X pins σ H s):Inv X pins σ (upd (upd H s.heap.objs.size (.own (s.heap.objs.size+1))) (s.heap.objs.size+1) (.ins C s.heap.objs.size []))
  { s with heap:=(s.heap.push emptyDict).push (instObj C s.heap.objs.size) }:=by
 have e1:(s.heap.push emptyDict).get? s.heap.objs.size=some emptyDict:=Zm' s.heap rfl;have e2:((s.heap.push emptyDict).push (instObj C s.heap.objs.size)).get? (s.heap.objs.size+1)=some (instObj C s.heap.objs.size):=by
  have:=Zm' (s.heap.push emptyDict) (o:=instObj C s.heap.objs.size) rfl
  rwa [Heap.size_push]at this
 have e3:(s.heap.push emptyDict).Ns s.heap.objs.size (fun _=>none):=⟨emptyDict,#[],_,e1,rfl,(fun e he=>S' he (by simp)),fun _=>rfl⟩;have I1:=I.laid (a:=s.heap.objs.size) (o:=.own (s.heap.objs.size+1)) (h':=s.heap.push emptyDict) (t':=s.toks) (fun b u q=>P' _ q) (R' _) ⟨_,e1⟩;refine I1.laid (a:=s.heap.objs.size+1) (o:=.ins C s.heap.objs.size []) (t':=s.toks) (fun b u q=>P' _ q) (Nat.le_of_eq (Heap.size_push _ _)) ?_;have ne:s.heap.objs.size≠s.heap.objs.size+1:=Zn' (Nat.lt_succ_self _);refine⟨by rw[ak ne,af],Zq' _,ne,e2,fun _=>none,(Heap.Ns1.of_empty e3).at fun o q=>P' _ q,fun _=>True.intro,fun y hy=>S' rfl hy⟩
theorem O0 {prog:Program}{w:World}{env:Env}{e:Expr}{f:Str}{pos:Pos}{s:Shared}{Q:Value->Shared->Prop}(hb:attributeBase e f env (eval e env)=eval e env)
  (h:wpAny (model prog w) A (eval e env) (fun o s₁=>wpAny (model prog w) A (getAttr o f true) Q E s₁) E s):wpAny (model prog w) A (eval (.Attribute e f pos) env) Q E s :=
 Attribute_any_ h (by rw[arm_eval_Attribute,hb])
end
inductive Qk (K:Frag)(f:Str)(Q:VK)(x:V)(H1:Hp):Prop
 |mk (a:_) (C:_) (dx:_) (fs:_) (v:_) (cT:x=.ref a) (cU:H1 a=some (.ins C dx fs)) (dH:HU K C) (fL:gH K C f) (jF:fs.lookup f=some v) (zB:Q v H1):Qk K f Q x H1
def WJ (K:Frag)(ta:TE)(f:Str):TE:=fun σ H Q=>ta σ H fun x H1=>Qk K f Q x H1
inductive Ql (K:Frag)(f:Str)(D:Ends)(σ:St)(y:V)(x:V)(H2:Hp):Prop
 |mk (a:_) (C:_) (dx:_) (fs:_) (cT:x=.ref a) (cU:H2 a=some (.ins C dx fs)) (dH:HU K C) (fL:gH K C f) (jF:fs.length<1000) (zB:D.nx σ (upd H2 a (.ins C dx (iK f y fs)))):Ql K f D σ y x H2
def WK (K:Frag)(ta tv:TE)(f:Str):TS:=fun D σ H=>tv σ H fun y H1=>ta σ H1 fun x H2=>Ql K f D σ y x H2
section
variable {X:Cx} {o e value:Expr} {f:Str} {pos pos' tpos:Pos} {ta tv:TE}
theorem bQ (he:PE X e ta)(hb:attributeBase e f X.env (eval e X.env)=eval e X.env):PE X (.Attribute e f pos) (WJ X.K ta f):=by
 intro pins s σ H Q I h;refine O0 hb (cu (he pins s σ H _ I h) fun u s1 fS=>?_);obtain⟨x,H1,I1,rx,a,C,dx,fs,v,ex,ea,c,n,l,q⟩:=fS;subst ex;obtain rfl:u=Value.ref a:=rx;exact HV I1 ea c n l fun u' s2 I2 ru=>⟨v,H1,I2,ru,q⟩
theorem mB (ha:PE X o ta)(hv:PE X value tv)(hs:swapsWith value (some (.Attribute o f pos')) pos.line X.env=pure false):PS X (.Assign [.Attribute o f pos'] value pos) (WK X.K ta tv f):=by
 intro pins s σ H D I h;refine plainObj_wpAny_Assign_Attribute (cu (hv pins s σ H _ I h) fun u s1 ⟨y,H1,I1,ry,q⟩=>cu (ha pins s1 σ H1 _ I1 q) fun ov s2 ⟨x,H2,I2,rx,a,C,dx,fs,ex,ea,c,n,l,q2⟩=>?_) hs;subst ex;obtain rfl:ov=Value.ref a:=rx;exact HW I2 ea c n l ry fun s3 I3=>⟨σ,_,I3,q2⟩
end
section
variable {X:Cx} {pins:List (Addr×Obj)} {σ:St} {H:Hp} {s:Shared} {A:Around} {E:Value->Shared->Prop} {Q:Value->Shared->Prop} {c:Value} {b:Bool}
inductive fu (K:Frag)(H:Hp):V->Value->Prop where
 |non:fu K H .non (.type "NoneType")
 |bl (x:Bool):fu K H (.bl x) (.type "bool")
 |int (i:Int):fu K H (.int i) (.type "int")
 |str (x:Str):fu K H (.str x) (.type "str")
 |flt (x:UInt64):fu K H (.flt x) (.type "float")
 |lst {a:Addr} {xs:List V} (e:H a=some (.lst xs)):fu K H (.ref a) (.type "list")
 |Jz {a:Addr} {o:Obj} {xs:List V} (e:H a=some (.Jz o (.lst xs))):fu K H (.ref a) (.type "list")
 |tup {a:Addr} {xs:List V} (e:H a=some (.tup xs)):fu K H (.ref a) (.type "tuple")
 |dK {a:Addr} {kvs:List (Key×V)} (e:H a=some (.dK kvs)):fu K H (.ref a) (.type "dict")
 |dT {a:Addr} {kvs:List (List Key×V)} (e:H a=some (.dT kvs)):fu K H (.ref a) (.type "dict")
 |ins {a C dx:Addr} {fs:List (Str×V)} (e:H a=some (.ins C dx fs)) (cl:HU K C) (ha:findIn K (.ref C) "__class__"=some (some (.builtin "object.__class__")))
   (hn:specialIn K (.builtin "object.__class__") "__get__"=some (some (.builtin "getset_descriptor.__get__"))) (htk:PySem.W.takesIn K (.builtin "object.__class__")=some true)
   (hm:mroIn K C (.type "object")=some true):fu K H (.ref a) (.ref C)
theorem K7 {x:V}{u t:Value}(I:Inv X pins σ H s)(rx:RelV x u)(ty:fu X.K H x t)(e:kitOne X.K t c=some b)(h:∀ tk,Q (.bool b) { s with toks:=tk }) :
  wpAny (model X.prog X.w) A (call (.builtin "isinstance") [u,c]) Q E s:=by
 cases ty with
 |non=>cases (show u=Value.none from rx);exact kia_one PySem.W.kitx_none I.pE True.intro e (fun z=>nomatch z) h
 |bl y=>cases (show u=Value.bool y from rx);exact kia_one PySem.W.kitx_bool I.pE True.intro e (fun z=>nomatch z) h
 |int i=>obtain⟨t,q⟩:=(show ∃ t,u=Value.int i t from rx);cases q;exact kia_one PySem.W.kitx_int I.pE True.intro e (fun z=>nomatch z) h
 |str y=>obtain⟨t,q⟩:=(show ∃ t,u=Value.str y t from rx);cases q;exact kia_one PySem.W.kitx_str I.pE True.intro e (fun z=>nomatch z) h
 |flt y=>obtain⟨t,q⟩:=(show ∃ t,u=Value.float y t from rx);cases q;exact kia_one PySem.W.kitx_float I.pE True.intro e (fun z=>nomatch z) h
 | @lst a xs ea =>
  cases (show u=Value.ref a from rx);obtain⟨_,_,n,_,h1⟩:=(show eC X.prog X.w H s.heap a (.lst xs) from I.hok a _ ea);exact kia_one kitx_list I.pE ⟨_,h1,rfl⟩ e (fun z=>nomatch z) h
 | @Jz a ob xs ea =>
  cases (show u=Value.ref a from rx);obtain⟨_,_,_,n,_,h1⟩:=(show eC X.prog X.w H s.heap a (.Jz ob (.lst xs)) from I.hok a _ ea);exact kia_one kitx_list I.pE ⟨_,h1,rfl⟩ e (fun z=>nomatch z) h
 | @tup a xs ea =>
  cases (show u=Value.ref a from rx);obtain⟨_,_,_,p⟩:=(show eC X.prog X.w H s.heap a (.tup xs) from I.hok a _ ea);obtain⟨o,h1,h2,_⟩:=p;exact kia_one PySem.W.kitx_tuple I.pE ⟨o,h1,h2⟩ e (fun z=>nomatch z) h
 | @dK a kvs ea =>
  cases (show u=Value.ref a from rx);obtain⟨_,_,vs,_,p⟩:=(show eC X.prog X.w H s.heap a (.dK kvs) from I.hok a _ ea);obtain⟨o,es,ep,h1,h2,_⟩:=p;exact kia_one kitx_dict I.pE ⟨o,h1,h2.1⟩ e (fun z=>nomatch z) h
 | @dT a kvs ea =>
  cases (show u=Value.ref a from rx);obtain⟨_,_,xs,_,o,es,ep,h1,h2,_⟩:=(show eC X.prog X.w H s.heap a (.dT kvs) from I.hok a _ ea);exact kia_one kitx_dict I.pE ⟨o,h1,h2.1⟩ e (fun z=>nomatch z) h
 | @ins a C dx fs ea cl ha hn htk hm =>
  cases (show u=Value.ref a from rx);obtain⟨mA,O,_⟩:=zA I.hok ea;obtain⟨od,J,_⟩:=O.look;exact kia_one (PySem.W.kitx_own (cl.get _) cl.hd ha hn htk hm) I.pE J e (fun z=>nomatch z) h
end
end L2
namespace L2
open PySem PySem.Spec PyProof.Rows
structure fJ (k:Nat)(A:Around):Prop where
 hd:A.handled=none
 dp:A.depth+3 * k+5<recursionLimit
 un:A.units+16 * k+200<cLine
theorem fJ.mono {j k:Nat}{A:Around}(r:fJ k A)(h:j<=k):fJ j A:=⟨r.hd,by have:=r.dp;omega,by have:=r.un;omega⟩
theorem fJ.deeper {k:Nat}{A:Around}(r:fJ (k+1) A)(env:Env):fJ k (A.deeper env) :=
 ⟨r.hd,by have:=r.dp;show A.depth+1+3 * k+5<_;omega,by have:=r.un;show A.units+3+16 * k+200<_;omega⟩
theorem HX {A:Around}{C:Addr}{us:List Value}{kw:List (Str×Value)}:(A.under (.builtin "type.__call__" ⟨.ref C::us,kw⟩)).depth=A.depth+1:=by
 first|rfl|simp[Around.under,Code.weight,Code.isCreation,Code.isGuard,Code.isCaller,Code.frames,Code.isFrame,guardIds]
theorem HY {A:Around}{C:Addr}{us:List Value}{kw:List (Str×Value)}:(A.under (.builtin "type.__call__" ⟨.ref C::us,kw⟩)).units=A.units+1:=by
 first|rfl|simp[Around.under,Code.cUnits,Code.frames,Code.isFrame]
theorem fJ.make {k:Nat}{A:Around}(r:fJ (k+1) A)(C:Addr)(us:List Value)(kw:List (Str×Value)):fJ k (A.under (.builtin "type.__call__" ⟨.ref C::us,kw⟩)) :=
 ⟨r.hd,by have:=r.dp;rw[HX];omega,by have:=r.un;rw[HY];omega⟩
theorem fJ.depth {k:Nat}{A:Around}(r:fJ k A):A.depth<recursionLimit:=by have:=r.dp;omega
theorem fJ.units {k:Nat}{A:Around}(r:fJ k A):A.units+64<cLine:=by have:=r.un;omega
def ba:TA:=fun _ H Q=>Q [] H
def ax (ta:TE)(tr:TA):TA:=fun σ H Q=>ta σ H fun x H1=>tr σ H1 fun xs H2=>Q (x::xs) H2
section
variable {X:Cx} {e:Expr} {es:List Expr} {te:TE} {t:TA} {pos:Pos}
theorem ag:PA X [] ba:=fun _ _ _ _ H Q I h=>Calls.spliced_nil ⟨[],H,I,.nil,h⟩
theorem aa (ha:PE X e te)(hr:PA X es t)(hs:starEach (e::es) X.env=(false,eval e X.env)::starEach es X.env:=by rfl):PA X (e::es) (ax te t):=by
 intro pos pins s σ H Q I h;rw[hs];show wpAny _ _ (spliced ((false,eval e X.env)::backTo pos (starEach es X.env))) _ _ s;refine Calls.spliced_cons (cu (ha pins s σ H _ I h) fun u s1 fS=>?_);obtain⟨x,H1,I1,r1,q1⟩:=fS;exact cu (hr pos pins s1 σ H1 _ I1 q1) fun us s2 ⟨xs,H2,I2,r2,q2⟩=>⟨x::xs,H2,I2,.cons r1 r2,q2⟩
def cP (t:TA):TE:=fun σ H Q=>t σ H fun xs H1=>xs.length<=sizeLine/\∀ p,H1 p=none->Q (.ref p) (upd H1 p (.tup xs))
def kW (t:TA):TE:=fun σ H Q=>t σ H fun xs H1=>xs.length<=sizeLine/\∀ p,H1 p=none->Q (.ref p) (upd H1 p (.lst xs))
theorem bJ {x1}(h:PA X es t):PE X (.Tuple es x1 pos) (cP t):=by
 intro pins s σ H Q I hq;refine wpAny_Tuple_spliced (cu (h pos pins s σ H _ I hq) fun us s1 ⟨xs,H1,I1,r,z,q⟩=>⟨by rw[<-r.length];exact z,?_⟩);have hf:H1 s1.heap.objs.size=none:=I1.hok.fresh (R' _);refine⟨.ref s1.heap.objs.size,upd H1 s1.heap.objs.size (.tup xs),I1.laid (t':=s1.toks) (fun b u e=>P' _ e) (R' _) ?_,rfl,q _ hf⟩;exact⟨z,us,r,⟨_,Zm' _ rfl,rfl,_,rfl⟩⟩
theorem a9 (h:PA X es t):PE X (.List es pos) (kW t):=by
 intro pins s σ H Q I hq;refine wpAny_List_spliced (cu (h pos pins s σ H _ I hq) fun us s1 ⟨xs,H1,I1,r,z,q⟩=>⟨by rw[<-r.length];exact z,?_⟩);have hf:H1 s1.heap.objs.size=none:=I1.hok.fresh (R' _);refine⟨.ref s1.heap.objs.size,upd H1 s1.heap.objs.size (.lst xs),I1.laid (t':=s1.toks) (fun b u e=>P' _ e) (R' _) ?_,rfl,q _ hf⟩;exact⟨z,us,0,r,Zm' _ rfl⟩
end
abbrev Sp:=List V->Hp->VK->XK->Prop
abbrev K8:=List Env->Hp->Shared->XK->Value->Shared->Prop
structure HZ (P:Program)(w:World)(K:Frag)(mg:Str->Option Value)(base:Heap)(A:Around)(outer:List Env)(s:Shared)(H:Hp):Prop where
 frames:A.frames=some outer
 mod:Mod K mg base
 bs:∀ b o,base.get? b=some o->s.heap.get? b=some o/\H b=none
 Mi:base.objs.size<=s.heap.objs.size
 tL:s.heap.FunFrames base outer
 OW:∀ b∈frs outer,H b=none
 hok:pH P w H s.heap
 bare:AllBare s.gens
def CE (outer:List Env)(P:Program)(w:World)(H:Hp)(s:Shared)(Q:VK)(u:Value)(s':Shared):Prop :=
 ∃ v H',s'.os=s.os/\AllBare s'.gens/\Un (frs outer) [] H H' s.heap s'.heap/\pH P w H' s'.heap/\RelV v u/\Q v H'
def CR (CX:K8)(outer:List Env)(P:Program)(w:World)(H:Hp)(s:Shared)(Q:VK)(E:XK)(r:Result)(s':Shared):Prop :=
 match r with
 |.ok (.ret u)=>CE outer P w H s Q u s'
 |.ok _=>False
 |.error e=>CX outer H s E e s'
structure aW (P:Program)(w:World)(K:Frag)(mg:Str->Option Value)(base:Heap)(CX:K8)(k:Nat)(f:Addr)(fd:FuncData)(ps:List Str)(sp:Sp):Prop where
 len:∀ vs H Q E,sp vs H Q E->vs.length=ps.length
 run:∀(A:Around)(outer:List Env)(s:Shared)(H:Hp)(args:Args)(us:List Value)(vs:List V)(Q:VK)(E:XK),fJ k A->HZ P w K mg base A outer s H->BindsTo s fd args (ps.zip us)->Vals vs us->sp vs H Q E ->
  codeAny (model P w) A (.call (.ref f) args) (CR CX outer P w H s Q E) s
theorem HZ.make {P:Program}{w:World}{K:Frag}{mg:Str->Option Value}{base:Heap}{A:Around}{outer:List Env}{s:Shared}{H:Hp}(e:HZ P w K mg base A outer s H)(C:Addr)(us:List Value)(kw:List (Str×Value)) :
  HZ P w K mg base (A.under (.builtin "type.__call__" ⟨.ref C::us,kw⟩)) outer s H:=⟨by first|exact e.frames|(simpa [Around.under,Code.envs,Code.isFrame,pushEnvs] using e.frames),e.mod,e.bs,e.Mi,e.tL,e.OW,e.hok,e.bare⟩
section
variable {X:Cx} {pins:List (Addr×Obj)} {σ:St} {H:Hp} {s s':Shared}
theorem Inv.env0 (I:Inv X pins σ H s):HZ X.prog X.w X.K X.mg X.base X.A X.stack s H :=
 ⟨I.ok.frames,I.ok.mod,I.bs,Zb' I.ok.Mi I.sz,I.stack,I.Ea,I.hok,I.bare⟩
theorem Inv.after {Q:VK}{u:Value}(I:Inv X pins σ H s)(h:CE X.stack X.prog X.w H s Q u s'):EP X pins σ Q u s':=by
 obtain⟨v,H',os,bare,un,hok,r,q⟩:=h;obtain⟨hh,g,d,t,os'⟩:=s';obtain rfl:os'=s.os:=os;exact⟨v,H',I.call (h':=hh) (g':=g) (d':=d) (t':=t) (ch:=[]) un hok bare (fun b z=>S' z (by simp)),r,q⟩
end
def Qm (sp:Sp)(kX:List V)(E:XK)(t:TA):TE:=fun σ H Q=>t σ H fun vs H1=>sp (vs++kX) H1 Q E
inductive Mz (C:Addr)(m:Str)(sp:Sp)(kX:List V)(E:XK)(t:TA)(σ:St)(Q:VK)(x:V)(H1:Hp):Prop
 |mk (a:_) (dx:_) (fs:_) (cT:x=.ref a) (cU:H1 a=some (.ins C dx fs)) (dH:fs.lookup m=none) (fL:t σ H1 fun vs H2=>sp (x::(vs++kX)) H2 Q E):Mz C m sp kX E t σ Q x H1
def Qn (C:Addr)(m:Str)(sp:Sp)(kX:List V)(E:XK)(ta:TE)(t:TA):TE:=fun σ H Q=>ta σ H fun x H1=>Mz C m sp kX E t σ Q x H1
def Qo (C:Addr)(sp:Sp)(kX:List V)(E:XK)(t:TA):TE:=fun σ H Q=>t σ H fun vs H1=>∀ x dx,H1 x=none->H1 dx=none->dx≠x ->
 sp (.ref x::(vs++kX)) (upd (upd H1 dx (.own x)) x (.ins C dx [])) (fun v H2=>v=.non/\Q (.ref x) H2) E
def Binds (K:Frag)(fd:FuncData)(ps:List Str)(ds:List Value):Prop :=
 ∀(s:Shared)(us:List Value),K.In s.heap->(us++ds).length=ps.length->BindsTo s fd ⟨us,[]⟩ (ps.zip (us++ds))
theorem Binds.all {K:Frag}{fd:FuncData}{ps:List Str}(h:∀ us:List Value,us.length=ps.length->bindArgs fd ⟨us,[]⟩=pure (ps.zip us)):Binds K fd ps []:=fun s us _ hl=>by
 rw[append_nil]at hl ⊢;exact .of_eq (h us hl)
def Passes (CX:K8)(X:Cx)(E:XK):Prop:=∀(pins:List (Addr×Obj)) (σ:St) (H:Hp) (s:Shared) (e:Value) (s':Shared),Inv X pins σ H s->CX X.stack H s E e s'->X.xe e s'
section
variable {X:Cx} {CX:K8} {k:Nat} {f C:Addr} {fd:FuncData} {ps:List Str} {sp:Sp} {kX:List V} {ds:List Value} {E:XK} {x m:Str} {p pos apos:Pos} {e o:Expr} {es:List Expr} {ta:TE} {t:TA}
theorem Ia {pins:List (Addr×Obj)}{σ:St}{H:Hp}{s:Shared}{Q:VK}{us:List Value}{vs:List V}(F:aW X.prog X.w X.K X.mg X.base CX k f fd ps sp)(hr:fJ k X.A)(hb:Binds X.K fd ps ds)(hd:Vals kX ds)(hx:Passes CX X E)
  (I:Inv X pins σ H s) (r:Vals vs us) (h:sp (vs++kX) H Q E):wpAny (model X.prog X.w) X.A (call (.ref f) us) (EP X pins σ Q) X.xe s:=by
 have r2:Vals (vs++kX) (us++ds):=r.append hd;have hl:(us++ds).length=ps.length:=by rw[<-r2.length];exact F.len _ _ _ _ h
 refine wpAny_call (codeAny_mono (F.run X.A X.stack s H ⟨us,[]⟩ (us++ds) (vs++kX) Q E hr I.env0 (hb s us I.pE hl) r2 h) fun r s' hq=>?_);cases r with
 |error e=>exact hx pins σ H s e s' I hq
 |ok fl =>
  cases fl with
  |ret u=>exact I.after hq
  |next=>exact False.elim hq
  |brk=>exact False.elim hq
  |cont=>exact False.elim hq
theorem oh (F:aW X.prog X.w X.K X.mg X.base CX k f fd ps sp)(hr:fJ k X.A)(hg:Gl X x)(hm:X.mg x=some (.ref f))(hk:keepIn X.K (.ref f)=true)(hb:Binds X.K fd ps ds)(hd:Vals kX ds)(hx:Passes CX X E)
  (ha:PA X (e::es) t) (hdb:(x==("__debug__":Str))=false:=by decide) (he:starEach (e::es) X.env=(false,eval e X.env)::starEach es X.env:=by rfl) (hpl:(backTo pos (starEach es X.env)).any (·.1)=false:=by rfl) :
  PE X (.Call (.Name x p) (e::es) [] pos) (Qm sp kX E t):=by
 intro pins s σ H Q I h;refine wpAny_Call_Name_kw (n9 I hg hm ?_ hdb);refine callWith_K (h₀:=X.base) I.ok.mod.Qc hk (cu (ha pos pins s σ H _ I h) fun us s1 ⟨vs,H1,I1,r,q⟩=>⟨I1.pE,?_⟩) he hpl;exact Ia F hr hb hd hx I1 r q
theorem dZ {pl:Sem Bool}(he:PE X o ta)(c:HU X.K C)(hm:Meth X.K C m f)(F:aW X.prog X.w X.K X.mg X.base CX k f fd ps sp)(hr:fJ k X.A)(hb:Binds X.K fd ps ds)(hd:Vals kX ds)(hx:Passes CX X E)(ha:PA X (e::es) t)
  (hst:starEach (e::es) X.env=(false,eval e X.env)::starEach es X.env:=by rfl) (hpl:(backTo pos (starEach es X.env)).any (·.1)=false:=by rfl)
  (ht:eval (.Call (.Attribute o m apos) (e::es) [] pos) X.env=(do
   let ov <-eval o X.env
   standAt apos.atName
   let (f,first) <-holding [ov] (getMethod ov m pl)
   callWith pos f first (backTo pos (starEach (e::es) X.env)) (backToKw pos (keywordEach [] X.env))):=by rfl) :
  PE X (.Call (.Attribute o m apos) (e::es) [] pos) (Qn C m sp kX E ta t):=by
 intro pins s σ H Q I h;refine methodCall_KW (pl:=pl) (cu (he pins s σ H _ I h) fun u s1 ⟨x,H1,I1,rx,a,dx,fs,ex,ea,l,q⟩=>?_) ht;subst ex;obtain rfl:u=Value.ref a:=rx;refine og I1 ea c hm l ?_;refine callWith_K (first:=[.ref a]) (h₀:=X.base) I.ok.mod.Qc hm.kp (cu (ha pos pins s1 σ H1 _ I1 q) fun us s2 ⟨vs,H2,I2,r,q2⟩=>⟨I2.pE,?_⟩) hst hpl;exact Ia (us:=.ref a::us) (vs:=.ref a::vs) F hr hb hd hx I2 (.cons rfl r) q2
theorem gM {pl:Sem Bool}(he:PE X o ta)(c:HU X.K C)(hm:Meth X.K C m f)(F:aW X.prog X.w X.K X.mg X.base CX k f fd ps sp)(hr:fJ k X.A)(hb:Binds X.K fd ps ds)(hd:Vals kX ds)(hx:Passes CX X E)
  (ht:eval (.Call (.Attribute o m apos) [] [] pos) X.env=(do
   let ov <-eval o X.env
   standAt apos.atName
   let (f,first) <-holding [ov] (getMethod ov m pl)
   callWith pos f first (backTo pos (starEach [] X.env)) (backToKw pos (keywordEach [] X.env))):=by rfl) :
  PE X (.Call (.Attribute o m apos) [] [] pos) (Qn C m sp kX E ta ba):=by
 intro pins s σ H Q I h;refine methodCall_KW (pl:=pl) (cu (he pins s σ H _ I h) fun u s1 ⟨x,H1,I1,rx,a,dx,fs,ex,ea,l,q⟩=>?_) ht;subst ex;obtain rfl:u=Value.ref a:=rx;refine og I1 ea c hm l ?_;exact callWith_K0 (first:=[.ref a]) I1.pE hm.kp (Ia (us:=[.ref a]) (vs:=[.ref a]) F hr hb hd hx I1 (.cons rfl .nil) q)
structure Mk (K:Frag)(C f:Addr):Prop where
 makes:makesIn K C=true
 init:findIn K (.ref C) "__init__"=some (some (.ref f))
 fn:isFn K (.ref f)=true
 kp:keepIn K (.ref C)=true
theorem FE {pins:List (Addr×Obj)}{σ:St}{H:Hp}{s:Shared}{Q:VK}{us:List Value}{vs:List V}(M:Mk X.K C f)(F:aW X.prog X.w X.K X.mg X.base CX k f fd ps sp)(hr:fJ (k+1) X.A)(hb:Binds X.K fd ps ds)(hd:Vals kX ds)
  (hx:Passes CX X E) (I:Inv X pins σ H s) (r:Vals vs us)
  (h:∀ x dx,H x=none->H dx=none->dx≠x->sp (.ref x::(vs++kX)) (upd (upd H dx (.own x)) x (.ins C dx [])) (fun v H2=>v=.non/\Q (.ref x) H2) E) :
  wpAny (model X.prog X.w) X.A (call (.ref C) us) (EP X pins σ Q) X.xe s:=by
 have hq:=h (s.heap.objs.size+1) s.heap.objs.size (I.hok.fresh (Nat.le_succ _)) (I.hok.fresh (R' _)) (Zn' (Nat.lt_succ_self _));have I2:=Inv.made (C:=C) I;have r2:Vals (V.ref (s.heap.objs.size+1)::(vs++kX)) (Value.ref (s.heap.objs.size+1)::(us++ds)):=.cons rfl (r.append hd);have hl:(Value.ref (s.heap.objs.size+1)::us++ds).length=ps.length:=by
  have e:=r2.length;rw[F.len _ _ _ _ hq]at e;exact e.symm
 refine wpAny_call (My (f:=f) I.pE M.makes M.init (beq_iff_eq.mp M.fn) (codeAny_mono (F.run _ X.stack _ _ ⟨Value.ref (s.heap.objs.size+1)::us,[]⟩ (Value.ref (s.heap.objs.size+1)::(us++ds)) _ _ E (hr.make C us [])
  (I2.env0.make C us []) (hb _ (Value.ref (s.heap.objs.size+1)::us) I2.pE hl) r2 hq) fun r s' hq'=>?_))
 cases r with
 |error e=>exact hx pins σ _ _ e s' I2 hq'
 |ok fl =>
  cases fl with
  |ret u =>
   obtain⟨v,H',I3,rv,ev,q3⟩:=I2.after hq';subst ev;exact⟨rv,⟨V.ref (s.heap.objs.size+1),H',I3,rfl,q3⟩⟩
  |next=>exact False.elim hq'
  |brk=>exact False.elim hq'
  |cont=>exact False.elim hq'
theorem oi (M:Mk X.K C f)(F:aW X.prog X.w X.K X.mg X.base CX k f fd ps sp)(hr:fJ (k+1) X.A)(hg:Gl X x)(hm:X.mg x=some (.ref C))(hb:Binds X.K fd ps ds)(hd:Vals kX ds)(hx:Passes CX X E)
  (ha:PA X (e::es) t) (hdb:(x==("__debug__":Str))=false:=by decide) (he:starEach (e::es) X.env=(false,eval e X.env)::starEach es X.env:=by rfl) (hpl:(backTo pos (starEach es X.env)).any (·.1)=false:=by rfl) :
  PE X (.Call (.Name x p) (e::es) [] pos) (Qo C sp kX E t):=by
 intro pins s σ H Q I h;refine wpAny_Call_Name_kw (n9 I hg hm ?_ hdb);refine callWith_K (h₀:=X.base) I.ok.mod.Qc M.kp (cu (ha pos pins s σ H _ I h) fun us s1 ⟨vs,H1,I1,r,q⟩=>⟨I1.pE,?_⟩) he hpl;exact FE M F hr hb hd hx I1 r q
theorem FF (M:Mk X.K C f)(F:aW X.prog X.w X.K X.mg X.base CX k f fd ps sp)(hr:fJ (k+1) X.A)(hg:Gl X x)(hm:X.mg x=some (.ref C))(hb:Binds X.K fd ps ds)(hd:Vals kX ds)(hx:Passes CX X E)
  (hdb:(x==("__debug__":Str))=false:=by decide):PE X (.Call (.Name x p) [] [] pos) (Qo C sp kX E ba):=by
 intro pins s σ H Q I h;refine wpAny_Call_Name_kw (n9 I hg hm ?_ hdb);exact callWith_K0 I.pE M.kp (FE (us:=[]) M F hr hb hd hx I .nil h)
end
section
variable {X:Cx} {CX:K8} {k:Nat} {f C:Addr} {fd:FuncData} {ps ks:List Str} {sp:Sp} {E:XK} {x m:Str} {p pos apos ZE:Pos} {e o:Expr} {es:List Expr} {kws:List Keyword} {te ta:TE} {t tk:TA} {nm:Option Str}
variable {g:List Value->List Value->List Value} {gV:List V->List V->List V}
end
structure aA (N P:List Str)(sc:Scope):Prop where
 kind:sc.kind=.function
 co:sc.isCoroutine=false
 gen:sc.isGenerator=false
 nd:N.Nodup
 pre:N.take P.length=P
 par:∀ x∈P,sc.names.lookup x=some .local\/sc.names.lookup x=some .cell
 Rc:∀ y∈sc.names,y.2≠.free
theorem Cq {kindOf:Str->Option NameKind}{x:Str}:∀{binds:List (Str×Value)} {m:Str->Option Value},(∀ v,(x,v) ∉ binds)->bindL kindOf binds m x=m x
 |[],_,_=>rfl
 |(n,v)::r,m,h=>by
  unfold bindL;rw[Cq fun w hw=>h w (Yc' _ hw)];split
  ·have:x≠n:=by rintro rfl;exact h v mem_cons_self
   simp[this]
  ·rfl
theorem Cr {kindOf:Str->Option NameKind}{x:Str}:∀{binds:List (Str×Value)} {m:Str->Option Value},(∀ v,(x,v) ∉ binds)->bindC kindOf binds m x=m x
 |[],_,_=>rfl
 |(n,v)::r,m,h=>by
  unfold bindC;rw[Cr fun w hw=>h w (Yc' _ hw)];split
  ·rfl
  ·have:x≠n:=by rintro rfl;exact h v mem_cons_self
   simp[this]
theorem Ct {kindOf:Str->Option NameKind}{x:Str}{v:Value}:∀{P:List Str} {vs:List Value} {i:Nat} {m:Str->Option Value},P.Nodup->P[i]? = some x->vs[i]? = some v->kindOf x=some .local ->
  bindL kindOf (P.zip vs) m x=some v
 |[],_,_,_,_,h,_,_=>by simp at h
 |_::_,[],_,_,_,_,h,_=>by simp at h
 |p::P,w::vs,0,m,nd,h1,h2,hk=>by
  simp at h1 h2;subst h1;subst h2;show bindL kindOf ((p,w)::P.zip vs) m p=_;unfold bindL;rw[Cq fun v hv=>(List.nodup_cons.mp nd).1 (List.of_mem_zip hv).1,X' hk];simp
 |p::P,w::vs,i+1,m,nd,h1,h2,hk=>by
  show bindL kindOf ((p,w)::P.zip vs) m x=_;unfold bindL;exact Ct (i:=i) (List.nodup_cons.mp nd).2 (by simpa using h1) (by simpa using h2) hk
theorem Cu {kindOf:Str->Option NameKind}{x:Str}{v:Value}:∀{P:List Str} {vs:List Value} {i:Nat} {m:Str->Option Value},P.Nodup->P[i]? = some x->vs[i]? = some v->kindOf x≠some .local ->
  bindC kindOf (P.zip vs) m x=some v
 |[],_,_,_,_,h,_,_=>by simp at h
 |_::_,[],_,_,_,_,h,_=>by simp at h
 |p::P,w::vs,0,m,nd,h1,h2,hk=>by
  simp at h1 h2;subst h1;subst h2;show bindC kindOf ((p,w)::P.zip vs) m p=_;unfold bindC;rw[Cr fun v hv=>(List.nodup_cons.mp nd).1 (List.of_mem_zip hv).1,T' hk];simp
 |p::P,w::vs,i+1,m,nd,h1,h2,hk=>by
  show bindC kindOf ((p,w)::P.zip vs) m x=_;unfold bindC;exact Cu (i:=i) (List.nodup_cons.mp nd).2 (by simpa using h1) (by simpa using h2) hk
noncomputable def start (N:List Str)(vs:List V):St:=vs.map some++List.replicate (N.length-vs.length) none
noncomputable def mC (CX:K8)(P:Program)(w:World)(K:Frag)(mg:Str->Option Value)(base:Heap)(N:List Str)(qual:Str)(scope:Scope)(f:Addr)(cd:Value)(A:Around)(outer:List Env)(s:Shared)(H:Hp)(E:XK):Cx where
 prog:=P
 w:=w
 K:=K
 mg:=mg
 base:=base
 A:=A.deeper (envOfC qual scope s.heap.objs.size f cd)
 N:=N
 s₀:=s
 H₀:=H
 env:=envOfC qual scope s.heap.objs.size f cd
 outer:=outer
 stack:=envOfC qual scope s.heap.objs.size f cd::outer
 ex:=[]
 calm:=true
 fn:=fun _=>true
 pn:=[]
 xe:=fun e s'=>wpAny (model P w) (A.deeper (envOfC qual scope s.heap.objs.size f cd)) (leaving (envOfC qual scope s.heap.objs.size f cd) e) (fun _ s''=>CX outer H s E e s'') (fun e' s''=>CX outer H s E e' s'') s'
theorem FG {sc:Scope}{n:Nat}{x:Str}(h:sc.names.lookup x=some .cell):∃ c,(cellsFrom n sc.names []).lookup x=some c:=by
 have q:=PySem.W.cellsFrom_some sc.names n [] (.inl h);exact Option.isSome_iff_exists.mp q
theorem K9 {CX:K8}{P:Program}{w:World}{K:Frag}{mg:Str->Option Value}{base:Heap}{N ps:List Str}{qual:Str}{scope:Scope}{f:Addr}{cd:Value}{A:Around}{outer:List Env}{s s1:Shared}{H:Hp}{E:XK}{us:List Value}{vs:List V}
  (S:aA N ps scope) (hd:A.handled=none) (e0:HZ P w K mg base A outer s H) (hl:vs.length=ps.length) (r:Vals vs us)
  (x:InCallC s s.heap.objs.size (bindL (envOfC qual scope s.heap.objs.size f cd).kindOf (ps.zip us) fun _=>none) (cellsFrom (s.heap.objs.size+1) scope.names []) (bindC (envOfC qual scope s.heap.objs.size f cd).kindOf (ps.zip us) fun _=>none) s1) :
  Inv (mC CX P w K mg base N qual scope f cd A outer s H E) [] (start N vs) H s1:=by
 have hpl:ps.length<=N.length:=by have:=Zj' List.length S.pre;rw[Zo']at this;omega
 obtain⟨h1,tk,rfl,hk⟩:=x.done;have TZ:∀ b:Addr,b ∉ (mC CX P w K mg base N qual scope f cd A outer s H E).ex:=fun b z=>S' (show b∈([]:List Addr) from z) (by simp);refine⟨⟨e0.mod,S.kind,rfl,rfl,R' _,fun y z c h1 h2=>?_,fun y hy=>?_,fun y c _ h=>?_,fun _=>hd,Around.frames_deeper e0.frames,.inr ⟨rfl,rfl⟩,fun b z=>S' z (TZ b),e0.bs,e0.Mi,fun b _ _=>TZ b,fun b z=>S' z (TZ b),e0.tL,e0.OW⟩,
  rfl,e0.bare,Un.kept hk,⟨_,x.toInCall.ns,fun i y v h1 h2 h3=>?_⟩,fun y c h=>⟨_,x.cell y c h⟩,e0.hok.fresh (R' _),fun y c h=>?_,fun p hp=>S' (show p∈([]:List (Addr×Obj)) from hp) (by simp),e0.hok.kept hk,?_⟩
 ·exact name_of_addr x.apart (PySem.mem_of_lookup h1) (PySem.mem_of_lookup h2)
 ·have hy:scope.names.lookup y=some .cell\/scope.names.lookup y=some .free:=hy;rcases hy with hy|hy
  ·exact FG hy
  ·exact S' rfl (S.Rc _ (PySem.mem_of_lookup hy))
 ·exact Nat.le_of_lt (x.above y c (PySem.mem_of_lookup h))
 ·have hi:i<vs.length:=by
   unfold start at h2
   by_cases hi:i<vs.length
   ·exact hi
   ·rw[List.getElem?_append_right (by simpa using hi)]at h2;rw[List.getElem?_replicate]at h2;split at h2 <;> cases h2
  have ha:vs[i]? = some v:=by
   unfold start at h2;rw[List.getElem?_append_left (by simpa using hi),Zd']at h2;cases e:vs[i]? with
   |none=>rw[e]at h2;cases h2
   |some a=>rw[e]at h2;cases h2;rfl
  obtain⟨u,hu,rv⟩:=r.get ha;have hp:ps[i]? = some y:=by
   rw[<-S.pre,List.getElem?_take_of_lt (by omega)];exact h1
  have Ys:ps.Nodup:=by rw[<-S.pre];exact S.nd.sublist (List.take_sublist _ _)
  refine⟨u,rv,?_⟩;rcases S.par y (Zf' hp) with k|k
  ·exact .inl ⟨k,Ct Ys hp hu k⟩
  ·obtain⟨c,e⟩:=FG (n:=s.heap.objs.size+1) k;refine .inr ⟨.inl k,c,e,?_⟩;have q:=x.cell y c e;rw[Cu Ys hp hu (by show scope.names.lookup y≠_;rw[k];decide)]at q;exact q
 ·exact e0.hok.fresh (Nat.le_of_lt (x.above y c (PySem.mem_of_lookup h)))
 ·unfold start;show _=N.length;rw[V',L',List.length_replicate];omega
theorem JH {CX:K8}{P:Program}{w:World}{K:Frag}{mg:Str->Option Value}{base:Heap}{k:Nat}{f:Addr}{name qual:Str}{params:Arguments}{body:List Stmt}{scope:Scope}{dV kV doc pm cdv ct oc:Value}{an od:Option Addr}
  {osl:Array (Option Value)} {N ps:List Str} {sp:Sp} (lk:K.lookup f=some ⟨oc,od,.func (fnOf name qual params body scope dV kV doc pm an cdv ct),osl⟩) (hcd:codeIn K cdv qual=true) (S:aA N ps scope)
  (len:∀ vs H Q E,sp vs H Q E->vs.length=ps.length)
  (hbody:∀(A:Around)(outer:List Env)(s:Shared)(H:Hp)(vs:List V)(Q:VK)(E:XK),fJ k (A.deeper (envOfC qual scope s.heap.objs.size f cdv))->sp vs H Q E ->
   ∃ t,zy (mC CX P w K mg base N qual scope f cdv A outer s H E) body t/\t { nx:=fun _ H'=>Q .non H',rt:=Q } (start N vs) H) :
  aW P w K mg base CX (k+1) f (fnOf name qual params body scope dV kV doc pm an cdv ct) ps sp:=by
 refine⟨len,fun A outer s H args us vs Q E hr e0 hb r hsp=>?_⟩;have hl:=len _ _ _ _ hsp;have KX:K.In s.heap:=e0.mod.Qc.keeps fun b o e=>(e0.bs b o e).1;have lim:s.heap.NoLimit:=e0.mod.nolimit.keeps fun b o e=>(e0.bs b o e).1;have hkind:∀ y∈ps.zip us,scope.names.lookup y.1=some .local\/(scope.names.lookup y.1=some .cell/\((cellsFrom (s.heap.objs.size+1) scope.names []).lookup y.1).isSome=true):=fun⟨n,v⟩ hy=>by
  rcases S.par n (List.of_mem_zip hy).1 with q|q
  ·exact .inl q
  ·exact .inr ⟨q,PySem.W.cellsFrom_some _ _ _ (.inl q)⟩
 refine codeAny_call_function hr.depth (KX _ _ lk) rfl S.co S.gen rfl (PySem.W.codeRec_of KX hcd) (hb _ _ _ _ ?_);refine wpAny_newFunctionEnv_cells S.kind hkind fun env he s1 x=>?_;subst he;refine⟨lim.keeps x.toInCall.keep,codeAny_func ?_⟩;obtain⟨t,ht,hq⟩:=hbody A outer s H vs Q E (hr.deeper _) hsp;have I:Inv (mC CX P w K mg base N qual scope f cdv A outer s H E) [] (start N vs) H s1:=K9 S hr.hd e0 hl r x;refine wpAny_mono (ht [] s1 (start N vs) H _ I hq) (fun fl s' hs=>?_) fun e s' hs=>hs;have fin:∀{σ':St} {H':Hp} {v:V} {u:Value},Inv (mC CX P w K mg base N qual scope f cdv A outer s H E) [] σ' H' s'->RelV v u->Q v H'->CE outer P w H s Q u s' :=
  fun {σ' H' v u} J rv q=>⟨v,H',J.os,J.bare,J.base,J.hok,rv,q⟩
 cases fl with
 |ret u =>
  obtain⟨v,σ',H',J,rv,q⟩:=hs;exact fin J rv q
 |next =>
  obtain⟨σ',H',J,q⟩:=hs;exact fin (v:=V.non) (u:=Value.none) J rfl q
 |brk =>
  obtain⟨_,_,_,q⟩:=hs;exact False.elim q
 |cont =>
  obtain⟨_,_,_,q⟩:=hs;exact False.elim q
end L2
namespace L2
open PySem PySem.Spec PyProof.Rows
section
variable {X:Cx} {x:Str} {p pos:Pos} {e:Expr} {es:List Expr} {t:TA} {id T:String} {r:List V->Hp->VK->Prop}
def Yt (r:List V->Hp->VK->Prop)(t:TA):TE:=fun σ H Q=>t σ H fun vs H1=>r vs H1 Q
theorem aD (hc:ik X (.builtin id) r)(hg:Gl X x)(hm:X.mg x=none)(hv:bootBuiltins x=some (.builtin id))(ha:PA X (e::es) t)(hn:x ≠ "__name__":=by decide)(hdb:(x==("__debug__":Str))=false:=by decide)
  (he:starEach (e::es) X.env=(false,eval e X.env)::starEach es X.env:=by rfl) (hpl:(backTo pos (starEach es X.env)).any (·.1)=false:=by rfl):PE X (.Call (.Name x p) (e::es) [] pos) (Yt r t):=by
 intro pins s σ H Q I h;refine wpAny_Call_Name_kw (my I hg hm hv ?_ hn hdb);exact PyProof.Rows.callWith_builtin1 (cu (ha pos pins s σ H _ I h) fun us s1 ⟨vs,H1,I1,r1,q1⟩=>hc pins s1 σ H1 vs us Q I1 r1 q1) he hpl
theorem di (hc:ik X (.type T) r)(hg:Gl X x)(hm:X.mg x=none)(hv:bootBuiltins x=some (.type T))(ha:PA X (e::es) t)(hn:x ≠ "__name__":=by decide)(hdb:(x==("__debug__":Str))=false:=by decide)
  (he:starEach (e::es) X.env=(false,eval e X.env)::starEach es X.env:=by rfl) (hpl:(backTo pos (starEach es X.env)).any (·.1)=false:=by rfl):PE X (.Call (.Name x p) (e::es) [] pos) (Yt r t):=by
 intro pins s σ H Q I h;refine wpAny_Call_Name_kw (my I hg hm hv ?_ hn hdb);exact PyProof.Rows.callWith_type1 (cu (ha pos pins s σ H _ I h) fun us s1 ⟨vs,H1,I1,r1,q1⟩=>hc pins s1 σ H1 vs us Q I1 r1 q1) he hpl
end
end L2
namespace HT
open PySem PyProof.Rows
section
open PySem.SeqAt
open PySem.AutoSeq1 (wpAny_loadPart')
open PySem.MeetsSeq PySem.MeetsSeq2 PySem.MeetsSeq3
end
section
variable {prog:Program} {w:World} {A:Around} {E:Value->Shared->Prop} {s:Shared}
noncomputable def ip (n d:Nat):Option Int->Nat
 |none=>d
 |some v=>if v<0 then(v+(n:Int)).toNat else min v.toNat n
theorem tM (n d:Nat):ip n d none=d:=rfl
theorem Ee (n d k:Nat):ip n d (some (k:Int))=min k n:=by
 show(if(k:Int)<0 then((k:Int)+(n:Int)).toNat else min (k:Int).toNat n)=min k n;rw[T' (by omega),Int.toNat_natCast]
theorem Rg (n d:Nat)(hd:d<=n)(o:Option Int):ip n d o<=n:=by
 cases o with
 |none=>exact hd
 |some v =>
  show(if v<0 then(v+(n:Int)).toNat else min v.toNat n)<=n
  by_cases hv:v<0
  ·rw[X' hv];omega
  ·rw[T' hv];exact Nat.min_le_right _ _
theorem JI (v:Int)(n d:Nat):(if v<0 then max (v+(n:Int)) 0 else min v (n:Int))=((ip n d (some v):Nat):Int):=by
 show(if v<0 then max (v+(n:Int)) 0 else min v (n:Int))=(((if v<0 then(v+(n:Int)).toNat else min v.toNat n):Nat):Int)
 by_cases hv:v<0
 ·simp only [X' hv];omega
 ·simp only [T' hv];omega
theorem Ib (lo hi:Option Int)(n:Nat):Builtin.Slice.sliceAdjust lo hi 1 (n:Int)=(((ip n 0 lo:Nat):Int),((ip n n hi:Nat):Int)):=by
 have h1:¬((1:Int)<0):=by omega
 unfold Builtin.Slice.sliceAdjust;simp only [h1,if_false];refine Prod.ext ?_ ?_
 ·cases lo with
  |none=>rfl
  |some v=>exact JI v n 0
 ·cases hi with
  |none=>rfl
  |some v=>exact JI v n n
theorem Ic (i j:Nat):Builtin.Slice.slicePlaces (i:Int) (j:Int) 1=j-i:=by
 unfold Builtin.Slice.slicePlaces;have h1:(1:Int) > 0:=by omega
 simp only [h1,if_true,Int.ediv_one];split <;> omega
theorem zL {v:Value}{o:Option Int}{Q:Option Int->Shared->Prop}(p:IsPart v o)(h:Q o s):wpAny (model prog w) A (Builtin.Slice.slicePartIndex v) Q E s:=by
 cases p with
 |none=>exact slicePart_none h
 |int i t=>exact slicePart_int h
theorem wj {sl:Addr}{vl vu:Value}{lo hi:Option Int}{n:Nat}{Q:Int×Int×Nat->Shared->Prop}(hs:s.heap.IsSliceOf sl vl vu .none)(pl:IsPart vl lo)(pu:IsPart vu hi)
  (h:Q (((ip n 0 lo:Nat):Int),1,ip n n hi-ip n 0 lo) s):wpAny (model prog w) A (Builtin.Slice.sliceApplied (.ref sl) (pure (n:Int))) Q E s:=by
 obtain⟨os,hos,hcs,hds⟩:=id hs;unfold Builtin.Slice.sliceApplied Builtin.Slice.sliceFields;refine C' (C' (wpAny_field hos hds (x:=vl) rfl (C' (wpAny_field hos hds (x:=vu) rfl (C' (wpAny_field hos hds (x:=.none) rfl (U' ?_)))))));refine C' (slicePart_none ?_);show wpAny _ _ (if((1:Int)==0)=true then _ else _) _ _ s;rw[T' (by decide)];refine C' (zL pl (C' (zL pu (C' (U' ?_)))));show wpAny _ _ (match Builtin.Slice.sliceAdjust lo hi 1 (n:Int) with|(lo,hi)=>pure (lo,(1:Int),Builtin.Slice.slicePlaces lo hi 1)) _ _ s;rw[Ib lo hi n];show wpAny _ _ (pure (((ip n 0 lo:Nat):Int),(1:Int),Builtin.Slice.slicePlaces ((ip n 0 lo:Nat):Int) ((ip n n hi:Nat):Int) 1)) _ _ s;rw[Ic];exact U' h
theorem MA (xs:Array Value)(i k:Nat):((List.range k).filterMap fun(m:Nat)=>xs[((i:Int)+(m:Int) * 1).toNat]?).toArray=((xs.toList.drop i).take k).toArray:=by
 have e:(fun(m:Nat)=>xs[((i:Int)+(m:Int) * 1).toNat]?)=fun m=>xs[i+m]?:=by
  funext m
  have:((i:Int)+(m:Int) * 1).toNat=i+m:=by omega
  rw[this]
 rw[e];have:=pick_run xs i k;rw[List.filterMap_map]at this;have e2:((fun x=>xs[x]?) ∘ fun x=>i+x)=fun m=>xs[i+m]?:=rfl;rw[e2]at this;rw[this]
theorem tN {t sl:Addr}{items:Array Value}{vl vu:Value}{lo hi:Option Int}{Q:Value->Shared->Prop}(ht:IsTup s.heap t items)(hs:s.heap.IsSliceOf sl vl vu .none)(pl:IsPart vl lo)(pu:IsPart vu hi)
  (hw:¬(ip items.size 0 lo=0/\ip items.size items.size hi=items.size))
  (h:Q (.ref s.heap.objs.size) { s with heap:=s.heap.push { cls:=.type "tuple",data:=.seq ((items.toList.drop (ip items.size 0 lo)).take (ip items.size items.size hi-ip items.size 0 lo)).toArray } })
  (hsz:items.size<=sizeLine):wpAny (model prog w) A (getItem (.ref t) (.ref sl)) Q E s:=by
 have JJ:sizeOk (.seq ((items.toList.drop (ip items.size 0 lo)).take (ip items.size items.size hi-ip items.size 0 lo)).toArray):=by
  show((items.toList.drop (ip items.size 0 lo)).take (ip items.size items.size hi-ip items.size 0 lo)).toArray.size<=sizeLine;rw[Ze',Zo',Yd',Array.length_toList];omega
 have hj:ip items.size items.size hi<=items.size:=Rg _ _ (R' _) hi;obtain⟨os,hos,hcs,hds⟩:=id hs;have hTs:s.TypeIs (.ref sl) "slice":=⟨os,hos,hcs⟩;unfold getItem
 try with_reducible refine wpAny_holding ?_
 first|refine C' (U' ?_)|skip
 refine C' (wpAny_sequenceKey ht.typeIs (by decide) ?_);refine C' (wpAny_callSpecial?_slot (name:=Str.ofString "__getitem__") ht.typeIs PyProof.Rows.slot_tuple_getitem
  (wpAny_call_entry PyProof.Rows.slot_tuple_getitem ht.typeIs entry_tuple_getitem ?_ (args_tuple_getitem _ _)))
 show wpAny _ _ (Builtin.Tuple.tupleItemsOf (.ref t) >>= _) _ _ s;refine C' (tupleItemsOf_ ht ?_);refine C' (wpAny_typeOf hTs ?_);rw[X' (by decide)];refine C' (wj hs pl pu ?_);have hno:¬((((ip items.size 0 lo:Nat):Int)==0&&(1:Int)==1&&(ip items.size items.size hi-ip items.size 0 lo)==items.size)=true):=by
  intro q;rw[Bool.and_eq_true,Bool.and_eq_true]at q;have q1:((ip items.size 0 lo:Nat):Int)=0:=eq_of_beq q.1.1;have q2:ip items.size items.size hi-ip items.size 0 lo=items.size:=eq_of_beq q.2;exact hw ⟨by omega,by omega⟩
 show wpAny _ _ (if(((ip items.size 0 lo:Nat):Int)==0&&(1:Int)==1&&(ip items.size items.size hi-ip items.size 0 lo)==items.size)=true then _ else _) _ _ s;rw[T' hno,MA]
 first
  |exact C' (m:=Builtin.Tuple.tupleExact _) (wpAny_newObj_type (U' ⟨_,rfl,U' h⟩) JJ)
  |exact C' (m:=Builtin.Tuple.tupleExact _) (wpAny_newObj_type (C' (U' (U' ⟨_,rfl,U' h⟩))) JJ)
  |exact C' (C' (m:=Builtin.Tuple.tupleExact _) (wpAny_newObj_type (U' (U' ⟨_,rfl,U' h⟩)) JJ))
  |exact C' (C' (m:=Builtin.Tuple.tupleExact _) (wpAny_newObj_type (U' ⟨_,rfl,U' h⟩) JJ))
end
end HT
namespace L2
open PySem PySem.Spec PyProof.Rows
abbrev TO:=St->Hp->(Option Int->Hp->Prop)->Prop
def PO (X:Cx)(e:Option Expr)(t:TO):Prop :=
 ∀(pins:List (Addr×Obj)) (s:Shared) (σ:St) (H:Hp) (Q:Option Int->Hp->Prop),Inv X pins σ H s->t σ H Q ->
  wpAny (model X.prog X.w) X.A (evalPart e X.env) (fun u s'=>∃ o H',Inv X pins σ H' s'/\IsPart u o/\Q o H') X.xe s
def O1:TO:=fun _ H Q=>Q none H
inductive MB (Q:(Option Int->Hp->Prop))(x:V)(H1:Hp):Prop
 |mk (i:_) (cT:x=.int i) (cU:Q (some i) H1):MB Q x H1
def T7 (t:TE):TO:=fun σ H Q=>t σ H fun x H1=>MB Q x H1
section
variable {X:Cx} {e:Expr} {te:TE} {lo hi:Option Expr} {tl th:TO} {pos p2:Pos}
theorem eX:PO X none O1:=by
 intro pins s σ H Q I h;rw[evalPart_none];exact U' ⟨none,H,I,.none,h⟩
theorem dA (h:PE X e te):PO X (some e) (T7 te):=by
 intro pins s σ H Q I hw;rw[evalPart_some];refine cu (h pins s σ H _ I hw) fun u s1 fS=>?_;obtain⟨x,H1,I1,r1,q1⟩:=fS;obtain⟨i,rfl,q⟩:=q1;obtain⟨t,rfl⟩:=r1;exact⟨some i,H1,I1,.int i t,q⟩
def Qp (X:Cx)(r:V->Option Int->Option Int->Hp->VK->Prop):Prop :=
 ∀(pins:List (Addr×Obj)) (s:Shared) (σ:St) (H:Hp) (x:V) (v vl vu:Value) (lo hi:Option Int) (sl:Addr) (Q:VK),Inv X pins σ H s->RelV x v->s.heap.IsSliceOf sl vl vu .none->IsPart vl lo->IsPart vu hi->r x lo hi H Q ->
  ∃ T id,typeLookup (.type T) "__getitem__"=pure (some (.builtin id))/\s.TypeIs v T/\wpAny (model X.prog X.w) X.A (getItem v (.ref sl)) (EP X pins σ Q) X.xe s
theorem Qp.or {r r':V->Option Int->Option Int->Hp->VK->Prop}(h:Qp X r)(h':Qp X r'):Qp X (fun x lo hi H Q=>r x lo hi H Q\/r' x lo hi H Q):=by
 intro pins s σ H x v vl vu lo hi sl Q I rx hs pl pu q;rcases q with q|q
 ·exact h pins s σ H x v vl vu lo hi sl Q I rx hs pl pu q
 ·exact h' pins s σ H x v vl vu lo hi sl Q I rx hs pl pu q
def ZF (r:V->Option Int->Option Int->Hp->VK->Prop)(te:TE)(tl th:TO):TE:=fun σ H Q=>te σ H fun x H1=>tl σ H1 fun l H2=>th σ H2 fun u H3=>r x l u H3 Q
theorem dM {r:V->Option Int->Option Int->Hp->VK->Prop}(hr:Qp X r)(he:PE X e te)(hl:PO X lo tl)(hu:PO X hi th):PE X (.Subscript e (.Slice lo hi none p2) pos) (ZF r te tl th):=by
 intro pins s σ H Q I h;refine Subscript_ (cu (he pins s σ H _ I h) fun v s1 fS=>?_);obtain⟨x,H1,I1,r1,q1⟩:=fS;refine wpAny_Slice (cu (hl pins s1 σ H1 _ I1 q1) fun vl s2 ⟨l,H2,I2,pl,q2⟩=>cu (hu pins s2 σ H2 _ I2 q2) fun vu s3 ⟨u,H3,I3,pu,q3⟩=>?_);rw[evalPart_none];refine U' ?_;have I4:Inv X pins σ H3 { s3 with heap:=s3.heap.push { cls:=.type "slice",data:=.fields #[vl,vu,.none] } }:=I3.kept (t':=s3.toks) fun b ob q=>P' _ q;obtain⟨T,id,hT,ht,hg⟩:=hr pins { s3 with heap:=s3.heap.push { cls:=.type "slice",data:=.fields #[vl,vu,.none] } } σ H3 x v vl vu l u s3.heap.objs.size Q I4 r1 (Heap.IsSliceOf.new ..) pl pu q3;show wpAny (model X.prog X.w) X.A (subscriptTail e (.Slice lo hi none p2) v (.ref s3.heap.objs.size)) (EP X pins σ Q) X.xe { s3 with heap:=s3.heap.push { cls:=.type "slice",data:=.fields #[vl,vu,.none] } };exact tail_any (ops:=[.ref s3.heap.objs.size,v]) ht hT hg (by with_unfolding_all rfl)
noncomputable def j7 (xs:List V)(lo hi:Option Int):List V:=(xs.drop (HT.ip xs.length 0 lo)).take (HT.ip xs.length xs.length hi-HT.ip xs.length 0 lo)
theorem xt (xs:List V)(lo hi:Option Int):(j7 xs lo hi).length<=xs.length:=by
 unfold j7;rw[Zo',Yd'];omega
inductive Qq (K:Frag)(x:V)(lo:Option Int)(hi:Option Int)(H:Hp)(Q:VK):Prop
 |mk (a:_) (xs:_) (cT:x=.ref a) (cU:jf K H a xs) (dH:¬(HT.ip xs.length 0 lo=0/\HT.ip xs.length xs.length hi=xs.length)) (fL:∀ p,H p=none->Q (.ref p) (upd H p (.tup (j7 xs lo hi)))):Qq K x lo hi H Q
def WM (K:Frag):V->Option Int->Option Int->Hp->VK->Prop:=fun x lo hi H Q=>Qq K x lo hi H Q
theorem gY:Qp X (WM X.K):=by
 intro pins s σ H x v vl vu lo hi sl Q I rx hs pl pu h;obtain⟨a,xs,rfl,hx,hw,q⟩:=h;cases rx;obtain⟨its,r,ht,hz⟩:=I.tuple hx;have hlen:its.toArray.size=xs.length:=by rw[Ze'];exact r.length.symm
 refine⟨"tuple",_,PyProof.Rows.slot_tuple_getitem.lookup,ht.typeIs,?_⟩;refine HT.tN ht hs pl pu (by rw[hlen];exact hw) ?_ (by rw[hlen];exact hz);rw[hlen];refine⟨.ref s.heap.objs.size,_,I.laid (t':=s.toks) (o:=.tup (j7 xs lo hi)) (fun b ob q=>P' _ q) (R' _) ?_,rfl,q _ (I.hok.fresh (R' _))⟩;exact⟨Zb' (xt xs lo hi) hz,_,(r.drop (HT.ip xs.length 0 lo)).take (HT.ip xs.length xs.length hi-HT.ip xs.length 0 lo),IsTup.new _ _⟩
end
end L2
namespace L2
open PySem PySem.Spec PyProof.Rows
noncomputable def La (n:Nat)(i:Int):Option Nat:=if 0<=i then(if i<n then some i.toNat else none) else if -(n:Int)<=i then some (i+n).toNat else none
def Mj {α:Type}(xs:List α)(i:Int):Option α:=(La xs.length i).bind fun j=>xs[j]?
theorem JK {n:Nat}{i:Int}{j:Nat}(h:La n i=some j):seqIndex? i n=some j/\j<n/\-(n:Int)<=i/\i<n:=by
 unfold La at h
 by_cases h0:0<=i
 ·rw[X' h0]at h
  by_cases h1:i<n
  ·rw[X' h1]at h;have e:i.toNat=j:=Z' h;exact⟨by rw[seqIndex_of h0 h1,e],by omega,by omega,h1⟩
  ·rw[T' h1]at h;cases h
 ·rw[T' h0]at h
  by_cases h1:-(n:Int)<=i
  ·rw[X' h1]at h;have e:(i+n).toNat=j:=Z' h;exact⟨by rw[seqIndex_neg (by omega) h1,e],by omega,h1,by omega⟩
  ·rw[T' h1]at h;cases h
theorem Ef {α:Type}{xs:List α}{i:Int}{v:α}(h:Mj xs i=some v):∃ j,seqIndex? i xs.length=some j/\xs[j]? = some v/\j<xs.length/\-(xs.length:Int)<=i/\i<xs.length:=by
 unfold Mj at h;cases e:La xs.length i with
 |none=>rw[e]at h;cases h
 |some j =>
  rw[e]at h;obtain⟨h1,h2,h3,h4⟩:=JK e;exact⟨j,h1,h,h2,h3,h4⟩
theorem qM {α:Type}{xs:List α}{j:Nat}{v:α}(h:xs[j]? = some v):Mj xs (j:Int)=some v:=by
 have hj:j<xs.length:=(K'.mp h).1;have e:La xs.length (j:Int)=some j:=by
  unfold La;rw[X' (by omega),X' (by omega)];simp
 unfold Mj;rw[e];exact h
theorem FH {α:Type}(xs:List α)(v:α):Mj (xs++[v]) (-1)=some v:=by
 have hl:(xs++[v]).length=xs.length+1:=by simp
 have e:La (xs++[v]).length (-1)=some xs.length:=by
  unfold La;rw[hl,T' (by decide),X' (by omega)]
  congr 1
  omega
 unfold Mj;rw[e];show(xs++[v])[xs.length]? = some v;simp
def O2 (b:Expr):Prop:=∀ o i,subscripted b false o i=operate [o,i] (getItem o i)
def MC (X:Cx)(r:R2):Prop :=
 ∀(value slice:Expr)(pins:List (Addr×Obj)) (s:Shared) (σ:St) (H:Hp) (x y:V) (v u:Value) (Q:VK),Inv X pins σ H s->RelV x v->RelV y u->r x y H Q ->
  subscripted slice false v u=operate [v,u] (getItem v u)->wpAny (model X.prog X.w) X.A (subscriptTail value slice v u) (EP X pins σ Q) X.xe s
def Yu (X:Cx)(id:String)(r:V->List V->Hp->VK->Prop):Prop :=
 ∀(pins:List (Addr×Obj)) (s:Shared) (σ:St) (H:Hp) (x:V) (xs:List V) (v:Value) (us:List Value) (Q:VK),Inv X pins σ H s->RelV x v->Vals xs us->r x xs H Q ->
  wpAny (model X.prog X.w) X.A (call (.builtin id) (v::us)) (EP X pins σ Q) X.xe s
section
variable {X:Cx} {a b:Expr} {ta tb:TE} {pos:Pos}
theorem MC.or {r r':R2}(h:MC X r)(h':MC X r'):MC X (fun x y H Q=>r x y H Q\/r' x y H Q):=by
 intro value slice pins s σ H x y v u Q I rx ry q hs;rcases q with q|q
 ·exact h value slice pins s σ H x y v u Q I rx ry q hs
 ·exact h' value slice pins s σ H x y v u Q I rx ry q hs
theorem bx {r:R2}(hr:MC X r)(ha:PE X a ta)(hb:PE X b tb)(hs:O2 b):PE X (.Subscript a b pos) (TQ r ta tb):=by
 intro pins s σ H Q I h;exact Subscript_ (Ra ha hb I h fun v u s2 x y H2 I2 rx ry q=>hr a b pins s2 σ H2 x y v u Q I2 rx ry q (hs _ _))
inductive Qr (K:Frag)(x:V)(y:V)(H:Hp)(Q:VK):Prop
 |mk (p:_) (xs:_) (i:_) (v:_) (cT:x=.ref p) (cU:y=.int i) (dH:aM K H p xs) (fL:Mj xs i=some v) (jF:Q v H):Qr K x y H Q
def Eg (K:Frag):R2:=fun x y H Q=>Qr K x y H Q
inductive Qs (K:Frag)(x:V)(y:V)(H:Hp)(Q:VK):Prop
 |mk (p:_) (xs:_) (i:_) (v:_) (cT:x=.ref p) (cU:y=.int i) (dH:jf K H p xs) (fL:Mj xs i=some v) (jF:Q v H):Qs K x y H Q
def Eh (K:Frag):R2:=fun x y H Q=>Qs K x y H Q
inductive Qt (x:V)(y:V)(H:Hp)(Q:VK):Prop
 |mk (z:_) (i:_) (c:_) (cT:x=.str z) (cU:y=.int i) (dH:z.length<=sizeLine) (fL:Mj z.cps.toList i=some c) (jF:Q (.str ⟨#[c]⟩) H):Qt x y H Q
def Ei :R2:=fun x y H Q=>Qt x y H Q
theorem O3:MC X (Eg X.K):=by
 intro value slice pins s σ H x y v u Q I rx ry h hs;obtain⟨p,xs,i,z,rfl,rfl,hq,he,q⟩:=h;cases rx;obtain⟨t,rfl⟩:=ry;obtain⟨its,r,pl,hz⟩:=I.list hq;obtain⟨j,h1,h2,h3,h4,h5⟩:=Ef he;obtain⟨w,ew,FA⟩:=r.get h2;have hl:=r.length;have hn:=wd;have fin:EP X pins σ Q w s:=⟨z,H,I,FA,q⟩
 by_cases h0:0<=i
 ·have hj:i.toNat=j:=by
   rw[seqIndex_of h0 h5]at h1;exact Z' h1
  exact item_listR pl.isList h0 (by omega) (by rw[hj];simpa using ew) fin hs
 ·have hj:(i+(its.toArray.size:Int)).toNat=j:=by
   rw[seqIndex_neg (by omega) h4]at h1;rw[Ze',<-hl];exact Z' h1
  exact subscriptTail_builtinR (x:=w) pl.isList.typeIs slot_list_getitem.lookup
   (wpAny_getItem_list_neg (Q:=fun r s'=>r=w/\EP X pins σ Q r s') pl.isList (by omega) (by rw[Ze'] <;> omega) (by omega) (by rw[hj];simpa using ew) ⟨rfl,fin⟩) hs
theorem Rh:MC X (Eh X.K):=by
 intro value slice pins s σ H x y v u Q I rx ry h hs;obtain⟨p,xs,i,z,rfl,rfl,hq,he,q⟩:=h;cases rx;obtain⟨t,rfl⟩:=ry;obtain⟨its,r,pl,hz⟩:=I.tuple hq;obtain⟨j,h1,h2,h3,h4,h5⟩:=Ef he;obtain⟨w,ew,FA⟩:=r.get h2;have hl:=r.length;have hn:=wd;have fin:EP X pins σ Q w s:=⟨z,H,I,FA,q⟩;exact subscriptTail_builtinR (x:=w) pl.typeIs slot_tuple_getitem.lookup
  (getItem_tuple (j:=j) (Q:=fun r s'=>r=w/\EP X pins σ Q r s') pl (by omega) (by omega) (by rw[Ze',<-hl];exact h1) (by simpa using ew) ⟨rfl,fin⟩) hs
theorem Ri:MC X Ei:=by
 intro value slice pins s σ H x y v u Q I rx ry h hs;obtain⟨z,i,c,rfl,rfl,hz,he,q⟩:=h;obtain⟨t,rfl⟩:=rx;obtain⟨t',rfl⟩:=ry;obtain⟨j,h1,h2,h3,h4,h5⟩:=Ef he;have hl:z.cps.toList.length=z.length:=by simp[Str.length]
 rw[hl]at h1 h4 h5;have hn:=wd;exact tail_any (typeIs_str s z t) slot_str_getitem.lookup (getItem_str (c:=c) (by
  have e1:decide (i < -(2 ^ 63:Int))=false:=J' (by omega);have e2:decide (i ≥ 2 ^ 63)=false:=J' (by omega);rw[e1,e2,Bool.or_false]) (by rw[h1];simpa using h2) ⟨.str ⟨#[c]⟩,H,I.tok _,⟨_,rfl⟩,q⟩) hs
def WN (K:Frag):R2:=fun x y H Q=>Eg K x y H Q\/Eh K x y H Q\/Ei x y H Q
theorem aT:MC X (WN X.K):=O3.or (Rh.or Ri)
theorem Ie (its:List Value)(n j:Nat)(u:Value):Obj.mapSeq (·.setIfInBounds j u) { cls:=.type "list",data:=.seq its.toArray n } = { cls:=.type "list",data:=.seq (its.set j u).toArray n }:=by
 simp[Obj.mapSeq]
theorem Inv.lst {pins:List (Addr×Obj)}{σ:St}{H:Hp}{s:Shared}{p:Addr}{xs:List V}(I:Inv X pins σ H s)(h:H p=some (.lst xs)) :
  ∃(its:List Value)(n:Nat),Vals xs its/\s.heap.get? p=some { cls:=.type "list",data:=.seq its.toArray n }/\xs.length<=sizeLine:=by
 obtain⟨z,its,n,r,e⟩:=I.hok p _ h;exact⟨its,n,r,e,z⟩
theorem Inv.Rj {pins:List (Addr×Obj)}{σ:St}{H:Hp}{s:Shared}{p:Addr}{xs ys:List V}{its its':List Value}{n n':Nat}{f:Obj->Obj}(I:Inv X pins σ H s)(h:H p=some (.lst xs))
  (ho:s.heap.get? p=some { cls:=.type "list",data:=.seq its.toArray n }) (hf:f { cls:=.type "list",data:=.seq its.toArray n } = { cls:=.type "list",data:=.seq its'.toArray n' }) (r:Vals ys its') (hz:ys.length<=sizeLine) (t:Nat) :
  Inv X pins σ (upd H p (.lst ys)) { s with heap:=s.heap.update p f,toks:=t }:=by
 have e:(s.heap.update p f).get? p=some { cls:=.type "list",data:=.seq its'.toArray n' }:=by
  rw[Heap.get?_update_self f ho (by rw[hf] <;> rfl),hf]
 refine I.write (x:=p) (e:=p) (by rw[h];trivial) (.inl rfl) (fun b u hb q=>(Heap.get?_update_other _ _ (Zh' hb)).trans q) ⟨_,e⟩ ?_;exact⟨hz,its',n',r,e⟩
inductive MD (o:V)(i:V)(v:V)(H:Hp)(Q:(Hp->Prop)):Prop
 |mk (p:_) (xs:_) (k:_) (j:_) (cT:o=.ref p) (cU:i=.int k) (dH:H p=some (.lst xs)) (fL:La xs.length k=some j) (jF:Q (upd H p (.lst (xs.set j v)))):MD o i v H Q
def T8 :V->V->V->Hp->(Hp->Prop)->Prop:=fun o i v H Q=>MD o i v H Q
theorem set_list:TF X T8:=by
 intro pins s σ H o i v ov iv u Q I ro ri rv h;obtain⟨p,xs,k,j,rfl,rfl,hp,hj,q⟩:=h;cases ro;obtain⟨t,rfl⟩:=ri;obtain⟨its,n,r,ho,hz⟩:=I.lst hp;obtain⟨h1,h2,h3,h4⟩:=JK hj;have hl:=r.length;have hn:=wd;have I':Inv X pins σ (upd H p (.lst (xs.set j v))) { s with heap:=s.heap.update p (Obj.mapSeq (·.setIfInBounds j u)) } :=
  I.Rj hp ho (Ie its n j u) (r.set rv j) (by rw[List.length_set];exact hz) s.toks
 by_cases h0:0<=k
 ·have hk:k.toNat=j:=by
   rw[seqIndex_of h0 h4]at h1;exact Z' h1
  exact PySem.W.ki_setAt ho h0 (by omega) (by rw[Ze',<-hl];exact h4) (by rw[hk];exact⟨_,I',q⟩)
 ·have hk:(k+(its.toArray.size:Int)).toNat=j:=by
   rw[seqIndex_neg (by omega) h3]at h1;rw[Ze',<-hl];exact Z' h1
  exact PySem.W.ki_setBack ho (by omega) (by rw[Ze',<-hl];exact h3) (by omega) (by rw[hk];exact⟨_,I',q⟩)
theorem Ej (lo hi:Option Int)(n:Nat):(sliceBounds lo hi none n).1=((HT.ip n 0 lo:Nat):Int)/\(sliceBounds lo hi none n).2.1=((HT.ip n n hi:Nat):Int)/\(sliceBounds lo hi none n).2.2=1:=by
 refine⟨?_,?_,rfl⟩
 ·cases lo with
  |none=>simp[sliceBounds,HT.ip]
  |some i =>
   simp only [sliceBounds,HT.ip,Option.getD_none,show(1:Int) > 0 by decide,if_true]
   by_cases h:i<0
   ·simp only [h,if_true] <;> omega
   ·simp only [h,if_false] <;> omega
 ·cases hi with
  |none=>simp[sliceBounds,HT.ip]
  |some i =>
   simp only [sliceBounds,HT.ip,Option.getD_none,show(1:Int) > 0 by decide,if_true]
   by_cases h:i<0
   ·simp only [h,if_true] <;> omega
   ·simp only [h,if_false] <;> omega
theorem BN (its:List Value)(lo hi:Option Int):slicePick its.toArray lo hi none=((its.drop (HT.ip its.length 0 lo)).take (HT.ip its.length its.length hi-HT.ip its.length 0 lo)).toArray:=by
 obtain⟨h1,h2,h3⟩:=Ej lo hi its.toArray.size;unfold slicePick;rw[h1,h2,h3];simp only [sliceRange_one,pick_run,Ze'] <;> rfl
inductive Qu (K:Frag)(x:V)(lo:Option Int)(hi:Option Int)(H:Hp)(Q:VK):Prop
 |mk (a:_) (xs:_) (cT:x=.ref a) (cU:aM K H a xs) (dH:∀ p,H p=none->Q (.ref p) (upd H p (.lst (j7 xs lo hi)))):Qu K x lo hi H Q
def WO (K:Frag):V->Option Int->Option Int->Hp->VK->Prop:=fun x lo hi H Q=>Qu K x lo hi H Q
theorem eY:Qp X (WO X.K):=by
 intro pins s σ H x v vl vu lo hi sl Q I rx hs pl pu h;obtain⟨a,xs,rfl,hx,q⟩:=h;cases rx;obtain⟨its,r,ht,hz⟩:=I.list hx;have hlen:=r.length;refine⟨"list",_,slot_list_getitem.lookup,ht.isList.typeIs,?_⟩;refine wpAny_getItem_list_slice ht.isList hs pl pu .none (by simp) ?_ (by rw[Ze'] <;> omega);rw[BN,<-hlen];refine⟨.ref s.heap.objs.size,_,I.laid (t':=s.toks) (o:=.lst (j7 xs lo hi)) (fun b ob q=>P' _ q) (R' _) ?_,rfl,q _ (I.hok.fresh (R' _))⟩;exact⟨Zb' (xt xs lo hi) hz,_,0,(r.drop (HT.ip xs.length 0 lo)).take (HT.ip xs.length xs.length hi-HT.ip xs.length 0 lo),Zm' _ rfl⟩
noncomputable def rj:V->Bool
 |.non=>true
 |.bl _=>true
 |.int _=>true
 |.str _=>true
 |_=>false
noncomputable def JL:V->V->Bool
 |.non,.non=>true
 |.bl a,.bl b=>a==b
 |.bl a,.int b=>(if a then 1 else 0)==b
 |.int a,.bl b=>a==(if b then 1 else 0)
 |.int a,.int b=>a==b
 |.str a,.str b=>a==b
 |_,_=>false
theorem ME {A:Around}{s:Shared}{y x:V}{u v:Value}(ry:RelV y u)(rx:RelV x v)(fy:rj y=true)(fx:rj x=true):SeqAt.EqAt A s u v (JL y x):=by
 cases y with
 |non =>
  cases ry;cases x with
  |non=>cases rx;exact SeqAt.EqAt.same _
  |bl b=>cases rx;exact SeqAt.EqAt.none_bool b
  |int b=>obtain⟨t,rfl⟩:=rx;exact SeqAt.EqAt.none_int b t
  |str b=>obtain⟨t,rfl⟩:=rx;exact SeqAt.EqAt.none_str b t
  |_=>exact S' (show false=true from fx) j'
 |bl a =>
  cases ry;cases x with
  |non=>cases rx;exact SeqAt.EqAt.bool_none a
  |bl b=>cases rx;exact SeqAt.EqAt.bool_bool a b
  |int b=>obtain⟨t,rfl⟩:=rx;exact SeqAt.EqAt.bool_int a b t
  |str b=>obtain⟨t,rfl⟩:=rx;exact SeqAt.EqAt.bool_str a b t
  |_=>exact S' (show false=true from fx) j'
 |int a =>
  obtain⟨t',rfl⟩:=ry;cases x with
  |non=>cases rx;exact SeqAt.EqAt.int_none a t'
  |bl b=>cases rx;exact SeqAt.EqAt.int_bool a t' b
  |int b=>obtain⟨t,rfl⟩:=rx;exact SeqAt.EqAt.int_int a t' b t
  |str b=>obtain⟨t,rfl⟩:=rx;exact SeqAt.EqAt.int_str a t' b t
  |_=>exact S' (show false=true from fx) j'
 |str a =>
  obtain⟨t',rfl⟩:=ry;cases x with
  |non=>cases rx;exact SeqAt.EqAt.str_none a t'
  |bl b=>cases rx;exact SeqAt.EqAt.str_bool a t' b
  |int b=>obtain⟨t,rfl⟩:=rx;exact SeqAt.EqAt.str_int a t' b t
  |str b=>obtain⟨t,rfl⟩:=rx;exact SeqAt.EqAt.str_str a t' b t
  |_=>exact S' (show false=true from fx) j'
 |_=>exact S' (show false=true from fy) j'
noncomputable def Ig (x:V)(u:Value):Bool:=match u with
 |.none=>JL .non x
 |.bool b=>JL (.bl b) x
 |.int i _=>JL (.int i) x
 |.str z _=>JL (.str z) x
 |_=>false
theorem MF {x y:V}{u:Value}(r:RelV y u)(f:rj y=true):Ig x u=JL y x:=by
 cases y with
 |non=>cases r;rfl
 |bl b=>cases r;rfl
 |int i=>obtain⟨t,rfl⟩:=r;rfl
 |str z=>obtain⟨t,rfl⟩:=r;rfl
 |_=>exact S' (show false=true from f) j'
theorem tO {x:V}:∀{xs:List V} {us:List Value},Vals xs us->xs.all rj=true->us.any (Ig x)=xs.any fun y=>JL y x
 |_,_,.nil,_=>rfl
 |y::xs,u::us,.cons r t,f=>by
  rw[List.all_cons,Bool.and_eq_true]at f;rw[List.any_cons,List.any_cons,MF r f.1,tO t f.2]
theorem pN {A:Around}{s:Shared}{x:V}{v:Value}(rx:RelV x v)(fx:rj x=true):∀{xs:List V} {us:List Value},Vals xs us->xs.all rj=true->∀ u∈us,SeqAt.EqAt A s u v (Ig x u)
 |_,_,.nil,_=>fun u hu=>by cases hu
 |y::xs,u::us,.cons r t,f=>fun u' hu=>by
  rw[List.all_cons,Bool.and_eq_true]at f;rcases List.mem_cons.mp hu with rfl|hu
  ·rw[MF r f.1];exact ME r rx f.1 fx
  ·exact pN rx fx t f.2 u' hu
noncomputable def inV (x:V)(xs:List V):Bool:=xs.any fun y=>JL y x
inductive T9 (K:Frag)(neg:Bool)(x:V)(y:V)(H:Hp)(Q:VK):Prop
 |mk (p:_) (xs:_) (cT:y=.ref p) (cU:(aM K H p xs\/jf K H p xs)) (dH:rj x=true) (fL:xs.all rj=true) (jF:Q (.bl (if neg then !inV x xs else inV x xs)) H):T9 K neg x y H Q
def Yv (K:Frag)(neg:Bool):R2:=fun x y H Q=>T9 K neg x y H Q
theorem bO:mP X (compareOp .In) (Yv X.K false):=by
 intro pins s σ H x y v u Q I rx ry h;obtain⟨p,xs,rfl,hq,fx,fs,q⟩:=h;cases ry;rcases hq with hq|hq
 ·obtain⟨its,r,pl,hz⟩:=I.list hq;refine SeqAt.in_listAt (Ig x) pl.isList (fun w hw=>pN rx fx r fs w (by simpa using hw)) ⟨.bl _,H,I,rfl,?_⟩;rw[show its.toArray.any (Ig x)=its.any (Ig x) by simp,tO r fs];exact q
 ·obtain⟨its,r,pl,hz⟩:=I.tuple hq;refine SeqAt.in_tupleAt (Ig x) pl (fun w hw=>pN rx fx r fs w (by simpa using hw)) ⟨.bl _,H,I,rfl,?_⟩;rw[show its.toArray.any (Ig x)=its.any (Ig x) by simp,tO r fs];exact q
theorem gp:mP X (compareOp .NotIn) (Yv X.K true):=by
 intro pins s σ H x y v u Q I rx ry h;obtain⟨p,xs,rfl,hq,fx,fs,q⟩:=h;cases ry;rcases hq with hq|hq
 ·obtain⟨its,r,pl,hz⟩:=I.list hq;refine SeqAt.notIn_listAt (Ig x) pl.isList (fun w hw=>pN rx fx r fs w (by simpa using hw)) ⟨.bl _,H,I,rfl,?_⟩;rw[show its.toArray.any (Ig x)=its.any (Ig x) by simp,tO r fs];exact q
 ·obtain⟨its,r,pl,hz⟩:=I.tuple hq;refine SeqAt.notIn_tupleAt (Ig x) pl (fun w hw=>pN rx fx r fs w (by simpa using hw)) ⟨.bl _,H,I,rfl,?_⟩;rw[show its.toArray.any (Ig x)=its.any (Ig x) by simp,tO r fs];exact q
theorem gq:mP X (compareOp .NotIn) (fun x y H Q=>∃ i j,x=.str i/\y=.str j/\Q (.bl (!(!(Builtin.Str.occurrences j i 0 j.length 1).isEmpty))) H):=by
 intro pins s σ H x y v u Q I rx ry h;obtain⟨i,j,rfl,rfl,q⟩:=h;obtain⟨t,rfl⟩:=rx;obtain⟨t',rfl⟩:=ry;exact notIn_str ⟨.bl _,H,I,rfl,q⟩
theorem aB:ik X (.builtin "len") (fun xs H Q=>∃ p ys,xs=[.ref p]/\(aM X.K H p ys\/jf X.K H p ys)/\Q (.int ys.length) H):=by
 intro pins s σ H xs us Q I r h;obtain⟨p,ys,rfl,hq,q⟩:=h;obtain⟨u,rfl,rx⟩:=vals1 r;cases rx;have hn:=wd;rcases hq with hq|hq
 ·obtain⟨its,r',pl,hz⟩:=I.list hq;have hlen:=r'.length;exact Calls.call_len_list pl.isList (by simp only [Ze'] <;> omega) ⟨.int ys.length,H,I.tok _,⟨s.toks+1,by rw[Ze',hlen]⟩,q⟩
 ·obtain⟨its,r',pl,hz⟩:=I.tuple hq;have hlen:=r'.length;exact len_tuple pl (by simp only [Ze'] <;> omega) ⟨.int ys.length,H,I.tok _,⟨s.toks+1,by rw[Ze',hlen]⟩,q⟩
theorem aC:ik X (.builtin "len") (fun xs H Q=>∃ z,xs=[.str z]/\z.length<=sizeLine/\Q (.int z.length) H):=by
 intro pins s σ H xs us Q I r h;obtain⟨z,rfl,hz,q⟩:=h;obtain⟨u,rfl,t,rfl⟩:=vals1 r;have hn:=wd;exact len_str (by omega) ⟨.int z.length,H,I.tok _,⟨_,rfl⟩,q⟩
theorem ik.or {f:Value}{r r':List V->Hp->VK->Prop}(h:ik X f r)(h':ik X f r'):ik X f (fun xs H Q=>r xs H Q\/r' xs H Q):=by
 intro pins s σ H xs us Q I rs q;rcases q with q|q
 ·exact h pins s σ H xs us Q I rs q
 ·exact h' pins s σ H xs us Q I rs q
theorem tP:ik X (.type "list") (fun xs H Q=>∃ p ys,xs=[.ref p]/\(aM X.K H p ys\/jf X.K H p ys)/\∀ l,H l=none->Q (.ref l) (upd H l (.lst ys))):=by
 intro pins s σ H xs us Q I r h;obtain⟨p,ys,rfl,hq,q⟩:=h;obtain⟨u,rfl,rx⟩:=vals1 r;cases rx;have fin:∀(its:List Value),Vals ys its->ys.length<=sizeLine->∀(h':Heap)(c':Nat),(∀ b o',s.heap.get? b=some o'->h'.get? b=some o') ->
   h'.get? s.heap.objs.size=some { cls:=.type "list",dict:=none,data:=.seq its.toArray c',slots:=#[] }->EP X pins σ Q (.ref s.heap.objs.size) { s with heap:=h' }:=fun its r' hz h' c' kp e =>
  ⟨.ref s.heap.objs.size,_,I.laid (t':=s.toks) kp (R' _) (show eC X.prog X.w _ h' _ (.lst ys) from⟨hz,its,c',r',e⟩),rfl,q _ (I.hok.fresh (R' _))⟩
 rcases hq with hq|hq
 ·obtain⟨its,r',pl,hz⟩:=I.list hq;have hlen:=r'.length;obtain⟨o,ho,hc,n,hd⟩:=pl.isList;exact call_list_seq p (.inl rfl) ho hc hd (fun h' c' kp e=>fin its r' hz h' c' kp e) (by simp only [Ze'] <;> omega)
 ·obtain⟨its,r',pl,hz⟩:=I.tuple hq;have hlen:=r'.length;obtain⟨o,ho,hc,n,hd⟩:=pl;exact call_list_seq p (.inr rfl) ho hc hd (fun h' c' kp e=>fin its r' hz h' c' kp e) (by simp only [Ze'] <;> omega)
def WQ (K:Frag)(T:String)(x:V)(H:Hp):Prop:=match x with
 |.str _=>T = "str"
 |.int _=>T = "int"
 |.ref p=>(T = "list"/\∃ xs,aM K H p xs)\/(T = "tuple"/\∃ o,K.lookup p=some o/\o.cls=.type "tuple"/\o.dict=none) \/
   (T = "dict"/\((∃ kvs,H p=some (.dK kvs))\/∃ kvs,H p=some (.dT kvs)))\/(T = "set"/\∃ S n,H p=some (.set S n))
 |_=>False
theorem MG {pins:List (Addr×Obj)}{σ:St}{H:Hp}{s:Shared}{T:String}{x:V}{v:Value}(I:Inv X pins σ H s)(r:RelV x v)(ty:WQ X.K T x H) :
  s.TypeIs v T/\∀ a,v=.ref a->∃ ob,s.heap.get? a=some ob/\ob.dict=none:=by
 cases x with
 |str z =>
  obtain⟨t,rfl⟩:=r;cases (show T = "str" from ty);exact⟨typeIs_str s z t,fun _ e=>nomatch e⟩
 |int i =>
  obtain⟨t,rfl⟩:=r;cases (show T = "int" from ty);exact⟨typeIs_int s i t,fun _ e=>nomatch e⟩
 |ref p =>
  cases r;rcases ty with ⟨rfl,xs,hq⟩|⟨rfl,o,hk,hc,hd⟩|⟨rfl,hk⟩|⟨rfl,S,n,hk⟩
  ·obtain⟨its,_,pl,_⟩:=I.list hq;refine⟨pl.isList.typeIs,fun a e=>?_⟩;cases e;obtain⟨o,n,e,c,hd,_⟩:=pl;exact⟨o,e,hd⟩
  ·refine⟨⟨o,I.pE p o hk,hc⟩,fun a e=>?_⟩;cases e;exact⟨o,I.pE _ o hk,hd⟩
  ·have z:∃ o,s.heap.get? p=some o/\o.ExactDict:=by
    rcases hk with ⟨kvs,hk⟩|⟨kvs,hk⟩
    ·obtain⟨_,_,_,_,o,_,_,e,ex,_⟩:=I.hok p _ hk;exact⟨o,e,ex⟩
    ·obtain⟨_,_,_,_,o,_,_,e,ex,_⟩:=I.hok p _ hk;exact⟨o,e,ex⟩
   obtain⟨o,e,ex⟩:=z;refine⟨⟨o,e,ex.1⟩,fun a e2=>?_⟩;cases e2;exact⟨o,e,ex.2.1⟩
  ·obtain⟨o,_,_,_,e,ex,_⟩:=I.hok p _ hk;refine⟨⟨o,e,ex.1⟩,fun a e2=>?_⟩;cases e2;exact⟨o,e,ex.2.1⟩
 |_=>exact False.elim ty
def WR (K:Frag)(T:String)(r:V->List V->Hp->VK->Prop)(to:TE):TE:=fun σ H Q=>to σ H fun x H1=>WQ K T x H1/\r x [] H1 Q
def ZG (K:Frag)(T:String)(r:V->List V->Hp->VK->Prop)(to:TE)(t:TA):TE:=fun σ H Q=>to σ H fun x H1=>WQ K T x H1/\t σ H1 fun xs H2=>r x xs H2 Q
variable {o e:Expr} {es:List Expr} {to:TE} {t:TA} {name:Str} {apos cpos:Pos} {T id:String} {r:V->List V->Hp->VK->Prop}
theorem wk (pa:PlainAttrs T)(slot:Slot T name id)(hty:typeOf (.builtin id)=pure (.type "method_descriptor"))(hm:Yu X id r)(ho:PE X o to)
  (hbase:attributeBase o name X.env (eval o X.env)=eval o X.env:=by rfl) (hline:(apos.endLine==cpos.line)=true:=by rfl):PE X (.Call (.Attribute o name apos) [] [] cpos) (WR X.K T r to):=by
 intro pins s σ H Q I h;refine wpAny_Call_method0_late hbase hline (cu (ho pins s σ H _ I h) fun v s1 fS=>?_);obtain⟨x,H1,I1,r1,ty,q1⟩:=fS;obtain⟨h1,h2⟩:=MG I1 r1 ty;exact⟨T,id,pa,slot,hty,h1,h2,Calls.callWith_builtin rfl (PySem.evalArgs_none (hm pins s1 σ H1 x [] v [] Q I1 r1 .nil q1))⟩
theorem eE (pa:PlainAttrs T)(slot:Slot T name id)(hty:typeOf (.builtin id)=pure (.type "method_descriptor"))(hm:Yu X id r)(ho:PE X o to)(ha:PA X (e::es) t)
  (hbase:attributeBase o name X.env (eval o X.env)=eval o X.env:=by rfl)
  (hfew:((backTo cpos (starEach (e::es) X.env)).all (fun x=>!x.1)&&(backToKw cpos (keywordEach [] X.env)).all (fun x=>x.1.isSome)
   && decide ((e::es).length+([]:List Keyword).length+(if([]:List Keyword).isEmpty then 0 else 1)<30))=true:=by rfl)
  (hline:(apos.endLine==cpos.line)=true:=by rfl) (hs:starEach (e::es) X.env=(false,eval e X.env)::starEach es X.env:=by rfl) (hplain:(backTo cpos (starEach es X.env)).any (·.1)=false:=by rfl) :
  PE X (.Call (.Attribute o name apos) (e::es) [] cpos) (ZG X.K T r to t):=by
 intro pins s σ H Q I h;refine wpAny_Call_method_late hbase hfew hline rfl (cu (ho pins s σ H _ I h) fun v s1 fS=>?_);obtain⟨x,H1,I1,r1,ty,q1⟩:=fS;obtain⟨h1,h2⟩:=MG I1 r1 ty;refine⟨T,id,pa,slot,hty,h1,h2,?_⟩;have hA:=ha cpos pins s1 σ H1 _ I1 q1;rw[hs]at hA ⊢;refine Calls.callWith_builtin (by show(false||(backTo cpos (starEach es X.env)).any (·.1))=false;rw[hplain] <;> rfl) (Calls.evalArgs_plain ?_);exact cu hA fun us s2 ⟨vs,H2,I2,r2,q2⟩=>hm pins s2 σ H2 x vs v us Q I2 r1 r2 q2
end
end L2
namespace L2
open PySem PySem.Spec PyProof.Rows
def Rl (X:Cx)(id:String)(r:V->List V->Hp->VK->Prop):Prop :=
 ∀(pins:List (Addr×Obj)) (s:Shared) (σ:St) (H:Hp) (x:V) (xs:List V) (v:Value) (us:List Value) (Q:VK),Inv X pins σ H s->RelV x v->Vals xs us->r x xs H Q ->
  wpAny (model X.prog X.w) X.A (call (.builtin id) (v::us)) (EP X pins σ Q) X.xe s
theorem Vals.one {x:V}{us:List Value}(r:Vals [x] us):∃ u,us=[u]/\RelV x u:=vals1 r
theorem Vals.two {x y:V}{us:List Value}(r:Vals [x,y] us):∃ u v,us=[u,v]/\RelV x u/\RelV y v:=vals2 r
theorem Vals.zero:∀{us:List Value},Vals [] us->us=[]
 |_,.nil=>rfl
theorem Vals.dropLast {xs:List V}{us:List Value}(h:Vals xs us):Vals xs.dropLast us.dropLast:=by
 induction h with
 |nil=>exact .nil
 |cons r t ih =>
  cases t with
  |nil=>exact .nil
  |cons q t'=>exact .cons r ih
theorem Vals.reverse {xs:List V}{us:List Value}(h:Vals xs us):Vals xs.reverse us.reverse:=by
 induction h with
 |nil=>exact .nil
 |cons r t ih=>rw[List.reverse_cons,List.reverse_cons];exact Vals.append ih (.cons r .nil)
theorem Vals.rep {xs:List V}{us:List Value}(h:Vals xs us):∀ k:Nat,Vals (List.replicate k xs).flatten (List.replicate k us).flatten
 |0=>.nil
 |k+1=>by
  rw[List.replicate_succ,List.replicate_succ,List.flatten_cons,List.flatten_cons];exact Vals.append h (Vals.rep h k)
theorem Ih {α:Type}(l:List α):l.eraseIdx (l.length-1)=l.dropLast:=by
 induction l with
 |nil=>rfl
 |cons a r ih =>
  cases r with
  |nil=>rfl
  |cons b r =>
   have e:(a::b::r).length-1=((b::r).length-1)+1:=by
    have h1:(a::b::r).length=r.length+2:=rfl;have h2:(b::r).length=r.length+1:=rfl;omega
   rw[e,List.eraseIdx_cons_succ,ih]
   all_goals rfl
theorem foldl_rep (its:List Value):∀(k:Nat)(acc:List Value),
  List.foldl (fun x1 x2=>x1++x2) acc.toArray (List.replicate k its.toArray)=(acc++(List.replicate k its).flatten).toArray
 |0,acc=>by simp
 |k+1,acc=>by
  have e:acc.toArray++its.toArray=(acc++its).toArray:=by simp
  have e2:(acc++its)++(List.replicate k its).flatten=acc++(List.replicate (k+1) its).flatten:=by
   rw[List.replicate_succ,List.flatten_cons,List.append_assoc]
  rw[<-e2,<-foldl_rep its k (acc++its),<-e,List.replicate_succ,List.foldl_cons]
section
variable {X:Cx} {pins:List (Addr×Obj)} {σ:St} {H:Hp} {s:Shared} {l b:Addr} {xs ys zs:List V}
theorem Inv.MH {its its':List Value}{n:Nat}{f:Array Value->Array Value}{t':Nat}(I:Inv X pins σ H s)(hH:H l=some (.lst xs))
  (e:s.heap.get? l=some { cls:=.type "list",data:=.seq its.toArray n }) (hf:f its.toArray=its'.toArray) (hv:Vals ys its') (hz:ys.length<=sizeLine) :
  Inv X pins σ (upd H l (.lst ys)) { s with heap:=s.heap.update l (Obj.mapSeq f),toks:=t' }:=by
 have q:=PySem.IsL.update e f;rw[hf]at q;refine I.write (x:=l) (e:=l) (by rw[hH];exact trivial) (.inl rfl) (fun b' u hb hu=>(Heap.get?_update_other s.heap (Obj.mapSeq f) (Zh' hb)).trans hu) ⟨_,q⟩ ?_;exact⟨hz,its',_,hv,q⟩
theorem Inv.Rm {its:List Value}{t':Nat}(I:Inv X pins σ H s)(hv:Vals ys its)(hz:ys.length<=sizeLine) :
  Inv X pins σ (upd H s.heap.objs.size (.lst ys)) { s with heap:=s.heap.push { cls:=.type "list",data:=.seq its.toArray },toks:=t' } :=
 I.laid (fun _ _ q=>P' _ q) (R' _) ⟨hz,its,0,hv,Zm' _ rfl⟩
theorem Inv.fresh (I:Inv X pins σ H s):H s.heap.objs.size=none:=I.hok.fresh (R' _)
theorem Inv.BO (I:Inv X pins σ H s)(hH:H l=some (.lst xs)):xs.length<=sizeLine/\∃(its:List Value)(n:Nat),Vals xs its/\xs.length=its.length/\s.heap.get? l=some { cls:=.type "list",data:=.seq its.toArray n }:=by
 obtain⟨z,its,n,r,e⟩:=I.hok l _ hH;exact⟨z,its,n,r,r.length,e⟩
theorem zM {n:Nat}(h:n<=sizeLine):Builtin.List.listTooLong n=false:=by
 unfold Builtin.List.listTooLong;exact J' (by omega)
end
section
variable {X:Cx}
inductive FI (x:V)(vs:List V)(H:Hp)(Q:VK):Prop
 |mk (l:_) (xs:_) (y:_) (cT:x=.ref l) (cU:vs=[y]) (dH:H l=some (.lst xs)) (fL:xs.length<sizeLine) (jF:Q .non (upd H l (.lst (xs++[y])))):FI x vs H Q
def O4 :V->List V->Hp->VK->Prop:=fun x vs H Q=>FI x vs H Q
theorem bK:Rl X "list.append" O4:=by
 intro pins s σ H x vs v us Q I rx rv h;obtain⟨l,xs,y,rfl,rfl,hH,hz,q⟩:=h;cases rx;obtain⟨u,rfl,ru⟩:=rv.one;obtain⟨z,its,n,r,hl,e⟩:=I.BO hH;refine call_meets F.slot_list_append ⟨_,e,rfl⟩ F.entry_list_append (F.args_list_append_2 _ _) (PySem.list_append l its.toArray n u (by rw[Ze'];omega)) ⟨e,?_⟩;refine⟨.non,_,I.MH (its':=its++[u]) hH e (by simp) (r.append (.cons ru .nil)) ?_,rfl,q⟩;rw[V',length_singleton];omega
inductive Qv (x:V)(vs:List V)(H:Hp)(Q:VK):Prop
 |mk (l:_) (xs:_) (y:_) (cT:x=.ref l) (cU:vs=[]) (dH:H l=some (.lst xs)) (fL:xs[xs.length-1]? = some y) (jF:Q y (upd H l (.lst xs.dropLast))):Qv x vs H Q
def WS :V->List V->Hp->VK->Prop:=fun x vs H Q=>Qv x vs H Q
theorem MI:Rl X "list.pop" WS:=by
 intro pins s σ H x vs v us Q I rx rv h;obtain⟨l,xs,y,rfl,rfl,hH,hy,q⟩:=h;cases rx;have hus:=rv.zero;subst hus;obtain⟨z,its,n,r,hl,e⟩:=I.BO hH;obtain⟨u,hu,ru⟩:=r.get hy;have hy':its.toArray[its.toArray.size-1]? = some u:=by
  show its.toArray[its.length-1]? = some u;rw[<-Array.getElem?_toList,<-hl];exact hu
 refine call_meets F.slot_list_pop ⟨_,e,rfl⟩ F.entry_list_pop (F.args_list_pop_1 _) (MeetsSeq.list_pop_last l its.toArray n u hy' (by rw[Ze'];omega)) ⟨e,?_⟩;refine⟨y,_,I.MH (its':=its.dropLast) hH e ?_ r.dropLast ?_,ru,q⟩
 ·show its.toArray.eraseIdxIfInBounds (its.toArray.size-1)=its.dropLast.toArray;rw[Ze',List.eraseIdxIfInBounds_toArray,Ih]
 ·rw[List.length_dropLast];omega
inductive Cv (x:V)(vs:List V)(H:Hp)(Q:VK):Prop
 |mk (l:_) (xs:_) (cT:x=.ref l) (cU:vs=[]) (dH:H l=some (.lst xs)) (fL:Q .non (upd H l (.lst xs.reverse))):Cv x vs H Q
def MJ :V->List V->Hp->VK->Prop:=fun x vs H Q=>Cv x vs H Q
theorem Ii:Rl X "list.reverse" MJ:=by
 intro pins s σ H x vs v us Q I rx rv h;obtain⟨l,xs,rfl,rfl,hH,q⟩:=h;cases rx;have hus:=rv.zero;subst hus;obtain⟨z,its,n,r,hl,e⟩:=I.BO hH;refine call_meets F.slot_list_reverse ⟨_,e,rfl⟩ F.entry_list_reverse (F.args_list_reverse_1 _) (AutoSeq1.list_reverse_list_0 l its.toArray n (by rw[Ze'];omega)) ⟨e,?_⟩;refine⟨.non,_,I.MH (its':=its.reverse) hH e (by simp) r.reverse ?_,rfl,q⟩;rw[length_reverse];omega
inductive JM (x:V)(vs:List V)(H:Hp)(Q:VK):Prop
 |mk (l:_) (xs:_) (cT:x=.ref l) (cU:vs=[]) (dH:H l=some (.lst xs)) (fL:Q .non (upd H l (.lst []))):JM x vs H Q
def Rn :V->List V->Hp->VK->Prop:=fun x vs H Q=>JM x vs H Q
theorem zN:Rl X "list.clear" Rn:=by
 intro pins s σ H x vs v us Q I rx rv h;obtain⟨l,xs,rfl,rfl,hH,q⟩:=h;cases rx;have hus:=rv.zero;subst hus;obtain⟨z,its,n,r,hl,e⟩:=I.BO hH;refine call_meets F.slot_list_clear ⟨_,e,rfl⟩ F.entry_list_clear (F.args_list_clear_1 _) (AutoSeq1.list_clear_list_0 l its.toArray n (by rw[Ze'];omega)) ⟨e,?_⟩;exact⟨.non,_,I.MH (its':=[]) (ys:=[]) hH e rfl .nil (Zq' _),rfl,q⟩
inductive Qw (x:V)(y:V)(H:Hp)(Q:VK):Prop
 |mk (l:_) (b:_) (xs:_) (zs:_) (cT:x=.ref l) (cU:y=.ref b) (dH:H l=some (.lst xs)) (fL:H b=some (.lst zs)) (jF:xs.length+zs.length<=sizeLine) (zB:∀ p,H p=none->Q (.ref p) (upd H p (.lst (xs++zs)))):Qw x y H Q
def WT :R2:=fun x y H Q=>Qw x y H Q
theorem bq:mP X (binaryOp .Add) WT:=by
 intro pins s σ H x y v u Q I rx ry h;obtain⟨l,b,xs,zs,rfl,rfl,hH,hB,hz,q⟩:=h;cases rx;cases ry;obtain⟨z,its,n,r,hl,e⟩:=I.BO hH;obtain⟨z2,its2,n2,r2,hl2,e2⟩:=I.BO hB;refine PySem.P.add_list e e2 ?_ (by rw[Ze',Ze'];omega);have ea:its.toArray++its2.toArray=(its++its2).toArray:=by simp
 rw[ea];exact⟨.ref _,_,I.Rm (t':=s.toks) (r.append r2) (by rw[V'];omega),rfl,q _ I.fresh⟩
def WU:R2:=fun x y H Q=>∃ l k xs,x=.ref l/\y=.int k/\H l=some (.lst xs)/\-(2 ^ 63)<=k/\k<2 ^ 63/\xs.length * k.toNat<=sizeLine /\
 ∀ p,H p=none->Q (.ref p) (upd H p (.lst (List.replicate k.toNat xs).flatten))
theorem len_rep {α:Type}(xs:List α)(k:Nat):(List.replicate k xs).flatten.length=k * xs.length:=by
 induction k with
 |zero=>simp
 |succ k ih=>rw[List.replicate_succ,List.flatten_cons,V',ih,Nat.succ_mul,Nat.add_comm]
theorem iX:mP X (binaryOp .Mult) WU:=by
 intro pins s σ H x y v u Q I rx ry h;obtain⟨l,k,xs,rfl,rfl,hH,h1,h2,hz,q⟩:=h;cases rx;obtain⟨t,rfl⟩:=ry;obtain⟨z,its,n,r,hl,e⟩:=I.BO hH;have hlen:its.toArray.size * k.toNat<=sizeLine:=by rw[Ze',<-hl];exact hz
 have WV:¬ its.toArray.size * k.toNat > (2 ^ 63-1) / 8:=by
  have:(sizeLine:Nat)<=(2 ^ 63-1) / 8:=by decide
  omega
 have hfit:¬(!Builtin.List.listFitsIndex k)=true:=by
  rw[fitsIndex_both h1 h2];exact j'
 have Ua:¬ Builtin.List.listTooLong (its.toArray.size * k.toNat)=true:=by
  rw[zM hlen];exact j'
 have hnew:List.foldl (fun x1 x2=>x1++x2) #[] (List.replicate (if its.toArray.isEmpty=true then 0 else k.toNat) its.toArray)=(List.replicate k.toNat its).flatten.toArray:=by
  have f0:∀ m:Nat,List.foldl (fun x1 x2=>x1++x2) #[] (List.replicate m its.toArray)=(List.replicate m its).flatten.toArray:=fun m=>by
   have:=foldl_rep its m [];rw[nil_append]at this;exact this
  rw[f0];cases its with
  |nil=>simp
  |cons a r'=>rw[T' (by simp)]
 refine wpAny_binaryOp_repeat_ref (T:="list") (U:="int") (by decide) ⟨_,e,rfl⟩ (fun s'=>typeIs_int s' k t) noFill_list_mul F.fills_int_mul F.slot_int_rmul repeat_list F.slot_int_index.lookup
  (call_meets F.slot_int_rmul (typeIs_int s k t) F.entry_int_rmul (F.args_int_rmul_2 _ _) (int___rmul___int_list k t l its.toArray n)
   ⟨e,rfl,⟨_,e,rfl⟩,call_meets F.slot_list_mul ⟨_,e,rfl⟩ F.entry_list_mul (F.args_list_mul_2 _ _) (AutoListH.list___mul___list_int_3 l its.toArray n k t hfit WV Ua) ⟨e,?_⟩⟩)
 rw[hnew];exact⟨.ref _,_,I.Rm (t':=s.toks) (r.rep k.toNat) (by rw[len_rep,Nat.mul_comm];exact hz),rfl,q _ I.fresh⟩
end
section
variable {prog:Program} {w:World} {A:Around} {E:Value->Shared->Prop} {s:Shared}
theorem Lb (its its2:List Value)(a c:Nat):its.toArray.extract 0 a++its2.toArray++its.toArray.extract c its.toArray.size=(its.take a++its2++its.drop c).toArray:=by
 apply Array.toList_inj.mp
 first
  |(simp;exact List.take_of_length_le (by simp))
  |simp[List.take_of_length_le]
  |simp
theorem Ij {a c n:Nat}(hac:a<=c)(hc:c<=n):sliceBounds (some (a:Int)) (some (c:Int)) none n=((a:Int),(c:Int),1):=by
 simp only [sliceBounds,Option.getD_none];have h1:¬((a:Int)<0):=by omega
 have h2:¬((c:Int)<0):=by omega
 simp only [h1,h2,if_false,show(1:Int) > 0 by decide,if_true]
 congr 1
 ·omega
 ·congr 1;omega
set_option maxRecDepth 100000 in
theorem BP {l b sl:Addr}{items new:Array Value}{n n2:Nat}{vl vu:Value}{a c:Nat}{Q:Unit->Shared->Prop}
  (e:s.heap.get? l=some { cls:=.type "list",data:=.seq items n }) (e2:s.heap.get? b=some { cls:=.type "list",data:=.seq new n2 }) (hne:l≠b)
  (hs:s.heap.IsSliceOf sl vl vu .none) (pl:IsPart vl (some (a:Int))) (pu:IsPart vu (some (c:Int))) (hac:a<=c) (hc:c<=items.size)
  (hsz:items.size+new.size<=sizeLine) (h:Q () { s with heap:=s.heap.update l (Obj.mapSeq fun xs=>xs.extract 0 a++new++xs.extract c xs.size) }) :
  wpAny (model prog w) A (setItem (.ref l) (.ref sl) (.ref b)) Q E s:=by
 have hl:s.heap.IsList l items:=PySem.IsL.isList e;have hb:s.heap.IsList b new:=PySem.IsL.isList e2;obtain⟨os,hos,hcs,hds⟩:=id hs;have hTs:s.TypeIs (.ref sl) "slice":=⟨os,hos,hcs⟩;have hstep:¬((rawPart none==rawInt 0)=true):=j';have hsame:Builtin.List.listSameRef (.ref l) (.ref b)=false:=by
  unfold Builtin.List.listSameRef;exact beq_eq_false_iff_ne.mpr hne
 have WW:(max (a:Int) (c:Int)).toNat=c:=by omega
 have hz':((fun xs:Array Value=>xs.extract 0 a++new++xs.extract c xs.size) items).size<=sizeLine+1:=by
  simp only [Array.size_append,Array.size_extract];omega
 unfold setItem
 try with_reducible refine wpAny_holding ?_
 first|refine C' (U' ?_)|skip
 refine C' (wpAny_sequenceKey hl.typeIs (by decide) ?_);refine C' (wpAny_callSpecial?_slot (name:=Str.ofString "__setitem__") hl.typeIs slot_list_setitem
  (wpAny_call_entry slot_list_setitem hl.typeIs entry_list_setitem ?_ (args_list_setitem _ _ _)))
 show wpAny _ _ (Builtin.List.listSubscript? (.ref sl) >>= _) _ _ s;refine C' ?_;unfold Builtin.List.listSubscript?;refine C' (wpAny_specialOf hTs slice_no_index ?_);simp only [Option.isNone_none,if_true];refine U' ?_;show wpAny _ _ (typeOf (.ref sl) >>= _) _ _ s;refine C' (wpAny_typeOf hTs ?_)
 first
  |rw[T' (by decide)]
  |refine PySem.W.KFB.if_not (by decide) ?_
 rw[listSliceParts_eq];refine C' (C' (wpAny_field hos hds (x:=.none) rfl (C' (wpAny_listPart .none ?_))));rw[T' hstep];refine C' (wpAny_field hos hds (x:=vl) rfl (C' (wpAny_listPart pl ?_)));refine C' (wpAny_field hos hds (x:=vu) rfl (C' (wpAny_listPart pu (U' ?_))))
 first
  |simp only [hsame,Bool.false_eq_true,if_false]
  |refine PySem.W.KFB.if_not hsame ?_
  |(dsimp only;rw[T' (by rw[hsame];exact j')])
 refine C' (m:=Builtin.List.listAllItems (.ref b) "must assign iterable to extended slice") ?_;unfold Builtin.List.listAllItems;refine C' (wpAny_typeOf hb.typeIs ?_)
 first
  |refine PySem.W.KFB.if_so (by decide) ?_
  |rw[X' (by decide)]
  |simp only [beq_self_eq_true,Bool.true_or,if_true]
 unfold Builtin.List.listItems;refine C' (wpAny_seqItems e2 rfl (U' ?_));refine C' (C' (wpAny_seqItems e rfl (U' ?_)));refine C' (wpAny_of_eq ((sliceIndices_raw (some (a:Int)) (some (c:Int)) none items.size (by simp)).trans (Zj' (pure:Int×Int×Int->Sem (Int×Int×Int)) (Ij hac hc))) ?_);show wpAny _ _ (if((1:Int)==1)=true then _ else _) _ _ s;rw[X' (by decide)];refine C' (wpAny_rule ?_)
 first
  |simp only [zM hsz,Bool.false_eq_true,if_false]
  |refine PySem.W.KFB.if_not (zM hsz) ?_
 first|refine C' (U' ?_)|skip
 show wpAny _ _ (updateSeq l (fun xs=>xs.extract 0 ((a:Int)).toNat++new++xs.extract (max (a:Int) (c:Int)).toNat xs.size) >>= _) _ _ s;rw[WW,Int.toNat_natCast];refine C' (wpAny_updateSeq (hz:=Zb' (Nat.le_add_right _ _) hsz) (_hz':=hz') e rfl ?_);refine C' (wpAny_letGo ?_)
 first
  |exact C' (U' (U' ⟨.none,rfl,U' h⟩))
  |exact U' ⟨.none,rfl,U' h⟩
end
section
variable {X:Cx}
theorem Lc {pins:List (Addr×Obj)}{s:Shared}{σ:St}{H:Hp}{l b sl:Addr}{xs ys:List V}{a c:Int}{vl vu:Value}{Q:Unit->Shared->Prop}(I:Inv X pins σ H s)
  (hH:H l=some (.lst xs)) (hB:H b=some (.lst ys)) (hne:l≠b) (hs:s.heap.IsSliceOf sl vl vu .none) (ra:RelV (.int a) vl) (rc:RelV (.int c) vu) (h0:0<=a) (hac:a<=c) (hc:c<=xs.length)
  (hz:xs.length+ys.length<=sizeLine) (h:∀ s',Inv X pins σ (upd H l (.lst (xs.take a.toNat++ys++xs.drop c.toNat))) s'->Q () s') :
  wpAny (model X.prog X.w) X.A (setItem (.ref l) (.ref sl) (.ref b)) Q X.xe s:=by
 obtain⟨ta,rfl⟩:=ra;obtain⟨tc,rfl⟩:=rc;obtain⟨z,its,n,r,hl,e⟩:=I.BO hH;obtain⟨z2,its2,n2,r2,hl2,e2⟩:=I.BO hB;obtain⟨a',rfl⟩:=Int.eq_ofNat_of_zero_le h0;obtain⟨c',rfl⟩:=Int.eq_ofNat_of_zero_le (Int.le_trans h0 hac);simp only [Int.toNat_natCast]at h;refine BP (a:=a') (c:=c') e e2 hne hs (.int _ _) (.int _ _) (by omega) (by rw[Ze'];omega) (by rw[Ze',Ze'];omega) (h _ ?_);refine I.MH (its':=its.take a'++its2++its.drop c') (t':=s.toks) hH e ?_ (Vals.append (Vals.append (r.take _) r2) (r.drop _)) ?_
 ·exact Lb its its2 a' c'
 ·rw[V',V',Zo',Yd'];omega
end
end L2
namespace Yw
open PySem PySem.W PySem.Calls PyProof.Rows
theorem y8 {P:Params}{h:Heap}:∀(ns:List Int)(vs:List Value),WellAll P h vs (ns.map WData.int)->IntsAre vs ns:=by
 intro ns
 induction ns with
 |nil =>
  intro vs w;rw[List.map_nil]at w;cases w;exact .nil
 |cons n ns ih =>
  intro vs w;rw[map_cons]at w;cases w with
  |cons a b =>
   cases a;exact .cons _ _ (ih _ b)
theorem Ld {l:OpenLaw}{n:Nat}(hn:l.most=some n){P:Params}{h:Heap}{args:List WData}{vals:List Value}
  (hpre:l.row.toRowW.claim.pre args=true) (hwl:WellAll P h vals args) :
  ∃ a vs ns,vals=[Value.ref a]/\args=[WData.list (ns.map WData.int)]/\h.get? a=some { cls:=.type "list",data:=.seq vs.toArray }/\IntsAre vs ns/\ns.length<=n:=by
 have hsh:WShape.hasAll [] args [.list .int]=true:=(pre_splitW hpre).1;have hc:l.pre.holds [] { args:=args } = true:=(pre_splitW hpre).2;obtain⟨d,r,rfl,h1,h2⟩:=hasAllW_cons hsh;obtain rfl:=hasAllW_nil h2;obtain⟨xs,rfl,h3⟩:=hasW_list h1;obtain⟨ns,rfl⟩:=items_int h3;have hlen:ns.length<=n:=by
  unfold OpenLaw.pre at hc;have h4:(WTm.not (.lt (.lit (.int (n:Int))) (.len (.arg 0)))).holds [] { args:=[.list (ns.map .int)] } = true:=by
   have h4:=(holds_andW hc).1;rw[hn]at h4;exact h4
  have h5:=condW_of h4 (w_not (w_lt w_lit (w_len_list (w_arg rfl))));rw[L']at h5;refine Nat.le_of_not_lt fun q=>?_;have q':(n:Int)<((ns.length:Nat):Int):=by omega
  first
   |(rw[A' q']at h5;exact S' h5 (by decide))
   |(simp at h5;omega)
 cases hwl with
 |cons w1 w2 =>
  cases w2;cases w1 with
  |list ho hall=>exact⟨_,_,ns,rfl,rfl,ho,y8 ns _ hall,hlen⟩
theorem Le (l:OpenLaw)(args:List WData):l.row.toRowW.claim.post args (.bool true) args=true :=
 postW_of (r:=l.row.toRowW) (X:=(true==true))
  (show WShape.has [] (.bool true) .bool=true by first|rfl|decide|simp[WShape.has,WShape.arms,WShape.armsAll])
  (show(WTm.eq .res (.lit (.bool true))).value [] { args:=args,res:=some (.bool true),after:=args } = some (.bool (true==true)) from w_eq_bool (w_res rfl) w_lit) rfl
theorem FJ {l:OpenLaw}{n:Nat}{q:Program}{loose:List Str}{XP:(Str->Option Value)->Heap->Prop}{YP:World->Heap->Prop}{d:DefRec}
  (hn:l.most=some n) (hdf:d.params.defaults=[])
  (call:∀(w:World)(s₀ s₁:Shared)(mg mb:Str->Option Value)(fa:Addr)(o:Obj)(pm cd doc:Value)(a:Addr)(vs:List Value)(ns:List Int),
   Ground q loose [] XP w s₀ mg mb s₁.heap->YP w s₁.heap ->
   s₁.heap.get? fa=some o->o.data=.func (docDef d.name d.params d.body d.scope pm cd doc)->s₁.heap.CodeRec cd d.name->mg d.name=some (.ref fa) ->
   s₁.heap.get? a=some { cls:=.type "list",data:=.seq vs.toArray }->IntsAre vs ns->ns.length<=n->s₁.gens = #[] ->
   codeAny (model l.prog w) callerA (.call (.ref fa) ⟨[.ref a],[]⟩) (fun r s'=>r=.ok (.ret (.bool true))/\OldK s₁.heap s'.heap/\s'.os=s₁.os/\AllBare s'.gens) s₁) :
  WalkO q loose XP YP l.row.toRowW d [] (fun f vs=>PySem.call f vs):=by
 intro w s₀ s₁ mg mb G Y fa o pm cd doc dV kV ho hd hcd hD hmg hg args vals as hpre hlay hrd hwl hlo;obtain rfl:dV=.none:=Dflts.none hD hdf;obtain rfl:kV=.none:=Dflts.noKw hD;obtain⟨a,vs,ns,rfl,rfl,hobj,hints,hlen⟩:=Ld hn hpre hwl;refine enter_call (codeAny_mono (call w s₀ s₁ mg mb fa o pm cd doc a vs ns G Y ho (fd_plain hd) hcd hmg hobj hints hlen hg) fun r s' hq=>?_);obtain⟨rfl,h2,h3,h4⟩:=hq;exact⟨.inl ⟨.bool true,.bool true,[],rfl,fun _=>rfl,.bool true,Le l _,fun _=>⟨List.Pairwise.nil,fun _ hm=>(nomatch hm)⟩⟩,h2,h3,h4⟩
section
variable {prog:Program} {w:World} {A:Around} {E:Value->Shared->Prop} {s:Shared} {K:Frag}
end
end Yw
namespace L2
open PySem PySem.Spec PyProof.Rows
theorem Cw:∀{vs:List Value} {ns:List Int},IntsAre vs ns->Vals (ns.map V.int) vs
 |_,_,.nil=>.nil
 |_,_,.cons n t h=>.cons ⟨t,rfl⟩ (Cw h)
def Only (H:Hp):Prop:=∀ b,H b=none\/∃ o xs,H b=some (.Jz o (.lst xs))
theorem MK {P:Program}{w:World}{K:Frag}{mg mb:Str->Option Value}{CX:K8}{k:Nat}{fa a:Addr}{fd:FuncData}{x:Str}{sp:Sp}{s₁:Shared}{vs:List Value}{ns:List Int}
  (KX:K.In s₁.heap) (hns:s₁.heap.Ns mainGlobals mg) (hb:s₁.heap.Ns builtinsNs mb) (hbb:∀ x:Str,x ≠ "__name__"->mb x=bootBuiltins x) (hlim:s₁.heap.NoLimit) (hg:s₁.gens = #[])
  (ha:s₁.heap.get? a=some { cls:=.type "list",data:=.seq vs.toArray }) (hi:IntsAre vs ns) (hl:ns.length<=sizeLine) (hr:fJ k callerA)
  (F:∀ base:Heap,K.In base->base.Ns mainGlobals mg->aW P w K mg base CX k fa fd [x] sp) (hbind:∀(s:Shared)(u:Value),BindsTo s fd ⟨[u],[]⟩ [(x,u)])
  (hsp:∀ H:Hp,Only H->aM K H a (ns.map V.int)->sp [.ref a] H (fun v _=>v=.bl true) fun _ _ _=>False)
  (WY:∀ H e s',CX [] H s₁ (fun _ _ _=>False) e s'->False) :
  codeAny (model P w) callerA (.call (.ref fa) ⟨[.ref a],[]⟩) (fun r s'=>r=.ok (.ret (.bool true))/\OldK s₁.heap s'.heap/\s'.os=s₁.os/\AllBare s'.gens) s₁:=by
 have rv:=Cw hi;have lenV:=hi.length;have core:∀ H:Hp,Only H->aM K H a (ns.map V.int)->pH P w H s₁.heap->(∀ b,H b≠none->b=a)->(H a≠none->K.lookup a=none) ->
   codeAny (model P w) callerA (.call (.ref fa) ⟨[.ref a],[]⟩) (fun r s'=>r=.ok (.ret (.bool true))/\OldK s₁.heap s'.heap/\s'.os=s₁.os/\AllBare s'.gens) s₁:=by
  intro H hO hS hok hA hK;have JN:∀{b:Addr} {o:Obj},s₁.heap.get? b=some o->H b=none->(D9 s₁.heap H).get? b=some o:=fun e n=>Mn e n;have TZ:∀{b:Addr} {o:Obj} {es:Array DictEntry} {ep:Nat},s₁.heap.get? b=some o->o.data=.dict es ep->H b=none:=fun {b o es ep} e d=>by
   cases q:H b with
   |none=>rfl
   |some u =>
    have e':b=a:=hA b (by rw[q];simp);subst e';rw[ha]at e;cases e;have d':Data.seq vs.toArray _=Data.dict es ep:=d;cases d'
  have VX:∀{b:Addr} {m:Str->Option Value},s₁.heap.Ns b m->(D9 s₁.heap H).Ns b m:=fun {b m} ⟨o,es,ep,e,d,r⟩=>⟨o,es,ep,JN e (TZ e d),d,r⟩;have Yx:K.In (D9 s₁.heap H):=fun b o e=>JN (KX b o e) (by
   cases q:H b with
   |none=>rfl
   |some u =>
    have e':b=a:=hA b (by rw[q];simp);subst e';rw[hK (by rw[q];simp)]at e;cases e)
  have hM:Mod K mg (D9 s₁.heap H):=⟨Yx,VX hns,⟨mb,VX hb,hbb⟩,let ⟨mc,h1,h2⟩:=hlim;⟨mc,VX h1,h2⟩⟩;have e0:HZ P w K mg (D9 s₁.heap H) callerA [] s₁ H:=⟨rfl,hM,fun b o e=>OU e,Nat.le_of_eq (KW _ _),trivial,fun b hb=>S' (show b∈([]:List Addr) from hb) (by simp),hok,.of_eq hg⟩;refine codeAny_mono ((F _ Yx (VX hns)).run callerA [] s₁ H ⟨[.ref a],[]⟩ [.ref a] [.ref a] _ _ hr e0 (hbind s₁ (.ref a)) (.cons rfl .nil) (hsp H hO hS)) fun r s' h=>?_;cases r with
  |error e=>exact(WY H e s' h).elim
  |ok fl =>
   cases fl with
   |next=>exact False.elim h
   |brk=>exact False.elim h
   |cont=>exact False.elim h
   |ret u =>
    obtain⟨v,H',os,bare,un,hok',r',q⟩:=h;have q':v=.bl true:=q;subst q';obtain rfl:u=Value.bool true:=r';refine⟨rfl,OldK.of_keep fun b o e=>?_,os,bare⟩;cases q:H b with
    |none=>exact un.keep b o e q (by intro z;exact S' (show b∈([]:List Addr) from z) (by simp)) (by simp)
    |some u =>
     rcases hO b with z|⟨ob,xs,z⟩
     ·rw[q]at z;cases z
     ·have z2:=un.zI b ob _ z;obtain⟨e1,_⟩:=hok b _ z;obtain⟨e2,_⟩:=hok' b _ z2;rw[e]at e1;cases e1;exact e2
 cases hk:K.lookup a with
 |some o =>
  have e:=KX a o hk;rw[ha]at e;cases e;refine core (fun _=>none) (fun _=>.inl rfl) (.inr ⟨_,vs.toArray,_,hk,rfl,rfl,rfl,by rw[Ze',lenV];exact hl,by simpa using rv⟩) (fun b u z=>by have z':(none:Option HO)=some u:=z;cases z') (fun b z=>S' rfl z) fun z=>S' rfl z
 |none =>
  refine core (fun b=>if b=a then some (.Jz { cls:=.type "list",data:=.seq vs.toArray } (.lst (ns.map V.int))) else none) (fun b=>?_) (.inl (.inr ⟨{ cls:=.type "list",data:=.seq vs.toArray },X' rfl⟩)) (fun b u z=>?_) (fun b z=>?_) fun _=>hk
  ·by_cases hb:b=a
   ·exact .inr ⟨_,_,X' hb⟩
   ·exact .inl (T' hb)
  ·by_cases hb:b=a
   ·have z':=(X' hb).symm.trans z;cases z';subst hb;exact⟨ha,by rw[L'];exact hl,vs,_,rv,ha⟩
   ·have z':=(T' hb).symm.trans z;cases z'
  ·by_cases hb:b=a
   ·exact hb
   ·exact S' (T' hb) z
end L2
namespace L2
open PySem PySem.Spec PyProof.Rows
theorem O5 {l:OpenLaw}{n k:Nat}{q:Program}{loose:List Str}{XP:(Str->Option Value)->Heap->Prop}{YP:World->Heap->Prop}{d:DefRec}{K:Params->Frag}{CX:World->K8}{sp:World->Sp}{x:Str}
  (hn:l.most=some n) (hn2:n<=sizeLine) (hdf:d.params.defaults=[]) (hr:fJ k callerA)
  (hY:∀(w:World)(h:Heap),YP w h->(K w.params).In h)
  (F:∀(w:World)(mg:Str->Option Value)(fa:Addr)(h:Heap),(K w.params).In h->h.Ns mainGlobals mg->mg d.name=some (.ref fa) ->
   ∃ fd:FuncData,(∀(s:Shared)(u:Value),BindsTo s fd ⟨[u],[]⟩ [(x,u)]) /\
    ∀ base:Heap,(K w.params).In base->base.Ns mainGlobals mg->aW l.prog w (K w.params) mg base (CX w) k fa fd [x] (sp w))
  (hsp:∀(w:World)(H:Hp)(a:Addr)(ns:List Int),ns.length<=n->Only H->aM (K w.params) H a (ns.map V.int)->sp w [.ref a] H (fun v _=>v=.bl true) fun _ _ _=>False)
  (WY:∀(w:World)(H:Hp)(s:Shared)(e:Value)(s':Shared),CX w [] H s (fun _ _ _=>False) e s'->False) :
  WalkO q loose XP YP l.row.toRowW d [] (fun f vs=>PySem.call f vs):=by
 refine Yw.FJ hn hdf fun w s₀ s₁ mg mb fa o pm cd doc a vs ns G Y ho hd hcd hmg hobj hints hlen hg=>?_;have KX:=hY w _ Y;obtain⟨fd,hb,hF⟩:=F w mg fa _ KX G.T.g hmg;exact MK KX G.T.g G.T.b G.T.builtins G.T.nolimit hg hobj hints (Zb' hlen hn2) hr hF hb (fun H hO hS=>hsp w H a ns hlen hO hS) fun H e s'=>WY w H s₁ e s'
end L2
namespace L2
open PySem PySem.Spec PyProof.Rows
noncomputable def inClass (s:Stmt)(j:Nat):Stmt:=match s with
 |.ClassDef _ _ _ body _ _ _ _ _ _ _=>body.getD j (.Pass ⟨0,0,0,0⟩)
 |_=>.Pass ⟨0,0,0,0⟩
noncomputable def dj (s:Stmt):Arguments:=match s with
 |.FunctionDef _ a _ _ _ _ _ _ _ _=>a
 |_=>{ posonlyargs:=[],args:=[],vararg:=none,kwonlyargs:=[],kw_defaults:=[],kwarg:=none,defaults:=[] }
noncomputable def a8 (s:Stmt):List Stmt:=match s with
 |.FunctionDef _ _ b _ _ _ _ _ _ _=>b
 |_=>[]
noncomputable def aj (s:Stmt):Scope:=match s with
 |.FunctionDef _ _ _ _ _ _ sc _ _ _=>sc
 |_=>{ kind:=.function,names:=[],isGenerator:=false,isCoroutine:=false }
noncomputable abbrev fA:K8:=fun _ _ _ _ _ _=>False
noncomputable abbrev E0:XK:=fun _ _ _=>False
theorem dN {X:Cx}:Passes fA X E0:=fun _ _ _ _ _ _ _ h=>h.elim
structure O6 (K:Frag)(x qual:Str)(st:Stmt)(f:Addr)(fd:FuncData):Prop where
 ex:∃(oc:Value)(od:Option Addr)(kV doc pm:Value)(an:Option Addr)(cdv ct:Value)(osl:Array (Option Value)),
  fd=fnOf x qual (dj st) (a8 st) (aj st) .none kV doc pm an cdv ct/\K.lookup f=some ⟨oc,od,.func fd,osl⟩/\codeIn K cdv qual=true
 kp:keepIn K (.ref f)=true
section
variable {P:Program} {w:World} {K:Frag} {mg:Str->Option Value} {base:Heap}
theorem O6.ok {x qual:Str}{st:Stmt}{f:Addr}{fd:FuncData}{N ps:List Str}{k:Nat}{sp:Sp}(F:O6 K x qual st f fd)(S:aA N ps (aj st))(len:∀ vs H Q E,sp vs H Q E->vs.length=ps.length)
  (hbody:∀(cdv:Value)(A:Around)(outer:List Env)(s:Shared)(H:Hp)(vs:List V)(Q:VK)(E:XK),fJ k (A.deeper (envOfC qual (aj st) s.heap.objs.size f cdv))->sp vs H Q E ->
   ∃ t,zy (mC fA P w K mg base N qual (aj st) f cdv A outer s H E).Qf (a8 st) t/\t { nx:=fun _ H'=>Q .non H',rt:=Q } (start N vs) H):aW P w K mg base fA (k+1) f fd ps sp:=by
 obtain⟨oc,od,kV,doc,pm,an,cdv,ct,osl,rfl,lk,hcd⟩:=F.ex;refine JH lk hcd S len fun A outer s H vs Q E hr hsp=>?_;obtain⟨t,h,q⟩:=hbody cdv A outer s H vs Q E hr hsp;exact⟨t,h.Qf,q⟩
theorem Ik {x qual:Str}{st:Stmt}{f:Addr}{oc:Value}{od an:Option Addr}{osl:Array (Option Value)}{kV doc pm cdv ct:Value}(l:K.lookup f=some ⟨oc,od,.func (fnOf x qual (dj st) (a8 st) (aj st) .none kV doc pm an cdv ct),osl⟩)
  (c:codeIn K cdv qual=true) (k:keepIn K (.ref f)=true):O6 K x qual st f (fnOf x qual (dj st) (a8 st) (aj st) .none kV doc pm an cdv ct):=⟨⟨oc,od,kV,doc,pm,an,cdv,ct,osl,rfl,l,c⟩,k⟩
end
theorem fY {A:Around}{k:Nat}(hr:fJ k A):A.units+1<cLine:=Nat.lt_of_le_of_lt (Nat.add_le_add_left (by decide:1<=64) _) hr.units
theorem aL {n:Nat}(h:n<=1000):n<sizeLine:=Nat.lt_of_le_of_lt h (by decide)
section
variable {X:Cx}
theorem pv (i:Nat){x:Str}{pos:Pos}(hN:X.N[i]? = some x:=by rfl)(hv:Tt X.env.scope x:=by first|exact Or.inl rfl|exact Or.inr (Or.inl rfl)|exact Or.inr (Or.inr rfl))(hd:(x==("__debug__":Str))=false:=by decide)
  (hcd:(x==("__classdict__":Str))=false:=by decide):PE X (.Name x pos) (Tv i):=QZ hN hv hd hcd
end
theorem aX {A B:Prop}(h:B):if false=true then A else B:=by
 rw[T' j'];exact h
theorem bV {A B:Prop}(h:A):if true=true then A else B:=by
 rw[X' rfl];exact h
theorem aN {c A B:Prop}[Decidable c](h1:c->A)(h2:¬ c->B):if c then A else B:=by
 by_cases h:c
 ·rw[X' h];exact h1 h
 ·rw[T' h];exact h2 h
def ao (H H':Hp):Prop:=∀ b o,H b=some o->H' b=some o
theorem ao.refl (H:Hp):ao H H:=fun _ _ h=>h
theorem ao.trans {H H1 H2:Hp}(a:ao H H1)(b:ao H1 H2):ao H H2:=fun c o h=>b c o (a c o h)
theorem ao.free {H H':Hp}(e:ao H H'){l:Addr}(h:H' l=Option.none):H l=Option.none:=by
 cases q:H l with
 |none=>rfl
 |some o =>
  rw[e l o q]at h;cases h
theorem ao.seq {K:Frag}{H H':Hp}{a:Addr}{xs:List V}(e:ao H H')(h:aM K H a xs):aM K H' a xs:=by
 rcases h with (h|⟨o,h⟩)|h
 ·exact .inl (.inl (e _ _ h))
 ·exact .inl (.inr ⟨o,e _ _ h⟩)
 ·exact .inr h
end L2
set_option maxHeartbeats 4000000
namespace L2
open PySem PySem.Spec PyProof.Rows
noncomputable def fK (env:Env):List (Str×NameKind)->List (Str×Addr)->List (Str×Addr)
 |[],acc=>acc
 |p::l,acc=>fK env l (if p.2 == .free then(p.1,(env.cells.lookup p.1).getD 0)::acc else acc)
theorem JO {env:Env}{scope:Scope}(h:∀ p∈scope.names,p.2=.free->∃ c,env.cells.lookup p.1=some c):closureFor scope env=pure (fK env scope.names []):=by
 have go:∀(l:List (Str×NameKind)) (acc:List (Str×Addr)),(∀ p∈l,p.2=.free->∃ c,env.cells.lookup p.1=some c) ->
   (forIn l acc fun(p:Str×NameKind) cs=>if(p.2==NameKind.free)=true then(cellOf env p.1 >>= fun a=>pure (ForInStep.yield ((p.1,a)::cs))) else pure (ForInStep.yield cs))=(pure (fK env l acc):Sem (List (Str×Addr))):=by
  intro l
  induction l with
  |nil=>intro acc _;rfl
  |cons p l ih =>
   intro acc hl;rw[List.forIn_cons];have hr:=fun q hq=>hl q (Yc' _ hq)
   by_cases hk:p.2=.free
   ·obtain⟨c,hc⟩:=hl p mem_cons_self hk;have e1:(p.2==NameKind.free)=true:=by rw[hk];rfl
    rw[X' e1];have e2:cellOf env p.1=pure c:=by unfold cellOf;rw[hc]
    rw[e2,pure_bind,pure_bind];show forIn l ((p.1,c)::acc) _=_;rw[ih _ hr];show _=pure (fK env l (if p.2 == .free then(p.1,(env.cells.lookup p.1).getD 0)::acc else acc));rw[X' e1,hc];rfl
   ·have e1:¬(p.2==NameKind.free)=true:=by intro z;exact hk (by simpa using z)
    rw[T' e1,pure_bind];show forIn l acc _=_;rw[ih _ hr];show _=pure (fK env l (if p.2 == .free then(p.1,(env.cells.lookup p.1).getD 0)::acc else acc));rw[T' e1]
 have e:=go scope.names [] h;unfold closureFor;show(forIn scope.names ([]:List (Str×Addr)) _ >>= fun r=>pure r)=_;rw[bind_pure];exact e
theorem Cy {env:Env}{x:Str}:∀(l:List (Str×NameKind)) (acc:List (Str×Addr)) {c:Addr},(fK env l acc).lookup x=some c->acc.lookup x=some c\/((x,NameKind.free)∈l/\c=(env.cells.lookup x).getD 0)
 |[],acc,c,h=>.inl h
 |p::l,acc,c,h=>by
  rcases Cy l _ h with z|⟨z,e⟩
  ·by_cases hk:(p.2==NameKind.free)=true
   ·rw[X' hk,List.lookup_cons]at z
    by_cases hx:(x==p.1)=true
    ·rw[hx]at z;have e:x=p.1:=by simpa using hx
     have e2:p.2=.free:=by simpa using hk
     refine .inr ⟨?_,?_⟩
     ·rw[e,<-e2];exact mem_cons_self
     ·rw[e];exact(Z' z).symm
    ·have hx':(x==p.1)=false:=by simpa using hx
     rw[hx']at z;exact .inl z
   ·rw[T' hk]at z;exact .inl z
  ·exact .inr ⟨Yc' _ z,e⟩
theorem zO {env:Env}{x:Str}:∀(l:List (Str×NameKind)) (acc:List (Str×Addr)),((acc.lookup x).isSome=true\/(x,NameKind.free)∈l)->((fK env l acc).lookup x).isSome=true
 |[],acc,h=>by
  rcases h with h|h
  ·exact h
  ·cases h
 |p::l,acc,h=>by
  refine zO l _ ?_;rcases h with h|h
  ·left
   by_cases hk:(p.2==NameKind.free)=true
   ·rw[X' hk,List.lookup_cons];cases (x==p.1) with
    |true=>rfl
    |false=>exact h
   ·rw[T' hk];exact h
  ·rcases List.mem_cons.mp h with e|h
   ·left
    have e1:p.1=x:=by rw[<-e]
    have e2:(p.2==NameKind.free)=true:=by rw[<-e];rfl
    rw[X' e2,List.lookup_cons,e1];simp
   ·exact .inr h
theorem j8 {env:Env}{x:Str}{k:NameKind}:∀(l:List (Str×NameKind)),
  (l.map fun(n,k)=>if(k==NameKind.free&&env.scope.kind == .function&&env.kindOf n==some .cell) then(n,NameKind.cell) else(n,k)).lookup x=some k ->
   l.lookup x=some k\/(k=.cell/\l.lookup x=some .free)
 |[],h=>by cases h
 |(n,q)::l,h=>by
  rw[map_cons]at h;cases hx:(x==n) with
  |true =>
   rw[List.lookup_cons,hx]
   by_cases hc:(q==NameKind.free&&env.scope.kind == .function&&env.kindOf n==some .cell)=true
   ·simp only [hc,if_true,List.lookup_cons,hx]at h;have e:q=.free:=by
     have:=(Bool.and_eq_true_iff.mp (Bool.and_eq_true_iff.mp hc).1).1
     simpa using this
    right
    exact⟨(Z' h).symm,by rw[e]⟩
   ·have hc':(q==NameKind.free&&env.scope.kind == .function&&env.kindOf n==some .cell)=false:=by simpa using hc
    simp only [hc',Bool.false_eq_true,if_false,List.lookup_cons,hx]at h;exact .inl h
  |false =>
   rw[List.lookup_cons,hx];refine j8 (env:=env) l ?_
   by_cases hc:(q==NameKind.free&&env.scope.kind == .function&&env.kindOf n==some .cell)=true
   ·simp only [hc,if_true,List.lookup_cons,hx]at h;exact h
   ·have hc':(q==NameKind.free&&env.scope.kind == .function&&env.kindOf n==some .cell)=false:=by simpa using hc
    simp only [hc',Bool.false_eq_true,if_false,List.lookup_cons,hx]at h;exact h
structure Bk where
 C:Addr
 s₂:Shared
 acg:Hp
 fp:List Addr
 xe:Value->Shared->Prop
noncomputable def cW (X:Cx)(cn:List Str)(scope:Scope)(b:Bk):Cx where
 prog:=X.prog
 w:=X.w
 K:=X.K
 mg:=X.mg
 base:=X.base
 A:=X.A
 N:=cn++X.N
 s₀:=b.s₂
 H₀:=b.acg
 env:=compEnvC scope (fK X.env scope.names []) b.C X.env
 outer:=X.stack
 stack:=X.stack
 ex:=b.fp
 fn:=fun _=>false
 calm:=X.calm
 pn:=[]
 xe:=b.xe
noncomputable def ML (sc:Scope)(N:List Str)(scope:Scope):Bool :=
 (scope.kind == .function) &&
 (scope.names.all fun p=>(p.2 != .cell)&&((p.2 != .free)||(sc.names.lookup p.1==some .cell)||(sc.names.lookup p.1==some .free))&&((p.2 != .local)||(scope.names.lookup p.1==some .local))) &&
 (N.all fun x=>scope.names.lookup x != some .local)
structure cY (sc:Scope)(N:List Str)(scope:Scope):Prop where
 kind:scope.kind=.function
 MN:∀ p∈scope.names,p.2≠.cell
 free:∀ p∈scope.names,p.2=.free->sc.names.lookup p.1=some .cell\/sc.names.lookup p.1=some .free
 loc:∀ p∈scope.names,p.2=.local->scope.names.lookup p.1=some .local
 apart:∀ x∈N,scope.names.lookup x≠some .local
theorem cY.of {sc:Scope}{N:List Str}{scope:Scope}(h:ML sc N scope=true):cY sc N scope:=by
 unfold ML at h;rw[Bool.and_eq_true,Bool.and_eq_true]at h;obtain⟨⟨h1,h2⟩,h3⟩:=h;rw[all_eq_true]at h2 h3;refine⟨by simpa using h1,fun p hp=>?_,fun p hp e=>?_,fun p hp e=>?_,fun x hx=>?_⟩
 ·have:=h2 p hp;rw[Bool.and_eq_true,Bool.and_eq_true]at this
  simpa using this.1.1
 ·have:=h2 p hp;rw[Bool.and_eq_true,Bool.and_eq_true]at this;have q:=this.1.2;rw[e]at q;rw[Bool.or_eq_true,Bool.or_eq_true]at q;rcases q with (q|q)|q
  ·exact S' q (by decide)
  ·exact .inl (by simpa using q)
  ·exact .inr (by simpa using q)
 ·have:=h2 p hp;rw[Bool.and_eq_true,Bool.and_eq_true]at this;have q:=this.2;rw[e]at q;rw[Bool.or_eq_true]at q;rcases q with q|q
  ·exact S' q (by decide)
  ·simpa using q
 ·have:=h3 x hx
  simpa using this
section
variable {X:Cx} {pins:List (Addr×Obj)} {σ:St} {H:Hp}
theorem pO {l:List (Str×NameKind)}{x:Str}{k:NameKind}(h:l.lookup x=some k):(x,k)∈l:=PySem.mem_of_lookup h
theorem Inv.block {s₂:Shared}{h₁:Heap}{tk:Nat}{cn:List Str}{scope:Scope}{fp:List Addr}{xe:Value->Shared->Prop}{C D:Addr}{m:Str->Option Value}
  (I:Inv X pins σ H s₂) (F:cY X.env.scope X.N scope) (hc:X.calm=true) (hf:∀ b∈fp,jV X pins H b) (hfl:∀ b∈fp,b<s₂.heap.objs.size)
  (hC:s₂.heap.objs.size<=C) (hD:s₂.heap.objs.size<=D) (hDC:D≠C) (hn:h₁.Ns C m) (old:∀ b o,s₂.heap.get? b=some o->h₁.get? b=some o)
  (hacc:h₁.get? D=some { cls:=.type "list",data:=.seq ([]:List Value).toArray 0 }) :
  Inv (cW X cn scope ⟨C,s₂,H,fp,xe⟩) [] (List.replicate cn.length none++σ) (upd H D (.lst [])) { s₂ with heap:=h₁,toks:=tk }:=by
 have Ek:∀ x,((cW X cn scope ⟨C,s₂,H,fp,xe⟩).env.kindOf x=some .cell\/(cW X cn scope ⟨C,s₂,H,fp,xe⟩).env.kindOf x=some .free)->(x,NameKind.free)∈scope.names:=by
  intro x hx;have hx':(relabel scope X.env).names.lookup x=some .cell\/(relabel scope X.env).names.lookup x=some .free:=hx;rcases hx' with z|z
  ·rcases j8 scope.names z with z|⟨_,z⟩
   ·exact S' rfl (F.MN _ (pO z))
   ·exact pO z
  ·rcases j8 scope.names z with z|⟨e,_⟩
   ·exact pO z
   ·cases e
 have JP:∀ x,(x,NameKind.free)∈scope.names->X.env.kindOf x=some .cell\/X.env.kindOf x=some .free:=fun x hx=>F.free _ hx rfl;have oj:∀ x c,(fK X.env scope.names []).lookup x=some c->X.env.cells.lookup x=some c:=by
  intro x c e;rcases Cy _ _ e with z|⟨z,e2⟩
  ·cases z
  ·obtain⟨c',hc'⟩:=I.ok.has x (JP x z);rw[hc']at e2 ⊢;rw[e2];rfl
 have ZH:(cW X cn scope ⟨C,s₂,H,fp,xe⟩).fs=frs X.stack:=rfl;have WZ:∀ b∈fp,b ∉ frs X.stack:=by
  intro b hb z;obtain⟨_,f1,f2,_⟩:=hf b hb;rcases List.mem_cons.mp (I.HP b z) with e|e
  ·exact f1 e
  ·exact f2 e
 have Ro:∀ x c,X.env.cells.lookup x=some c->c<s₂.heap.objs.size:=by
  intro x c e;obtain⟨v,o,ho,_⟩:=I.cell x c e;exact W' ho
 have ok:(cW X cn scope ⟨C,s₂,H,fp,xe⟩).Ok:=by
  refine⟨I.ok.mod,?_,I.ok.glob,I.ok.blt,hC,fun x y c h1 h2=>I.ok.inj x y c (oj x c h1) (oj y c h2),fun x hx=>?_,fun x c z=>?_,fun _=>I.ok.hd hc,I.ok.frames,.inl rfl,fun b hb=>⟨?_,fun x c e=>?_⟩,
   fun b o e=>I.bs b o e,Zb' I.ok.Mi I.sz,fun b o e hb=>?_,fun b hb=>?_,I.stack,I.Ea⟩
  ·show(relabel scope X.env).kind=.function;exact F.kind
  ·have:=zO (env:=X.env) (x:=x) scope.names [] (.inr (Ek x hx));exact Option.isSome_iff_exists.mp this
  ·cases z
  ·exact Zn' (Za' (hfl b hb) hC)
  ·exact(hf b hb).2.2.2.2.1 x c (oj x c e)
  ·have:X.base.objs.size<=X.s₀.heap.objs.size:=I.ok.Mi;rcases (hf b hb).2.2.2.1 with z|z
   ·exact I.ok.HM b o e z
   ·exact S' (Za' (W' e) (Zb' I.ok.Mi z)) (Nat.lt_irrefl _)
  ·exact WZ b hb
 have ZI:H D=none:=I.hok.fresh hD;have W0:pH X.prog X.w (upd H D (.lst [])) h₁:=I.hok.laid old hD ⟨Zq' _,[],0,.nil,hacc⟩;refine⟨ok,rfl,I.bare,Un.laid old hD ZI,⟨m,hn,fun i x v e1 e2 e3=>?_⟩,fun x c e=>?_,?_,fun x c e=>?_,fun p hp=>S' (show p∈([]:List (Addr×Obj)) from hp) (by simp),W0,?_⟩
 ·have hi:¬ i<cn.length:=by
   intro hi;rw[List.getElem?_append_left (by simpa using hi),List.getElem?_replicate]at e2;split at e2 <;> cases e2
  rw[List.getElem?_append_right (by simpa using hi),List.length_replicate]at e2;have e1':(cn++X.N)[i]? = some x:=e1;rw[List.getElem?_append_right (by omega)]at e1';obtain⟨m0,hm0,hl⟩:=I.loc;have Yy:x∈X.N:=Zf' e1';have hfr:(x,NameKind.free)∈scope.names:=by
   have e3':(relabel scope X.env).names.lookup x=some .local\/(relabel scope X.env).names.lookup x=some .cell\/(relabel scope X.env).names.lookup x=some .free:=e3;rcases e3' with z|z|z
   ·rcases j8 scope.names z with z|⟨e,_⟩
    ·exact S' z (F.apart x Yy)
    ·cases e
   ·exact Ek x (.inl z)
   ·exact Ek x (.inr z)
  have hk:=JP x hfr;have WA:Tt X.env.scope x:=by
   rcases hk with z|z
   ·exact .inr (.inl z)
   ·exact .inr (.inr z)
  obtain⟨u,r,lk⟩:=hl (i-cn.length) x v e1' e2 WA;refine⟨u,r,?_⟩;rcases lk with ⟨z,_⟩|⟨_,c,ec,z⟩
  ·rcases hk with q|q
   ·rw[z]at q;cases q
   ·rw[z]at q;cases q
  ·have hcl:(fK X.env scope.names []).lookup x=some c:=by
    obtain⟨c',e'⟩:=Option.isSome_iff_exists.mp (zO (env:=X.env) (x:=x) scope.names [] (.inr hfr));rw[e'];have:=oj x c' e';rw[ec]at this;exact this.symm
   refine .inr ⟨?_,c,hcl,?_⟩
   ·have e3':(relabel scope X.env).names.lookup x=some .local\/(relabel scope X.env).names.lookup x=some .cell\/(relabel scope X.env).names.lookup x=some .free:=e3;rcases e3' with y|y|y
    ·rcases j8 scope.names y with y|⟨e,_⟩
     ·exact S' y (F.apart x Yy)
     ·cases e
    ·exact .inl y
    ·exact .inr y
   ·obtain⟨o,ho,hd⟩:=z;exact⟨o,old c o ho,hd⟩
 ·obtain⟨v,o,ho,hd⟩:=I.cell x c (oj x c e);exact⟨v,o,old c o ho,hd⟩
 ·show upd H D (.lst []) C=none;rw[ak (Zh' hDC)];exact I.hok.fresh hC
 ·rw[ak (Zn' (Za' (Ro x c (oj x c e)) hD))];exact I.lj x c (oj x c e)
 ·show(List.replicate cn.length none++σ).length=(cn++X.N).length;rw[V',List.length_replicate,V',I.len]
theorem Inv.JQ {s₂ s':Shared}{h':Heap}{cn:List Str}{scope:Scope}{fp:List Addr}{xe:Value->Shared->Prop}{C:Addr}{H':Hp}{σ':St}{pl:List (Addr×Obj)}
  (I:Inv X pins σ H s₂) (hf:∀ b∈fp,jV X pins H b) (hC:s₂.heap.objs.size<=C) (J:Inv (cW X cn scope ⟨C,s₂,H,fp,xe⟩) pl σ' H' s') (sb:Heap.SameBut C s'.heap h') :
  Inv X pins σ H' { s' with heap:=h' }:=by
 have Qd:∀ b o,s₂.heap.get? b=some o->b≠C:=fun b o e=>Zn' (Za' (W' e) hC);have u:Un (frs X.stack) fp H H' s₂.heap s'.heap:=J.base;have un:Un (frs X.stack) fp H H' s₂.heap h' :=
  ⟨fun b o e n hb hx=>(sb.2 b (Qd b o e)).trans (u.keep b o e n hb hx),
   fun b o e n hb hx=>by
   obtain⟨sl,q⟩:=u.slot b o e n hb hx;exact⟨sl,(sb.2 b (Qd b o e)).trans q⟩,
   u.free,fun b o e hx=>by
   obtain⟨o',q⟩:=u.there b o e hx;exact⟨o',(sb.2 b (Qd b o e)).trans q⟩,u.tups,u.zI,u.BM⟩
 have fC:H' C=none:=J.free;have hok:pH X.prog X.w H' h':=fun b o e=>by
  refine(J.hok b o e).stay (fun c v hc q=>(sb.2 c ?_).trans q) (fun _ q=>q) fun _ _ q=>q;rintro rfl;rcases hc with z|z
  ·rw[<-z,fC]at e;cases e
  ·rw[fC]at z;cases z
 have os:s'.os=s₂.os:=J.os;refine I.call' (s':={ s' with heap:=h' }) os un hok J.bare fun b hb=>?_;obtain⟨_,f1,_,f3,f4,f5⟩:=hf b hb;exact⟨f3,f1,f4,f5⟩
end
end L2
namespace L2
open PySem PySem.Spec PyProof.Rows
theorem Lf {prog:Program}{w:World}{A:Around}{R:Result->Shared->Prop}{s:Shared}{elt tg iter:Expr}{ifs:List Expr}{scope:Scope}{pos:Pos}{it acc:Value}{env:Env}(J:Nat->Shared->Prop)
  (turn:∀ n s,J n s->wpAny (model prog w) A (pyNext it) (fun r s₁=>(r=none/\R (.ok .next) s₁)\/∃ v,r=some v /\
   wpAny (model prog w) A (letOwnedTupleGo tg it v) (fun _ s₂=>wpAny (model prog w) A (assign tg env v) (fun _ s₃ =>
    wpAny (model prog w) A (forIn ifs true fun c r=>if r=true then do let ok <-isTrue c env (eval c env);pure (ForInStep.yield ok) else pure (ForInStep.yield r)) (fun ok s₄ =>
     if ok=true then wpAny (model prog w) A (eval elt env) (fun x s₅=>wpAny (model prog w) A (call (.builtin "list.append") [acc,x]) (fun _ s₆=>∃ m,m<n/\J m s₆) (notedBy (model prog w) A env fun e s'=>R (.error e) s') s₅)
      (notedBy (model prog w) A env fun e s'=>R (.error e) s') s₄
     else ∃ m,m<n/\J m s₄) (notedBy (model prog w) A env fun e s'=>R (.error e) s') s₃) (notedBy (model prog w) A env fun e s'=>R (.error e) s') s₂) (notedBy (model prog w) A env fun e s'=>R (.error e) s') s₁)
   (notedBy (model prog w) A env fun e s'=>R (.error e) s') s)
  (n:Nat) (h:J n s):codeAny (model prog w) A (.compLoop (.ListComp elt [⟨tg,iter,ifs,0⟩] scope pos) 0 it acc env) R s:=by
 refine codeAny_loop rfl J (fun n s hJ=>?_) n h;refine wpAny_noted (A:=A) (m:=compTurn (.ListComp elt [⟨tg,iter,ifs,0⟩] scope pos) 0 it acc env) (env:=env) ?_;rw[compTurn_list];refine C' (wpAny_standAt (C' (cu (turn n s hJ) fun r s₁ h₁=>?_)));rcases h₁ with ⟨e,h₁⟩|⟨v,e,h₁⟩
 ·subst e;exact U' h₁
 ·subst e;refine C' (cu h₁ fun _ s₂ h₂=>C' (cu h₂ fun _ s₃ h₃=>C' (cu h₃ fun ok s₄ h₄=>?_)));cases ok with
  |false=>exact U' ⟨rfl,h₄⟩
  |true=>exact C' (C' (cu h₄ fun x s₅ h₅=>C' (cu h₅ fun _ s₆ h₆=>U' (U' ⟨rfl,h₆⟩))))
def PF (X:Cx)(ifs:List Expr)(t:TT):Prop :=
 ∀(pins:List (Addr×Obj)) (s:Shared) (σ:St) (H:Hp) (Q:Bool->Hp->Prop),Inv X pins σ H s->t σ H Q ->
  wpAny (model X.prog X.w) X.A (forIn ifs true fun c r=>if r=true then do let ok <-isTrue c X.env (eval c X.env);pure (ForInStep.yield ok) else pure (ForInStep.yield r)) (TP X pins σ Q) X.xe s
def Rp:TT:=fun _ H Q=>Q true H
theorem j9 {X:Cx}:PF X [] Rp:=by
 intro pins s σ H Q I h;rw[List.forIn_nil];exact U' ⟨H,I,h⟩
theorem Il {X:Cx}{c:Expr}{t:TT}(hc:PT X c t):PF X [c] t:=by
 intro pins s σ H Q I h;rw[List.forIn_cons];refine C' ?_;rw[X' rfl];refine C' (cu (hc pins s σ H Q I h) fun ok s1 q=>U' ?_);show wpAny _ _ (forIn [] ok _) _ _ _;rw[List.forIn_nil];exact U' q
def Im (X:Cx)(C:Addr)(e:Value)(s':Shared):Prop :=
 ∃ m,s'.heap.Ns C m/\∀ h',Heap.SameBut C s'.heap h'->∀ cenv:Env,cenv.locals=C->wpAny (model X.prog X.w) X.A (passOn "comprehension.variables-let-go" e cenv:Sem Value) (fun _ _=>False) X.xe { s' with heap:=h' }
def mT (X:Cx)(scope:Scope)(C:Addr):Value->Shared->Prop :=
 notedBy (model X.prog X.w) X.A (compEnvC scope (fK X.env scope.names []) C X.env) (Im X C)
def MO (n:Nat)(wi:TI)(g:Bk->TG)(tc:Bk->TT)(te:Bk->TE):TE:=fun σ H Q=>wi σ H fun J H1=>∀(D:Addr)(b:Bk),H1 D=none->∃ W:Nat->Nat->List V->St->Hp->Prop,
 (∃ m,W 0 m [] (List.replicate n none++σ) (upd H1 D (.lst [])))/\∀ i m ys σ H,W i m ys σ H ->
  (J.stop i H/\Q (.ref D) H)\/(J.go i H/\∀ x H',J.KZ i H x H'->g b x σ H' fun σ2 H2=>tc b σ2 H2 fun ok H3 =>
   if ok=true then te b σ2 H3 fun y H4=>H4 D=some (.lst ys)/\ys.length<sizeLine/\∃ m',m'<m/\W (i+1) m' (ys++[y]) σ2 (upd H4 D (.lst (ys++[y])))
   else ∃ m',m'<m/\W (i+1) m' ys σ2 H3)
section
variable {X:Cx} {tg iter elt:Expr} {ifs:List Expr} {scope:Scope} {pos:Pos} {cn:List Str} {wi:TI} {g:Bk->TG} {tc:Bk->TT} {te:Bk->TE} {TH:Bk->Prop}
theorem FK {pins:List (Addr×Obj)}{σ:St}{H:Hp}{s₂:Shared}{it:Addr}{fp:List Addr}{tn:Nat->Heap->Prop}{J:It}{RR:Value->Addr->Result->Shared->Prop}{QQ:Addr->Hp->Prop}{EE:Value->Shared->Prop}
  (hcalm:X.calm=true) (F:cY X.env.scope X.N scope) (hg:∀ b,TH b->PG (cW X cn scope b) tg (g b)) (ht:∀ b,TH b->PF (cW X cn scope b) ifs (tc b)) (he:∀ b,TH b->PE (cW X cn scope b) elt (te b))
  (W2:∀ C,s₂.heap.objs.size<=C->TH ⟨C,s₂,H,fp,mT X scope C⟩)
  (I:Inv X pins σ H s₂) (T:Turn X.prog X.w X.K tg J fp it tn) (st:tn 0 s₂.heap) (hf:∀ b∈fp,jV X pins H b)
  (h:∀(D:Addr)(b:Bk),H D=none->∃ W:Nat->Nat->List V->St->Hp->Prop,(∃ m,W 0 m [] (List.replicate cn.length none++σ) (upd H D (.lst [])))/\∀ i m ys σ H,W i m ys σ H ->
   (J.stop i H/\QQ D H)\/(J.go i H/\∀ x H',J.KZ i H x H'->g b x σ H' fun σ2 H2=>tc b σ2 H2 fun ok H3 =>
    if ok=true then te b σ2 H3 fun y H4=>H4 D=some (.lst ys)/\ys.length<sizeLine/\∃ m',m'<m/\W (i+1) m' (ys++[y]) σ2 (upd H4 D (.lst (ys++[y])))
    else ∃ m',m'<m/\W (i+1) m' ys σ2 H3))
  (hR:∀ C D σ' H' s',s₂.heap.objs.size<=C->Inv (cW X cn scope ⟨C,s₂,H,fp,mT X scope C⟩) [] σ' H' s'->QQ D H'->RR (.ref D) C (.ok .next) s')
  (hE:∀ C D e s',Im X C e s'->RR (.ref D) C (.error e) s') :
  wpAny (model X.prog X.w) X.A (newList []) (fun acc s₃=>wpAny (model X.prog X.w) X.A (newFunctionEnv scope X.env.globals (fK X.env scope.names []) [] X.env.qual none .none (some X.env)) (fun cenv s₄ =>
   codeAny (model X.prog X.w) X.A (.compStart (.ListComp elt [⟨tg,iter,ifs,0⟩] scope pos) 0 (.ref it) acc { cenv with scope:=relabel scope X.env }) (RR acc cenv.locals) s₄) EE s₃) EE s₂:=by
 refine wpAny_newObj_type (wpAny_newFunctionEnv F.MN (by intro y hy;simp at hy) (fun h₁ hns₁ hsb₁=>?_) F.kind);dsimp only at hns₁ hsb₁ ⊢;generalize hH2:s₂.heap.push { cls:=.type "list",dict:=none,data:=.seq ([]:List Value).toArray } = H2 at hns₁ hsb₁ ⊢;have hC:H2.objs.size=s₂.heap.objs.size+1:=by rw[<-hH2,Heap.size_push]
 have hDC:s₂.heap.objs.size≠H2.objs.size:=by omega
 have hCle:s₂.heap.objs.size<=H2.objs.size:=by omega
 have hfl:∀ b∈fp,b<s₂.heap.objs.size:=fun b hb=>by
  obtain⟨o,e,_⟩:=T.obj 0 _ st b hb;exact W' e
 have W3:∀ b o,s₂.heap.get? b=some o->H2.get? b=some o:=fun b o e=>hH2 ▸ P' _ e;have old:∀ b o,s₂.heap.get? b=some o->h₁.get? b=some o:=fun b o e=>by
  have hb:=W' e;refine hsb₁.extBut b o (Zn' (Za' hb hCle)) (P' _ (W3 b o e))
 have hacc:h₁.get? s₂.heap.objs.size=some { cls:=.type "list",data:=.seq ([]:List Value).toArray 0 } :=
  hsb₁.extBut _ _ hDC (P' _ (hH2 ▸ Zm' _ rfl))
 have I0:=Inv.block (cn:=cn) (xe:=mT X scope H2.objs.size) (tk:=s₂.toks+([]:List (Str×Value)).length) I F hcalm hf hfl hCle (R' _) hDC hns₁ old hacc;have th:=W2 _ hCle;obtain⟨W,⟨m0,w0⟩,turn⟩:=h s₂.heap.objs.size ⟨H2.objs.size,s₂,H,fp,mT X scope H2.objs.size⟩ (I.hok.fresh (R' _));have W4:∀{H':Hp},(∀ b∈fp,H' b=none)->∀ b∈fp,jV (cW X cn scope ⟨H2.objs.size,s₂,H,fp,mT X scope H2.objs.size⟩) [] H' b:=fun {H'} hn b hb=>by
  refine⟨hn b hb,(I0.ok.SM b hb).1,I0.ok.HN b hb,.inl hb,(I0.ok.SM b hb).2,fun p hp=>S' (show p∈([]:List (Addr×Obj)) from hp) (by simp)⟩
 have Qx:(cW X cn scope ⟨H2.objs.size,s₂,H,fp,mT X scope H2.objs.size⟩).calm=true:=hcalm;have loop:∀ s₃:Shared,s₃ = { s₂ with heap:=h₁,toks:=s₂.toks+([]:List (Str×Value)).length } ->
   codeAny (model X.prog X.w) X.A (.compLoop (.ListComp elt [⟨tg,iter,ifs,0⟩] scope pos) 0 (.ref it) (.ref s₂.heap.objs.size) (compEnvC scope (fK X.env scope.names []) H2.objs.size X.env))
    (RR (.ref s₂.heap.objs.size) H2.objs.size) s₃:=by
  rintro s₃ rfl;have VY:∀ e s',(cW X cn scope ⟨H2.objs.size,s₂,H,fp,mT X scope H2.objs.size⟩).xe e s' ->
    notedBy (model X.prog X.w) X.A (compEnvC scope (fK X.env scope.names []) H2.objs.size X.env) (fun e s'=>RR (.ref s₂.heap.objs.size) H2.objs.size (.error e) s') e s':=fun e s' z =>
   wpAny_mono (show notedBy (model X.prog X.w) X.A (compEnvC scope (fK X.env scope.names []) H2.objs.size X.env) (Im X H2.objs.size) e s' from z) (fun _ _ q=>hE _ _ _ _ q) fun _ _ q=>hE _ _ _ _ q
  refine Lf (env:=compEnvC scope (fK X.env scope.names []) H2.objs.size X.env)
   (fun n s'=>∃ i ys σ' H',Inv (cW X cn scope ⟨H2.objs.size,s₂,H,fp,mT X scope H2.objs.size⟩) [] σ' H' s'/\tn i s'.heap/\(∀ b∈fp,H' b=none)/\W i n ys σ' H') ?_ m0
   ⟨0,[],_,_,I0,T.keep _ _ _ st fun b _ o e=>old b o e,fun b hb=>?_,w0⟩
  ·rintro n s' ⟨i,ys,σ',H',I',st',fr',w'⟩;rcases turn i n ys σ' H' w' with ⟨stop,qn⟩|⟨go,step⟩
   ·refine wpAny_mono (T.done (cW X cn scope ⟨H2.objs.size,s₂,H,fp,mT X scope H2.objs.size⟩) rfl rfl rfl Qx i [] s' σ' H' (fun _ _=>False) I' (W4 fr') st' stop) (fun r s4 ⟨hr,I4⟩=>?_) fun _ _ z=>z.elim;exact .inl ⟨hr,hR _ _ _ _ _ hCle I4 qn⟩
   ·refine wpAny_mono (T.item (cW X cn scope ⟨H2.objs.size,s₂,H,fp,mT X scope H2.objs.size⟩) rfl rfl rfl Qx i [] s' σ' H' (fun _ _=>False) I' (W4 fr') st' go) (fun r s4 ⟨u,hr,h4⟩=>?_) fun _ _ z=>z.elim;refine .inr ⟨u,hr,wpAny_mono h4 (fun _ s5 ⟨x,H5,I5,r5,y5,OQ,WC⟩=>?_) fun _ _ z=>z.elim⟩;have WE:=I5.pinned (W4 WC) (T.obj _ _ OQ);refine wpAny_mono (hg _ th _ s5 σ' H5 x u _ WE r5 (step x H5 y5)) (fun _ s6 ⟨σ6,H6,I6,q6⟩=>?_) VY;refine wpAny_mono (ht _ th _ s6 σ6 H6 _ I6 q6) (fun ok s7 ⟨H7,I7,q7⟩=>?_) VY;have back:∀{σ8:St} {H8:Hp} {s8:Shared},Inv (cW X cn scope ⟨H2.objs.size,s₂,H,fp,mT X scope H2.objs.size⟩) ([]++zK fp s5.heap) σ8 H8 s8->tn (i+1) s8.heap/\∀ b∈fp,H8 b=none:=fun {σ8 H8 s8} I8=>by
     refine⟨T.keep _ _ _ OQ fun b hb o e=>(I8.pin (b,o) (Zi' _ (Zi' _ (oa hb e)))).1,fun b hb=>?_⟩;obtain⟨o,e,d⟩:=T.obj _ _ OQ b hb;exact(I8.pin (b,o) (Zi' _ (Zi' _ (oa hb e)))).2.1
    cases ok with
    |false =>
     rw[T' j']at q7 ⊢;obtain⟨m',hm,w7⟩:=q7;obtain⟨t8,f8⟩:=back I7;exact⟨m',hm,i+1,ys,σ6,H7,I7.pK,t8,f8,w7⟩
    |true =>
     rw[X' rfl]at q7 ⊢;refine wpAny_mono (he _ th _ s7 σ6 H7 _ I7 q7) (fun v s8 ⟨y,H8,I8,r8,hl,hz,m',hm,w8⟩=>?_) VY;refine wpAny_mono (bK (X:=cW X cn scope ⟨H2.objs.size,s₂,H,fp,mT X scope H2.objs.size⟩) _ s8 σ6 H8 (.ref s₂.heap.objs.size) [y] (.ref s₂.heap.objs.size) [v] (fun _ H9=>W (i+1) m' (ys++[y]) σ6 H9) I8 rfl (.cons r8 .nil) ⟨_,ys,y,rfl,rfl,hl,hz,w8⟩)
      (fun _ s9 ⟨_,H9,I9,_,w9⟩=>?_) VY
     obtain⟨t9,f9⟩:=back I9;exact⟨m',hm,i+1,_,σ6,H9,I9.pK,t9,f9,w9⟩
  ·rw[ak (Zn' (hfl b hb))];exact(hf b hb).1
 exact codeAny_compStart_list (loop _ rfl) (T.self _ 0 _ _ _ (T.keep _ _ _ st fun b _ o e=>old b o e) (loop _ rfl))
theorem MP (hcalm:X.calm=true)(F:cY X.env.scope X.N scope)(hi:PI X tg iter wi)(hg:∀ b,TH b->PG (cW X cn scope b) tg (g b))(ht:∀ b,TH b->PF (cW X cn scope b) ifs (tc b))
  (he:∀ b,TH b->PE (cW X cn scope b) elt (te b))
  (W2:∀ pins σ H s₂ fp C,Inv X pins σ H s₂->(∀ b∈fp,jV X pins H b)->s₂.heap.objs.size<=C->TH ⟨C,s₂,H,fp,mT X scope C⟩)
  (hs:∀ x,foldedSetIterable iter X.env x=pure x:=by intro _;rfl):PE X (.ListComp elt [⟨tg,iter,ifs,0⟩] scope pos) (MO cn.length wi g tc te):=by
 intro pins s σ H Q I h;rw[eval_ListComp];have hcl:closureFor scope X.env=pure (fK X.env scope.names []):=JO fun p hp e=>I.ok.has p.1 (F.free p hp e);refine wpAny_comprehension_free (use:=none) rfl hs hcl F.kind F.loc (cu (hi pins s σ H _ I h) fun xv s₁ h₁=>cu h₁ fun itv s₂ h₂=>?_);obtain⟨it,fp,tn,J,H2,rfl,I2,T,st,f2,R⟩:=h₂;refine FK (QQ:=fun D H'=>Q (.ref D) H') (RR:=fun acc C=>compPost (model X.prog X.w) X.A X.xe none (EP X pins σ Q) acc C) hcalm F hg ht he (fun C hC=>W2 pins σ H2 s₂ fp C I2 f2 hC) I2 T st f2 R ?_ ?_
 ·intro C D σ' H' s' hC I' q;obtain⟨m,hm,_⟩:=I'.loc;exact⟨m,hm,fun h' sb=>⟨.ref D,H',I2.JQ f2 hC I' sb,rfl,q⟩⟩
 ·intro C D e s' z;exact z
theorem iq (hcalm:X.calm=true)(F:cY X.env.scope X.N scope)(hi:PI X tg iter wi)(hg:∀ b,PG (cW X cn scope b) tg (g b))(ht:∀ b,PF (cW X cn scope b) ifs (tc b))(he:∀ b,PE (cW X cn scope b) elt (te b))
  (hs:∀ x,foldedSetIterable iter X.env x=pure x:=by intro _;rfl):PE X (.ListComp elt [⟨tg,iter,ifs,0⟩] scope pos) (MO cn.length wi g tc te) :=
 MP (TH:=fun _=>True) hcalm F hi (fun b _=>hg b) (fun b _=>ht b) (fun b _=>he b) (fun _ _ _ _ _ _ _ _ _=>trivial) hs
end
end L2
namespace L2
open PySem PySem.Spec PyProof.Rows
section
variable {X:Cx} {e:Expr} {es:List Expr} {te:TE} {pos:Pos}
abbrev Ub:=St->Hp->(Str->Hp->Prop)->Prop
abbrev Rq:=Str->St->Hp->(Str->Hp->Prop)->Prop
def W5 (X:Cx)(pins:List (Addr×Obj))(σ:St)(Q:Str->Hp->Prop)(u:Value)(s':Shared):Prop:=∃ y t H',u=.str y t/\Inv X pins σ H' s'/\Q y H'
def PP (X:Cx)(e:Expr)(t:Ub):Prop :=
 ∀(pins:List (Addr×Obj)) (s:Shared) (σ:St) (H:Hp) (Q:Str->Hp->Prop),Inv X pins σ H s->t σ H Q->wpAny (model X.prog X.w) X.A (eval e X.env) (W5 X pins σ Q) X.xe s
def VZ (X:Cx)(es:List Expr)(t:Rq):Prop :=
 ∀(pins:List (Addr×Obj)) (s:Shared) (σ:St) (H:Hp) (acc:Str) (Q:Str->Hp->Prop),Inv X pins σ H s->t acc σ H Q ->
  Joins (model X.prog X.w) X.A X.xe (evalEach es X.env) acc (fun out s₁=>∃ H',Inv X pins σ H' s₁/\Q out H') s
noncomputable def ZJ (x:Str):Ub:=fun _ H Q=>Q x H
def ZK (te:TE):Ub:=fun σ H Q=>te σ H fun v H1=>(∃ z,v=.str z/\z.length<=sizeLine/\Q z H1)\/∃ i:Int,v=.int i/\i.natAbs.log2<1920/\Q (toString i) H1
theorem pP {x j}:PP X (.Constant (.str x) j pos) (ZJ x):=fun _ _ _ H _ I h=>Calls.Constant_str ⟨x,_,H,rfl,I.tok _,h⟩
theorem sd (he:PE X e te):PP X (.FormattedValue e (-1) none pos) (ZK te):=by
 intro pins s σ H Q I h;refine FormattedValue_plain (cu (he pins s σ H _ I h) fun v s1 fS=>?_);obtain⟨x,H1,I1,r1,q1⟩:=fS;rcases q1 with ⟨z,rfl,hz,q⟩|⟨i,rfl,hi,q⟩
 ·obtain⟨t,rfl⟩:=r1;exact formatField_str (fun t' tk=>⟨z,t',H1,rfl,I1.tok _,q⟩) hz
 ·obtain⟨t,rfl⟩:=r1;exact formatField_int_small hi ⟨_,_,H1,rfl,I1.tok _,q⟩
noncomputable def ZL:Rq:=fun acc _ H Q=>Q acc H
noncomputable def tJ (t:Ub)(u:Rq):Rq:=fun acc σ H Q=>t σ H fun y H1=>(acc++y).length<=sizeLine/\u (acc++y) σ H1 Q
theorem JR:VZ X [] ZL:=fun _ _ _ H _ _ I h=>⟨H,I,h⟩
theorem fB {t:Ub}{u:Rq}(h1:PP X e t)(h2:VZ X es u):VZ X (e::es) (tJ t u):=by
 intro pins s σ H acc Q I h;refine wpAny_mono (h1 pins s σ H _ I h) (fun v s1 q=>?_) fun _ _ z=>z;obtain⟨y,tk,H1,rfl,I1,hz,q⟩:=q;exact⟨y,tk,rfl,hz,h2 pins s1 σ H1 _ Q I1 q⟩
def tF (u:Rq):TE:=fun σ H Q=>u Str.empty σ H fun out H1=>out.length<=sizeLine/\Q (.str out) H1
theorem JS {e2:Expr}{u:Rq}(h:VZ X (e::e2::es) u):PE X (.JoinedStr (e::e2::es) pos) (tF u):=by
 intro pins s σ H Q I hw;refine wpAny_JoinedStr ?_;have mono:∀(l:List (Sem Value)) (acc:Str) (Q1 Q2:Str->Shared->Prop) (s:Shared),(∀ o s,Q1 o s->Q2 o s)->Joins (model X.prog X.w) X.A X.xe l acc Q1 s->Joins (model X.prog X.w) X.A X.xe l acc Q2 s:=by
  intro l
  induction l with
  |nil=>intro acc Q1 Q2 s hm h;exact hm _ _ h
  |cons a l ih =>
   intro acc Q1 Q2 s hm h;refine wpAny_mono h (fun v s1 q=>?_) fun _ _ z=>z;obtain⟨y,t,e1,hz,q⟩:=q;exact⟨y,t,e1,hz,ih _ _ _ _ hm q⟩
 refine mono _ _ _ _ _ (fun out s1 q=>?_) (h pins s σ H _ _ I hw);obtain⟨H1,I1,hz,q⟩:=q;exact⟨hz,.str out,H1,I1.tok _,⟨_,rfl⟩,q⟩
theorem d9:ik X (.type "int") (fun xs H Q=>∃ z n,xs=[.str z]/\PySem.intText? z=some n/\z.length<=640/\Q (.int n) H):=by
 intro pins s σ H xs us Q I r h;obtain⟨z,n,rfl,hn,hl,q⟩:=h;obtain⟨u,rfl,t,rfl⟩:=r.one;exact PySem.W.KIN.call_text hn hl ⟨.int n,H,I.tok _,⟨_,rfl⟩,q⟩
theorem zP {ys:List Str}:∀{us:List Value},Vals (ys.map V.str) us->StrsAre us ys:=by
 induction ys with
 |nil=>intro us r;rw[List.map_nil]at r;cases r;exact .nil
 |cons n ns ih =>
  intro us r;rw[map_cons]at r;cases r with
  |cons r1 r2 =>
   obtain⟨t,e⟩:=r1;subst e;exact .cons n t (ih r2)
def rJoin (K:Frag):V->List V->Hp->VK->Prop:=fun x vs H Q=>∃ sep a ys,x=.str sep/\vs=[.ref a]/\aM K H a (ys.map V.str)/\(ys.map (·.length)).sum+ys.length * sep.length<=16777216/\Q (.str (Str.join sep ys)) H
theorem JT:Rl X "str.join" (rJoin X.K):=by
 intro pins s σ H x vs v us Q I rx rv h;obtain⟨sep,a,ys,rfl,rfl,hq,hz,q⟩:=h;obtain⟨t,rfl⟩:=rx;obtain⟨u,rfl,rfl⟩:=rv.one;obtain⟨its,r,p,_⟩:=I.list hq;refine join_list p.isList (zP r) hz fun t' k=>⟨.str (Str.join sep ys),H,I.tok _,⟨t',?_⟩,q⟩;show Value.str (Builtin.Str.glued sep ys) t'=_;rw[StrLaws.glued_eq_join]
theorem rm:∀(tk:Nat)(ys:List Str),Vals (ys.map V.str) (strsFrom tk ys)
 |_,[]=>.nil
 |tk,y::r=>.cons ⟨tk,rfl⟩ (rm (tk+1) r)
def Rr:V->List V->Hp->VK->Prop:=fun x vs H Q=>∃ z y,x=.str z/\vs=[.str y]/\(y.length==0)=false/\z.length<=sizeLine/\(Txt.split z y).length<=sizeLine /\
 ∀ p,H p=none->Q (.ref p) (upd H p (.lst ((Txt.split z y).map V.str)))
theorem FL:Rl X "str.split" Rr:=by
 intro pins s σ H x vs v us Q I rx rv h;obtain⟨z,y,rfl,rfl,hy,hz,hn,q⟩:=h;obtain⟨t,rfl⟩:=rx;obtain⟨u,rfl,tu,rfl⟩:=rv.one;have lay:∀(ws:List Value)(tk:Nat),Vals ((Txt.split z y).map V.str) ws->EP X pins σ Q (.ref s.heap.objs.size) { s with heap:=s.heap.push { cls:=.type "list",data:=.seq ws.toArray },toks:=tk }:=by
  intro ws tk hv;refine⟨.ref s.heap.objs.size,_,I.Rm hv (by rw[L'];exact hn),rfl,q _ I.fresh⟩
 cases h1:(decide (z.length<y.length)||decide (Builtin.Str.strKind z<Builtin.Str.strKind y))
 ·cases hf:(Builtin.Str.occurrences z y 0 z.length (z.length+1)).isEmpty
  ·have es:Txt.split z y=Builtin.Str.partsBetween z (Builtin.Str.occurrences z y 0 z.length (z.length+1)) y.length:=(T' (ne_true_of_eq_false h1)).trans (T' (ne_true_of_eq_false hf));refine call_meets F.slot_str_split (typeIs_str _ _ _) F.entry_str_split (F.args_str_split_2 _ _) (meets_str_split_sep z y t tu h1 hy hf hz (by rw[<-es];exact hn)) ?_;rw[<-es];exact lay _ _ (rm _ _)
  ·have es:Txt.split z y=[z]:=(T' (ne_true_of_eq_false h1)).trans (X' hf);refine call_meets F.slot_str_split (typeIs_str _ _ _) F.entry_str_split (F.args_str_split_2 _ _) (meets_str_split_not_found z y t tu h1 hy hf) ?_;exact lay [.str z t] s.toks (by rw[es];exact .cons ⟨t,rfl⟩ .nil)
 ·have es:Txt.split z y=[z]:=X' h1;refine call_meets F.slot_str_split (typeIs_str _ _ _) F.entry_str_split (F.args_str_split_2 _ _) (meets_str_split_cannot_occur z y t tu h1) ?_;exact lay [.str z t] s.toks (by rw[es];exact .cons ⟨t,rfl⟩ .nil)
def W6:V->Option Int->Option Int->Hp->VK->Prop:=fun x lo hi H Q=>∃ z,x=.str z/\z.length<=sizeLine/\Q (.str (Txt.slice z lo hi)) H
theorem Cz {v:Value}{o:Option Int}(p:IsPart v o):∃ l:Option (Int×Tok),v=partValue l/\l.map (·.1)=o:=by
 cases p with
 |none=>exact⟨none,rfl,rfl⟩
 |int i t=>exact⟨some (i,t),rfl,rfl⟩
theorem gZ:Qp X W6:=by
 intro pins s σ H x v vl vu lo hi sl Q I rx hs pl pu h;obtain⟨z,rfl,hz,q⟩:=h;obtain⟨t,rfl⟩:=rx;obtain⟨l,rfl,el⟩:=Cz pl;obtain⟨u,rfl,eu⟩:=Cz pu;subst el eu;refine⟨"str",_,F.slot_str_getitem.lookup,typeIs_str _ _ _,?_⟩;obtain⟨o,ho,hc,hd⟩:=hs;refine wpAny_getItem_str_slice (l:=l) (u:=u) (st:=none) ⟨o,ho,hc,hd⟩ rfl ?_;exact post_val_or_str ⟨Zb' (Txt.slice_le z _ _) hz,fun t' k=>⟨.str _,H,I.tok _,⟨t',rfl⟩,q⟩⟩
noncomputable def SO (z:Str):It:=⟨fun i _=>i<z.cps.size,fun i H x H'=>H'=H/\∃ c,z.cps[i]? = some c/\x=.str ⟨#[c]⟩,fun i _=>z.cps.size<=i⟩
def W7 (tl:TE):TI:=fun σ H R=>tl σ H fun x H1=>∃ z,x=.str z/\R (SO z) H1
theorem FN {P:Program}{w:World}{K:Frag}{tg:Expr}{z:Str}{it:Addr}{T:String}{t:Tok}(hT:["enumerate","zip","dict_itemiterator","dict_reverseitemiterator","odict_iterator","itertools.zip_longest","itertools.pairwise"].contains T=false)
  (W:∀ A:Around,A.handled=none->Walks P w A it [it] [it] z.cps.size (SignAt z) (fun i h=>h.IsStrIter it T z t i)) 
  (S:∀(A:Around)(i:Nat)(s:Shared)(Q:Value->Shared->Prop)(E:Value->Shared->Prop),s.heap.IsStrIter it T z t i->Q (.ref it) s->wpAny (model P w) A (pyIter (.ref it)) Q E s) :
  Turn P w K tg (SO z) [it] it (fun i h=>h.IsStrIter it T z t i/\i<=z.cps.size) where
 mem:=by simp
 obj:=fun i h st b hb=>by
  have e:b=it:=by simpa using hb
  subst e;obtain⟨⟨o,e,c,d⟩,_⟩:=st;exact⟨o,e,fun v q=>by rw[d]at q;cases q⟩
 keep:=fun i h h' st k=>⟨by
  obtain⟨⟨o,e,c,d⟩,_⟩:=st;exact⟨o,k it (by simp) o e,c,d⟩,st.2⟩
 item:=by
  intro X hP hw hK hc i pins s σ H E I hf st hg;subst hP hw hK;obtain⟨f0,f1,f2,f3,f4,f5⟩:=hf it (by simp);have hgi:i<z.cps.size:=hg;refine(W X.A (I.ok.hd hc)).item i s _ _ hgi st.1 fun v h' tk hv st' kk=>?_;obtain⟨c,u,hc',rfl⟩:=hv;have I1:Inv X pins σ H { s with heap:=h',toks:=tk }:=I.turned (fun b o hb e=>kk b o (by simpa using hb) e) f0 f1 f3 f4 f5;obtain⟨o,e,cc,d⟩:=id st';exact⟨_,rfl,JC (s:={ s with heap:=h',toks:=tk }) e cc d hT ⟨.str ⟨#[c]⟩,H,I1,⟨u,rfl⟩,⟨rfl,c,hc',rfl⟩,⟨st',hgi⟩,fun b hb=>(hf b hb).1⟩⟩
 done:=by
  intro X hP hw hK hc i pins s σ H E I hf st hg;subst hP hw hK;obtain⟨f0,f1,f2,f3,f4,f5⟩:=hf it (by simp);have hge:z.cps.size<=i:=hg;have e:i=z.cps.size:=Nat.le_antisymm st.2 hge;subst e;exact(W X.A (I.ok.hd hc)).done s _ _ st.1 fun h' tk kk=>⟨rfl,I.turned (fun b o hb e=>kk b o (by simpa using hb) e) f0 f1 f3 f4 f5⟩
 self:=fun A i s Q E st h=>S A i s Q E st.1 h
theorem Io {tg l:Expr}{tl:TE}(hl:PE X l tl):PI X tg l (W7 tl):=by
 intro pins s σ H R I h;refine cu (hl pins s σ H _ I h) fun v s1 fS=>?_;obtain⟨x,H1,I1,r1,q1⟩:=fS;obtain⟨z,rfl,q⟩:=q1;obtain⟨t,rfl⟩:=r1;have fp:∀ b∈[s1.heap.objs.size],jV X pins H1 b:=fun b hb=>by
  have e:b=s1.heap.objs.size:=by simpa using hb
  subst e;exact I1.Ec (R' _) (I1.hok.fresh (R' _))
 cases ha:z.cps.all (· < 128)
 ·refine wpAny_pyIter_wide ha ?_;refine⟨s1.heap.objs.size,[s1.heap.objs.size],_,_,H1,rfl,I1.kept (t':=s1.toks) fun b o e=>P' _ e,FN (T:="str_iterator") (t:=t) (by decide) (fun A hA=>Walks.strWide hA _ z t)
   (fun A i s Q E st hq=>wpAny_pyIter_striter_wide st hq),⟨⟨_,Zm' _ rfl,rfl,rfl⟩,Zq' _⟩,fp,q⟩
 ·refine wpAny_pyIter_ascii ha ?_;refine⟨s1.heap.objs.size,[s1.heap.objs.size],_,_,H1,rfl,I1.kept (t':=s1.toks) fun b o e=>P' _ e,FN (T:="str_ascii_iterator") (t:=t) (by decide) (fun A hA=>Walks.strAscii hA _ z t)
   (fun A i s Q E st hq=>wpAny_pyIter_striter_ascii st hq),⟨⟨_,Zm' _ rfl,rfl,rfl⟩,Zq' _⟩,fp,q⟩
theorem any_range:∀ bs:List Bool,(List.range bs.length).any (fun i=>bs.getD i false)=bs.any id
 |[]=>rfl
 |b::bs=>by
  rw[Ya',List.range_succ_eq_map,List.any_cons,List.any_map,List.any_cons];have:((fun i=>(b::bs).getD i false) ∘ Nat.succ)=fun i=>bs.getD i false:=by
   funext i
   rfl
  rw[this,any_range bs];rfl
theorem zQ:ik X (.builtin "any") (fun xs H Q=>X.calm=true/\∃(a:Addr)(bs:List Bool),xs=[.ref a]/\aM X.K H a (bs.map V.bl)/\Q (.bl (bs.any id)) H):=by
 intro pins s σ H xs us Q I r h;obtain⟨hc,a,bs,rfl,hq,q⟩:=h;obtain⟨u,rfl,rfl⟩:=r.one;obtain⟨its,rv,p,hz⟩:=I.list hq;have hl:=rv.length;rw[L']at hl;have Rt:∀(i:Nat)(v:Value),its.toArray[i]? = some v->v=Value.bool (bs.getD i false):=by
  intro i v hv;have hv':its[i]? = some v:=by simpa using hv
  have hi:i<its.length:=(K'.mp hv').1;have hb:i<bs.length:=by omega
  obtain⟨u,hu,ru⟩:=rv.get (i:=i) (x:=.bl (bs[i])) (by rw[Zd',N' hb];rfl);rw[hv']at hu;cases hu;have:v=.bool bs[i]:=ru;rw[this,List.getD_eq_getElem?_getD,N' hb];rfl
 refine call_any_walk (wpAny_pyIter_list p.isList ?_);have W8:a≠s.heap.objs.size:=by
  obtain⟨o,ho,_⟩:=p.isList;exact Zn' (W' ho)
 have hd:X.A.in1.handled=none:=I.ok.hd hc;refine⟨s.heap.objs.size,_,_,_,_,_,fun i=>bs.getD i false,rfl,Walks.list hd s.heap.objs.size a W8 its.toArray,⟨⟨_,Zm' _ rfl,rfl,rfl⟩,p.isList.push _⟩,?_,?_⟩
 ·intro i v s' Q' E' hP hQ';rw[Rt i v hP];exact wpAny_truthy_bool hQ'
 ·intro h' tk kk;have e:(List.range its.toArray.size).any (fun i=>bs.getD i false)=bs.any id:=by
   rw[Ze',<-hl];exact any_range bs
  rw[e];refine⟨.bl _,H,I.kept (t':=tk) fun b o e=>kk b o (fun z=>?_) (P' _ e),rfl,q⟩;have:b=s.heap.objs.size:=by simpa using z
  exact S' (W' e) (by rw[this];exact Nat.lt_irrefl _)
end
end L2
namespace L2
open PySem PySem.Spec PyProof.Rows PySem.SeqAt
inductive Ml (K:Frag)(H:Hp):Nat->V->V->Prop where
 |flat {n:Nat} {x:V} (f:rj x=true):Ml K H n x x
 |tup {n:Nat} {a b:Addr} {xs ys:List V} (ha:jf K H a xs) (hb:jf K H b ys) (hl:xs.length=ys.length) (h:∀(i:Nat) x y,xs[i]? = some x->ys[i]? = some y->Ml K H n x y):Ml K H (n+1) (.ref a) (.ref b)
 |lst {n:Nat} {a b:Addr} {xs ys:List V} (ha:aM K H a xs) (hb:aM K H b ys) (hl:xs.length=ys.length) (h:∀(i:Nat) x y,xs[i]? = some x->ys[i]? = some y->Ml K H n x y):Ml K H (n+1) (.ref a) (.ref b)
section
variable {X:Cx} {pins:List (Addr×Obj)} {σ:St} {H:Hp} {s:Shared}
theorem MQ:∀{x:V},rj x=true->JL x x=true:=by
 intro x f;cases x <;> first|(simp[JL];done)|(cases f)
theorem pQ (n:Nat):(List.range n).all (fun _=>true)=true:=by simp
theorem Ml.at {n:Nat}{x y:V}(d:Ml X.K H n x y)(I:Inv X pins σ H s):∀{A:Around} {u v:Value},A.units+n<cLine->RelV x u->RelV y v ->
  EqAt A s u v true/\(∀ a b,x=.ref a->y=.ref b->RcAt A s u v true/\RcNeAt A s u v false):=by
 induction d with
 | @flat n x f =>
  intro A u v hu ru rv;refine⟨?_,fun a b e _=>?_⟩
  ·have:=ME (A:=A) (s:=s) ru rv f f;rw[MQ f]at this;exact this
  ·subst e;cases f
 | @tup n a b xs ys ha hb hl h ih =>
  intro A u v hu ru rv;cases ru;cases rv;obtain⟨its,r,p,_⟩:=I.tuple ha;obtain⟨its',r',p',_⟩:=I.tuple hb;have e1:=r.length;have e2:=r'.length;have he:∀ j (h1:j<its.toArray.size) (h2:j<its'.toArray.size),EqAt A.in1 s its.toArray[j] its'.toArray[j] true:=by
   intro j h1 h2;have h1':j<its.length:=by simpa using h1
   have h2':j<its'.length:=by simpa using h2
   have g1:xs[j]? = some xs[j]:=N' (by omega);have g2:ys[j]? = some ys[j]:=N' (by omega);obtain⟨u1,q1,k1⟩:=r.get g1;obtain⟨u2,q2,k2⟩:=r'.get g2;have z1:its.toArray[j]=u1:=by
    rw[N' h1']at q1
    simpa using q1
   have z2:its'.toArray[j]=u2:=by
    rw[N' h2']at q2
    simpa using q2
   rw[z1,z2];exact(ih j _ _ g1 g2 (by show A.units+1+n<cLine;omega) k1 k2).1
  have bt:((List.range (min its.toArray.size its'.toArray.size)).all (fun _=>true)&&its.toArray.size==its'.toArray.size)=true:=by
   rw[pQ];simp;omega
  have rc:RcAt A s (.ref a) (.ref b) true:=by
   have:=RcAt.tuples (A:=A) (e:=fun _=>true) (show s.heap.IsTuple a its.toArray from p) (show s.heap.IsTuple b its'.toArray from p') (by omega) he;rw[bt]at this;exact this
  have rn:RcNeAt A s (.ref a) (.ref b) false:=by
   have:=RcNeAt.tuples (A:=A) (e:=fun _=>true) (show s.heap.IsTuple a its.toArray from p) (show s.heap.IsTuple b its'.toArray from p') (by omega) he;rw[bt]at this;exact this
  refine⟨?_,fun _ _ _ _=>⟨rc,rn⟩⟩
  by_cases e:a=b
  ·subst e;exact EqAt.same _
  ·exact EqAt.of_refs e rc
 | @lst n a b xs ys ha hb hl h ih =>
  intro A u v hu ru rv;cases ru;cases rv;obtain⟨its,r,p,_⟩:=I.list ha;obtain⟨its',r',p',_⟩:=I.list hb;have e1:=r.length;have e2:=r'.length;have he:∀ j (h1:j<its.toArray.size) (h2:j<its'.toArray.size),EqAt A.in1 s its.toArray[j] its'.toArray[j] true:=by
   intro j h1 h2;have h1':j<its.length:=by simpa using h1
   have h2':j<its'.length:=by simpa using h2
   have g1:xs[j]? = some xs[j]:=N' (by omega);have g2:ys[j]? = some ys[j]:=N' (by omega);obtain⟨u1,q1,k1⟩:=r.get g1;obtain⟨u2,q2,k2⟩:=r'.get g2;have z1:its.toArray[j]=u1:=by
    rw[N' h1']at q1
    simpa using q1
   have z2:its'.toArray[j]=u2:=by
    rw[N' h2']at q2
    simpa using q2
   rw[z1,z2];exact(ih j _ _ g1 g2 (by show A.units+1+n<cLine;omega) k1 k2).1
  have bt:(List.range its.toArray.size).all (fun _=>true)=true:=pQ _;have rc:RcAt A s (.ref a) (.ref b) true:=by
   have:=RcAt.lists (A:=A) (e:=fun _=>true) p.isList p'.isList (by simp;omega) (by omega) he;rw[bt]at this;exact this
  have rn:RcNeAt A s (.ref a) (.ref b) false:=by
   have:=RcNeAt.lists (A:=A) (e:=fun _=>true) p.isList p'.isList (by simp;omega) (by omega) he;rw[bt]at this;exact this
  refine⟨?_,fun _ _ _ _=>⟨rc,rn⟩⟩
  by_cases e:a=b
  ·subst e;exact EqAt.same _
  ·exact EqAt.of_refs e rc
inductive Qy (K:Frag)(b:Bool)(x:V)(y:V)(H:Hp)(Q:VK):Prop
 |mk (a:_) (c:_) (cT:x=.ref a) (cU:y=.ref c) (dH:Ml K H 60 x y/\Q (.bl b) H):Qy K b x y H Q
def Uc (K:Frag)(b:Bool):R2:=fun x y H Q=>Qy K b x y H Q
theorem aK (hu:X.A.units+64<cLine):mP X (compareOp .Eq) (Uc X.K true):=by
 intro pins s σ H x y v u Q I r1 r2 h;obtain⟨a,c,rfl,rfl,d,q⟩:=h;exact(((d.at I (A:=X.A) (by omega) r1 r2).2 a c rfl rfl).1) X.prog X.w X.xe _ ⟨.bl true,H,I,rfl,q⟩
theorem eF (hu:X.A.units+64<cLine):mP X (compareOp .NotEq) (Uc X.K false):=by
 intro pins s σ H x y v u Q I r1 r2 h;obtain⟨a,c,rfl,rfl,d,q⟩:=h;exact(((d.at I (A:=X.A) (by omega) r1 r2).2 a c rfl rfl).2) X.prog X.w X.xe _ ⟨.bl false,H,I,rfl,q⟩
theorem c9:ik X (.builtin "isinstance") (fun xs H Q=>∃ x T t b,xs=[x,.ty T]/\fu X.K H x t/\kitOne X.K t (.type T)=some b/\Q (.bl b) H):=by
 intro pins s σ H xs us Q I r h;obtain⟨x,T,t,b,rfl,ty,e,q⟩:=h;obtain⟨u,v,rfl,r1,r2⟩:=r.two;cases r2;exact K7 I r1 ty e fun tk=>⟨.bl b,H,I.tok _,rfl,q⟩
noncomputable def Ud (K:Frag)(a:Addr):It :=
 ⟨fun i H=>∃ xs x,aM K H a xs/\xs[i]? = some x,fun i H x H'=>∃ y t,x=.ref t/\H t=none/\(∀ xs,aM K H a xs->xs[i]? = some y)/\H'=upd H t (.tup [.int i,y]),fun i H=>∃ xs,aM K H a xs/\xs.length<=i⟩
noncomputable def Ue (K:Frag)(a b:Addr):It :=
 ⟨fun i H=>∃ xs ys x y,aM K H a xs/\aM K H b ys/\xs[i]? = some x/\ys[i]? = some y,
  fun i H p H'=>∃ x y t,p=.ref t/\H t=none/\(∀ xs,aM K H a xs->xs[i]? = some x)/\(∀ ys,aM K H b ys->ys[i]? = some y)/\H'=upd H t (.tup [x,y]),
  fun i H=>∃ xs ys,aM K H a xs/\aM K H b ys/\min xs.length ys.length=i⟩
theorem cF {a:Addr}{K:Frag}{X:Cx}{pins:List (Addr×Obj)}{σ:St}{H:Hp}{s:Shared}{xs:List V}{b:Addr}{o:Obj}(I:Inv X pins σ H s)(hq:aM X.K H a xs)(e:s.heap.get? b=some o)(hc:o.cls≠.type "list"):a≠b:=by
 rintro rfl;obtain⟨its,_,p,_⟩:=I.list hq;obtain⟨o',e',c',_⟩:=p.isList;rw[e]at e';cases e';exact hc c'
theorem Inv.FO {tk:Nat}{h':Heap}{wr:List Addr}{T:Addr}{xs:List V}{vals:List Value}(I:Inv X pins σ H s)(hw:∀ b∈wr,jV X pins H b)(hT:s.heap.objs.size<=T)(ht:h'.IsTuple T vals.toArray)(rv:Vals xs vals)(hz:xs.length<=sizeLine)
  (kk:∀ b o,b ∉ wr->s.heap.get? b=some o->h'.get? b=some o) (there:∀ b∈wr,∃ o,h'.get? b=some o):Inv X pins σ (upd H T (.tup xs)) { s with heap:=h',toks:=tk }:=by
 have MR:H T=none:=I.hok.fresh hT;have nT:∀ b o,s.heap.get? b=some o->b≠T:=fun b o e=>Zn' (Za' (W' e) hT);refine I.step (g':=s.gens) (d':=s.drawn) (ch:=wr) (fun b hb=>?_) (fun b o _ _ hc e _=>kk b o hc e) (fun b o _ _ hc e _=>⟨o.slots,kk b o hc e⟩) (fun b o _ e n=>by rw[ak (nT b o e)];exact n)
  (fun b o hc e=>⟨o,kk b o hc e⟩) (fun b ys e=>by rw[ak (au e MR)];exact e) (fun b o u e=>by rw[ak (au e MR)];exact e) (fun b ps e=>⟨#[],by rw[ak (au e MR),e];simp⟩) (fun m hm=>?_) (fun b u e=>?_) I.bare
 ·obtain⟨_,f1,_,f3,f4,f5⟩:=hw b hb;exact⟨f3,f1,f4,f5⟩
 ·obtain⟨o,es,ep,ho,r⟩:=hm;exact⟨o,es,ep,kk _ o (fun z=>(hw _ z).2.1 rfl) ho,r⟩
 ·by_cases hb:b=T
  ·subst hb;rw[af]at e;cases e;exact⟨hz,vals,rv,ht⟩
  ·rw[ak hb]at e;refine(I.hok b u e).stay (fun c v hc q=>kk c v (fun z=>?_) q) (fun c q=>by rw[ak (au q MR)];exact q) fun c ys q=>by rw[ak (au q MR)];exact q
   have hn:=(hw c z).1;rcases hc with hc|hc
   ·rw[hc,e]at hn;cases hn
   ·rw[hc]at hn;cases hn
theorem Inv.g6 {tk:Nat}{h':Heap}{wr:List Addr}(I:Inv X pins σ H s)(hw:∀ b∈wr,jV X pins H b)(kk:∀ b o,b ∉ wr->s.heap.get? b=some o->h'.get? b=some o):Inv X pins σ H { s with heap:=h',toks:=tk }:=by
 refine I.step (g':=s.gens) (d':=s.drawn) (ch:=wr) (fun b hb=>?_) (fun b o _ _ hc e _=>kk b o hc e) (fun b o _ _ hc e _=>⟨o.slots,kk b o hc e⟩) (fun b o _ e n=>n)
  (fun b o hc e=>⟨o,kk b o hc e⟩) (fun b ys e=>e) (fun b o u e=>e) (fun b ps e=>⟨#[],by rw[e];simp⟩) (fun m hm=>?_) (fun b u e=>?_) I.bare
 ·obtain⟨_,f1,_,f3,f4,f5⟩:=hw b hb;exact⟨f3,f1,f4,f5⟩
 ·obtain⟨o,es,ep,ho,r⟩:=hm;exact⟨o,es,ep,kk _ o (fun z=>(hw _ z).2.1 rfl) ho,r⟩
 ·refine(I.hok b u e).stay (fun c v hc q=>kk c v (fun z=>?_) q) (fun c q=>q) fun c ys q=>q;have hn:=(hw c z).1;rcases hc with hc|hc
  ·rw[hc,e]at hn;cases hn
  ·rw[hc]at hn;cases hn
end
end L2
namespace L2
open PySem PySem.Spec PyProof.Rows PySem.SeqAt
section
variable {X:Cx}
theorem az {k:Nat}{A:Around}(hr:fJ k A):A.units+64<cLine:=hr.units
theorem br:bootBuiltins "len"=some (.builtin "len"):=by lk
theorem Ru:bootBuiltins "min"=some (.builtin "min"):=by lk
theorem Rv:bootBuiltins "max"=some (.builtin "max"):=by lk
theorem tQ:bootBuiltins "enumerate"=some (.type "enumerate"):=by lk
theorem MS:bootBuiltins "zip"=some (.type "zip"):=by lk
theorem bf:bootBuiltins "isinstance"=some (.builtin "isinstance"):=by lk
theorem pR:bootBuiltins "int"=some (.type "int"):=by lk
theorem JU:bootBuiltins "bool"=some (.type "bool"):=by lk
theorem Rw:bootBuiltins "str"=some (.type "str"):=by lk
theorem eZ:bootBuiltins "list"=some (.type "list"):=by lk
theorem tR:bootBuiltins "tuple"=some (.type "tuple"):=by lk
theorem Ip:bootBuiltins "any"=some (.builtin "any"):=by lk
theorem Rx:bootBuiltins "all"=some (.builtin "all"):=by lk
theorem O7:bootBuiltins "dict"=some (.type "dict"):=by lk
end
end L2
namespace L2
open PySem PySem.Spec PyProof.Rows
end L2
namespace L2
open PySem
theorem fM {K:Frag}{H:Hp}{a l:Addr}{o:HO}{xs:List V}(h:aM K H a xs)(hn:H l=none):aM K (upd H l o) a xs:=by
 have ne:∀{u},H a=some u->a≠l:=fun e=>au e hn;rcases h with (h|⟨u,h⟩)|h
 ·exact .inl (.inl (by rw[ak (ne h)];exact h))
 ·exact .inl (.inr ⟨u,by rw[ak (ne h)];exact h⟩)
 ·exact .inr h
theorem ao.upd {H:Hp}{l:Addr}{o:HO}(hn:H l=none):ao H (upd H l o):=fun b u e=>by
 rw[ak (au e hn)];exact e
end L2
namespace L2
theorem aJ {X:Cx}{b:List PySem.Stmt}{t:TS}{D:Ends}{σ:St}{H:Hp}(h:zy X b t)(q:t D σ H):∃ t,zy X b t/\t D σ H:=⟨t,h,q⟩
theorem eG (i j:Int):decide (V.int i=V.int j)=decide (i=j):=by
 by_cases h:i=j
 ·subst h;simp
 ·rw[J' h];exact J' fun e=>h (V.int.inj e)
end L2
namespace L2
open PySem
theorem Qz {X:Cx}:∀ cs:List (Str×Pos),PA X (cs.map fun c=>Expr.Constant (.str c.1) 0 c.2) (fun _ H Q=>Q (cs.map fun c=>V.str c.1) H)
 |[]=>ag
 |c::cs=>aa av (Qz cs)
end L2
namespace L2
open PySem
theorem FP {X:Cx}{i:Nat}{x:Str}{pos pos' p:Pos}(cs:List (Str×Pos))(hN:X.N.Nodup)(hi:X.N[i]? = some x)(hx:Loc X.env.scope x)(hf:X.fn x=true\/X.env.scope.names.lookup x=some .local:=by first|exact .inl rfl|exact .inr rfl|assumption) :
  PS X (.Assign [.Name x pos'] (.List (cs.map fun c=>Expr.Constant (.str c.1) 0 c.2) p) pos) (Mp (kW (fun _ H Q=>Q (cs.map fun c=>V.str c.1) H)) (xp i)):=pJ hN hi hx (a9 (Qz cs)) rfl hf
end L2
namespace L2
open PySem PySem.Spec PyProof.Rows
section
variable {X:Cx} {tg:Expr}
theorem mU {pins:List (Addr×Obj)}{σ:St}{H:Hp}{s:Shared}{a:Addr}{xs:List V}{i:Nat}{y:V}(I:Inv X pins σ H s)(hq:aM X.K H a xs)(hy:xs[i]? = some y):∀ ys,aM X.K H a ys->ys[i]? = some y:=fun ys h=>by
 rw[I.Fy h hq];exact hy
theorem Lg {P:Program}{w:World}{K:Frag}{es:List Expr}{k:Nat}{tp:Pos}(a e it:Addr)(hei:e≠it) :
  Turn P w K (.Tuple es k tp) (Ud K a) [e,it] e (fun i h=>(∃ old,IsEnum h e it i old)/\h.IsListIter it a i) where
 mem:=by simp
 obj:=fun i h st b hb=>by
  obtain⟨⟨old,he⟩,o,e2,c,d⟩:=st;rcases List.mem_cons.mp hb with rfl|hb
  ·exact⟨_,he,fun v z=>by
    have z':Data.fields _=Data.cell v:=z;cases z'⟩
  ·have:b=it:=by simpa using hb
   subst this;exact⟨o,e2,fun v z=>by rw[d]at z;cases z⟩
 keep:=fun i h h' st kp=>by
  obtain⟨⟨old,he⟩,hit⟩:=st;exact⟨⟨old,kp e (by simp) _ he⟩,hit.at fun o x=>kp it (by simp) o x⟩
 item:=by
  intro X hP hw hK hc i pins s σ H E I hf st hg;subst hP hw hK;obtain⟨xs,x,hq,hx⟩:=hg;obtain⟨its,rv,p,hz⟩:=I.list hq;obtain⟨u,hu,ru⟩:=rv.get hx;obtain⟨⟨old,he⟩,hit⟩:=st;have hle:a≠e:=cF (K:=X.K) I hq he (by intro z;injection z with z;exact S' z (by decide));have hli:a≠it:=by
   obtain⟨o,e2,c,_⟩:=hit;exact cF (K:=X.K) I hq e2 (by rw[c];intro z;injection z with z;exact S' z (by decide))
  have ZM:i<its.toArray.size:=by
   have:=(K'.mp hu).1
   simpa using this
  have W:=WalksT.enumerate (prog:=X.prog) (w:=X.w) (I.ok.hd hc) e it a hei hle hli its.toArray;refine W.item i s _ _ ZM ⟨⟨old,he⟩,hit,p.isList⟩ fun T vals h' tk hv hT ht mid kk=>?_;refine⟨_,rfl,?_⟩;obtain⟨t,x',hx',rfl⟩:=hv;have ex:x'=u:=by
   have:its[i]? = some x':=by simpa using hx'
   rw[hu]at this;exact(Z' this).symm
  subst ex;have fw:∀ b∈[e,it],jV X pins H b:=hf;have I1:Inv X pins σ (upd H T (.tup [.int i,x])) { s with heap:=h',toks:=tk }:=by
   refine I.FO (vals:=[.int i t,x']) fw hT (by simpa using ht) (.cons ⟨t,rfl⟩ (.cons ru .nil)) (by show 2<=sizeLine;decide) kk fun b hb=>?_;obtain⟨⟨xx,ho⟩,⟨o,e2,_⟩,_⟩:=mid;rcases List.mem_cons.mp hb with rfl|hb
   ·exact⟨_,ho⟩
   ·have:b=it:=by simpa using hb
    subst this;exact⟨o,e2⟩
  have MR:H T=none:=I.hok.fresh hT;have neT:∀ b∈[e,it],b≠T:=fun b hb z=>by
   subst z;exact W.apart i b _ mid hb
  refine W.go es k tp i T _ _ _ mid fun h'' st'' Ry=>?_;have hf2:∀ b∈[e,it],jV X pins (upd H T (.tup [.int i,x])) b:=fun b hb=>by
   obtain⟨f0,fr⟩:=hf b hb;exact⟨by rw[ak (neT b hb)];exact f0,fr⟩
  refine⟨.ref T,upd H T (.tup [.int i,x]),I1.g6 (tk:=tk) hf2 Ry,rfl,⟨x,T,rfl,MR,mU I hq hx,rfl⟩,⟨st''.1,st''.2.1⟩,fun b hb=>(hf2 b hb).1⟩
 done:=by
  intro X hP hw hK hc i pins s σ H E I hf st hg;subst hP hw hK;obtain⟨xs,hq,hx⟩:=hg;obtain⟨its,rv,p,hz⟩:=I.list hq;obtain⟨⟨old,he⟩,hit⟩:=st;have hl:=rv.length;refine wpAny_pyNext_enum_end (I.ok.hd hc) he hit p.isList (Array.getElem?_eq_none (by simp;omega)) fun h' hx'=>?_;exact⟨rfl,I.g6 (tk:=s.toks) hf fun b o hb q=>hx' b o (fun z=>hb (by simp[z])) q⟩
 self:=fun _ _ _ _ _ st h=>by
  obtain⟨⟨old,he⟩,_⟩:=st;exact wpAny_pyIter_enum he h
theorem Rz {l:Expr}{tl:TE}(hl:PE X l tl)(hs:starEach [l] X.env=[(false,eval l X.env)])(pos:Pos)(pins:List (Addr×Obj))(s:Shared)(σ:St)(H:Hp){Q:VK}(I:Inv X pins σ H s)(h:tl σ H Q) :
  wpAny (model X.prog X.w) X.A (spliced (backTo pos (starEach [l] X.env))) (fun us s1=>∃ v u H1,Inv X pins σ H1 s1/\us=[u]/\RelV v u/\Q v H1) X.xe s:=by
 have ha:PA X [l] (fun σ H Q=>tl σ H fun x H1=>Q [x] H1):=aa hl ag hs;have mono:wpAny (model X.prog X.w) X.A (spliced (backTo pos (starEach [l] X.env))) (AP X pins σ fun vs H1=>∃ v,vs=[v]/\Q v H1) X.xe s:=by
  have he:PE X l (fun σ' H' Q'=>σ'=σ/\H'=H/\∀ v H1,Q v H1->Q' v H1):=by
   intro pins s σ' H' Q' I' hw;obtain⟨rfl,rfl,hm⟩:=hw;exact cu (hl pins s σ' H' Q I' h) fun u s1 ⟨v,H1,I1,r,q⟩=>⟨v,H1,I1,r,hm v H1 q⟩
  exact aa he ag hs pos pins s σ H _ I ⟨rfl,rfl,fun v H1 q=>⟨v,rfl,q⟩⟩
 refine cu mono fun us s1 fS=>?_;obtain⟨vs,H1,I1,r,v,e,q⟩:=fS;subst e;obtain⟨u,rfl,ru⟩:=r.one;exact⟨v,u,H1,I1,rfl,ru,q⟩
inductive MT (K:Frag)(R:(It->Hp->Prop))(x:V)(H1:Hp):Prop
 |mk (a:_) (cT:x=.ref a) (cU:(∃ xs,aM K H1 a xs)/\R (Ud K a) H1):MT K R x H1
def Ug (K:Frag)(tl:TE):TI:=fun σ H R=>tl σ H fun x H1=>MT K R x H1
theorem El {l:Expr}{tl:TE}{p pos tp:Pos}{es:List Expr}{k:Nat}(hg:Gl X "enumerate")(hm:X.mg "enumerate"=none)(hl:PE X l tl)(hs:starEach [l] X.env=[(false,eval l X.env)]:=by rfl) :
  PI X (.Tuple es k tp) (.Call (.Name "enumerate" p) [l] [] pos) (Ug X.K tl):=by
 intro pins s σ H R I h;refine Call_ (my I hg hm tQ (PyProof.Rows.callWith_type1 (cu (Rz hl hs pos pins s σ H I h) fun us s1 ⟨v,u,H1,I1,e1,r1,q1⟩=>?_) (by rw[hs];rfl) (by rfl)))
 ·obtain⟨a,rfl,⟨xs,hq⟩,q⟩:=q1;subst e1;cases r1;obtain⟨its,rv,pl,hz⟩:=I1.list hq;refine call_enumerate_list pl.isList fun h' he hit hsz kk=>?_;have ZN:s1.heap.objs.size+1≠s1.heap.objs.size:=Nat.succ_ne_self _;refine wpAny_pyIter_enum he ?_;refine⟨s1.heap.objs.size+1,[s1.heap.objs.size+1,s1.heap.objs.size],_,_,H1,rfl,I1.kept (t':=s1.toks) kk,Lg a _ _ ZN,⟨⟨.none,he⟩,hit⟩,fun b hb=>?_,q⟩;have hb':s1.heap.objs.size<=b:=by
   rcases List.mem_cons.mp hb with rfl|hb
   ·exact Nat.le_succ _
   ·have:b=s1.heap.objs.size:=by simpa using hb
    rw[this];exact R' _
  exact I1.Ec hb' (I1.hok.fresh hb')
end
end L2
namespace L2
open PySem PySem.Spec PyProof.Rows
structure wm (z TI TO i1 i2:Addr):Prop where
 TIz:TI≠z
 TOz:TO≠z
 i1z:i1≠z
 i2z:i2≠z
 TITO:TI≠TO
 TIi1:TI≠i1
 TIi2:TI≠i2
 TOi1:TO≠i1
 TOi2:TO≠i2
 i12:i1≠i2
section
variable {X:Cx}
def MU (z TI TO i1 i2 a b:Addr)(i:Nat)(h:Heap):Prop:=IsZip h z TI TO .none/\IsPair h TI (.ref i1) (.ref i2)/\(∃ x y,IsPair h TO x y)/\h.IsListIter i1 a i/\h.IsListIter i2 b i
theorem CA {pins:List (Addr×Obj)}{σ:St}{H:Hp}{s:Shared}{z TI TO i1 i2 a b:Addr}{i:Nat}{xs ys:List V}(I:Inv X pins σ H s)(O:wm z TI TO i1 i2)(st:MU z TI TO i1 i2 a b i s.heap)(ha:aM X.K H a xs)(hb:aM X.K H b ys) :
  ZipApart z TI TO i1 i2 a b:=by
 obtain⟨hz,hTI,⟨x,y,hTO⟩,⟨o1,e1,c1,_⟩,⟨o2,e2,c2,_⟩⟩:=st;have nz:∀{c:Addr} {zs:List V},aM X.K H c zs->c≠z:=fun h=>cF (K:=X.K) I h hz (by intro q;injection q with q;exact S' q (by decide));have nT:∀{c:Addr} {zs:List V},aM X.K H c zs->c≠TO:=fun h=>cF (K:=X.K) I h hTO (by intro q;injection q with q;exact S' q (by decide));have n1:∀{c:Addr} {zs:List V},aM X.K H c zs->c≠i1:=fun h=>cF (K:=X.K) I h e1 (by rw[c1];intro q;injection q with q;exact S' q (by decide));have n2:∀{c:Addr} {zs:List V},aM X.K H c zs->c≠i2:=fun h=>cF (K:=X.K) I h e2 (by rw[c2];intro q;injection q with q;exact S' q (by decide));exact⟨O.TIz,O.TOz,O.i1z,O.i2z,O.TITO,O.TIi1,O.TIi2,O.TOi1,O.TOi2,O.i12,nz ha,nT ha,n1 ha,n2 ha,nz hb,nT hb,n1 hb,n2 hb⟩
theorem MV {P:Program}{w:World}{K:Frag}{es:List Expr}{k:Nat}{tp:Pos}{z TI TO i1 i2:Addr}(a b:Addr)(O:wm z TI TO i1 i2) :
  Turn P w K (.Tuple es k tp) (Ue K a b) [z,TI,TO,i1,i2] z (MU z TI TO i1 i2 a b) where
 mem:=by simp
 obj:=fun i h st c hc=>by
  obtain⟨hz,hTI,⟨x,y,hTO⟩,⟨o1,e1,_,d1⟩,⟨o2,e2,_,d2⟩⟩:=st;have hc':c=z\/c=TI\/c=TO\/c=i1\/c=i2:=by simpa using hc
  rcases hc' with rfl|rfl|rfl|rfl|rfl
  ·exact⟨_,hz,fun v q=>by
    have q':Data.fields _=Data.cell v:=q;cases q'⟩
  ·exact⟨_,hTI,fun v q=>by
    have q':Data.seq _ _=Data.cell v:=q;cases q'⟩
  ·exact⟨_,hTO,fun v q=>by
    have q':Data.seq _ _=Data.cell v:=q;cases q'⟩
  ·exact⟨o1,e1,fun v q=>by rw[d1]at q;cases q⟩
  ·exact⟨o2,e2,fun v q=>by rw[d2]at q;cases q⟩
 keep:=fun i h h' st kp=>by
  obtain⟨hz,hTI,⟨x,y,hTO⟩,h1,h2⟩:=st;exact⟨kp z (by simp) _ hz,kp TI (by simp) _ hTI,⟨x,y,kp TO (by simp) _ hTO⟩,h1.at fun o q=>kp i1 (by simp) o q,h2.at fun o q=>kp i2 (by simp) o q⟩
 item:=by
  intro X hP hw hK hc i pins s σ H E I hf st hg;subst hP hw hK;obtain⟨xs,ys,x,y,hq,hq2,hx,hy⟩:=hg;have D:=CA I O st hq hq2;obtain⟨its,rv,p,_⟩:=I.list hq;obtain⟨its2,MW,p2,_⟩:=I.list hq2;obtain⟨u,hu,ru⟩:=rv.get hx;obtain⟨u2,hu2,W9⟩:=MW.get hy;have h1:i<its.length:=(K'.mp hu).1;have h2:i<its2.length:=(K'.mp hu2).1;have W:=WalksT.zip2 (prog:=X.prog) (w:=X.w) (I.ok.hd hc) z TI TO i1 i2 a b D its.toArray its2.toArray;obtain⟨hz,hTI,hTO,g1,g2⟩:=st;refine W.item i s _ _ (by simp;omega) ⟨hz,hTI,hTO,g1,g2,p.isList,p2.isList⟩ fun T vals h' tk hv hT ht mid kk=>?_;refine⟨_,rfl,?_⟩;obtain⟨x',y',hx',hy',rfl⟩:=hv;have ex:x'=u:=by
   have:its[i]? = some x':=by simpa using hx'
   rw[hu]at this;exact(Z' this).symm
  have ey:y'=u2:=by
   have:its2[i]? = some y':=by simpa using hy'
   rw[hu2]at this;exact(Z' this).symm
  subst ex ey;have sub:∀ c∈[z,TO,i1,i2],c∈[z,TI,TO,i1,i2]:=fun c hc=>by
   have:c=z\/c=TO\/c=i1\/c=i2:=by simpa using hc
   simp;rcases this with r|r|r|r <;> simp[r]
  have fw:∀ c∈[z,TO,i1,i2],jV X pins H c:=fun c hc=>hf c (sub c hc);have I1:Inv X pins σ (upd H T (.tup [x,y])) { s with heap:=h',toks:=tk }:=by
   refine I.FO (vals:=[x',y']) fw hT (by simpa using ht) (.cons ru (.cons W9 .nil)) (by show 2<=sizeLine;decide) kk fun c hc=>?_;obtain⟨m1,_,⟨_,_,m2⟩,⟨o1,m3,_⟩,⟨o2,m4,_⟩,_⟩:=mid;have:c=z\/c=TO\/c=i1\/c=i2:=by simpa using hc
   rcases this with rfl|rfl|rfl|rfl
   ·exact⟨_,m1⟩
   ·exact⟨_,m2⟩
   ·exact⟨_,m3⟩
   ·exact⟨_,m4⟩
  have MR:H T=none:=I.hok.fresh hT;have neT:∀ c∈[z,TI,TO,i1,i2],c≠T:=fun c hc q=>by
   subst q;have:c=TI\/c∈[z,TO,i1,i2]:=by
    have:c=z\/c=TI\/c=TO\/c=i1\/c=i2:=by simpa using hc
    simp;rcases this with r|r|r|r|r <;> simp[r]
   rcases this with r|r
   ·subst r;exact S' (Za' (W' hTI) hT) (Nat.lt_irrefl _)
   ·exact W.apart i c _ mid r
  refine W.go es k tp i T _ _ _ mid fun h'' st'' Ry=>?_;have hf2:∀ c∈[z,TI,TO,i1,i2],jV X pins (upd H T (.tup [x,y])) c:=fun c hc=>by
   obtain⟨f0,fr⟩:=hf c hc;exact⟨by rw[ak (neT c hc)];exact f0,fr⟩
  obtain⟨s1,s2,s3,s4,s5,_⟩:=st'';refine⟨.ref T,upd H T (.tup [x,y]),I1.g6 (tk:=tk) (fun c hc=>hf2 c (sub c hc)) Ry,rfl,⟨x,y,T,rfl,MR,mU I hq hx,mU I hq2 hy,rfl⟩,⟨s1,s2,s3,s4,s5⟩,fun c hc=>(hf2 c hc).1⟩
 done:=by
  intro X hP hw hK hc i pins s σ H E I hf st hg;subst hP hw hK;obtain⟨xs,ys,hq,hq2,hx⟩:=hg;have D:=CA I O st hq hq2;obtain⟨its,rv,p,_⟩:=I.list hq;obtain⟨its2,MW,p2,_⟩:=I.list hq2;have W:=WalksT.zip2 (prog:=X.prog) (w:=X.w) (I.ok.hd hc) z TI TO i1 i2 a b D its.toArray its2.toArray;obtain⟨hz,hTI,hTO,g1,g2⟩:=st;have e:min its.toArray.size its2.toArray.size=i:=by
   rw[Ze',Ze',<-rv.length,<-MW.length];exact hx
  refine W.done s _ _ (by rw[e];exact⟨hz,hTI,hTO,g1,g2,p.isList,p2.isList⟩) fun h' tk kk=>?_;refine⟨rfl,I.g6 (tk:=tk) (wr:=[z,TO,i1,i2]) (fun c hc=>hf c ?_) kk⟩;have:c=z\/c=TO\/c=i1\/c=i2:=by simpa using hc
  simp;rcases this with r|r|r|r <;> simp[r]
 self:=fun _ i s _ _ st h=>by
  obtain⟨hz,_⟩:=st;exact wpAny_pyIter_zip hz h
inductive QA (K:Frag)(R:(It->Hp->Prop))(x:V)(y:V)(H2:Hp):Prop
 |mk (a:_) (b:_) (cT:x=.ref a) (cU:y=.ref b) (dH:(∃ xs,aM K H2 a xs)/\(∃ ys,aM K H2 b ys)/\R (Ue K a b) H2):QA K R x y H2
def Xa (K:Frag)(tl tm:TE):TI:=fun σ H R=>tl σ H fun x H1=>tm σ H1 fun y H2=>QA K R x y H2
theorem MX {l m:Expr}{tl tm:TE}(hl:PE X l tl)(hm:PE X m tm)(hs:starEach [l,m] X.env=[(false,eval l X.env),(false,eval m X.env)])(hs2:starEach [m] X.env=[(false,eval m X.env)])(pos:Pos)(pins:List (Addr×Obj))(s:Shared)(σ:St)(H:Hp){Q:V->V->Hp->Prop}(I:Inv X pins σ H s)(h:tl σ H fun x H1=>tm σ H1 fun y H2=>Q x y H2) :
  wpAny (model X.prog X.w) X.A (spliced (backTo pos (starEach [l,m] X.env))) (fun us s1=>∃ x y u v H1,Inv X pins σ H1 s1/\us=[u,v]/\RelV x u/\RelV y v/\Q x y H1) X.xe s:=by
 have he:PE X l (fun σ' H' Q'=>σ'=σ/\H'=H/\∀ x H1,(tm σ H1 fun y H2=>Q x y H2)->Q' x H1):=by
  intro pins s σ' H' Q' I' hw;obtain⟨rfl,rfl,k⟩:=hw;exact cu (hl pins s σ' H' _ I' h) fun u s1 ⟨v,H1,I1,r,q⟩=>⟨v,H1,I1,r,k v H1 q⟩
 have hf:PE X m (fun σ' H' Q'=>∃ x,σ'=σ/\(tm σ H' fun y H2=>Q x y H2)/\∀ y H2,Q x y H2->Q' y H2):=by
  intro pins s σ' H' Q' I' hw;obtain⟨x,rfl,hh,k⟩:=hw;exact cu (hm pins s σ' H' _ I' hh) fun u s1 ⟨v,H1,I1,r,q⟩=>⟨v,H1,I1,r,k v H1 q⟩
 have main:=aa he (aa hf ag hs2) (by rw[hs,hs2]) pos pins s σ H (fun vs H2=>∃ x y,vs=[x,y]/\Q x y H2) I ⟨rfl,rfl,fun x H1 q=>⟨x,rfl,q,fun y H2 q2=>⟨x,y,rfl,q2⟩⟩⟩;refine cu main fun us s1 fS=>?_;obtain⟨vs,H1,I1,r,x,y,e,q⟩:=fS;subst e;obtain⟨u,v,rfl,r1,r2⟩:=r.two;exact⟨x,y,u,v,H1,I1,rfl,r1,r2,q⟩
theorem RA {l m:Expr}{tl tm:TE}{p pos tp:Pos}{es:List Expr}{k:Nat}(hg:Gl X "zip")(hz:X.mg "zip"=none)(hl:PE X l tl)(hm:PE X m tm)(hs:starEach [l,m] X.env=[(false,eval l X.env),(false,eval m X.env)]:=by rfl)(hs2:starEach [m] X.env=[(false,eval m X.env)]:=by rfl) :
  PI X (.Tuple es k tp) (.Call (.Name "zip" p) [l,m] [] pos) (Xa X.K tl tm):=by
 intro pins s σ H R I h;refine Call_ (my I hg hz MS (PyProof.Rows.callWith_type1 (cu (MX hl hm hs hs2 pos pins s σ H I h) fun us s1 ⟨x,y,u,v,H1,I1,e1,r1,r2,q1⟩=>?_) (by rw[hs,hs2]) (by rw[hs2];rfl)));obtain⟨a,b,rfl,rfl,⟨xs,hq⟩,⟨ys,hq2⟩,q⟩:=q1;subst e1;cases r1;cases r2;obtain⟨its,rv,pl,_⟩:=I1.list hq;obtain⟨its2,MW,Xb,_⟩:=I1.list hq2;refine call_zip_2 pl.isList Xb.isList fun h' z1 z2 z3 z4 z5 hsz kk=>?_;refine wpAny_pyIter_zip z1 ?_;have O:wm (s1.heap.objs.size+4) (s1.heap.objs.size+2) (s1.heap.objs.size+3) s1.heap.objs.size (s1.heap.objs.size+1):=by
  constructor <;> exact(by intro q;have q':(_:Nat)=_:=q;omega)
 refine⟨_,[s1.heap.objs.size+4,s1.heap.objs.size+2,s1.heap.objs.size+3,s1.heap.objs.size,s1.heap.objs.size+1],_,_,H1,rfl,I1.kept (t':=s1.toks) kk,MV a b O,⟨z1,z2,⟨_,_,z3⟩,z4,z5⟩,fun c hc=>?_,q⟩;have hc':s1.heap.objs.size<=c:=by
  have:c=s1.heap.objs.size+4\/c=s1.heap.objs.size+2\/c=s1.heap.objs.size+3\/c=s1.heap.objs.size\/c=s1.heap.objs.size+1:=by simpa using hc
  rcases this with r|r|r|r|r <;> (rw[r];first|exact Nat.le_add_right _ _|exact R' _)
 exact I1.Ec hc' (I1.hok.fresh hc')
end
end L2
namespace L2
open PySem
abbrev MY (J:It)(g:TG)(tc:TT)(te:TE)(D:Addr)(R:Hp->Prop)(σ:St)(H:Hp):Prop:=∃ W:Nat->Nat->List V->St->Hp->Prop,(∃ m,W 0 m [] σ H)/\∀ i m ys σ H,W i m ys σ H ->
  (J.stop i H/\R H)\/(J.go i H/\∀ x H',J.KZ i H x H'->g x σ H' fun σ2 H2=>tc σ2 H2 fun ok H3 =>
   if ok=true then te σ2 H3 fun y H4=>H4 D=some (.lst ys)/\ys.length<sizeLine/\∃ m',m'<m/\W (i+1) m' (ys++[y]) σ2 (upd H4 D (.lst (ys++[y])))
   else ∃ m',m'<m/\W (i+1) m' ys σ2 H3)
abbrev xu (g:TG)(tc:TT)(te:TE)(D:Addr)(ys:List V)(x:V)(σ:St)(H:Hp)(N:List V->St->Hp->Prop):Prop :=
 g x σ H fun σ2 H2=>tc σ2 H2 fun ok H3=>if ok=true then te σ2 H3 fun y H4=>H4 D=some (.lst ys)/\ys.length<sizeLine/\N (ys++[y]) σ2 (upd H4 D (.lst (ys++[y]))) else N ys σ2 H3
theorem zR {lo:Int}{n:Nat}{g:TG}{tc:TT}{te:TE}{D:Addr}{R:Hp->Prop}{σ:St}{H:Hp}(Pv:Nat->List V->St->Hp->Prop)(h0:Pv 0 [] σ H)
  (hs:∀ i ys σ H,i<n->Pv i ys σ H->∀ N:List V->St->Hp->Prop,(∀ ys σ H,Pv (i+1) ys σ H->N ys σ H)->xu g tc te D ys (.int (lo+i)) σ H N) (hd:∀ ys σ H,Pv n ys σ H->R H):MY (Qh lo n) g tc te D R σ H:=by
 refine⟨fun i m ys σ H=>m=n-i/\i<=n/\Pv i ys σ H,⟨n,by simp,Zq' _,h0⟩,?_⟩;rintro i m ys σ H ⟨rfl,hi,p⟩
 by_cases hlt:i<n
 ·refine .inr ⟨hlt,fun x H' y=>?_⟩;obtain⟨e,y⟩:=y;subst e y;exact hs i ys σ _ hlt p (fun ys' σ' H'=>∃ m',m'<n-i/\m'=n-(i+1)/\i+1<=n/\Pv (i+1) ys' σ' H') fun ys' σ' H' q=>⟨n-(i+1),by omega,rfl,hlt,q⟩
 ·have e:i=n:=by omega
  subst e;exact .inl ⟨R' _,hd ys σ H p⟩
theorem fH {K:Frag}{a:Addr}{xs:List V}{g:TG}{tc:TT}{te:TE}{D:Addr}{R:Hp->Prop}{σ:St}{H:Hp}(Pv:Nat->List V->St->Hp->Prop)(h0:Pv 0 [] σ H)(hl:∀ i ys σ H,Pv i ys σ H->aM K H a xs)
  (hs:∀ i ys x σ H,xs[i]? = some x->Pv i ys σ H->∀ N:List V->St->Hp->Prop,(∀ ys σ H,Pv (i+1) ys σ H->N ys σ H)->xu g tc te D ys x σ H N) (hd:∀ ys σ H,Pv xs.length ys σ H->R H):MY (SN K a) g tc te D R σ H:=by
 refine⟨fun i m ys σ H=>m=xs.length-i/\i<=xs.length/\Pv i ys σ H,⟨xs.length,by simp,Zq' _,h0⟩,?_⟩;rintro i m ys σ H ⟨rfl,hi,p⟩;have q:=hl i ys σ H p
 by_cases hlt:i<xs.length
 ·refine .inr ⟨⟨xs,xs[i],q,by simp[hlt]⟩,fun x H' y=>?_⟩;obtain⟨e,y⟩:=y;subst e;exact hs i ys x σ _ (y xs q) p (fun ys' σ' H'=>∃ m',m'<xs.length-i/\m'=xs.length-(i+1)/\i+1<=xs.length/\Pv (i+1) ys' σ' H') fun ys' σ' H' q=>⟨xs.length-(i+1),by omega,rfl,hlt,q⟩
 ·have e:i=xs.length:=by omega
  subst e;exact .inl ⟨⟨xs,q,R' _⟩,hd ys σ H p⟩
theorem FQ {z:Str}{g:TG}{tc:TT}{te:TE}{D:Addr}{R:Hp->Prop}{σ:St}{H:Hp}(Pv:Nat->List V->St->Hp->Prop)(h0:Pv 0 [] σ H)
  (hs:∀ i ys c σ H,z.cps[i]? = some c->Pv i ys σ H->∀ N:List V->St->Hp->Prop,(∀ ys σ H,Pv (i+1) ys σ H->N ys σ H)->xu g tc te D ys (.str ⟨#[c]⟩) σ H N) (hd:∀ ys σ H,Pv z.cps.size ys σ H->R H):MY (SO z) g tc te D R σ H:=by
 refine⟨fun i m ys σ H=>m=z.cps.size-i/\i<=z.cps.size/\Pv i ys σ H,⟨z.cps.size,by simp,Zq' _,h0⟩,?_⟩;rintro i m ys σ H ⟨rfl,hi,p⟩
 by_cases hlt:i<z.cps.size
 ·refine .inr ⟨hlt,fun x H' y=>?_⟩;obtain⟨e,c,hc,y⟩:=y;subst e y;exact hs i ys c σ _ hc p (fun ys' σ' H'=>∃ m',m'<z.cps.size-i/\m'=z.cps.size-(i+1)/\i+1<=z.cps.size/\Pv (i+1) ys' σ' H') fun ys' σ' H' q=>⟨z.cps.size-(i+1),by omega,rfl,hlt,q⟩
 ·have e:i=z.cps.size:=by omega
  subst e;exact .inl ⟨R' _,hd ys σ H p⟩
theorem zS {K:Frag}{a:Addr}{xs:List V}{g:TG}{tb:TS}{D:Ends}{σ:St}{H:Hp}(Pv:Nat->St->Hp->Prop)(h0:Pv 0 σ H)(hl:∀ i σ H,Pv i σ H->aM K H a xs)
  (hs:∀ i x t σ H,xs[i]? = some x->Pv i σ H->H t=none->g (.ref t) σ (upd H t (.tup [.int i,x])) fun σ2 H2=>tb { D with nx:=Pv (i+1),ct:=Pv (i+1),bk:=D.nx } σ2 H2) (hd:∀ σ H,Pv xs.length σ H->D.nx σ H) :
  ∃ W:Nat->Nat->St->Hp->Prop,(∃ m,W 0 m σ H)/\∀ i m σ H,W i m σ H ->
   ((Ud K a).stop i H/\D.nx σ H)\/((Ud K a).go i H/\∃ N:St->Hp->Prop,(∀ σ' H',N σ' H'->∃ m',m'<m/\W (i+1) m' σ' H')/\∀ x H',(Ud K a).KZ i H x H'->g x σ H' fun σ2 H2=>tb { D with nx:=N,ct:=N,bk:=D.nx } σ2 H2):=by
 refine⟨fun i m σ H=>m=xs.length-i/\i<=xs.length/\Pv i σ H,⟨xs.length,by simp,Zq' _,h0⟩,?_⟩;rintro i m σ H ⟨rfl,hi,p⟩;have q:=hl i σ H p
 by_cases hlt:i<xs.length
 ·refine .inr ⟨⟨xs,xs[i],q,by simp[hlt]⟩,Pv (i+1),fun σ' H' p'=>⟨xs.length-(i+1),by omega,rfl,hlt,p'⟩,fun x H' y=>?_⟩;obtain⟨y0,t,rfl,hn,hy,rfl⟩:=y;exact hs i y0 t σ H (hy xs q) p hn
 ·have e:i=xs.length:=by omega
  subst e;exact .inl ⟨⟨xs,q,R' _⟩,hd σ H p⟩
theorem O8 {K:Frag}{a b:Addr}{xs ys:List V}{g:TG}{tb:TS}{D:Ends}{σ:St}{H:Hp}(Pv:Nat->St->Hp->Prop)(he:xs.length=ys.length)(h0:Pv 0 σ H)(hl:∀ i σ H,Pv i σ H->aM K H a xs/\aM K H b ys)
  (hs:∀ i x y t σ H,xs[i]? = some x->ys[i]? = some y->Pv i σ H->H t=none->g (.ref t) σ (upd H t (.tup [x,y])) fun σ2 H2=>tb { D with nx:=Pv (i+1),ct:=Pv (i+1),bk:=D.nx } σ2 H2) (hd:∀ σ H,Pv xs.length σ H->D.nx σ H) :
  ∃ W:Nat->Nat->St->Hp->Prop,(∃ m,W 0 m σ H)/\∀ i m σ H,W i m σ H ->
   ((Ue K a b).stop i H/\D.nx σ H)\/((Ue K a b).go i H/\∃ N:St->Hp->Prop,(∀ σ' H',N σ' H'->∃ m',m'<m/\W (i+1) m' σ' H')/\∀ x H',(Ue K a b).KZ i H x H'->g x σ H' fun σ2 H2=>tb { D with nx:=N,ct:=N,bk:=D.nx } σ2 H2):=by
 refine⟨fun i m σ H=>m=xs.length-i/\i<=xs.length/\Pv i σ H,⟨xs.length,by simp,Zq' _,h0⟩,?_⟩;rintro i m σ H ⟨rfl,hi,p⟩;obtain⟨q,q2⟩:=hl i σ H p
 by_cases hlt:i<xs.length
 ·have hlt2:i<ys.length:=by omega
  refine .inr ⟨⟨xs,ys,xs[i],ys[i],q,q2,by simp[hlt],by simp[hlt2]⟩,Pv (i+1),fun σ' H' p'=>⟨xs.length-(i+1),by omega,rfl,hlt,p'⟩,fun x H' y=>?_⟩;obtain⟨x0,y0,t,rfl,hn,hx,hy,rfl⟩:=y;exact hs i x0 y0 t σ H (hx xs q) (hy ys q2) p hn
 ·have e:i=xs.length:=by omega
  subst e;exact .inl ⟨⟨xs,ys,q,q2,by omega⟩,hd σ H p⟩
end L2
namespace L2
open PySem
theorem ee {j:Nat}{te:TE}{D:Addr}{ys:List V}{x:V}{σ:St}{H:Hp}{N:List V->St->Hp->Prop}
  (h:te (σ.set j (some x)) H fun y H4=>H4 D=some (.lst ys)/\ys.length<sizeLine/\N (ys++[y]) (σ.set j (some x)) (upd H4 D (.lst (ys++[y])))):xu (xp j) Rp te D ys x σ H N:=by
 unfold xu xp Rp;exact(X' (rfl:true=true)).mpr h
end L2
namespace L2
open PySem PySem.Spec PyProof.Rows
open Sem (wp)
abbrev se (h:Heap)(z TI TO:Addr)(f0 f1:Value):Prop :=
 h.get? z=some { cls:=.type "zip",dict:=none,data:=.fields #[f0,f1,.bool false,.ref TI,.ref TO],slots:=#[] }
def Loose (f0 f1:Value):Prop:=(f0=.none\/∃ a:Nat,f0=rawInt (a:Int))/\∃ b,f1=.bool b
section
variable {prog:Program} {w:World} {A:Around} {E:Value->Shared->Prop} {s:Shared}
theorem Lh {a:Addr}{Q:Option Obj->Shared->Prop}(h:∀ o,Q o s):wpAny (model prog w) A (loadIfAlive a) Q E s:=fun _ _ _=>h _
theorem FR {z TI TO:Addr}{f0 f1:Value}{Q:Bool->Shared->Prop}(hz:se s.heap z TI TO f0 f1)(hf:Loose f0 f1)
  (hQ:∀(r:Bool)(h':Heap)(g1:Value),se h' z TI TO f0 g1->Loose f0 g1->Heap.SameBut z s.heap h'->Q r { s with heap:=h' }) :
  wpAny (model prog w) A (Builtin.SmallTypes.ownedTupleIsFree (.ref z)) Q E s:=by
 unfold Builtin.SmallTypes.ownedTupleIsFree;refine C' (wpAny_field hz rfl (x:=f0) rfl ?_);obtain⟨ZO,b,rfl⟩:=hf;rcases ZO with rfl|⟨a,rfl⟩
 ·exact U' (hQ true s.heap _ hz ⟨.inl rfl,b,rfl⟩ ⟨rfl,fun _ _=>rfl⟩)
 ·show wpAny _ _ (loadIfAlive ((a:Int).toNat) >>= _) _ _ _;refine C' (Lh fun o=>?_);cases o with
  |none =>
   simp only [Option.isNone_none,if_true];exact U' (hQ true s.heap _ hz ⟨.inr ⟨a,rfl⟩,b,rfl⟩ ⟨rfl,fun _ _=>rfl⟩)
  |some o =>
   simp only [Option.isNone_some,Bool.false_eq_true,if_false];refine C' (wpAny_field hz rfl (x:=.bool b) rfl ?_);cases b with
   |true =>
    exact U' (hQ false s.heap _ hz ⟨.inr ⟨a,rfl⟩,true,rfl⟩ ⟨rfl,fun _ _=>rfl⟩)
   |false =>
    show wpAny _ _ (setField (.ref z) 1 (.bool true) >>= _) _ _ _;refine C' (wpAny_setField_rec hz (by simp) fun h₁ hz₁ hs₁=>?_);exact U' (hQ false h₁ _ hz₁ ⟨.inr ⟨a,rfl⟩,true,rfl⟩ hs₁)
theorem Li {z TI TO i1 i2 l1 l2:Addr}{k1 k2:Nat}{xs ys:Array Value}{x y a b f0 f1:Value}{Q:Value->Shared->Prop}(D:ZipApart z TI TO i1 i2 l1 l2)
  (hz:se s.heap z TI TO f0 f1) (hf:Loose f0 f1) (hTI:IsPair s.heap TI (.ref i1) (.ref i2)) (hTO:IsPair s.heap TO a b)
  (h1:s.heap.IsListIter i1 l1 k1) (h2:s.heap.IsListIter i2 l2 k2) (hl1:s.heap.IsList l1 xs) (hl2:s.heap.IsList l2 ys) (hx:xs[k1]? = some x) (hy:ys[k2]? = some y)
  (hQ:∀ h',(∃ g0 g1,se h' z TI TO g0 g1/\Loose g0 g1)->(∃ a b,IsPair h' TO a b)->h'.IsListIter i1 l1 (k1+1)->h'.IsListIter i2 l2 (k2+1)->IsPair h' s.heap.objs.size x y->h'.objs.size=s.heap.objs.size+1 ->
   (∀ c o,c≠z->c≠TO->c≠i1->c≠i2->s.heap.get? c=some o->h'.get? c=some o)->Q (.ref s.heap.objs.size) { s with heap:=h' }) :
  wpAny (model prog w) A (Builtin.«zip.__next__» ⟨[.ref z],[]⟩) (fun fin s'=>∃ v,fin=.done (.ret v)/\Q v s') E s:=by
 show wpAny _ _ (field (.ref z) 2 >>= _) _ _ _;refine C' (wpAny_field hz rfl (x:=.bool false) rfl ?_);show wpAny _ _ (field (.ref z) 3 >>= _) _ _ _;refine C' (wpAny_field hz rfl (x:=.ref TI) rfl ?_);refine C' (wpAny_seqItems hTI rfl ?_);show wpAny _ _ (Builtin.SmallTypes.ownedTupleIsFree (.ref z) >>= _) _ _ _;refine C' (FR hz hf fun r h₀ g1 SQ hl₀ hs₀=>?_);cases r with
 |true =>
  simp only [if_true];refine C' (wpAny_rule ?_);refine C' (wpAny_field SQ rfl (x:=.ref TO) rfl ?_);refine C' (wpAny_setField_rec SQ (by simp) fun h₁ hz₁ MZ=>?_)
  replace hz₁:se h₁ z TI TO .ellipsis g1:=hz₁
  have hs₁:Heap.SameBut z s.heap h₁:=⟨MZ.1.trans hs₀.1,fun c hc=>(MZ.2 c hc).trans (hs₀.2 c hc)⟩;refine C' ?_;simp only [List.zipIdx_cons,List.zipIdx_nil,List.forIn_cons,List.forIn_nil];refine C' (C' (wpAny_onRaise ?_));show wpAny _ _ (Builtin.SmallTypes.nextOf (.ref i1) >>= _) _ _ _;refine C' (wpAny_nextOf_list_item (h1.extBut hs₁.extBut D.i1z) (hl1.extBut hs₁.extBut D.l1z) hx fun h₂ h1₂ hs₂=>U' ?_);have hTO₂:IsPair h₂ TO a b:=hs₂.extBut _ _ D.TOi1 (hs₁.extBut _ _ D.TOz hTO);refine C' (wpAny_seqItems hTO₂ rfl ?_);refine C' (wpAny_updateSeq_pair hTO₂ fun h₃ hTO₃ hs₃=>?_)
  replace hTO₃:IsPair h₃ TO x b:=hTO₃
  refine C' (wpAny_letGo (U' ?_));refine C' (C' (wpAny_onRaise ?_));show wpAny _ _ (Builtin.SmallTypes.nextOf (.ref i2) >>= _) _ _ _;refine C' (wpAny_nextOf_list_item (((h2.extBut hs₁.extBut D.i2z).extBut hs₂.extBut D.i12.symm).extBut hs₃.extBut D.TOi2.symm)
   (((hl2.extBut hs₁.extBut D.l2z).extBut hs₂.extBut D.l2i1).extBut hs₃.extBut D.l2TO) hy fun h₄ h2₄ hs₄=>U' ?_)
  have hTO₄:IsPair h₄ TO x b:=hs₄.extBut _ _ D.TOi2 hTO₃;refine C' (wpAny_seqItems hTO₄ rfl ?_);refine C' (wpAny_updateSeq_pair hTO₄ fun h₅ hTO₅ hs₅=>?_)
  replace hTO₅:IsPair h₅ TO x y:=hTO₅
  refine C' (wpAny_letGo (U' (U' ?_)));refine C' (wpAny_seqItems hTO₅ rfl ?_);refine C' (wpAny_newTuple ?_);have hsz:h₅.objs.size=s.heap.objs.size:=by rw[hs₅.1,hs₄.1,hs₃.1,hs₂.1,hs₁.1]
  have hz₅:se h₅ z TI TO .ellipsis g1:=hs₅.extBut _ _ D.TOz.symm (hs₄.extBut _ _ D.i2z.symm (hs₃.extBut _ _ D.TOz.symm (hs₂.extBut _ _ D.i1z.symm hz₁)));have hk₅:∀ c o,c≠z->c≠TO->c≠i1->c≠i2->s.heap.get? c=some o->h₅.get? c=some o:=fun c o c1 c2 c3 c4 e =>
   hs₅.extBut _ _ c2 (hs₄.extBut _ _ c4 (hs₃.extBut _ _ c2 (hs₂.extBut _ _ c3 (hs₁.extBut _ _ c1 e))))
  have h1₅:h₅.IsListIter i1 l1 (k1+1):=((h1₂.extBut hs₃.extBut D.TOi1.symm).extBut hs₄.extBut D.i12).extBut hs₅.extBut D.TOi1.symm;have h2₅:h₅.IsListIter i2 l2 (k2+1):=h2₄.extBut hs₅.extBut D.TOi2.symm;have hzlt:z<h₅.objs.size:=W' hz₅;show wpAny _ _ (Builtin.SmallTypes.ownedTupleHandOut (.ref z) (.ref h₅.objs.size) >>= _) _ _ _;refine C' ?_;unfold Builtin.SmallTypes.ownedTupleHandOut;have hz₆:se (h₅.push { cls:=.type "tuple",data:=.seq #[x,y] }) z TI TO .ellipsis g1:=P' _ hz₅;refine C' (wpAny_setField_rec hz₆ (by simp) fun h₇ hz₇ hs₇=>?_)
  replace hz₇:se h₇ z TI TO (rawInt h₅.objs.size) g1:=hz₇
  refine wpAny_setField_rec hz₇ (by simp) fun h₈ hz₈ hs₈=>?_
  replace hz₈:se h₈ z TI TO (rawInt h₅.objs.size) (.bool false):=hz₈
  have up:∀ c o,c≠z->h₅.get? c=some o->h₈.get? c=some o:=fun c o c1 e=>hs₈.extBut _ _ c1 (hs₇.extBut _ _ c1 (P' _ e));have hT₈:IsPair h₈ h₅.objs.size x y:=hs₈.extBut _ _ (Nat.ne_of_gt hzlt) (hs₇.extBut _ _ (Nat.ne_of_gt hzlt) (Zm' _ rfl));have hz8:h₈.objs.size=h₅.objs.size+1:=by rw[hs₈.1,hs₇.1,Heap.size_push]
  have hloose:∃ g0 g1,se h₈ z TI TO g0 g1/\Loose g0 g1:=⟨_,_,hz₈,.inr ⟨_,rfl⟩,_,rfl⟩;rw[hsz]at hT₈ hz8;refine U' ⟨_,rfl,?_⟩;show Q (.ref h₅.objs.size) _;rw[hsz];exact hQ h₈ hloose ⟨_,_,up _ _ D.TOz hTO₅⟩ (h1₅.at fun o e=>up _ o D.i1z e) (h2₅.at fun o e=>up _ o D.i2z e) hT₈ hz8 fun c o c1 c2 c3 c4 e=>up c o c1 (hk₅ c o c1 c2 c3 c4 e)
 |false =>
  simp only [Bool.false_eq_true,if_false];have hs₁:=hs₀;refine C' ?_;rw[<-Array.forIn_toList];simp only [List.forIn_cons,List.forIn_nil];refine C' (C' (wpAny_holding ?_));show wpAny _ _ (Builtin.SmallTypes.nextOf (.ref i1) >>= _) _ _ _;refine C' (wpAny_nextOf_list_item (h1.extBut hs₁.extBut D.i1z) (hl1.extBut hs₁.extBut D.l1z) hx fun h₂ h1₂ hs₂=>U' (U' ?_));refine C' (C' (wpAny_holding ?_));show wpAny _ _ (Builtin.SmallTypes.nextOf (.ref i2) >>= _) _ _ _;refine C' (wpAny_nextOf_list_item ((h2.extBut hs₁.extBut D.i2z).extBut hs₂.extBut D.i12.symm)
   ((hl2.extBut hs₁.extBut D.l2z).extBut hs₂.extBut D.l2i1) hy fun h₄ h2₄ hs₄=>U' (U' (U' ?_)))
  have hsz:h₄.objs.size=s.heap.objs.size:=by rw[hs₄.1,hs₂.1,hs₁.1]
  refine C' (wpAny_newTuple (hsz:=by show 2<=sizeLine;decide) ?_);have up:∀ c o,c≠z->c≠i1->c≠i2->s.heap.get? c=some o->(h₄.push { cls:=.type "tuple",data:=.seq #[x,y] }).get? c=some o:=fun c o c1 c3 c4 e =>
   P' _ (hs₄.extBut _ _ c4 (hs₂.extBut _ _ c3 (hs₁.extBut _ _ c1 e)))
  have hz₄:se (h₄.push { cls:=.type "tuple",data:=.seq #[x,y] }) z TI TO f0 g1:=P' _ (hs₄.extBut _ _ D.i2z.symm (hs₂.extBut _ _ D.i1z.symm SQ));have hT₈:IsPair (h₄.push { cls:=.type "tuple",data:=.seq #[x,y] }) h₄.objs.size x y:=Zm' _ rfl;have hz8:(h₄.push { cls:=.type "tuple",data:=.seq #[x,y] }).objs.size=h₄.objs.size+1:=Heap.size_push ..;refine U' ⟨_,rfl,?_⟩;show Q (.ref h₄.objs.size) { s with heap:=h₄.push { cls:=.type "tuple",data:=.seq #[x,y] } };rw[hsz]at hT₈ hz8 ⊢;exact hQ _ ⟨_,_,hz₄,hl₀⟩ ⟨a,b,up _ _ D.TOz D.TOi1 D.TOi2 hTO⟩ ((h1₂.extBut hs₄.extBut D.i12).at fun o e=>P' _ e) (h2₄.at fun o e=>P' _ e) hT₈ hz8 fun c o c1 _ c3 c4 e=>up c o c1 c3 c4 e
theorem M0 {z TI TO i1 i2 l1 l2:Addr}{k1:Nat}{xs:Array Value}{a b f0 f1:Value}{Q:Fin->Shared->Prop}(hh:A.handled=none)(D:ZipApart z TI TO i1 i2 l1 l2)
  (hz:se s.heap z TI TO f0 f1) (hf:Loose f0 f1) (hTI:IsPair s.heap TI (.ref i1) (.ref i2)) (hTO:IsPair s.heap TO a b)
  (h1:s.heap.IsListIter i1 l1 k1) (hl1:s.heap.IsList l1 xs) (hend:xs[k1]? = none)
  (hE:∀ h' e,(∀ c o,c≠z->c≠TO->c≠i1->c≠i2->s.heap.get? c=some o->h'.get? c=some o)->(∃ o,h'.get? e=some o/\o.cls=.type "StopIteration")->E (.ref e) { s with heap:=h' }) :
  wpAny (model prog w) A (Builtin.«zip.__next__» ⟨[.ref z],[]⟩) Q E s:=by
 show wpAny _ _ (field (.ref z) 2 >>= _) _ _ _;refine C' (wpAny_field hz rfl (x:=.bool false) rfl ?_);show wpAny _ _ (field (.ref z) 3 >>= _) _ _ _;refine C' (wpAny_field hz rfl (x:=.ref TI) rfl ?_);refine C' (wpAny_seqItems hTI rfl ?_);show wpAny _ _ (Builtin.SmallTypes.ownedTupleIsFree (.ref z) >>= _) _ _ _;refine C' (FR hz hf fun r h₀ g1 SQ hl₀ hs₀=>?_);cases r with
 |true =>
  simp only [if_true];refine C' (wpAny_rule ?_);refine C' (wpAny_field SQ rfl (x:=.ref TO) rfl ?_);refine C' (wpAny_setField_rec SQ (by simp) fun h₁ hz₁ MZ=>?_)
  replace hz₁:se h₁ z TI TO .ellipsis g1:=hz₁
  have hs₁:Heap.SameBut z s.heap h₁:=⟨MZ.1.trans hs₀.1,fun c hc=>(MZ.2 c hc).trans (hs₀.2 c hc)⟩;refine C' ?_;simp only [List.zipIdx_cons,List.zipIdx_nil,List.forIn_cons,List.forIn_nil];refine C' (C' (wpAny_onRaise ?_));show wpAny _ _ (Builtin.SmallTypes.nextOf (.ref i1) >>= _) _ _ _;refine C' (wpAny_nextOf_list_end hh (h1.extBut hs₁.extBut D.i1z) (hl1.extBut hs₁.extBut D.l1z) hend fun h₂ e hs₂ he=>?_);obtain⟨oe,hoe,hce⟩:=he;have hz₂:se h₂ z TI TO .ellipsis g1:=hs₂ _ _ D.i1z.symm hz₁;have hez:e≠z:=fun x=>by subst x;rw[hz₂]at hoe;cases hoe;simp at hce
  refine wpAny_setField_rec hz₂ (by simp) fun h₃ _ hs₃=>hE h₃ e (fun c o c1 _ c3 _ x=>hs₃.extBut _ _ c1 (hs₂ _ _ c3 (hs₁.extBut _ _ c1 x))) ⟨oe,hs₃.extBut _ _ hez hoe,hce⟩
 |false =>
  simp only [Bool.false_eq_true,if_false];refine C' ?_;rw[<-Array.forIn_toList];simp only [List.forIn_cons,List.forIn_nil];refine C' (C' (wpAny_holding ?_));show wpAny _ _ (Builtin.SmallTypes.nextOf (.ref i1) >>= _) _ _ _;exact C' (wpAny_nextOf_list_end hh (h1.extBut hs₀.extBut D.i1z) (hl1.extBut hs₀.extBut D.l1z) hend fun h₂ e hs₂ he=>hE h₂ e (fun c o c1 _ c3 _ x=>hs₂ _ _ c3 (hs₀.extBut _ _ c1 x)) he)
def M3 (z TI TO i1 i2 a b:Addr)(i:Nat)(h:Heap):Prop:=(∃ f0 f1,se h z TI TO f0 f1/\Loose f0 f1)/\IsPair h TI (.ref i1) (.ref i2)/\(∃ x y,IsPair h TO x y)/\h.IsListIter i1 a i/\h.IsListIter i2 b i
theorem O9 {e z TI TO i1 i2 l1 l2:Addr}{i:Nat}{xs ys:Array Value}{x y old:Value}{Q:Option Value->Shared->Prop}(D:ZipApart z TI TO i1 i2 l1 l2)(hne:∀ c∈[z,TI,TO,i1,i2],e≠c)
  (he:IsEnum s.heap e z i old) (hst:M3 z TI TO i1 i2 l1 l2 i s.heap) (hl1:s.heap.IsList l1 xs) (hl2:s.heap.IsList l2 ys) (hx:xs[i]? = some x) (hy:ys[i]? = some y)
  (hQ:∀ h' tk,IsEnumOut h' e z ((i:Int)+1) (.ref s.heap.objs.size) (s.heap.objs.size+1)->M3 z TI TO i1 i2 l1 l2 (i+1) h'->IsPair h' s.heap.objs.size x y ->
   h'.get? (s.heap.objs.size+1)=some { cls:=.type "tuple",data:=.seq #[.int i tk,.ref s.heap.objs.size] } ->
   (∀ c o,c ∉ [e,z,TO,i1,i2]->s.heap.get? c=some o->h'.get? c=some o)->Q (some (.ref (s.heap.objs.size+1))) { s with heap:=h',toks:=tk+1 }) :
  wpAny (model prog w) A (pyNext (.ref e)) Q E s:=by
 have hT:s.TypeIs (.ref e) "enumerate":=⟨_,he,rfl⟩;unfold pyNext;refine C' (wpAny_attempt (wpAny_callSpecial?_slot (name:=Str.ofString "__next__") hT slot_enumerate_next
  (wpAny_call_entry slot_enumerate_next hT PySem.F.entry_enumerate_next ?_ (PySem.F.args_enumerate_next_1 _))))
 obtain⟨hp,g,d,tk,os⟩:=s;obtain⟨⟨f0,f1,hz,hlo⟩,hTI,⟨ta,tb,hTO⟩,g1,g2⟩:=hst;have ne:=fun c hc=>(hne c hc);have ez:e≠z:=hne z (by simp);have ZP:e≠TI:=hne TI (by simp);have Yz:e≠TO:=hne TO (by simp);have YA:e≠i1:=hne i1 (by simp);have YB:e≠i2:=hne i2 (by simp);show wpAny _ _ (field (.ref e) 2 >>= _) _ _ _;refine C' (wpAny_field he rfl (x:=.ref z) rfl ?_);refine C' ?_;have Uh:Shared.TypeIs ⟨hp,g,d,tk,os⟩ (.ref z) "zip":=⟨_,hz,rfl⟩;unfold Builtin.SmallTypes.nextOf;refine C' (wpAny_callSpecial?_slot (name:=Str.ofString "__next__") Uh slot_zip_next
  (wpAny_call_entry slot_zip_next Uh entry_zip_next (Li D hz hlo hTI hTO g1 g2 hl1 hl2 hx hy fun h₁ q1 q2 q3 q4 q5 q6 q7=>U' ?_) (PySem.F.args_zip_next_1 _)))
 replace q5:IsPair h₁ hp.objs.size x y:=q5
 replace q6:h₁.objs.size=hp.objs.size+1:=q6
 replace q7:∀ c o,c≠z->c≠TO->c≠i1->c≠i2->hp.get? c=some o->h₁.get? c=some o:=q7
 have he₁:IsEnum h₁ e z i old:=q7 e _ ez Yz YA YB he;have st₁:M3 z TI TO i1 i2 l1 l2 (i+1) h₁:=⟨q1,q7 TI _ D.TIz D.TITO D.TIi1 D.TIi2 hTI,q2,q3,q4⟩;show wpAny _ _ (field (.ref e) 3 >>= _) _ _ ⟨h₁,g,d,tk,os⟩;refine C' (wpAny_field he₁ rfl (x:=rawInt i) rfl ?_);show wpAny _ _ (field (.ref e) 4 >>= _) _ _ ⟨h₁,g,d,tk,os⟩;refine C' (wpAny_field he₁ rfl (x:=.none) rfl ?_);show wpAny _ _ (mkInt i >>= _) _ _ ⟨h₁,g,d,tk,os⟩;refine C' (wpAny_mkInt ?_);show wpAny _ _ (setField (.ref e) 3 (rawInt ((i:Int)+1)) >>= _) _ _ ⟨h₁,g,d,tk+1,os⟩;refine C' (wpAny_setField_rec he₁ (by simp) fun h₂ he₂ hs₂=>?_)
 replace hs₂:Heap.SameBut e h₁ h₂:=hs₂
 replace he₂:IsEnum h₂ e z ((i:Int)+1) old:=he₂
 show wpAny _ _ (setField (.ref e) 4 .none >>= _) _ _ ⟨h₂,g,d,tk+1,os⟩;refine C' (wpAny_setField_rec he₂ (by simp) fun h₃ he₃ hs₃=>?_)
 replace hs₃:Heap.SameBut e h₂ h₃:=hs₃
 replace he₃:IsEnum h₃ e z ((i:Int)+1) old:=he₃
 show wpAny _ _ (newTuple [.int i tk,.ref hp.objs.size] >>= _) _ _ ⟨h₃,g,d,tk+1,os⟩;refine C' (wpAny_newTuple ?_);have he₄:IsEnum (h₃.push { cls:=.type "tuple",data:=.seq #[.int i tk,.ref hp.objs.size] }) e z ((i:Int)+1) old:=P' _ he₃;have hsz:h₃.objs.size=hp.objs.size+1:=by rw[hs₃.1,hs₂.1,q6]
 have hel:e<hp.objs.size:=W' he;have ht₄:(h₃.push { cls:=.type "tuple",data:=.seq #[.int i tk,.ref hp.objs.size] }).get? (hp.objs.size+1)=some { cls:=.type "tuple",data:=.seq #[.int i tk,.ref hp.objs.size] }:=by rw[<-hsz];exact Zm' _ rfl
 have YC:∀ c o,c≠e->h₁.get? c=some o->(h₃.push { cls:=.type "tuple",data:=.seq #[.int i tk,.ref hp.objs.size] }).get? c=some o:=fun c o hc q =>
  P' _ (hs₃.extBut c o hc (hs₂.extBut c o hc q))
 generalize h₃.push { cls:=.type "tuple",data:=.seq #[.int i tk,.ref hp.objs.size] } = h₄ at he₄ ht₄ YC;show wpAny _ _ (Builtin.SmallTypes.ownedTupleIsFree (.ref e) >>= _) _ _ ⟨h₄,g,d,tk+1,os⟩;rw[hsz];refine C' ?_;unfold Builtin.SmallTypes.ownedTupleIsFree;refine C' (wpAny_field he₄ rfl (x:=.none) rfl (U' ?_));simp only [if_true];refine C' (wpAny_rule ?_);refine C' (wpAny_field he₄ rfl (x:=old) rfl ?_);refine C' (wpAny_setField_rec he₄ (by simp) fun h₅ he₅ hs₅=>?_)
 replace hs₅:Heap.SameBut e h₄ h₅:=hs₅
 replace he₅:IsEnum h₅ e z ((i:Int)+1) (.ref hp.objs.size):=he₅
 show wpAny _ _ (Builtin.SmallTypes.ownedTupleHandOut (.ref e) (.ref (hp.objs.size+1)) >>= _) _ _ ⟨h₅,g,d,tk+1,os⟩;refine C' ?_;unfold Builtin.SmallTypes.ownedTupleHandOut;refine C' (wpAny_setField_rec he₅ (by simp) fun h₆ he₆ hs₆=>?_)
 replace hs₆:Heap.SameBut e h₅ h₆:=hs₆
 replace he₆:IsEnumOut h₆ e z ((i:Int)+1) (.ref hp.objs.size) (hp.objs.size+1):=he₆
 refine wpAny_setField_rec he₆ (by simp) fun h₇ he₇ hs₇=>?_
 replace hs₇:Heap.SameBut e h₆ h₇:=hs₇
 replace he₇:IsEnumOut h₇ e z ((i:Int)+1) (.ref hp.objs.size) (hp.objs.size+1):=he₇
 have up:∀ c o,c≠e->h₁.get? c=some o->h₇.get? c=some o:=fun c o hc q=>hs₇.extBut c o hc (hs₆.extBut c o hc (hs₅.extBut c o hc (YC c o hc q)));have nT:(hp.objs.size:Nat)≠e:=Nat.ne_of_gt hel;have Xc:(hp.objs.size+1:Nat)≠e:=Nat.ne_of_gt (Nat.lt_succ_of_lt hel);refine C' (wpAny_letGo (U' ⟨_,rfl,U' (hQ h₇ tk he₇ ?_ (up _ _ nT q5) ?_ ?_)⟩))
 ·obtain⟨⟨u0,u1,u2,u3⟩,u4,⟨u5,u6,u7⟩,u8,u9⟩:=st₁;exact⟨⟨u0,u1,up _ _ ez.symm u2,u3⟩,up _ _ ZP.symm u4,⟨u5,u6,up _ _ Yz.symm u7⟩,u8.at fun o q=>up _ o YA.symm q,u9.at fun o q=>up _ o YB.symm q⟩
 ·exact hs₇.extBut _ _ Xc (hs₆.extBut _ _ Xc (hs₅.extBut _ _ Xc ht₄))
 ·intro c o hc q;have hc':c≠e/\c≠z/\c≠TO/\c≠i1/\c≠i2:=by simpa using hc
  exact up c o hc'.1 (q7 c o hc'.2.1 hc'.2.2.1 hc'.2.2.2.1 hc'.2.2.2.2 q)
theorem RB {e z TI TO i1 i2 l1 l2:Addr}{i:Nat}{xs:Array Value}{old:Value}{Q:Option Value->Shared->Prop}(hh:A.handled=none)(D:ZipApart z TI TO i1 i2 l1 l2)
  (he:IsEnum s.heap e z i old) (hst:M3 z TI TO i1 i2 l1 l2 i s.heap) (hl1:s.heap.IsList l1 xs) (hx:xs[i]? = none)
  (hQ:∀ h',(∀ c o,c ∉ [e,z,TO,i1,i2]->s.heap.get? c=some o->h'.get? c=some o)->Q none { s with heap:=h' }):wpAny (model prog w) A (pyNext (.ref e)) Q E s:=by
 have hT:s.TypeIs (.ref e) "enumerate":=⟨_,he,rfl⟩;obtain⟨⟨f0,f1,hz,hlo⟩,hTI,⟨ta,tb,hTO⟩,g1,g2⟩:=hst;unfold pyNext;refine C' (wpAny_attempt (wpAny_callSpecial?_slot (name:=Str.ofString "__next__") hT slot_enumerate_next
  (wpAny_call_entry slot_enumerate_next hT PySem.F.entry_enumerate_next ?_ (PySem.F.args_enumerate_next_1 _))))
 show wpAny _ _ (field (.ref e) 2 >>= _) _ _ _;refine C' (wpAny_field he rfl (x:=.ref z) rfl ?_);refine C' ?_;have Uh:s.TypeIs (.ref z) "zip":=⟨_,hz,rfl⟩;unfold Builtin.SmallTypes.nextOf;refine C' (wpAny_callSpecial?_slot (name:=Str.ofString "__next__") Uh slot_zip_next
  (wpAny_call_entry slot_zip_next Uh entry_zip_next (M0 hh D hz hlo hTI hTO g1 hl1 hx fun h' x hk hx'=>?_) (PySem.F.args_zip_next_1 _)))
 obtain⟨o,ho,hc⟩:=hx';refine C' (wpAny_isInstance (T:="StopIteration") (b:=true) ⟨o,ho,hc⟩ isSubtype_stop ?_);refine U' (hQ _ fun c o hc q=>?_);have hc':c≠e/\c≠z/\c≠TO/\c≠i1/\c≠i2:=by simpa using hc
 exact hk c o hc'.2.1 hc'.2.2.1 hc'.2.2.2.1 hc'.2.2.2.2 q
theorem pS (z TI TO:Addr) :
  Meets (Builtin.«enumerate.__new__» ⟨[.type "enumerate",.ref z],[]⟩) (fun _ R s=>IsZip s.heap z TI TO .none /\
   R (.ok (.ret (.ref s.heap.objs.size)))
    { s with heap:=s.heap.push { cls:=.type "enumerate",data:=.fields #[.none,.bool false,.ref z,rawInt 0,.none,.none] } }) :=
 .of_wp fun prog w A R s h=>by
  obtain⟨hp,g,d,tk,os⟩:=s;obtain⟨hl,h⟩:=h;have hsub:=sub_enumerate;have hL:IsZip (Shared.heap ⟨hp,g,d,tk,os⟩) z TI TO .none:=hl
  wp_walk using wpAny_loadPart' hl
  refine wpAny_stack_any fun st=>U' ?_;split
  ·rename_i c _ _ _ _ _
   cases (c==Value.type "enumerate")
   ·wp_walk using wpAny_loadPart' hl,wpAny_pyIter_zip hL
    exact⟨_,rfl,h⟩
   ·wp_walk using wpAny_loadPart' hl,wpAny_pyIter_zip hL
    exact⟨_,rfl,h⟩
  ·wp_walk using wpAny_loadPart' hl,wpAny_pyIter_zip hL
   exact⟨_,rfl,h⟩
theorem sf {z TI TO:Addr}{Q:Value->Shared->Prop}(hz:IsZip s.heap z TI TO .none)
  (h:∀ h',IsEnum h' s.heap.objs.size z 0 .none->(∀ b o,s.heap.get? b=some o->h'.get? b=some o)->Q (.ref s.heap.objs.size) { s with heap:=h' }) :
  wpAny (model prog w) A (call (.type "enumerate") [.ref z]) Q E s:=by
 refine callType_new PySem.F.called_enumerate (by decide) (PySem.F.typeCall_enumerate_1 _) (PySem.F.newCall_enumerate_1 _) (fun obj=>PySem.F.args_object_init_2 obj _) PySem.F.entry_enumerate_new
  (pS z TI TO) ⟨hz,?_⟩
 show _/\_;have he:IsEnum (s.heap.push { cls:=.type "enumerate",data:=.fields #[.none,.bool false,.ref z,rawInt 0,.none,.none] }) s.heap.objs.size z 0 .none:=Zm' _ rfl;exact⟨⟨_,he,rfl⟩,h _ he fun b o x=>P' _ x⟩
end
end L2
namespace L2
open PySem PySem.Spec PyProof.Rows
section
variable {X:Cx} {pins:List (Addr×Obj)} {σ:St} {H:Hp} {s:Shared}
theorem Inv.Pa {tk:Nat}{h':Heap}{wr:List Addr}{T U:Addr}{xs ys:List V}{vals vals2:List Value}(I:Inv X pins σ H s)(hw:∀ b∈wr,jV X pins H b)(hT:s.heap.objs.size<=T)(hU:s.heap.objs.size<=U)(hTU:T≠U)
  (ht:h'.IsTuple T vals.toArray) (rv:Vals xs vals) (hz:xs.length<=sizeLine) (hu:h'.IsTuple U vals2.toArray) (MW:Vals ys vals2) (hz2:ys.length<=sizeLine)
  (kk:∀ b o,b ∉ wr->s.heap.get? b=some o->h'.get? b=some o) (there:∀ b∈wr,∃ o,h'.get? b=some o):Inv X pins σ (upd (upd H T (.tup xs)) U (.tup ys)) { s with heap:=h',toks:=tk }:=by
 have MR:H T=none:=I.hok.fresh hT;have ZQ:H U=none:=I.hok.fresh hU;have nT:∀ b o,s.heap.get? b=some o->b≠T:=fun b o e=>Zn' (Za' (W' e) hT);have nU:∀ b o,s.heap.get? b=some o->b≠U:=fun b o e=>Zn' (Za' (W' e) hU);have up:∀{b:Addr} {o:HO},H b=some o->upd (upd H T (.tup xs)) U (.tup ys) b=some o:=fun e=>by
  rw[ak (au e ZQ),ak (au e MR)];exact e
 refine I.step (g':=s.gens) (d':=s.drawn) (ch:=wr) (fun b hb=>?_) (fun b o _ _ hc e _=>kk b o hc e) (fun b o _ _ hc e _=>⟨o.slots,kk b o hc e⟩) (fun b o _ e n=>by rw[ak (nU b o e),ak (nT b o e)];exact n)
  (fun b o hc e=>⟨o,kk b o hc e⟩) (fun b ys e=>up e) (fun b o u e=>up e) (fun b ps e=>⟨#[],by rw[up e];simp⟩) (fun m hm=>?_) (fun b u e=>?_) I.bare
 ·obtain⟨_,f1,_,f3,f4,f5⟩:=hw b hb;exact⟨f3,f1,f4,f5⟩
 ·obtain⟨o,es,ep,ho,r⟩:=hm;exact⟨o,es,ep,kk _ o (fun z=>(hw _ z).2.1 rfl) ho,r⟩
 ·by_cases hb:b=U
  ·subst hb;rw[af]at e;cases e;exact⟨hz2,vals2,MW,hu⟩
  ·rw[ak hb]at e
   by_cases hb2:b=T
   ·subst hb2;rw[af]at e;cases e;exact⟨hz,vals,rv,ht⟩
   ·rw[ak hb2]at e;refine(I.hok b u e).stay (fun c v hc q=>kk c v (fun z=>?_) q) (fun c q=>up q) fun c ys q=>up q;have hn:=(hw c z).1;rcases hc with hc|hc
    ·rw[hc,e]at hn;cases hn
    ·rw[hc]at hn;cases hn
noncomputable def M4 (K:Frag)(a b:Addr):It :=
 ⟨fun i H=>∃ xs ys x y,aM K H a xs/\aM K H b ys/\xs[i]? = some x/\ys[i]? = some y,
  fun i H p H'=>∃ x y t0 t1,p=.ref t1/\H t0=none/\H t1=none/\t0≠t1/\(∀ xs,aM K H a xs->xs[i]? = some x)/\(∀ ys,aM K H b ys->ys[i]? = some y)/\H'=upd (upd H t0 (.tup [x,y])) t1 (.tup [.int i,.ref t0]),
  fun i H=>∃ xs ys,aM K H a xs/\aM K H b ys/\xs.length<=i⟩
theorem Pb {P:Program}{w:World}{K:Frag}{es:List Expr}{k:Nat}{tp:Pos}{e z TI TO i1 i2:Addr}(a b:Addr)(O:wm z TI TO i1 i2)(hne:∀ c∈[z,TI,TO,i1,i2],e≠c) :
  Turn P w K (.Tuple es k tp) (M4 K a b) [e,z,TI,TO,i1,i2] e (fun i h=>(∃ old,IsEnum h e z i old)/\M3 z TI TO i1 i2 a b i h) where
 mem:=by simp
 obj:=fun i h st c hc=>by
  obtain⟨⟨old,he⟩,⟨f0,f1,hz,_⟩,hTI,⟨x,y,hTO⟩,⟨o1,e1,_,d1⟩,⟨o2,e2,_,d2⟩⟩:=st;have hc':c=e\/c=z\/c=TI\/c=TO\/c=i1\/c=i2:=by simpa using hc
  rcases hc' with rfl|rfl|rfl|rfl|rfl|rfl
  ·exact⟨_,he,fun v q=>by
    have q':Data.fields _=Data.cell v:=q;cases q'⟩
  ·exact⟨_,hz,fun v q=>by
    have q':Data.fields _=Data.cell v:=q;cases q'⟩
  ·exact⟨_,hTI,fun v q=>by
    have q':Data.seq _ _=Data.cell v:=q;cases q'⟩
  ·exact⟨_,hTO,fun v q=>by
    have q':Data.seq _ _=Data.cell v:=q;cases q'⟩
  ·exact⟨o1,e1,fun v q=>by rw[d1]at q;cases q⟩
  ·exact⟨o2,e2,fun v q=>by rw[d2]at q;cases q⟩
 keep:=fun i h h' st kp=>by
  obtain⟨⟨old,he⟩,⟨f0,f1,hz,hl⟩,hTI,⟨x,y,hTO⟩,h1,h2⟩:=st;exact⟨⟨old,kp e (by simp) _ he⟩,⟨f0,f1,kp z (by simp) _ hz,hl⟩,kp TI (by simp) _ hTI,⟨x,y,kp TO (by simp) _ hTO⟩,h1.at fun o q=>kp i1 (by simp) o q,h2.at fun o q=>kp i2 (by simp) o q⟩
 item:=by
  intro X hP hw hK hc i pins s σ H E I hf st hg;subst hP hw hK;obtain⟨xs,ys,x,y,hq,hq2,hx,hy⟩:=hg;obtain⟨⟨old,he⟩,SR⟩:=st;have D:ZipApart z TI TO i1 i2 a b:=by
   obtain⟨⟨f0,f1,hz,_⟩,hTI,⟨x,y,hTO⟩,⟨o1,e1,c1,_⟩,⟨o2,e2,c2,_⟩⟩:=SR;have nz:∀{c:Addr} {zs:List V},aM X.K H c zs->c≠z:=fun h=>cF (K:=X.K) I h hz (by intro q;injection q with q;exact S' q (by decide));have nT:∀{c:Addr} {zs:List V},aM X.K H c zs->c≠TO:=fun h=>cF (K:=X.K) I h hTO (by intro q;injection q with q;exact S' q (by decide));have n1:∀{c:Addr} {zs:List V},aM X.K H c zs->c≠i1:=fun h=>cF (K:=X.K) I h e1 (by rw[c1];intro q;injection q with q;exact S' q (by decide));have n2:∀{c:Addr} {zs:List V},aM X.K H c zs->c≠i2:=fun h=>cF (K:=X.K) I h e2 (by rw[c2];intro q;injection q with q;exact S' q (by decide));exact⟨O.TIz,O.TOz,O.i1z,O.i2z,O.TITO,O.TIi1,O.TIi2,O.TOi1,O.TOi2,O.i12,nz hq,nT hq,n1 hq,n2 hq,nz hq2,nT hq2,n1 hq2,n2 hq2⟩
  obtain⟨its,rv,p,_⟩:=I.list hq;obtain⟨its2,MW,p2,_⟩:=I.list hq2;obtain⟨u,hu,ru⟩:=rv.get hx;obtain⟨u2,hu2,W9⟩:=MW.get hy;refine O9 D hne he SR p.isList p2.isList (x:=u) (y:=u2) (by simpa using hu) (by simpa using hu2) fun h' tk q1 q2 q3 q4 kk=>?_;refine⟨_,rfl,?_⟩;have sub:∀ c∈[e,z,TO,i1,i2],c∈[e,z,TI,TO,i1,i2]:=fun c hc=>by
   have:c=e\/c=z\/c=TO\/c=i1\/c=i2:=by simpa using hc
   simp;rcases this with r|r|r|r|r <;> simp[r]
  have fw:∀ c∈[e,z,TO,i1,i2],jV X pins H c:=fun c hc=>hf c (sub c hc);have I1:Inv X pins σ (upd (upd H s.heap.objs.size (.tup [x,y])) (s.heap.objs.size+1) (.tup [.int i,.ref s.heap.objs.size])) { s with heap:=h',toks:=tk+1 }:=by
   refine I.Pa (vals:=[u,u2]) (vals2:=[.int i tk,.ref s.heap.objs.size]) fw (R' _) (Nat.le_succ _) (Zn' (Nat.lt_succ_self _)) ⟨_,q3,rfl,_,rfl⟩ (.cons ru (.cons W9 .nil)) (by show 2<=sizeLine;decide)
    ⟨_,q4,rfl,_,rfl⟩ (.cons ⟨tk,rfl⟩ (.cons rfl .nil)) (by show 2<=sizeLine;decide) kk fun c hc=>?_
   obtain⟨⟨f0,f1,m1,_⟩,_,⟨_,_,m2⟩,⟨o1,m3,_⟩,⟨o2,m4,_⟩⟩:=q2;have:c=e\/c=z\/c=TO\/c=i1\/c=i2:=by simpa using hc
   rcases this with rfl|rfl|rfl|rfl|rfl
   ·exact⟨_,q1⟩
   ·exact⟨_,m1⟩
   ·exact⟨_,m2⟩
   ·exact⟨_,m3⟩
   ·exact⟨_,m4⟩
  have hT0:H s.heap.objs.size=none:=I.hok.fresh (R' _);have hT1:H (s.heap.objs.size+1)=none:=I.hok.fresh (Nat.le_succ _);have lt:∀ c∈[e,z,TI,TO,i1,i2],c<s.heap.objs.size:=fun c hc=>by
   obtain⟨⟨f0,f1,m1,_⟩,m5,⟨_,_,m2⟩,⟨o1,m3,_⟩,⟨o2,m4,_⟩⟩:=SR;have hc':c=e\/c=z\/c=TI\/c=TO\/c=i1\/c=i2:=by simpa using hc
   rcases hc' with rfl|rfl|rfl|rfl|rfl|rfl
   ·exact W' he
   ·exact W' m1
   ·exact W' m5
   ·exact W' m2
   ·exact W' m3
   ·exact W' m4
  refine wpAny_letOwnedTupleGo_enum q1 fun h'' Xd hs''=>?_;have hf2:∀ c∈[e,z,TI,TO,i1,i2],jV X pins (upd (upd H s.heap.objs.size (.tup [x,y])) (s.heap.objs.size+1) (.tup [.int i,.ref s.heap.objs.size])) c:=fun c hc=>by
   obtain⟨f0,fr⟩:=hf c hc;have l:=lt c hc;exact⟨by rw[ak (Zn' (Nat.lt_succ_of_lt l)),ak (Zn' l)];exact f0,fr⟩
  have ZR:∀ c o,c ∉ [e]->h'.get? c=some o->h''.get? c=some o:=fun c o hc q=>hs''.extBut c o (fun r=>hc (by simp[r])) q;have up:∀{c:Addr} {o:Obj},c∈[z,TI,TO,i1,i2]->h'.get? c=some o->h''.get? c=some o:=fun hc q=>hs''.extBut _ _ (hne _ hc).symm q;have fe:∀ c∈[e],jV X pins (upd (upd H s.heap.objs.size (.tup [x,y])) (s.heap.objs.size+1) (.tup [.int i,.ref s.heap.objs.size])) c:=fun c hc=>by
   have:c=e:=by simpa using hc
   exact hf2 c (by simp[this])
  refine⟨.ref (s.heap.objs.size+1),_,I1.g6 (tk:=tk+1) (wr:=[e]) fe ZR,rfl,⟨x,y,s.heap.objs.size,s.heap.objs.size+1,rfl,hT0,hT1,Zn' (Nat.lt_succ_self _),mU I hq hx,mU I hq2 hy,rfl⟩,?_,fun c hc=>(hf2 c hc).1⟩;obtain⟨⟨f0,f1,m1,m1'⟩,m5,⟨_,_,m2⟩,m3,m4⟩:=q2;exact⟨⟨_,by simpa using Xd⟩,⟨f0,f1,up (by simp) m1,m1'⟩,up (by simp) m5,⟨_,_,up (by simp) m2⟩,m3.at fun o q=>up (by simp) q,m4.at fun o q=>up (by simp) q⟩
 done:=by
  intro X hP hw hK hc i pins s σ H E I hf st hg;subst hP hw hK;obtain⟨xs,ys,hq,hq2,hx⟩:=hg;obtain⟨⟨old,he⟩,SR⟩:=st;have D:ZipApart z TI TO i1 i2 a b:=by
   obtain⟨⟨f0,f1,hz,_⟩,hTI,⟨x,y,hTO⟩,⟨o1,e1,c1,_⟩,⟨o2,e2,c2,_⟩⟩:=SR;have nz:∀{c:Addr} {zs:List V},aM X.K H c zs->c≠z:=fun h=>cF (K:=X.K) I h hz (by intro q;injection q with q;exact S' q (by decide));have nT:∀{c:Addr} {zs:List V},aM X.K H c zs->c≠TO:=fun h=>cF (K:=X.K) I h hTO (by intro q;injection q with q;exact S' q (by decide));have n1:∀{c:Addr} {zs:List V},aM X.K H c zs->c≠i1:=fun h=>cF (K:=X.K) I h e1 (by rw[c1];intro q;injection q with q;exact S' q (by decide));have n2:∀{c:Addr} {zs:List V},aM X.K H c zs->c≠i2:=fun h=>cF (K:=X.K) I h e2 (by rw[c2];intro q;injection q with q;exact S' q (by decide));exact⟨O.TIz,O.TOz,O.i1z,O.i2z,O.TITO,O.TIi1,O.TIi2,O.TOi1,O.TOi2,O.i12,nz hq,nT hq,n1 hq,n2 hq,nz hq2,nT hq2,n1 hq2,n2 hq2⟩
  obtain⟨its,rv,p,_⟩:=I.list hq;have hl:=rv.length;refine RB (I.ok.hd hc) D he SR p.isList (Array.getElem?_eq_none (by simp;omega)) fun h' kk=>?_;refine⟨rfl,I.g6 (tk:=s.toks) (wr:=[e,z,TO,i1,i2]) (fun c hc=>hf c ?_) kk⟩;have:c=e\/c=z\/c=TO\/c=i1\/c=i2:=by simpa using hc
  simp;rcases this with r|r|r|r|r <;> simp[r]
 self:=fun _ _ _ _ _ st h=>by
  obtain⟨⟨old,he⟩,_⟩:=st;exact wpAny_pyIter_enum he h
inductive RC (K:Frag)(R:(It->Hp->Prop))(x:V)(y:V)(H2:Hp):Prop
 |mk (a:_) (b:_) (cT:x=.ref a) (cU:y=.ref b) (dH:(∃ xs,aM K H2 a xs)/\(∃ ys,aM K H2 b ys)/\R (M4 K a b) H2):RC K R x y H2
def ZS (K:Frag)(tl tm:TE):TI:=fun σ H R=>tl σ H fun x H1=>tm σ H1 fun y H2=>RC K R x y H2
inductive Xe (X:Cx)(pins:List (Addr×Obj))(σ:St)(R:V->V->Hp->Prop)(v:Value)(s1:Shared):Prop
 |mk (a b z TI TO i1 i2:Addr) (H1:Hp) (q:R (.ref a) (.ref b) H1) (e:v=.ref z) (I1:Inv X pins σ H1 s1) (O:wm z TI TO i1 i2) (g1:IsZip s1.heap z TI TO .none) (g2:MU z TI TO i1 i2 a b 0 s1.heap) (g3:∀ c∈[z,TI,TO,i1,i2],jV X pins H1 c):Xe X pins σ R v s1
theorem Pc {l m:Expr}{tl tm:TE}{p pos:Pos}(hg:Gl X "zip")(hz:X.mg "zip"=none)(hl:PE X l tl)(hm:PE X m tm)(hs:starEach [l,m] X.env=[(false,eval l X.env),(false,eval m X.env)])(hs2:starEach [m] X.env=[(false,eval m X.env)])
  {R:V->V->Hp->Prop} (I:Inv X pins σ H s) (h:tl σ H fun x H1=>tm σ H1 fun y H2=>R x y H2) (hR:∀ x y H1,R x y H1->∃ a b,x=.ref a/\y=.ref b/\(∃ xs,aM X.K H1 a xs)/\∃ ys,aM X.K H1 b ys) :
  wpAny (model X.prog X.w) X.A (eval (.Call (.Name "zip" p) [l,m] [] pos) X.env) (Xe X pins σ R) X.xe s:=by
 refine Call_ (my I hg hz MS (PyProof.Rows.callWith_type1 (cu (MX hl hm hs hs2 pos pins s σ H I h) fun us s1 ⟨x,y,u,v,H1,I1,e1,r1,r2,q1⟩=>?_) (by rw[hs,hs2]) (by rw[hs2];rfl)));obtain⟨a,b,rfl,rfl,⟨xs,hq⟩,⟨ys,hq2⟩⟩:=hR _ _ _ q1;subst e1;cases r1;cases r2;obtain⟨its,rv,pl,_⟩:=I1.list hq;obtain⟨its2,MW,Xb,_⟩:=I1.list hq2;refine call_zip_2 pl.isList Xb.isList fun h' z1 z2 z3 z4 z5 hsz kk=>?_;have O:wm (s1.heap.objs.size+4) (s1.heap.objs.size+2) (s1.heap.objs.size+3) s1.heap.objs.size (s1.heap.objs.size+1):=by
  constructor <;> exact(by intro q;have q':(_:Nat)=_:=q;omega)
 refine⟨a,b,_,_,_,_,_,H1,q1,rfl,I1.kept (t':=s1.toks) kk,O,z1,⟨z1,z2,⟨_,_,z3⟩,z4,z5⟩,fun c hc=>?_⟩;have hc':s1.heap.objs.size<=c:=by
  have:c=s1.heap.objs.size+4\/c=s1.heap.objs.size+2\/c=s1.heap.objs.size+3\/c=s1.heap.objs.size\/c=s1.heap.objs.size+1:=by simpa using hc
  rcases this with r|r|r|r|r <;> (rw[r];first|exact Nat.le_add_right _ _|exact R' _)
 exact I1.Ec hc' (I1.hok.fresh hc')
theorem Ui {l m:Expr}{tl tm:TE}{p p2 pos pos2 tp:Pos}{es:List Expr}{k:Nat}(hg:Gl X "zip")(hz:X.mg "zip"=none)(hg2:Gl X "enumerate")(hm2:X.mg "enumerate"=none)(hl:PE X l tl)(hm:PE X m tm)
  (hs:starEach [l,m] X.env=[(false,eval l X.env),(false,eval m X.env)]:=by rfl) (hs2:starEach [m] X.env=[(false,eval m X.env)]:=by rfl)
  (hs3:starEach [Expr.Call (.Name "zip" p) [l,m] [] pos] X.env=[(false,eval (.Call (.Name "zip" p) [l,m] [] pos) X.env)]:=by rfl) :
  PI X (.Tuple es k tp) (.Call (.Name "enumerate" p2) [.Call (.Name "zip" p) [l,m] [] pos] [] pos2) (ZS X.K tl tm):=by
 intro pins s σ H R I h;have hev:wpAny (model X.prog X.w) X.A (spliced (backTo pos2 (starEach [Expr.Call (.Name "zip" p) [l,m] [] pos] X.env))) (fun us s1=>∃ v,us=[v]/\Xe X pins σ (RC X.K R) v s1) X.xe s:=by
  rw[hs3];refine Calls.spliced_cons (cu (Pc hg hz hl hm hs hs2 I h fun x y H1 q=>?_) fun v s1 q=>Calls.spliced_nil ⟨v,rfl,q⟩);obtain⟨a,b,e1,e2,q1,q2,_⟩:=q;exact⟨a,b,e1,e2,q1,q2⟩
 refine Call_ (my I hg2 hm2 tQ (PyProof.Rows.callWith_type1 (cu hev fun us s1 q=>?_) (by rw[hs3];rfl) (by rfl)));obtain⟨v,e,q⟩:=q;subst e;obtain⟨a,b,z,TI,TO,i1,i2,H1,q,e,I1,O,g1,g2,g3⟩:=q;obtain⟨a',b',e1,e2,_,_,q⟩:=q;cases e1;cases e2;subst e;refine sf g1 fun h' he kk=>?_;refine wpAny_pyIter_enum he ?_;obtain⟨y1,y2,⟨y3,y4,y5⟩,y6,y7⟩:=g2;have hne:∀ c∈[z,TI,TO,i1,i2],s1.heap.objs.size≠c:=fun c hc=>by
  have hc':c=z\/c=TI\/c=TO\/c=i1\/c=i2:=by simpa using hc
  rcases hc' with rfl|rfl|rfl|rfl|rfl
  ·exact Nat.ne_of_gt (W' y1)
  ·exact Nat.ne_of_gt (W' y2)
  ·exact Nat.ne_of_gt (W' y5)
  ·obtain⟨_,y,_⟩:=y6;exact Nat.ne_of_gt (W' y)
  ·obtain⟨_,y,_⟩:=y7;exact Nat.ne_of_gt (W' y)
 refine⟨s1.heap.objs.size,[s1.heap.objs.size,z,TI,TO,i1,i2],_,_,H1,rfl,I1.kept (t':=s1.toks) kk,Pb a b O hne,⟨⟨.none,he⟩,⟨.none,.bool false,kk _ _ y1,.inl rfl,false,rfl⟩,kk _ _ y2,⟨y3,y4,kk _ _ y5⟩,y6.at fun o q=>kk _ _ q,y7.at fun o q=>kk _ _ q⟩,fun c hc=>?_,q⟩;rcases List.mem_cons.mp hc with rfl|hc
 ·exact I1.Ec (R' _) (I1.hok.fresh (R' _))
 ·exact g3 c hc
end
theorem RD {K:Frag}{a b:Addr}{xs ys:List V}{g:TG}{tb:TS}{D:Ends}{σ:St}{H:Hp}(Pv:Nat->St->Hp->Prop)(he:xs.length=ys.length)(h0:Pv 0 σ H)(hl:∀ i σ H,Pv i σ H->aM K H a xs/\aM K H b ys)
  (hs:∀ i x y t u σ H,xs[i]? = some x->ys[i]? = some y->Pv i σ H->H t=none->H u=none->t≠u->g (.ref u) σ (upd (upd H t (.tup [x,y])) u (.tup [.int i,.ref t])) fun σ2 H2=>tb { D with nx:=Pv (i+1),ct:=Pv (i+1),bk:=D.nx } σ2 H2) (hd:∀ σ H,Pv xs.length σ H->D.nx σ H) :
  ∃ W:Nat->Nat->St->Hp->Prop,(∃ m,W 0 m σ H)/\∀ i m σ H,W i m σ H ->
   ((M4 K a b).stop i H/\D.nx σ H)\/((M4 K a b).go i H/\∃ N:St->Hp->Prop,(∀ σ' H',N σ' H'->∃ m',m'<m/\W (i+1) m' σ' H')/\∀ x H',(M4 K a b).KZ i H x H'->g x σ H' fun σ2 H2=>tb { D with nx:=N,ct:=N,bk:=D.nx } σ2 H2):=by
 refine⟨fun i m σ H=>m=xs.length-i/\i<=xs.length/\Pv i σ H,⟨xs.length,by simp,Zq' _,h0⟩,?_⟩;rintro i m σ H ⟨rfl,hi,p⟩;obtain⟨q,q2⟩:=hl i σ H p
 by_cases hlt:i<xs.length
 ·have hlt2:i<ys.length:=by omega
  refine .inr ⟨⟨xs,ys,xs[i],ys[i],q,q2,by simp[hlt],by simp[hlt2]⟩,Pv (i+1),fun σ' H' p'=>⟨xs.length-(i+1),by omega,rfl,hlt,p'⟩,fun x H' y=>?_⟩;obtain⟨x0,y0,t,u,rfl,hn,hn2,tu,hx,hy,rfl⟩:=y;exact hs i x0 y0 t u σ H (hx xs q) (hy ys q2) p hn hn2 tu
 ·have e:i=xs.length:=by omega
  subst e;exact .inl ⟨⟨xs,ys,q,q2,R' _⟩,hd σ H p⟩
end L2
namespace L2
open PySem PySem.Spec PyProof.Rows
structure Em (K:Frag)(x qual:Str)(st:Stmt)(f:Addr)(fd:FuncData)(dV:Value):Prop where
 ex:∃(oc:Value)(od:Option Addr)(kV doc pm:Value)(an:Option Addr)(cdv ct:Value)(osl:Array (Option Value)),
  fd=fnOf x qual (dj st) (a8 st) (aj st) dV kV doc pm an cdv ct/\K.lookup f=some ⟨oc,od,.func fd,osl⟩/\codeIn K cdv qual=true
 kp:keepIn K (.ref f)=true
section
variable {P:Program} {w:World} {K:Frag} {mg:Str->Option Value} {base:Heap}
theorem Em.ok {x qual:Str}{st:Stmt}{f:Addr}{fd:FuncData}{dV:Value}{N ps:List Str}{k:Nat}{sp:Sp}(F:Em K x qual st f fd dV)(S:aA N ps (aj st))(len:∀ vs H Q E,sp vs H Q E->vs.length=ps.length)
  (hbody:∀(cdv:Value)(A:Around)(outer:List Env)(s:Shared)(H:Hp)(vs:List V)(Q:VK)(E:XK),fJ k (A.deeper (envOfC qual (aj st) s.heap.objs.size f cdv))->sp vs H Q E ->
   ∃ t,zy (mC fA P w K mg base N qual (aj st) f cdv A outer s H E).Qf (a8 st) t/\t { nx:=fun _ H'=>Q .non H',rt:=Q } (start N vs) H):aW P w K mg base fA (k+1) f fd ps sp:=by
 obtain⟨oc,od,kV,doc,pm,an,cdv,ct,osl,rfl,lk,hcd⟩:=F.ex;refine JH lk hcd S len fun A outer s H vs Q E hr hsp=>?_;obtain⟨t,h,q⟩:=hbody cdv A outer s H vs Q E hr hsp;exact⟨t,h.Qf,q⟩
theorem Em.binds {x qual:Str}{st:Stmt}{f:Addr}{fd:FuncData}{T:Addr}{o:Obj}{items:Array Value}{n:Nat}{ps:List Str}{ds:List Value}(F:Em K x qual st f fd (.ref T))(lk:K.lookup T=some o)(hs:o.data=.seq items n)
  (h:∀(kV doc pm:Value)(an:Option Addr)(cdv ct:Value)(us:List Value),(us++ds).length=ps.length->∃ k,bindArgs (fnOf x qual (dj st) (a8 st) (aj st) (.ref T) kV doc pm an cdv ct) ⟨us,[]⟩=seqItems? (.ref T) >>= k/\k (some items)=pure (ps.zip (us++ds))):Binds K fd ps ds:=by
 obtain⟨oc,od,kV,doc,pm,an,cdv,ct,osl,rfl,lkf,hcd⟩:=F.ex;intro s us KI hl;obtain⟨k,h1,h2⟩:=h kV doc pm an cdv ct us hl;exact BindsTo.of_defaults rfl (KI _ _ lk) hs h1 h2
theorem JV {x qual:Str}{st:Stmt}{f:Addr}{oc:Value}{od an:Option Addr}{osl:Array (Option Value)}{dV kV doc pm cdv ct:Value}(l:K.lookup f=some ⟨oc,od,.func (fnOf x qual (dj st) (a8 st) (aj st) dV kV doc pm an cdv ct),osl⟩)
  (c:codeIn K cdv qual=true) (k:keepIn K (.ref f)=true):Em K x qual st f (fnOf x qual (dj st) (a8 st) (aj st) dV kV doc pm an cdv ct) dV:=⟨⟨oc,od,kV,doc,pm,an,cdv,ct,osl,rfl,l,c⟩,k⟩
end
inductive FT (w:World):List DictEntry->List (Str×V)->Prop
 |nil:FT w [] []
 |cons {x:Str} {t:Tok} {u:Value} {v:V} {es:List DictEntry} {kvs:List (Str×V)}:RelV v u->FT w es kvs->FT w (⟨PyData.keyHash w.params x,.str x t,u⟩::es) ((x,v)::kvs)
structure KD (K:Frag)(w:World)(a:Addr)(kvs:List (Str×V)):Prop where
 sys:(a==sysModules)=false
 ok:∃ es n,K.lookup a=some ⟨.type "dict",none,.dict es n,#[]⟩/\FT w es.toList kvs/\(kvs.map (·.1)).Nodup
theorem FT.vs (P:Program){w:World}:∀{es:List DictEntry} {kvs:List (Str×V)},FT w es kvs->∃ vs:List (Key×Value),Pairs (cf P w) es vs/\vs.map (·.1)=kvs.map (fun p=>(Sum.inr p.1:Key)) /\
  (∀ e∈es,∃ k,(cf P w).is k e.key=true/\e.hash=(cf P w).hash k)/\∀ x,jH (kvs.lookup x) (valueAt vs (Sum.inr x))
 |_,_,.nil=>⟨[],.nil,rfl,fun e h=>by simp at h,fun x=>True.intro⟩
 |_,_,.cons (x:=x) (t:=t) (u:=u) (v:=v) r q=>by
  obtain⟨vs,h1,h2,h3,h4⟩:=FT.vs P q;refine⟨(Sum.inr x,u)::vs,.cons (fW P w x t) rfl h1,by rw[map_cons,map_cons,h2],fun e he=>?_,fun y=>?_⟩
  ·rcases List.mem_cons.mp he with rfl|he
   ·exact⟨Sum.inr x,fW P w x t,rfl⟩
   ·exact h3 e he
  ·by_cases hy:y=x
   ·subst hy;unfold valueAt;simp only [List.lookup_cons,List.find?_cons];simp;exact r
   ·unfold valueAt;have h5:=h4 y;unfold valueAt at h5;have e1:(y==x)=false:=by simpa using hy
    have e2:decide ((Sum.inr x:Key)=Sum.inr y)=false:=J' fun e=>hy (Sum.inr.inj e).symm;simp only [List.lookup_cons,e1,List.find?_cons,e2];exact h5
theorem CC:∀{l:List Str},l.Nodup->(l.map (fun p=>(Sum.inr p:Key))).Nodup
 |[],_=>.nil
 |x::l,h=>by
  rw[map_cons,List.nodup_cons];obtain⟨h1,h2⟩:=List.nodup_cons.mp h;refine⟨fun z=>?_,CC h2⟩;obtain⟨y,hy,e⟩:=mem_map.mp z;cases e;exact h1 hy
theorem KD.dict (P:Program){K:Frag}{w:World}{a:Addr}{kvs:List (Str×V)}{h:Heap}(d:KD K w a kvs)(hi:K.In h):∃ vs,h.DictOf (cf P w) a vs/\∀ x,jH (kvs.lookup x) (valueAt vs (Sum.inr x)):=by
 obtain⟨es,n,lk,ok,nd⟩:=d.ok;obtain⟨vs,h1,h2,h3,h4⟩:=ok.vs P;refine⟨vs,⟨_,es,n,hi _ _ lk,⟨rfl,rfl,rfl⟩,rfl,fun e he=>h3 e (by simpa using he),h1,?_⟩,h4⟩;rw[h2];have:=CC nd;rw[List.map_map]at this;exact this
theorem jH.JW {o:Option V}{u:Option Value}(r:jH o u):o.isSome=u.isSome:=by
 cases o <;> cases u <;> first|rfl|exact False.elim r
theorem jH.Uj {o:Option V}{u:Option Value}{d:V}{d':Value}(r:jH o u)(rd:RelV d d'):RelV (o.getD d) (u.getD d'):=by
 cases o with
 |none=>cases u with
  |none=>exact rd
  |some _=>exact False.elim r
 |some v=>cases u with
  |none=>exact False.elim r
  |some _=>exact r
section
variable {X:Cx}
theorem M5:mP X (compareOp .In) (fun x y H Q=>∃ a z kvs,x=.str z/\y=.ref a/\KD X.K X.w a kvs/\Q (.bl (kvs.lookup z).isSome) H):=by
 intro pins s σ H x y v u Q I rx ry h;obtain⟨a,z,kvs,rfl,rfl,d,q⟩:=h;obtain⟨t,rfl⟩:=rx;cases ry;obtain⟨vs,dd,rel⟩:=d.dict X.prog I.pE;refine wpAny_in_of (knd:=cf X.prog X.w) (k:=Sum.inr z) (fW _ _ z t) d.sys dd.mapOf ?_;rw[<-(rel z).JW];exact⟨.bl _,H,I.tok _,rfl,q⟩
theorem FU:mP X (compareOp .NotIn) (fun x y H Q=>∃ a z kvs,x=.str z/\y=.ref a/\KD X.K X.w a kvs/\Q (.bl (!(kvs.lookup z).isSome)) H):=by
 intro pins s σ H x y v u Q I rx ry h;obtain⟨a,z,kvs,rfl,rfl,d,q⟩:=h;obtain⟨t,rfl⟩:=rx;cases ry;obtain⟨vs,dd,rel⟩:=d.dict X.prog I.pE;refine wpAny_notIn_of (knd:=cf X.prog X.w) (k:=Sum.inr z) (fW _ _ z t) d.sys dd.mapOf ?_;rw[<-(rel z).JW];exact⟨.bl _,H,I.tok _,rfl,q⟩
theorem M6:MC X (fun x y H Q=>∃ a z kvs r,x=.ref a/\y=.str z/\KD X.K X.w a kvs/\kvs.lookup z=some r/\Q r H):=by
 intro value slice pins s σ H x y v u Q I rx ry h hs;obtain⟨a,z,kvs,r,rfl,rfl,d,l,q⟩:=h;cases rx;obtain⟨t,rfl⟩:=ry;obtain⟨vs,dd,rel⟩:=d.dict X.prog I.pE;have hr:=rel z;rw[l]at hr;cases hv:valueAt vs (Sum.inr z) with
 |none=>rw[hv]at hr;exact False.elim hr
 |some rv =>
  rw[hv]at hr;exact subscriptTail_builtinR (x:=rv) dd.typeIs PySem.F.slot_dict_getitem.lookup
   (wpAny_getItem_of (knd:=cf X.prog X.w) (k:=Sum.inr z) (fW _ _ z t) dd.mapOf hv ⟨rfl,⟨r,H,I.tok _,hr,q⟩⟩) hs
def RE (K:Frag)(w:World)(td ty tx:TE):TE:=fun σ H Q=>td σ H fun x H1=>∃ a kvs,x=.ref a/\KD K w a kvs/\ty σ H1 fun y H2=>tx σ H2 fun z H3=>∃ k,y=.str k/\Q ((kvs.lookup k).getD z) H3
theorem M7 {o e f:Expr}{apos cpos:Pos}{td ty tx:TE}(ho:PE X o td)(he:PE X e ty)(hf:PE X f tx)
  (base:attributeBase o "get" X.env (eval o X.env)=eval o X.env:=by rfl)
  (few:((backTo cpos (starEach [e,f] X.env)).all (fun x=>!x.1)&&(backToKw cpos (keywordEach [] X.env)).all (fun x=>x.1.isSome)
   && decide (([e,f]:List Expr).length+([]:List Keyword).length+(if([]:List Keyword).isEmpty then 0 else 1)<30))=true:=by rfl)
  (line:(apos.endLine==cpos.line)=true:=by rfl) (trees:backTo cpos (starEach [e,f] X.env)=[(false,eval e X.env),(false,eval f X.env)]:=by rfl) :
  PE X (.Call (.Attribute o "get" apos) [e,f] [] cpos) (RE X.K X.w td ty tx):=by
 intro pins s σ H Q I h;refine wpAny_Call_method base few line plainAttrs_dict slot_dict_get type_dict_get (cu (ho pins s σ H _ I h) fun u s1 fS=>?_);obtain⟨x,H1,I1,rx,a,kvs,ex,d,q1⟩:=fS;subst ex;obtain rfl:u=Value.ref a:=rx;obtain⟨vs,dd,rel⟩:=d.dict X.prog I1.pE;refine⟨dd.typeIs,fun b q=>?_,?_⟩
 ·cases q;obtain⟨ob,_,_,h1,h2,_⟩:=dd;exact⟨ob,h1,h2.2.1⟩
 rw[trees];refine Calls.callWith_builtin rfl (Calls.evalArgs_plain (Calls.spliced_cons (cu (he pins s1 σ H1 _ I1 q1) fun iv s2 ⟨y,H2,I2,ry,q2⟩ =>
  Calls.spliced_cons (cu (hf pins s2 σ H2 _ I2 q2) fun fv s3 ⟨z,H3,I3,rz,k,ek,q3⟩=>Calls.spliced_nil ?_))))
 subst ek;obtain⟨t,rfl⟩:=ry;obtain⟨vs3,RF,Xf⟩:=d.dict X.prog I3.pE;exact call_meetsIn slot_dict_get RF.typeIs entry_dict_get (args_dict_get_3 _ _ _) (meets_dict_get_default (cf X.prog X.w) a (fW _ _ k t) d.sys fv) ⟨_,RF.mapOf,_,H3,I3.tok _,(Xf k).Uj rz,q3⟩
end
end L2
namespace L2
open PySem PySem.Spec PyProof.Rows
def Uk (t:TE):TE:=fun σ H Q=>∃ R:V->Hp->Prop,t σ H R/\∀ v H',R v H'->Q v H'
def Ul (t:TT):TT:=fun σ H Q=>∃ R:Bool->Hp->Prop,t σ H R/\∀ v H',R v H'->Q v H'
def Um (t:TS):TS:=fun D σ H=>∃ R:St->Hp->Prop,t { D with nx:=R } σ H/\∀ σ' H',R σ' H'->D.nx σ' H'
section
variable {X:Cx}
theorem bL {e:Expr}{t:TE}(h:PE X e t):PE X e (Uk t):=by
 intro pins s σ H Q I ⟨R,hR,hQ⟩;exact cu (h pins s σ H R I hR) fun u s1 ⟨v,H1,I1,r,q⟩=>⟨v,H1,I1,r,hQ v H1 q⟩
theorem bE {e:Expr}{t:TT}(h:PT X e t):PT X e (Ul t):=by
 intro pins s σ H Q I ⟨R,hR,hQ⟩;exact cu (h pins s σ H R I hR) fun u s1 ⟨H1,I1,q⟩=>⟨H1,I1,hQ u H1 q⟩
theorem g7 {st:Stmt}{t:TS}(h:PS X st t):PS X st (Um t):=by
 intro pins s σ H D I ⟨R,hR,hQ⟩;refine cu (h pins s σ H _ I hR) fun f s1 q=>?_;cases f with
 |next=>exact let ⟨σ',H',I',q'⟩:=q;⟨σ',H',I',hQ _ _ q'⟩
 |brk=>exact q
 |cont=>exact q
 |ret u=>exact q
end
theorem mV {t:TE}{σ:St}{H:Hp}{Q:VK}(v:V)(h:t σ H fun x H1=>x=v/\H1=H)(q:Q v H):∃ R:V->Hp->Prop,t σ H R/\∀ v H',R v H'->Q v H':=⟨_,h,by rintro _ _ ⟨rfl,rfl⟩;exact q⟩
theorem fV {t:TT}{σ:St}{H:Hp}{Q:Bool->Hp->Prop}(b:Bool)(h:t σ H fun x H1=>x=b/\H1=H)(q:Q b H):∃ R:Bool->Hp->Prop,t σ H R/\∀ v H',R v H'->Q v H':=⟨_,h,by rintro _ _ ⟨rfl,rfl⟩;exact q⟩
theorem M8 {t:TS}{σ:St}{H:Hp}{D:Ends}(σ':St)(H':Hp)(h:t { D with nx:=fun σ1 H1=>σ1=σ'/\H1=H' } σ H)(q:D.nx σ' H'):∃ R:St->Hp->Prop,t { D with nx:=R } σ H/\∀ σ' H',R σ' H'->D.nx σ' H' :=
 ⟨_,h,by rintro _ _ ⟨rfl,rfl⟩;exact q⟩
theorem jW {x v:V}{H:Hp}(e:x=v):x=v/\H=H:=⟨e,rfl⟩
theorem dr {x v:Bool}{H:Hp}(e:x=v):x=v/\H=H:=⟨e,rfl⟩
end L2
namespace L2
open PySem PySem.Spec PyProof.Rows
noncomputable abbrev Cx.names (X:Cx)(N:List Str):Cx:={ X with N:=N }
section
variable {X:Cx} {pins:List (Addr×Obj)} {σ:St} {H:Hp} {s:Shared}
end
end L2
namespace L2
open PySem PySem.Spec PyProof.Rows
section
variable {X:Cx} {tg iter elt:Expr} {ifs:List Expr} {scope:Scope} {pos:Pos} {cn:List Str} {wi:TI} {g:Bk->TG} {tc:Bk->TT} {te:Bk->TE}
theorem si {i:Nat}{x:Str}{pos' spos:Pos}(hN:X.N.Nodup)(hix:X.N[i]? = some x)(hx:X.env.scope.names.lookup x=some .local)(hcalm:X.calm=true)(F:cY X.env.scope X.N scope)(hi:PI X tg iter wi)
  (hg:∀ b,PG (cW X cn scope b) tg (g b)) (ht:∀ b,PF (cW X cn scope b) ifs (tc b)) (he:∀ b,PE (cW X cn scope b) elt (te b))
  (hsw:swapsWith (.ListComp elt [⟨tg,iter,ifs,0⟩] scope pos) (some (.Name x pos')) spos.line X.env=pure true:=by rfl)
  (hs:∀ x,foldedSetIterable iter X.env x=pure x:=by intro _;rfl):PS X (.Assign [.Name x pos'] (.ListComp elt [⟨tg,iter,ifs,0⟩] scope pos) spos) (Mp (MO cn.length wi g tc te) (xp i)):=by
 intro pins s σ H D I h;rw[exec_Assign_Name_used _ _ _ _ hsw];refine C' (wpAny_standAt (C' ?_));rw[arm_evalThenUse_ListComp];refine C' ?_;have hcl:closureFor scope X.env=pure (fK X.env scope.names []):=JO fun p hp e=>I.ok.has p.1 (F.free p hp e);refine wpAny_comprehension_free (use:=some (assign (.Name x pos') X.env)) rfl hs hcl F.kind F.loc (cu (hi pins s σ H _ I h) fun xv s₁ h₁=>cu h₁ fun itv s₂ h₂=>?_);obtain⟨it,fp,tn,J,H2,rfl,I2,T,st,f2,R⟩:=h₂;refine FK (TH:=fun _=>True) (QQ:=fun D' H'=>D.nx (σ.set i (some (.ref D'))) H') (RR:=fun acc C=>compPost (model X.prog X.w) X.A X.xe (some (assign (.Name x pos') X.env)) _ acc C) hcalm F (fun b _=>hg b) (fun b _=>ht b) (fun b _=>he b) (fun _ _=>trivial) I2 T st f2 R ?_ ?_
 ·intro C D' σ' H' s' hC I' q;obtain⟨m,hm,_⟩:=I'.loc;have ZT:H' C=none:=I'.free;have fC:jV X pins H' C:=I2.Ec hC ZT;have I3:Inv X pins σ H' s':=I2.JQ f2 hC I' ⟨rfl,fun _ _=>rfl⟩;show wpAny (model X.prog X.w) X.A (assign (.Name x pos') X.env (.ref D')) _ X.xe s';refine wpAny_assign_Name (Cn I3 hN hix (.inl hx) (v:=.ref D') rfl (fun s'' I4 ⟨a,sa,ha⟩=>?_) (.inr hx));have hne:C≠a:=by
   rcases ha with e|e
   ·rw[e];exact fC.2.1
   ·exact fun z=>fC.2.2.2.2.1 _ _ e z.symm
  obtain⟨o,es,ep,ho,r⟩:=hm;refine⟨m,⟨o,es,ep,(sa.2 C hne).trans ho,r⟩,fun h' sb=>?_⟩;refine U' (U' ⟨_,H',?_,q⟩);exact I4.g6 (tk:=s''.toks) (wr:=[C]) (fun b hb=>by
   have:b=C:=by simpa using hb
   rw[this];exact fC) fun b o hb e=>(sb.2 b (fun z=>hb (by simp[z]))).trans e
 ·intro C D' e s' z;exact z
end
end L2
namespace L2
open PySem PySem.Spec PyProof.Rows PySem.SeqAt
section
variable {X:Cx}
inductive QB (K:Frag)(neg:Bool)(x:V)(y:V)(H:Hp)(Q:VK):Prop
 |mk (a:_) (c:_) (xs:_) (cT:x=.ref a) (cU:y=.ref c) (dH:aM K H a xs) (fL:aM K H c []) (jF:Q (.bl (if neg then !xs.isEmpty else xs.isEmpty)) H):QB K neg x y H Q
def Uo (K:Frag)(neg:Bool):R2:=fun x y H Q=>QB K neg x y H Q
theorem M9 {pins:List (Addr×Obj)}{σ:St}{H:Hp}{s:Shared}{a c:Addr}{xs:List V}(hu:X.A.units+64<cLine)(I:Inv X pins σ H s)(ha:aM X.K H a xs)(hc:aM X.K H c []):RcAt X.A s (.ref a) (.ref c) xs.isEmpty/\RcNeAt X.A s (.ref a) (.ref c) (!xs.isEmpty):=by
 obtain⟨its,r,p,_⟩:=I.list ha;obtain⟨its',r',p',_⟩:=I.list hc;have e1:=r.length;have e2:=r'.length;simp at e2;cases xs with
 |nil =>
  simp at e1;have z1:its=[]:=by simpa using e1.symm
  have z2:its'=[]:=by simpa using e2.symm
  subst z1 z2;constructor
  ·have:=RcAt.lists (A:=X.A) (e:=fun _=>true) p.isList p'.isList rfl (by omega) (fun j h1 _=>S' h1 (by simp))
   simpa using this
  ·have:=RcNeAt.lists (A:=X.A) (e:=fun _=>true) p.isList p'.isList rfl (by omega) (fun j h1 _=>S' h1 (by simp))
   simpa using this
 |cons x t =>
  have hne:(its.toArray.size != its'.toArray.size)=true:=by
   simp at e1;have z2:its'=[]:=by simpa using e2.symm
   subst z2;have:its.length≠0:=by omega
   simpa using this
  exact⟨RcAt.lists_lengths p.isList p'.isList hne (by omega),RcNeAt.lists_lengths p.isList p'.isList hne (by omega)⟩
theorem zT (hu:X.A.units+64<cLine):mP X (compareOp .Eq) (Uo X.K false):=by
 intro pins s σ H x y v u Q I r1 r2 h;obtain⟨a,c,xs,rfl,rfl,ha,hc,q⟩:=h;cases r1;cases r2;exact(M9 hu I ha hc).1 X.prog X.w X.xe _ ⟨.bl _,H,I,rfl,q⟩
theorem RG (hu:X.A.units+64<cLine):mP X (compareOp .NotEq) (Uo X.K true):=by
 intro pins s σ H x y v u Q I r1 r2 h;obtain⟨a,c,xs,rfl,rfl,ha,hc,q⟩:=h;cases r1;cases r2;exact(M9 hu I ha hc).2 X.prog X.w X.xe _ ⟨.bl _,H,I,rfl,q⟩
end
end L2
namespace L2
open PySem PySem.Spec PyProof.Rows
structure y9 (X:Cx)(e:Expr)(t:TE):Prop where
 out:PE X e t
structure qN (X:Cx)(es:List Expr)(t:TA):Prop where
 out:PA X es t
theorem mD {X:Cx}:qN X [] ba:=⟨ag⟩
theorem FV {X:Cx}{es' es:List Expr}{p:Pos}{te:TE}{t:TA}(h:y9 X (.List es' p) te)(hr:qN X es t):qN X (.List es' p::es) (ax te t):=⟨aa h.out hr.out⟩
theorem mW {X:Cx}{es' es:List Expr}{k:Nat}{p:Pos}{te:TE}{t:TA}(h:y9 X (.Tuple es' k p) te)(hr:qN X es t):qN X (.Tuple es' k p::es) (ax te t):=⟨aa h.out hr.out⟩
theorem fZ {X:Cx}{es:List Expr}{c:Const}{k:Nat}{p:Pos}{te:TE}{t:TA}(h:y9 X (.Constant c k p) te)(hr:qN X es t):qN X (.Constant c k p::es) (ax te t):=⟨aa h.out hr.out⟩
theorem wo {X:Cx}{x:Str}{j:Nat}{pos:Pos}:y9 X (.Constant (.str x) j pos) (tC (.str x)):=⟨av⟩
theorem zU {X:Cx}{i:Int}{j:Nat}{pos:Pos}:y9 X (.Constant (.int i) j pos) (tC (.int i)):=⟨ai⟩
theorem Iq {X:Cx}{es:List Expr}{pos:Pos}{t:TA}(h:qN X es t):y9 X (.List es pos) (kW t):=⟨a9 h.out⟩
theorem sj {X:Cx}{es:List Expr}{k:Nat}{pos:Pos}{t:TA}(h:qN X es t):y9 X (.Tuple es k pos) (cP t):=⟨bJ h.out⟩
end L2
namespace L2
open PySem PySem.Spec PyProof.Rows
def SU (l:List Env)(G:Heap)(e:Addr)(cls:Value)(h:Heap):Prop :=
 ∃ B a0,(∀ b o,G.get? b=some o->b ∉ frs l->B.get? b=some o)/\Heap.FlyingW B l e cls a0 h/\G.UpToSlots h/\G.get? e=none
noncomputable def eU (P:Program)(w:World):K8:=fun outer H s E ev s' =>
 ∃ a cls H' G,ev=.ref a/\s'.os=s.os/\AllBare s'.gens/\Un (frs outer) [] H H' s.heap G/\pH P w H' G/\SU outer G a cls s'.heap/\E cls none H'
abbrev Na:=St->Value->Hp->Prop
def WX (X:Cx)(XS:Na):Value->Shared->Prop:=fun ev s' =>
 ∃ pins σ H' G a cls,ev=.ref a/\Inv X pins σ H' { s' with heap:=G }/\SU X.stack G a cls s'.heap/\XS σ cls H'
def WD (X:Cx)(XS:Na):Value->Shared->Prop:=fun ev s'=>WX X XS ev s' \/
 ∃ pins σ H' G a cls args,ev=.ref a/\Inv X pins σ H' { s' with heap:=G }/\Heap.MadeExcOf G s'.heap a cls args/\XS σ cls H'
section
variable {X:Cx} {pins:List (Addr×Obj)} {σ:St} {H H':Hp} {s s':Shared}
theorem Up {XS:Na}{ev:Value}(I:Inv X pins σ H s)(h:eU X.prog X.w X.stack H s (fun cls _ H'=>XS σ cls H') ev s'):WX X XS ev s':=by
 obtain⟨a,cls,H',G,e,os,bare,un,hok,ZU,q⟩:=h;refine⟨pins,σ,H',G,a,cls,e,?_,ZU,q⟩;exact I.call' (s':={ s' with heap:=G }) (ch:=[]) os un hok bare fun b z=>S' z (by simp)
theorem strike {P:Program}{w:World}{h G:Heap}{L:Addr}{fs:List Addr}(un:Un fs [] H H' h G)(hok:pH P w H' G)(hL:h.objs.size<=L)(hf:H' L=none):Un fs [] H H' h (hideAll G [L])/\pH P w H' (hideAll G [L]):=by
 have get:∀{b o},G.get? b=some o->b≠L->(hideAll G [L]).get? b=some o:=fun e hn=>hideAll_get _ e (by simpa using hn);have ne:∀{b o},h.get? b=some o->b≠L:=fun e z=>S' (z ▸ W' e) (Nat.not_lt.mpr hL);refine⟨⟨fun b o e n hb hx=>get (un.keep b o e n hb hx) (ne e),fun b o e n hb hx=>?_,un.free,fun b o e hx=>?_,un.tups,un.zI,un.BM⟩,fun b u e=>?_⟩
 ·obtain⟨sl,z⟩:=un.slot b o e n hb hx;exact⟨sl,get z (ne e)⟩
 ·obtain⟨o',z⟩:=un.there b o e hx;exact⟨o',get z (ne e)⟩
 ·refine(hok b u e).stay (fun c v hc q=>get q ?_) (fun _ q=>q) fun _ _ q=>q;rintro rfl;rcases hc with rfl|hc
  ·rw[hf]at e;cases e
  ·rw[hf]at hc;cases hc
theorem SU.strike {env:Env}{outer:List Env}{G h:Heap}{B:Heap}{e L:Addr}{cls a0:Value}(hf:env.frame=some L)(cov:∀ b o,G.get? b=some o->b ∉ frs (env::outer)->B.get? b=some o)(fl:Heap.FlyingW B outer e cls a0 h)(up:G.UpToSlots h)(hn:G.get? e=none):SU outer (hideAll G [L]) e cls h:=by
 have back:∀{b o},(hideAll G [L]).get? b=some o->G.get? b=some o/\b≠L:=fun {b o} q=>⟨of_hideAll _ q,fun z=>by
  rw[hideAll_none [L] (by rw[z];simp)]at q;cases q⟩
 refine⟨B,a0,fun b o q hb=>?_,fl,fun b o q hd=>up b o (back q).1 hd,?_⟩
 ·obtain⟨q1,q2⟩:=back q;refine cov b o q1 ?_;unfold frs;rw[List.filterMap_cons,hf];intro z;rcases List.mem_cons.mp z with z|z
  ·exact q2 z
  ·exact hb z
 ·cases q:(hideAll G [L]).get? e with
  |none=>rfl
  |some o=>rw[(back q).1]at hn;cases hn
end
theorem leaveX {P:Program}{w:World}{K:Frag}{mg:Str->Option Value}{base:Heap}{N:List Str}{qual:Str}{scope:Scope}{f:Addr}{cdv:Value}{A:Around}{outer:List Env}{s:Shared}{H:Hp}{E:XK}{ev:Value}{s':Shared}
  (h:WD (mC (eU P w) P w K mg base N qual scope f cdv A outer s H E) (fun _ cls H'=>E cls none H') ev s'):(mC (eU P w) P w K mg base N qual scope f cdv A outer s H E).xe ev s':=by
 rcases h with ⟨pins,σ,H',G,a,cls,rfl,I,⟨B,a0,cov,fl,up,hn⟩,q⟩|⟨pins,σ,H',G,a,cls,args,rfl,I,hm,q⟩
 ·show wpAny (model P w) _ (leaving _ (.ref a)) _ _ s';refine wpAny_leaves_onW I.ok.frames rfl fl fun h' Xg Xh=>?_;obtain⟨un,hok⟩:=strike I.base I.hok I.ok.above I.free;exact⟨a,cls,H',_,rfl,I.os,I.bare,un,hok,SU.strike rfl cov Xg (up.trans Xh) hn,q⟩
 ·show wpAny (model P w) _ (leaving _ (.ref a)) _ _ s';have hin:∀ env∈(mC (eU P w) P w K mg base N qual scope f cdv A outer s H E).stack,∀ b,env.frame=some b->b∈frs (mC (eU P w) P w K mg base N qual scope f cdv A outer s H E).stack:=fun env he b hb=>List.mem_filterMap.mpr ⟨env,he,hb⟩;refine wpAny_leaves_madeW (base:=hideAll G (frs (mC (eU P w) P w K mg base N qual scope f cdv A outer s H E).stack)) (h:=G) I.ok.frames rfl (fun b o z=>of_hideAll _ z) (PySem.W.funFrames_hide I.stack hin) hm fun h' t Xg _ _ Xh=>?_;obtain⟨un,hok⟩:=strike I.base I.hok I.ok.above I.free;exact⟨a,cls,H',_,rfl,I.os,I.bare,un,hok,SU.strike rfl (fun b o z hb=>hideAll_get _ z hb) Xg ((Heap.UpToSlots.of_keeps hm.keeps).trans Xh) hm.new,q⟩
theorem zy.Nb {X:Cx}{E1:Value->Shared->Prop}{st:List Stmt}{t:TS}(h:zy (X.wish E1) st t)(hE:∀ e s,E1 e s->X.xe e s):zy X st t:=fun pins s σ H D I hw =>
 wpAny_mono (h pins s σ H D (I.wish _) hw) (fun _ _ q=>q.iU) hE
section
variable {P:Program} {w:World} {K:Frag} {mg:Str->Option Value} {base:Heap}
theorem O6.CF {x qual:Str}{st:Stmt}{f:Addr}{fd:FuncData}{N ps:List Str}{k:Nat}{sp:Sp}(F:O6 K x qual st f fd)(S:aA N ps (aj st))(len:∀ vs H Q E,sp vs H Q E->vs.length=ps.length)
  (hbody:∀(cdv:Value)(A:Around)(outer:List Env)(s:Shared)(H:Hp)(vs:List V)(Q:VK)(E:XK),fJ k (A.deeper (envOfC qual (aj st) s.heap.objs.size f cdv))->sp vs H Q E ->
   ∃ t,zy ((mC (eU P w) P w K mg base N qual (aj st) f cdv A outer s H E).wish (WD (mC (eU P w) P w K mg base N qual (aj st) f cdv A outer s H E) fun _ cls H'=>E cls none H')) (a8 st) t/\t { nx:=fun _ H'=>Q .non H',rt:=Q } (start N vs) H):aW P w K mg base (eU P w) (k+1) f fd ps sp:=by
 obtain⟨oc,od,kV,doc,pm,an,cdv,ct,osl,rfl,lk,hcd⟩:=F.ex;refine JH lk hcd S len fun A outer s H vs Q E hr hsp=>?_;obtain⟨t,h,q⟩:=hbody cdv A outer s H vs Q E hr hsp;exact⟨t,h.Nb fun _ _ z=>leaveX z,q⟩
end
def RH (sp:Sp)(kX:List V)(XS:Na)(t:TA):TE:=fun σ H Q=>t σ H fun vs H1=>sp (vs++kX) H1 Q fun cls _ H'=>XS σ cls H'
inductive JX (C:Addr)(m:Str)(sp:Sp)(kX:List V)(XS:Na)(t:TA)(σ:St)(Q:VK)(x:V)(H1:Hp):Prop
 |mk (a:_) (dx:_) (fs:_) (cT:x=.ref a) (cU:H1 a=some (.ins C dx fs)) (dH:fs.lookup m=none) (fL:t σ H1 fun vs H2=>sp (x::(vs++kX)) H2 Q fun cls _ H'=>XS σ cls H'):JX C m sp kX XS t σ Q x H1
def Nc (C:Addr)(m:Str)(sp:Sp)(kX:List V)(XS:Na)(ta:TE)(t:TA):TE:=fun σ H Q=>ta σ H fun x H1=>JX C m sp kX XS t σ Q x H1
section
variable {X:Cx} {W:Value->Shared->Prop} {XS:Na} {k:Nat} {f C:Addr} {fd:FuncData} {ps:List Str} {sp:Sp} {kX:List V} {ds:List Value} {x m:Str} {p pos apos:Pos} {e o:Expr} {es:List Expr} {ta:TE} {t:TA}
theorem En {pins:List (Addr×Obj)}{σ:St}{H:Hp}{s:Shared}{Q:VK}{us:List Value}{vs:List V}(F:aW X.prog X.w X.K X.mg X.base (eU X.prog X.w) k f fd ps sp)(hr:fJ k X.A)(hb:Binds X.K fd ps ds)(hd:Vals kX ds)(hx:∀ ev s',WX X XS ev s'->W ev s')
  (I:Inv (X.wish W) pins σ H s) (r:Vals vs us) (h:sp (vs++kX) H Q fun cls _ H'=>XS σ cls H'):wpAny (model X.prog X.w) X.A (call (.ref f) us) (EP (X.wish W) pins σ Q) W s:=by
 have I0:=I.iU;have r2:Vals (vs++kX) (us++ds):=r.append hd;have hl:(us++ds).length=ps.length:=by rw[<-r2.length];exact F.len _ _ _ _ h
 refine wpAny_call (codeAny_mono (F.run X.A X.stack s H ⟨us,[]⟩ (us++ds) (vs++kX) Q _ hr I0.env0 (hb s us I0.pE hl) r2 h) fun r s' hq=>?_);cases r with
 |error e=>exact hx _ _ (Up I0 hq)
 |ok fl =>
  cases fl with
  |ret u=>exact I.after hq
  |next=>exact False.elim hq
  |brk=>exact False.elim hq
  |cont=>exact False.elim hq
theorem mX (F:aW X.prog X.w X.K X.mg X.base (eU X.prog X.w) k f fd ps sp)(hr:fJ k X.A)(hg:Gl (X.wish W) x)(hm:X.mg x=some (.ref f))(hk:keepIn X.K (.ref f)=true)(hb:Binds X.K fd ps ds)(hd:Vals kX ds)(hx:∀ ev s',WX X XS ev s'->W ev s')
  (ha:PA (X.wish W) (e::es) t) (hdb:(x==("__debug__":Str))=false:=by decide) (he:starEach (e::es) X.env=(false,eval e X.env)::starEach es X.env:=by rfl) (hpl:(backTo pos (starEach es X.env)).any (·.1)=false:=by rfl) :
  PE (X.wish W) (.Call (.Name x p) (e::es) [] pos) (RH sp kX XS t):=by
 intro pins s σ H Q I h;refine wpAny_Call_Name_kw (n9 I hg hm ?_ hdb);refine callWith_K (h₀:=X.base) I.ok.mod.Qc hk (cu (ha pos pins s σ H _ I h) fun us s1 ⟨vs,H1,I1,r,q⟩=>⟨I1.pE,?_⟩) he hpl;exact En (X:=X) F hr hb hd hx I1 r q
theorem bT {pl:Sem Bool}(ho:PE (X.wish W) o ta)(c:HU X.K C)(hm:Meth X.K C m f)(F:aW X.prog X.w X.K X.mg X.base (eU X.prog X.w) k f fd ps sp)(hr:fJ k X.A)(hb:Binds X.K fd ps ds)(hd:Vals kX ds)(hx:∀ ev s',WX X XS ev s'->W ev s')(ha:PA (X.wish W) (e::es) t)
  (hst:starEach (e::es) X.env=(false,eval e X.env)::starEach es X.env:=by rfl) (hpl:(backTo pos (starEach es X.env)).any (·.1)=false:=by rfl)
  (ht:eval (.Call (.Attribute o m apos) (e::es) [] pos) X.env=(do
   let ov <-eval o X.env
   standAt apos.atName
   let (f,first) <-holding [ov] (getMethod ov m pl)
   callWith pos f first (backTo pos (starEach (e::es) X.env)) (backToKw pos (keywordEach [] X.env))):=by rfl) :
  PE (X.wish W) (.Call (.Attribute o m apos) (e::es) [] pos) (Nc C m sp kX XS ta t):=by
 intro pins s σ H Q I h;refine methodCall_KW (pl:=pl) (cu (ho pins s σ H _ I h) fun u s1 ⟨x,H1,I1,rx,a,dx,fs,ex,ea,l,q⟩=>?_) ht;subst ex;obtain rfl:u=Value.ref a:=rx;refine og I1 ea c hm l ?_;refine callWith_K (first:=[.ref a]) (h₀:=X.base) I.ok.mod.Qc hm.kp (cu (ha pos pins s1 σ H1 _ I1 q) fun us s2 ⟨vs,H2,I2,r,q2⟩=>⟨I2.pE,?_⟩) hst hpl;exact En (X:=X) (us:=.ref a::us) (vs:=.ref a::vs) F hr hb hd hx I2 (.cons rfl r) q2
theorem CG {pl:Sem Bool}(ho:PE (X.wish W) o ta)(c:HU X.K C)(hm:Meth X.K C m f)(F:aW X.prog X.w X.K X.mg X.base (eU X.prog X.w) k f fd ps sp)(hr:fJ k X.A)(hb:Binds X.K fd ps ds)(hd:Vals kX ds)(hx:∀ ev s',WX X XS ev s'->W ev s')
  (ht:eval (.Call (.Attribute o m apos) [] [] pos) X.env=(do
   let ov <-eval o X.env
   standAt apos.atName
   let (f,first) <-holding [ov] (getMethod ov m pl)
   callWith pos f first (backTo pos (starEach [] X.env)) (backToKw pos (keywordEach [] X.env))):=by rfl) :
  PE (X.wish W) (.Call (.Attribute o m apos) [] [] pos) (Nc C m sp kX XS ta ba):=by
 intro pins s σ H Q I h;refine methodCall_KW (pl:=pl) (cu (ho pins s σ H _ I h) fun u s1 ⟨x,H1,I1,rx,a,dx,fs,ex,ea,l,q⟩=>?_) ht;subst ex;obtain rfl:u=Value.ref a:=rx;refine og I1 ea c hm l ?_;exact callWith_K0 (first:=[.ref a]) I1.pE hm.kp (En (X:=X) (us:=[.ref a]) (vs:=[.ref a]) F hr hb hd hx I1 (.cons rfl .nil) q)
end
abbrev QC:List Value:=[.type "ValueError",.type "Exception",.type "BaseException",.type "object"]
inductive SV (K:Frag)(C:Addr):Prop
 |mk {bm:List Value} {N:Addr} {nm qn:Str} {bs:List Value} {hdct:Bool} {sn:List Str} {sub:List Value} {ab:Bool} {col:Option Bool} {dd:Option Addr} {k0 k1 k2 k3 k5:Option Value} (ho:K.lookup C=some (excClassObj nm qn C N bs bm hdct sn sub ab col dd k0 k1 k2 k3 k5 "ValueError.__new__"))
  (hok:PySem.W.nsOkIn K N=true) (hni:nsIn K N "__init__"=some none) (ht:PySem.W.tailIn K QC bm=true):SV K C
inductive YD (h:Heap)(C:Addr):Prop
 |mk (bm:List Value) (N:Addr) (nm qn:Str) (bs:List Value) (hdct:Bool) (sn:List Str) (sub:List Value) (ab:Bool) (col:Option Bool) (dd:Option Addr) (k0 k1 k2 k3 k5:Option Value) (mN:Str->Option Value) (hC:h.get? C=some (excClassObj nm qn C N bs bm hdct sn sub ab col dd k0 k1 k2 k3 k5 "ValueError.__new__"))
  (hN:h.Ns N mN) (hni:mN "__init__"=none) (T:OwnTail h QC bm):YD h C
theorem SV.obj {K:Frag}{C:Addr}{h:Heap}(q:SV K C)(X:K.In h):YD h C:=by
 obtain⟨ho,hok,hni,ht⟩:=q;exact⟨_,_,_,_,_,_,_,_,_,_,_,_,_,_,_,_,h.nsMap _,X _ _ ho,.of_isNs (PySem.W.isNs_of_in X hok),PySem.W.nsMap_none_of_in X hok hni,PySem.W.tail_of_in X ht⟩
def RI (C:Addr)(XS:Na)(te:TA):TS:=fun _ σ H=>te σ H fun vs H1=>vs.length<=sizeLine/\XS σ (.ref C) H1
theorem eI {X:Cx}{XS:Na}{W:Value->Shared->Prop}{C:Addr}{x:Str}{np cpos pos:Pos}{e:Expr}{es:List Expr}{t:TA}(hx:∀ ev s',WD X XS ev s'->W ev s')(hc:X.calm=true)(q:SV X.K C)(hg:Gl (X.wish W) x)(hm:X.mg x=some (.ref C))(ha:PA (X.wish W) (e::es) t)
  (hdb:(x==("__debug__":Str))=false:=by decide) (he:starEach (e::es) X.env=(false,eval e X.env)::starEach es X.env:=by rfl) (hpl:(backTo cpos (starEach es X.env)).any (·.1)=false:=by rfl) :
  PS (X.wish W) (.Raise (some (.Call (.Name x np) (e::es) [] cpos)) none pos) (RI C XS t):=by
 intro pins s σ H D I h;obtain⟨bm,N,nm,qn,bs,hdct,sn,sub,ab,col,dd,k0,k1,k2,k3,k5,mN,hC,hN,hni,T⟩:=q.obj I.mod.Qc;refine wpAny_Raise_call_subT (C:=C) (nm:=nm) (q:=qn) (N:=N) (bs:=bs) (bm:=bm) (hdct:=hdct) (sn:=sn) (sub:=sub) (ab:=ab) (col:=col) (dd:=dd) (k0:=k0) (k1:=k1) (k2:=k2) (k3:=k3) (k5:=k5) (mN:=mN)
  PySem.F.excBase_ValueError (T.hasType PySem.F.excBase_ValueError.hasBase) (I.ok.hd hc) ?_ hni (n9 I hg hm ⟨rfl,?_⟩ hdb)
 ·show(backTo cpos (starEach (e::es) X.env)).any (·.1)=false;rw[he];show(false||(backTo cpos (starEach es X.env)).any (·.1))=false;rw[hpl];rfl
 ·have h1:=ha cpos pins s σ H _ I h;show wpAny (model X.prog X.w) X.A (evalArgs (.ref C) true (backTo cpos (starEach (e::es) X.env)) []) _ W s;have h1:wpAny (model X.prog X.w) X.A (spliced (backTo cpos (starEach (e::es) X.env))) _ W s:=h1;rw[he]at h1 ⊢;refine Calls.evalArgs_plain (wpAny_mono h1 (fun us s1 ⟨vs,H1,I1,r,hz,q1⟩=>?_) fun _ _ z=>z);refine⟨rfl,by rw[<-r.length];exact hz,I1.bk _ _ hC,hN.keeps I1.bk,T.keeps I1.bk,fun h' a hm'=>hx _ _ (.inr ?_)⟩;exact⟨pins,σ,H1,s1.heap,a,.ref C,us,rfl,I1.iU,hm',q1⟩
noncomputable abbrev Cx.Fo (X:Cx)(pn:List (Addr×Obj)):Cx:={ X with pn:=pn }
noncomputable abbrev Cx.hand (X:Cx)(a:Addr):Cx:={ X with A:=X.A.mark (some (.ref a)),calm:=false,xe:=fun _ _=>False }
theorem Cx.Ok.Fo {X:Cx}(ok:X.Ok)(pn:List (Addr×Obj)):(X.Fo pn).Ok :=
 ⟨ok.mod,ok.kind,ok.glob,ok.blt,ok.above,ok.inj,ok.has,ok.cab,ok.hd,ok.frames,ok.SK,ok.SM,ok.bs,ok.Mi,ok.HM,ok.HN,ok.tL,ok.OW⟩
theorem Cx.Ok.hand {X:Cx}(ok:X.Ok)(a:Addr):(X.hand a).Ok :=
 ⟨ok.mod,ok.kind,ok.glob,ok.blt,ok.above,ok.inj,ok.has,ok.cab,(fun z=>nomatch z),ok.frames,ok.SK,ok.SM,ok.bs,ok.Mi,ok.HM,ok.HN,ok.tL,ok.OW⟩
section
variable {X:Cx} {pins Fv:List (Addr×Obj)} {σ:St} {H H':Hp} {s:Shared}
theorem Inv.Fo (I:Inv X pins σ H s):Inv (X.Fo (X.pn++pins)) [] σ H s:=⟨I.ok.Fo _,I.os,I.bare,I.base,I.loc,I.cell,I.free,I.lj,fun p hp=>I.pin p (by simpa using hp),I.hok,I.len⟩
theorem Inv.pT (I:Inv (X.Fo (X.pn++pins)) Fv σ H s)(ok:X.Ok):Inv X pins σ H s:=⟨ok,I.os,I.bare,I.base,I.loc,I.cell,I.free,I.lj,fun p hp=>I.pin p (Yb' _ hp),I.hok,I.len⟩
theorem SP.pT {D:Ends}{f:Flow}{s':Shared}(ok:X.Ok)(h:SP (X.Fo (X.pn++pins)) [] D f s'):SP X pins D f s':=by
 cases f with
 |next=>obtain⟨σ',H',I,q⟩:=h;exact⟨σ',H',I.pT ok,q⟩
 |brk=>obtain⟨σ',H',I,q⟩:=h;exact⟨σ',H',I.pT ok,q⟩
 |cont=>obtain⟨σ',H',I,q⟩:=h;exact⟨σ',H',I.pT ok,q⟩
 |ret u=>obtain⟨v,σ',H',I,r,q⟩:=h;exact⟨v,σ',H',I.pT ok,r,q⟩
theorem Inv.hand (I:Inv X pins σ H s)(a:Addr):Inv (X.hand a) pins σ H s:=⟨I.ok.hand a,I.os,I.bare,I.base,I.loc,I.cell,I.free,I.lj,I.pin,I.hok,I.len⟩
theorem Inv.Eo {a:Addr}(I:Inv (X.hand a) pins σ H s)(ok:X.Ok):Inv X pins σ H s:=⟨ok,I.os,I.bare,I.base,I.loc,I.cell,I.free,I.lj,I.pin,I.hok,I.len⟩
theorem Inv.flown {G h' B:Heap}(I:Inv X pins σ H { s with heap:=G })(cov:∀ b o,G.get? b=some o->b ∉ frs X.stack->B.get? b=some o)(st:B.StaysIn h')(up:G.UpToSlots h'):Inv X pins σ H { s with heap:=h' }:=by
 have keep:∀ b o,G.get? b=some o->b ∉ frs X.stack->h'.get? b=some o:=fun b o e hb=>st b o (cov b o e hb);have slot:∀ b o,G.get? b=some o->b∈frs X.stack->∃ sl,h'.get? b=some { o with slots:=sl }:=fun b o e hb=>by
  obtain⟨_,o',e',hd⟩:=I.stack.mem hb;have:o'=o:=Z' (e'.symm.trans e);subst this;exact up b o' e hd
 refine I.call' (s':={ s with heap:=h' }) (ch:=[]) rfl ⟨fun b o e _ hb _=>keep b o e hb,fun b o e _ hb _=>slot b o e hb,fun _ _ _ n _=>n,fun b o e _=>?_,fun _ _ q=>q,fun _ _ _ q=>q,fun _ ps q=>⟨#[],by rw[q];simp⟩⟩ (fun b u e=>?_) I.bare fun b z=>S' z (by simp)
 ·by_cases hb:b∈frs X.stack
  ·obtain⟨sl,z⟩:=slot b o e hb;exact⟨_,z⟩
  ·exact⟨o,keep b o e hb⟩
 ·refine(I.hok b u e).stay (fun c v hc q=>keep c v q fun hm=>?_) (fun _ q=>q) fun _ _ q=>q;have hf:=I.Ea c hm;rcases hc with rfl|hc
  ·rw[hf]at e;cases e
  ·rw[hf]at hc;cases hc
end
end L2
namespace L2
open PySem PySem.Spec PyProof.Rows
structure OR (K:Frag)(C:Addr):Prop where
 exc:SV K C
 ga:findIn K (.ref C) "__getattribute__"=some (some (.builtin "BaseException.__getattribute__"))
 ZV:findIn K (.ref C) "__getattr__"=some none
 cl:findIn K (.ref C) "__class__"=some (some (.builtin "object.__class__"))
section
variable {prog:Program} {w:World} {A:Around} {E:Value->Shared->Prop} {h:Heap} {g:Array GenState} {d:Drawn} {t:Nat} {os:OsState} {a:Addr} {o:Obj} {vs:Array Value} {K:Frag}
 {nm q:Str} {C N:Addr} {bs bm:List Value} {hdct:Bool} {sn:List Str} {sub:List Value} {ab:Bool} {col:Option Bool} {dd:Option Addr} {k0 k1 k2 k3 k5:Option Value} {newId:String}
end
section
variable {X:Cx}
theorem oK:Passes (eU X.prog X.w) X E0:=by
 intro _ _ _ _ _ _ _ h;obtain⟨_,_,_,_,_,_,_,_,_,_,z⟩:=h;exact z.elim
end
end L2
namespace L2
open PySem PySem.Spec PyProof.Rows
section
variable {P:Program} {w:World} {K:Frag} {mg:Str->Option Value} {base:Heap}
end
section
variable {X:Cx} {tg iter elt:Expr} {ifs:List Expr} {scope:Scope} {pos:Pos} {cn:List Str} {wi:TI} {g:Bk->TG} {tc:Bk->TT} {te:Bk->TE} {TH:Bk->Prop}
end
end L2
namespace L2
open PySem PySem.Spec PyProof.Rows
def RJ (to:TE)(tl th:St->Hp->(Option Int->Hp->Prop)->Prop):TG:=fun v σ H Q=>to σ H fun x H1=>tl σ H1 fun l H2=>th σ H2 fun u H3 =>
 ∃(p b:Addr)(xs ys:List V)(a c:Int),x=.ref p/\v=.ref b/\l=some a/\u=some c/\H3 p=some (.lst xs)/\H3 b=some (.lst ys)/\p≠b/\0<=a/\a<=c/\c<=xs.length/\xs.length+ys.length<=sizeLine/\Q σ (upd H3 p (.lst (xs.take a.toNat++ys++xs.drop c.toNat)))
theorem FW {X:Cx}{o:Expr}{lo hi:Option Expr}{p2 pos:Pos}{to:TE}{tl th:St->Hp->(Option Int->Hp->Prop)->Prop}(ho:PE X o to)(hl:PO X lo tl)(hu:PO X hi th)
  (ha:∀ v,assign (.Subscript o (.Slice lo hi none p2) pos) X.env v=(do
   let ov <-holding [v] (eval o X.env)
   let iv <-holding [v,ov] (eval (.Slice lo hi none p2) X.env)
   standAt pos
   holding [v,ov,iv] (setItem ov iv v)
   release [iv,v,ov] []):=by intro _;rfl):PG X (.Subscript o (.Slice lo hi none p2) pos) (RJ to tl th):=by
 intro pins s σ H v u Q I r h;rw[ha];refine C' (wpAny_holding (cu (ho pins s σ H _ I h) fun ov s1 fS=>?_));obtain⟨x,H1,I1,r1,q1⟩:=fS;refine C' (wpAny_holding ?_);refine wpAny_Slice (cu (hl pins s1 σ H1 _ I1 q1) fun vl s2 ⟨l,H2,I2,pl,q2⟩=>cu (hu pins s2 σ H2 _ I2 q2) fun vu s3 ⟨uu,H3,I3,pu,q3⟩=>?_);rw[evalPart_none];refine U' ?_;have I4:Inv X pins σ H3 { s3 with heap:=s3.heap.push { cls:=.type "slice",data:=.fields #[vl,vu,.none] } }:=I3.kept (t':=s3.toks) fun b ob q=>P' _ q;obtain⟨p,b,xs,ys,a,c,rfl,rfl,rfl,rfl,hp,hb,hne,h0,hac,hc,hz,q4⟩:=q3;cases r1;cases r;refine C' (wpAny_standAt (C' (wpAny_holding ?_)));refine Lc I4 hp hb hne (Heap.IsSliceOf.new ..) (by cases pl;exact⟨_,rfl⟩) (by cases pu;exact⟨_,rfl⟩) h0 hac hc hz fun s5 I5=>?_;exact wpAny_release ⟨σ,_,I5,q4⟩
end L2
namespace L2
open PySem PySem.Spec PyProof.Rows
section
variable {X:Cx}
theorem all_range:∀ bs:List Bool,(List.range bs.length).all (fun i=>bs.getD i false)=bs.all id
 |[]=>rfl
 |b::bs=>by
  rw[Ya',List.range_succ_eq_map,List.all_cons,List.all_map,List.all_cons];have:((fun i=>(b::bs).getD i false) ∘ Nat.succ)=fun i=>bs.getD i false:=by
   funext i
   rfl
  rw[this,all_range bs];rfl
theorem Nd:ik X (.builtin "all") (fun xs H Q=>X.calm=true/\∃(a:Addr)(bs:List Bool),xs=[.ref a]/\aM X.K H a (bs.map V.bl)/\Q (.bl (bs.all id)) H):=by
 intro pins s σ H xs us Q I r h;obtain⟨hc,a,bs,rfl,hq,q⟩:=h;obtain⟨u,rfl,rfl⟩:=r.one;obtain⟨its,rv,p,hz⟩:=I.list hq;have hl:=rv.length;rw[L']at hl;have Rt:∀(i:Nat)(v:Value),its.toArray[i]? = some v->v=Value.bool (bs.getD i false):=by
  intro i v hv;have hv':its[i]? = some v:=by simpa using hv
  have hi:i<its.length:=(K'.mp hv').1;have hb:i<bs.length:=by omega
  obtain⟨u,hu,ru⟩:=rv.get (i:=i) (x:=.bl (bs[i])) (by rw[Zd',N' hb];rfl);rw[hv']at hu;cases hu;have:v=.bool bs[i]:=ru;rw[this,List.getD_eq_getElem?_getD,N' hb];rfl
 refine call_all_walk (wpAny_pyIter_list p.isList ?_);have W8:a≠s.heap.objs.size:=by
  obtain⟨o,ho,_⟩:=p.isList;exact Zn' (W' ho)
 have hd:X.A.in1.handled=none:=I.ok.hd hc;refine⟨s.heap.objs.size,_,_,_,_,_,fun i=>bs.getD i false,rfl,Walks.list hd s.heap.objs.size a W8 its.toArray,⟨⟨_,Zm' _ rfl,rfl,rfl⟩,p.isList.push _⟩,?_,?_⟩
 ·intro i v s' Q' E' hP hQ';rw[Rt i v hP];exact wpAny_truthy_bool hQ'
 ·intro h' tk kk;have e:(List.range its.toArray.size).all (fun i=>bs.getD i false)=bs.all id:=by
   rw[Ze',<-hl];exact all_range bs
  rw[e];refine⟨.bl _,H,I.kept (t':=tk) fun b o e=>kk b o (fun z=>?_) (P' _ e),rfl,q⟩;have:b=s.heap.objs.size:=by simpa using z
  exact S' (W' e) (by rw[this];exact Nat.lt_irrefl _)
noncomputable def SW (lo:Int)(n:Nat):It:={ go:=fun i _=>i<n,KZ:=fun i H x H'=>H'=H/\x=V.int (lo-(i:Int)),stop:=fun i _=>n<=i }
theorem Lj {P:Program}{w:World}{K:Frag}{tg:Expr}(it:Addr)(lo:Int)(n:Nat):Turn P w K tg (SW lo n) [it] it (fun i h=>IsRangeIter h it (lo+(i:Nat) * (-1)) ((n:Int)-(i:Nat)) (-1)) where
 mem:=by simp
 obj:=fun i h st b hb=>by
  have e:b=it:=by simpa using hb
  subst e;exact⟨_,st,fun v z=>by
   have z':Data.fields _=Data.cell v:=z;cases z'⟩
 keep:=fun i h h' st k=>k it (by simp) _ st
 item:=by
  intro X hP hw hK hc i pins s σ H E I hf st hg;subst hP hw hK;obtain⟨f0,f1,f2,f3,f4,f5⟩:=hf it (by simp);have W:=Walks.range (prog:=X.prog) (w:=X.w) (I.ok.hd hc) it lo (-1) n;refine W.item i s _ _ hg st fun v h' tk hv st' kk=>?_;obtain⟨t,rfl⟩:=hv;have I1:Inv X pins σ H { s with heap:=h',toks:=tk }:=I.turned (fun b o hb e=>kk b o (by simpa using hb) e) f0 f1 f3 f4 f5;refine⟨_,rfl,JC (s:={ s with heap:=h',toks:=tk }) (n:="range_iterator") st' rfl rfl (by decide) ⟨.int (lo-i),H,I1,⟨t,?_⟩,⟨rfl,rfl⟩,st',fun b hb=>(hf b hb).1⟩⟩;have:lo+(i:Int) * (-1)=lo-i:=by omega
  rw[this]
 done:=by
  intro X hP hw hK hc i pins s σ H E I hf st hg;subst hP hw hK;obtain⟨f0,f1,f2,f3,f4,f5⟩:=hf it (by simp);exact wpAny_pyNext_range_end (I.ok.hd hc) st (by have:n<=i:=hg;omega) fun h' eb=>⟨rfl,I.turned (t':=s.toks) (fun b o hb e=>eb b o hb e) f0 f1 f3 f4 f5⟩
 self:=fun _ _ _ _ _ st h=>wpAny_pyIter_rangeiter st h
theorem rangeSize_down (a b:Int):Builtin.Range.rangeSize a b (-1)=if b<a then a-b else 0:=by
 unfold Builtin.Range.rangeSize;rw[T' (by decide)]
 by_cases h:a > b
 ·rw[X' h,X' h];show(a-b-1) / 1+1=a-b;omega
 ·rw[T' h,T' h]
theorem small_down {a b:Int}(h1:-(2 ^ 62)<=a)(h2:a<2 ^ 62)(h3:-(2 ^ 62)<=b)(h4:b<2 ^ 62):Builtin.Range.small a b (-1)=true:=by
 unfold Builtin.Range.small;rw[rangeSize_down];have f:∀ x:Int,-(2 ^ 63)<=x->x<2 ^ 63->Builtin.Range.rangeFitsLong x=true:=fun x p q=>by
  unfold Builtin.Range.rangeFitsLong;simp;omega
 rw[f a (by omega) (by omega),f b (by omega) (by omega),f (-1) (by omega) (by omega),f _ (by split <;> omega) (by split <;> omega),T' (show ¬((-1:Int) > 0) by decide),f (b+(-1+1)) (by omega) (by omega)];simp
theorem Pd {tg:Expr}{pins:List (Addr×Obj)}{σ:St}{H:Hp}{s:Shared}{R:It->Hp->Prop}{E:Value->Shared->Prop}{lo hi:Int}{t u v:Tok}{tk:Nat}(I:Inv X pins σ H s)(h1:-(2 ^ 62)<=lo)(h2:lo<2 ^ 62)(h3:-(2 ^ 62)<=hi)(h4:hi<2 ^ 62)
  (q:R (SW lo (lo-hi).toNat) H):wpAny (model X.prog X.w) X.A (pyIter (.ref s.heap.objs.size)) (PIE X pins σ tg R) E { s with heap:=s.heap.push { cls:=.type "range",data:=.fields #[.int lo t,.int hi u,.int (-1) v] },toks:=tk }:=by
 refine wpAny_pyIter_range (IsRange.new ..) (small_down h1 h2 h3 h4) ?_;have I1:Inv X pins σ H { s with heap:=s.heap.push { cls:=.type "range",data:=.fields #[.int lo t,.int hi u,.int (-1) v] },toks:=tk }:=I.kept fun b o e=>P' _ e;refine⟨(s.heap.push { cls:=.type "range",data:=.fields #[.int lo t,.int hi u,.int (-1) v] }).objs.size,[(s.heap.push { cls:=.type "range",data:=.fields #[.int lo t,.int hi u,.int (-1) v] }).objs.size],_,_,H,rfl,
  I1.kept (t':=tk) fun b o e=>P' _ e,Lj _ lo (lo-hi).toNat,?_,fun b hb=>?_,q⟩
 ·have e1:lo+((0:Nat):Int) * (-1)=lo:=by simp
  have e2:(((lo-hi).toNat:Nat):Int)-((0:Nat):Int)=Builtin.Range.rangeSize lo hi (-1):=by rw[rangeSize_down];split <;> omega
  show IsRangeIter _ _ (lo+((0:Nat):Int) * (-1)) ((((lo-hi).toNat:Nat):Int)-((0:Nat):Int)) (-1);rw[e1,e2];exact Zm' _ rfl
 ·have e:b=(s.heap.push { cls:=.type "range",data:=.fields #[.int lo t,.int hi u,.int (-1) v] }).objs.size:=by simpa using hb
  subst e;exact I1.Ec (R' _) (I1.hok.fresh (R' _))
def Uq (ta:TA):TI:=fun σ H R=>ta σ H fun vs H1=>∃ i j:Int,vs=[.int i,.int j,.int (-1)]/\(-(2 ^ 62)<=i/\i<2 ^ 62/\-(2 ^ 62)<=j/\j<2 ^ 62)/\R (SW i (i-j).toNat) H1
theorem Lk {tg:Expr}{a b c:Expr}{ta:TA}{p pos:Pos}(hg:Gl X "range")(hm:X.mg "range"=none)(ha:PA X [a,b,c] ta)(hs:starEach [a,b,c] X.env=[(false,eval a X.env),(false,eval b X.env),(false,eval c X.env)]:=by rfl)(hs2:starEach [b,c] X.env=[(false,eval b X.env),(false,eval c X.env)]:=by rfl) :
  PI X tg (.Call (.Name "range" p) [a,b,c] [] pos) (Uq ta):=by
 intro pins s σ H R I h;refine Call_ (my I hg hm boot_range (PyProof.Rows.callWith_type1 (cu (ha pos pins s σ H _ I h) fun us s1 ⟨vs,H1,I1,r1,q1⟩=>?_) (by rw[hs,hs2]) (by rw[hs2];rfl)));obtain⟨i,j,e,⟨q1,q2,q3,q4⟩,q⟩:=q1;subst e;cases r1 with
 |cons r rr =>
  cases rr with
  |cons r' rr =>
   cases rr with
   |cons r'' rr =>
    cases rr;obtain⟨t,rfl⟩:=r;obtain⟨t',rfl⟩:=r';obtain⟨t'',rfl⟩:=r'';exact call_range_3 (by decide) (Pd I1 q1 q2 q3 q4 q) (.inl rfl)
theorem Nf {lo:Int}{n:Nat}{g:TG}{tb:TS}{D:Ends}{σ:St}{H:Hp}(Pv:Nat->St->Hp->Prop)(h0:Pv 0 σ H)
  (hs:∀ i σ H,i<n->Pv i σ H->g (.int (lo-i)) σ H fun σ2 H2=>tb { D with nx:=Pv (i+1),ct:=Pv (i+1),bk:=D.nx } σ2 H2) (hd:∀ σ H,Pv n σ H->D.nx σ H) :
  ∃ W:Nat->Nat->St->Hp->Prop,(∃ m,W 0 m σ H)/\∀ i m σ H,W i m σ H ->
   ((SW lo n).stop i H/\D.nx σ H)\/((SW lo n).go i H/\∃ N:St->Hp->Prop,(∀ σ' H',N σ' H'->∃ m',m'<m/\W (i+1) m' σ' H')/\∀ x H',(SW lo n).KZ i H x H'->g x σ H' fun σ2 H2=>tb { D with nx:=N,ct:=N,bk:=D.nx } σ2 H2):=by
 refine⟨fun i m σ H=>m=n-i/\i<=n/\Pv i σ H,⟨n,by simp,Zq' _,h0⟩,?_⟩;rintro i m σ H ⟨rfl,hi,p⟩
 by_cases hlt:i<n
 ·refine .inr ⟨hlt,Pv (i+1),fun σ' H' p'=>⟨n-(i+1),by omega,rfl,hlt,p'⟩,fun x H' y=>?_⟩;obtain⟨e,y⟩:=y;subst e y;exact hs i σ _ hlt p
 ·have e:i=n:=by omega
  subst e;exact .inl ⟨R' _,hd _ _ p⟩
def Pe:TE:=fun _ _ _=>False
theorem Ng {e:Expr}:PE X e Pe:=fun _ _ _ _ _ _ h=>h.elim
end
end L2
namespace L2
open PySem PySem.Spec PyProof.Rows
section
variable {κ:Type} [DecidableEq κ]
noncomputable def kY (kvs:List (κ×V))(k:κ):Option V:=(kvs.find? fun kv=>decide (kv.1=k)).map (·.2)
noncomputable def putK (kvs:List (κ×V))(k:κ)(v:V):List (κ×V) :=
 if(kvs.any fun kv=>decide (kv.1=k))=true then kvs.map (fun kv=>if kv.1=k then(kv.1,v) else kv) else kvs++[(k,v)]
noncomputable def zV (kvs:List (κ×V))(k:κ):List (κ×V):=kvs.filter fun kv=>decide (kv.1≠k)
theorem zW {p:κ×V}{r:List (κ×V)}{k:κ}(e:p.1=k):kY (p::r) k=some p.2:=by simp[kY,List.find?_cons,e]
theorem zX {p:κ×V}{r:List (κ×V)}{k:κ}(e:¬ p.1=k):kY (p::r) k=kY r k:=by simp[kY,List.find?_cons,e]
theorem pV (k:κ):∀ kvs:List (κ×V),(kvs.any fun kv=>decide (kv.1=k))=(kY kvs k).isSome
 |[]=>rfl
 |p::r=>by
  rw[List.any_cons]
  by_cases e:p.1=k
  ·simp only [zW e,A' e,Bool.true_or,Option.isSome_some]
  ·rw[zX e,J' e,Bool.false_or];exact pV k r
theorem xw (kvs:List (κ×V))(k:κ)(v:V):(putK kvs k v).length<=kvs.length+1:=by
 unfold putK;split
 ·rw[L'];omega
 ·rw[V',Ya',List.length_nil];omega
theorem FX {kvs:List (κ×V)}{k:κ}(v:V)(h:kY kvs k=none):putK kvs k v=kvs++[(k,v)]:=by
 unfold putK;rw[pV,h];exact T' (by decide)
theorem jH.mY {o:Option V}{u:Option Value}(r:jH o u):o.isSome=u.isSome:=by
 cases o with
 |none=>cases u with
  |none=>rfl
  |some _=>exact(show False from r).elim
 |some _=>cases u with
  |none=>exact(show False from r).elim
  |some _=>rfl
theorem jH.getD {o:Option V}{u:Option Value}{d:V}{d':Value}(r:jH o u)(rd:RelV d d'):RelV (o.getD d) (u.getD d'):=by
 cases o with
 |none=>cases u with
  |none=>exact rd
  |some _=>exact(show False from r).elim
 |some _=>cases u with
  |none=>exact(show False from r).elim
  |some _=>exact r
theorem KV.val {kvs:List (κ×V)}{vs:List (κ×Value)}(r:KV kvs vs)(k:κ):jH (kY kvs k) (valueAt vs k):=by
 unfold KV at r
 induction r with
 |nil=>exact True.intro
 | @cons p q ps qs h t ih =>
  obtain⟨h1,h2⟩:=h
  by_cases e:p.1=k
  ·have e':q.1=k:=h1.symm.trans e;have b:valueAt (q::qs) k=some q.2:=by simp[valueAt,List.find?_cons,e']
   rw[zW e,b];exact h2
  ·have e':¬ q.1=k:=fun z=>e (h1.trans z);have b:valueAt (q::qs) k=valueAt qs k:=by simp[valueAt,List.find?_cons,e']
   rw[zX e,b];exact ih
theorem KV.any {kvs:List (κ×V)}{vs:List (κ×Value)}(r:KV kvs vs)(k:κ):(kvs.any fun kv=>decide (kv.1=k))=vs.any fun kv=>decide (kv.1=k):=by
 unfold KV at r
 induction r with
 |nil=>rfl
 |cons h t ih=>rw[List.any_cons,List.any_cons,ih,h.1]
theorem KV.repl {kvs:List (κ×V)}{vs:List (κ×Value)}(r:KV kvs vs)(k:κ){y:V}{u:Value}(ry:RelV y u) :
  KV (kvs.map fun kv=>if kv.1=k then(kv.1,y) else kv) (vs.map fun kv=>if kv.1=k then(kv.1,u) else kv):=by
 unfold KV at r ⊢
 induction r with
 |nil=>exact .nil
 | @cons p q ps qs h t ih =>
  rw[map_cons,map_cons];refine .cons ?_ ih;obtain⟨h1,h2⟩:=h
  by_cases e:p.1=k
  ·rw[X' e,X' (h1.symm.trans e)];exact⟨h1,ry⟩
  ·rw[T' e,T' (fun z=>e (h1.trans z))];exact⟨h1,h2⟩
theorem KV.put {kvs:List (κ×V)}{vs:List (κ×Value)}(r:KV kvs vs)(k:κ){y:V}{u:Value}(ry:RelV y u):KV (putK kvs k y) (stored vs k u):=by
 unfold putK stored;rw[r.any k]
 by_cases e:(vs.any fun kv=>decide (kv.1=k))=true
 ·rw[X' e,X' e];exact r.repl k ry
 ·rw[T' e,T' e];exact Paired.snoc r ⟨rfl,ry⟩
theorem KV.drop {kvs:List (κ×V)}{vs:List (κ×Value)}(r:KV kvs vs)(k:κ):KV (zV kvs k) (without vs k):=by
 unfold KV at r ⊢;unfold zV without
 induction r with
 |nil=>exact .nil
 | @cons p q ps qs h t ih =>
  obtain⟨h1,h2⟩:=h;rw[List.filter_cons,List.filter_cons]
  by_cases e:p.1=k
  ·have a:¬ decide (p.1≠k)=true:=by simp[e]
   have b:¬ decide (q.1≠k)=true:=by simp[h1.symm.trans e]
   rw[T' a,T' b];exact ih
  ·have e':¬ q.1=k:=fun z=>e (h1.trans z);have a:decide (p.1≠k)=true:=by simp[e]
   have b:decide (q.1≠k)=true:=by simp[e']
   rw[X' a,X' b];exact .cons ⟨h1,h2⟩ ih
theorem KV.keys {kvs:List (κ×V)}{vs:List (κ×Value)}(r:KV kvs vs):kvs.map (·.1)=vs.map (·.1):=by
 unfold KV at r
 induction r with
 |nil=>rfl
 |cons h t ih=>rw[map_cons,map_cons,ih,h.1]
theorem KV.length {kvs:List (κ×V)}{vs:List (κ×Value)}(r:KV kvs vs):kvs.length=vs.length:=Paired.length r
theorem Nh (kvs:List (κ×V))(k:κ):(zV kvs k).length<=kvs.length:=List.length_filter_le _ _
end
theorem zY {P:Program}{w:World}{k:Key}{u:Value}(r:RelV (kV k) u):(cf P w).is k u=true:=by
 cases k with
 |inl i=>obtain⟨t,e⟩:=(show ∃ t,u=Value.int i t from r);subst e;exact Fu P w i t
 |inr x=>obtain⟨t,e⟩:=(show ∃ t,u=Value.str x t from r);subst e;exact fW P w x t
theorem CH {P:Program}{w:World}:∀{ks:List Key} {us:List Value},Vals (ks.map kV) us->ItemsAre (cf P w) ks us
 |[],_,r=>by rw[List.map_nil]at r;cases r;exact .nil
 |k::ks,_,r=>by
  rw[map_cons]at r;cases r with
  |cons h t=>exact .cons (zY h) (CH t)
abbrev KT (H:Hp):List (List Key×V)->List (List Key×Addr×Value)->Prop:=Paired fun p q=>p.1=q.1/\H q.2.1=some (.tup (p.1.map kV))/\RelV p.2 q.2.2
theorem KT.val {H:Hp}{kvs:List (List Key×V)}{xs:List (List Key×Addr×Value)}(r:KT H kvs xs)(k:List Key):jH (kY kvs k) ((atKey xs k).map (·.2)):=by
 induction r with
 |nil=>exact True.intro
 | @cons p q ps qs h t ih =>
  obtain⟨h1,_,h2⟩:=h
  by_cases e:p.1=k
  ·have e':q.1=k:=h1.symm.trans e;have b:atKey (q::qs) k=some q.2:=by simp[atKey,List.find?_cons,e']
   rw[zW e,b];exact h2
  ·have e':¬ q.1=k:=fun z=>e (h1.trans z);have b:atKey (q::qs) k=atKey qs k:=by simp[atKey,List.find?_cons,e']
   rw[zX e,b];exact ih
theorem KT.repl {H:Hp}{kvs:List (List Key×V)}{xs:List (List Key×Addr×Value)}(r:KT H kvs xs)(k:List Key){y:V}{u:Value}(ry:RelV y u) :
  KT H (kvs.map fun kv=>if kv.1=k then(kv.1,y) else kv) (xs.map (putAt k u)):=by
 induction r with
 |nil=>exact .nil
 | @cons p q ps qs h t ih =>
  rw[map_cons,map_cons];refine .cons ?_ ih;obtain⟨h1,h2,h3⟩:=h;unfold putAt
  by_cases e:p.1=k
  ·rw[X' e,X' (h1.symm.trans e)];exact⟨h1,h2,ry⟩
  ·rw[T' e,T' (fun z=>e (h1.trans z))];exact⟨h1,h2,h3⟩
theorem KT.put {H:Hp}{kvs:List (List Key×V)}{xs:List (List Key×Addr×Value)}(r:KT H kvs xs)(k:List Key){b:Addr}{y:V}{u:Value}(hb:H b=some (.tup (k.map kV)))(ry:RelV y u) :
  KT H (putK kvs k y) (storedH xs k b u):=by
 have e:(kvs.any fun kv=>decide (kv.1=k))=(atKey xs k).isSome:=by
  rw[pV,(r.val k).mY,Option.isSome_map]
 unfold putK storedH;rw[e]
 by_cases q:(atKey xs k).isSome=true
 ·rw[X' q,X' q];exact r.repl k ry
 ·rw[T' q,T' q];exact Paired.snoc r ⟨rfl,hb,ry⟩
theorem KT.keeps {H H':Hp}{kvs:List (List Key×V)}{xs:List (List Key×Addr×Value)}(r:KT H kvs xs)(ht:∀ b ys,H b=some (.tup ys)->H' b=some (.tup ys)):KT H' kvs xs :=
 Paired.QX r fun _ _ z=>⟨z.1,ht _ _ z.2.1,z.2.2⟩
section
variable {P:Program} {w:World} {H:Hp} {h:Heap} {a:Addr}
theorem QD {u:HO}(ok:pH P w H h)(e:Rd H a u):eC P w H h a u:=e.ok ok
theorem rp {kvs:List (Key×V)}(ok:pH P w H h)(e:Rd H a (.dK kvs)):kvs.length<=sizeLine/\(a==sysModules)=false/\∃ vs,KV kvs vs/\h.DictOf (cf P w) a vs :=
 show eC P w H h a (.dK kvs) from QD ok e
theorem QE {kvs:List (Key×V)}(ok:pH P w H h)(e:H a=some (.dK kvs)):kvs.length<=sizeLine/\(a==sysModules)=false/\∃ vs,KV kvs vs/\h.DictOf (cf P w) a vs:=rp ok (.inl e)
theorem wq {ks:List Key}(ok:pH P w H h)(e:H a=some (.tup (ks.map kV))):(tupleKind (cf P w)).is h ks a:=by
 obtain⟨_,its,r,o,h1,h2,n,h3⟩:=(show eC P w H h a (.tup (ks.map kV)) from ok a _ e);exact⟨o,its.toArray,n,h1,h2,h3,by simpa using CH r⟩
theorem zZ {kvs:List (List Key×V)}(ok:pH P w H h)(e:Rd H a (.dT kvs)):kvs.length<=sizeLine/\(a==sysModules)=false /\
  ∃ xs,KT H kvs xs/\h.DictOfH (tupleKind (cf P w)) a xs:=by
 obtain⟨z,y,xs,r,o,es,ep,h1,h2,h3,h4,h5⟩:=(show eC P w H h a (.dT kvs) from QD ok e);refine⟨z,y,xs,r,o,es,ep,h1,h2,h3,h4,fun x hx=>?_,h5⟩;have all:∀{l:List (List Key×V)} {m:List (List Key×Addr×Value)},KT H l m->∀ x∈m,(tupleKind (cf P w)).is h x.1 x.2.1:=by
  intro l m q
  induction q with
  |nil=>intro x hx;exact nomatch hx
  | @cons p q ps qs hq t ih =>
   intro x hx;rcases List.mem_cons.mp hx with e|hx
   ·subst e;exact wq ok (by rw[<-hq.1];exact hq.2.1)
   ·exact ih x hx
 exact all r x hx
theorem Ur {kvs:List (List Key×V)}(ok:pH P w H h)(e:H a=some (.dT kvs)):kvs.length<=sizeLine/\(a==sysModules)=false /\
  ∃ xs,KT H kvs xs/\h.DictOfH (tupleKind (cf P w)) a xs:=zZ ok (.inl e)
end
def kZ (H:Hp)(a:Addr)(y:V)(r:Option V):Prop :=
 (∃ kvs k,Rd H a (.dK kvs)/\y=kV k/\r=kY kvs k)\/∃ kvs k b,Rd H a (.dT kvs)/\y=.ref b/\H b=some (.tup (k.map kV))/\r=kY kvs k
def Ir (H:Hp)(a:Addr)(y v:V)(H':Hp):Prop :=
 (∃ kvs k,H a=some (.dK kvs)/\y=kV k/\kvs.length<sizeLine/\H'=upd H a (.dK (putK kvs k v))) \/
 ∃ kvs k b,H a=some (.dT kvs)/\y=.ref b/\H b=some (.tup (k.map kV))/\kvs.length<sizeLine/\H'=upd H a (.dT (putK kvs k v))
theorem kZ.k {H:Hp}{a:Addr}{kvs:List (Key×V)}{k:Key}(e:H a=some (.dK kvs)):kZ H a (kV k) (kY kvs k):=.inl ⟨kvs,k,.inl e,rfl,rfl⟩
theorem Ir.k {H:Hp}{a:Addr}{kvs:List (Key×V)}{k:Key}{v:V}(e:H a=some (.dK kvs))(hl:kvs.length<sizeLine):Ir H a (kV k) v (upd H a (.dK (putK kvs k v))):=.inl ⟨kvs,k,e,rfl,hl,rfl⟩
section
variable {X:Cx} {pins:List (Addr×Obj)} {σ:St} {H:Hp} {s:Shared} {a:Addr} {y v:V} {u r:Value} {o:Option V} {A:Around} {E:Value->Shared->Prop}
theorem Inv.big (I:Inv X pins σ H s):sysModules<s.heap.objs.size:=by
 have h:mainGlobals<s.heap.objs.size:=(I.mod.glob.keeps I.bk).lt;exact Nat.lt_trans (by decide) h
theorem Ll {Q:Value->Shared->Prop}(hu:A.units+1<cLine)(I:Inv X pins σ H s)(g:kZ H a y (some v))(ry:RelV y u)(h:∀ w' s',Inv X pins σ H s'->RelV v w'->Q w' s') :
  wpAny (model X.prog X.w) A (getItem (.ref a) u) Q E s:=by
 rcases g with ⟨kvs,k,e,ey,l⟩|⟨kvs,k,b,e,ey,eb,l⟩
 ·subst ey;obtain⟨z,hd,vs,rel,dd⟩:=rp I.hok e;obtain⟨w',hw,FA⟩:=jH.some_of (v:=v) (o:=valueAt vs k) (by rw[l];exact rel.val k);exact wpAny_getItem_of (zY ry) dd.mapOf hw (h w' _ (I.tok _) FA)
 ·subst ey;cases (show u=Value.ref b from ry);obtain⟨z,hd,xs,rel,dd⟩:=zZ I.hok e;obtain⟨w',hw,FA⟩:=jH.some_of (v:=v) (o:=(atKey xs k).map (·.2)) (by rw[l];exact rel.val k);obtain⟨p,hp,hp2⟩:=Option.map_eq_some_iff.mp hw;refine wpAny_getItem_heap (tupleKind_room_in1 hu) (wq I.hok eb) dd hp ?_;rw[hp2];exact h w' _ (I.tok _) FA
theorem Xi {Q:Value->Shared->Prop}(hu:A.units+1<cLine)(I:Inv X pins σ H s)(g:kZ H a y o)(ry:RelV y u)(h:∀ s',Inv X pins σ H s'->Q (.bool o.isSome) s') :
  wpAny (model X.prog X.w) A (compareOp .In u (.ref a)) Q E s:=by
 rcases g with ⟨kvs,k,e,ey,l⟩|⟨kvs,k,b,e,ey,eb,l⟩
 ·subst ey;obtain⟨z,hd,vs,rel,dd⟩:=rp I.hok e;refine wpAny_in_of (zY ry) hd dd.mapOf ?_;rw[<-(rel.val k).mY,<-l];exact h _ (I.tok _)
 ·subst ey;cases (show u=Value.ref b from ry);obtain⟨z,hd,xs,rel,dd⟩:=zZ I.hok e;refine wpAny_in_heap (tupleKind_room_in1 hu) (wq I.hok eb) hd dd ?_;have q:=(rel.val k).mY;rw[Option.isSome_map]at q;rw[<-q,<-l];exact h _ (I.tok _)
theorem Pf {Q:Value->Shared->Prop}(hu:A.units+1<cLine)(I:Inv X pins σ H s)(g:kZ H a y o)(ry:RelV y u)(h:∀ s',Inv X pins σ H s'->Q (.bool (!o.isSome)) s') :
  wpAny (model X.prog X.w) A (compareOp .NotIn u (.ref a)) Q E s:=by
 rcases g with ⟨kvs,k,e,ey,l⟩|⟨kvs,k,b,e,ey,eb,l⟩
 ·subst ey;obtain⟨z,hd,vs,rel,dd⟩:=rp I.hok e;refine wpAny_notIn_of (zY ry) hd dd.mapOf ?_;rw[<-(rel.val k).mY,<-l];exact h _ (I.tok _)
 ·subst ey;cases (show u=Value.ref b from ry);obtain⟨z,hd,xs,rel,dd⟩:=zZ I.hok e;refine wpAny_notIn_heap (tupleKind_room_in1 hu) (wq I.hok eb) hd dd ?_;have q:=(rel.val k).mY;rw[Option.isSome_map]at q;rw[<-q,<-l];exact h _ (I.tok _)
theorem Ep {h':Heap}{t':Nat}{ob:HO}(I:Inv X pins σ H s)(mu:Tr (H a))(hs:Heap.SameBut a s.heap h')(he:∃ q,h'.get? a=some q)(new:eC X.prog X.w (upd H a ob) h' a ob) :
  Inv X pins σ (upd H a ob) { s with heap:=h',toks:=t' } :=
 I.write (x:=a) (e:=a) mu (.inl rfl) (fun b q hb z=>(hs.2 b hb).trans z) he new
theorem Iu {P:Program}{w:World}{H':Hp}{h':Heap}{kvs:List (Key×V)}{vs:List (Key×Value)}(z:kvs.length<=sizeLine)(hd:(a==sysModules)=false)(rel:KV kvs vs)(dd:h'.DictOf (cf P w) a vs) :
  eC P w H' h' a (.dK kvs):=⟨z,hd,vs,rel,dd⟩
theorem Lm {H':Hp}{Q:Unit->Shared->Prop}(hu:A.units+1<cLine)(I:Inv X pins σ H s)(g:Ir H a y v H')(ry:RelV y u)(rv:RelV v r)(h:∀ s',Inv X pins σ H' s'->Q () s') :
  wpAny (model X.prog X.w) A (setItem (.ref a) u r) Q E s:=by
 rcases g with ⟨kvs,k,e,ey,l,eH⟩|⟨kvs,k,b,e,ey,eb,l,eH⟩
 ·subst ey eH;obtain⟨z,hd,vs,rel,dd⟩:=QE I.hok e;have hz:vs.length<=sizeLine:=by rw[<-rel.length];exact z
  have hl:(putK kvs k v).length<=sizeLine:=by have:=xw kvs k v;omega
  refine wpAny_setItem_pairs (hsz:=hz) (zY ry) dd fun h' Ln hs=>h _ ?_;have he:∃ q,h'.get? a=some q:=let ⟨q,_,_,hq,_⟩:=Ln;⟨q,hq⟩;exact Ep I (by rw[e];exact True.intro) hs he (Iu hl hd (rel.put k rv) Ln)
 ·subst ey eH;cases (show u=Value.ref b from ry);obtain⟨z,hd,xs,rel,dd⟩:=Ur I.hok e;have hz:xs.length<=sizeLine:=by rw[<-Paired.length rel];exact z
  have hl:(putK kvs k v).length<=sizeLine:=by have:=xw kvs k v;omega
  refine wpAny_setItem_heap (hsz:=hz) (tupleKind_room_in1 hu) (wq I.hok eb) dd fun h' Ln hs=>h _ ?_;obtain⟨q,es,ep,hq,h2,h3,h4,_,h5⟩:=Ln;refine Ep I (by rw[e];exact True.intro) hs ⟨q,hq⟩ ⟨hl,hd,_,(rel.put k eb rv).keeps fun c ys ec=>?_,q,es,ep,hq,h2,h3,h4,h5⟩;rw[ak (fX ec e (fun z=>nomatch z))];exact ec
end
section
variable {X:Cx} {pins:List (Addr×Obj)} {σ:St} {H:Hp} {s:Shared} {a:Addr} {kvs:List (Key×V)} {k:Key} {u:Value} {A:Around} {E:Value->Shared->Prop}
theorem Us {v:V}{more:List Value}{Q:Value->Shared->Prop}(I:Inv X pins σ H s)(e:H a=some (.dK kvs))(ry:RelV (kV k) u)(l:kY kvs k=some v)(hm:more=[]\/∃ x,more=[x])
  (h:∀ w' s',Inv X pins σ (upd H a (.dK (zV kvs k))) s'->RelV v w'->Q w' s'):wpAny (model X.prog X.w) A (call (.builtin "dict.pop") (.ref a::u::more)) Q E s:=by
 obtain⟨z,hd,vs,rel,dd⟩:=QE I.hok e;obtain⟨w',hw,FA⟩:=jH.some_of (v:=v) (o:=valueAt vs k) (by rw[<-l];exact rel.val k);have hp:(keyPart u).isSome=true:=by
  cases k with
  |inl i=>obtain⟨t,q⟩:=(show ∃ t,u=Value.int i t from ry);subst q;rfl
  |inr x=>obtain⟨t,q⟩:=(show ∃ t,u=Value.str x t from ry);subst q;rfl
 have ha:argsOk "dict.pop" ⟨.ref a::u::more,[]⟩:=by
  rcases hm with q|⟨x,q⟩
  ·subst q;exact PySem.F.args_dict_pop_2 _ _
  ·subst q;exact PySem.F.args_dict_pop_3 _ _ _
 refine call_meetsIn slot_dict_pop dd.typeIs PySem.F.entry_dict_pop ha (meets_dict_pop_there (cf X.prog X.w) a (zY ry) more hm hp)
  ⟨vs,w',dd,by rw[<-rel.length];exact z,hw,fun h' Ln hs=>h w' _ ?_ FA⟩
 have he:∃ q,h'.get? a=some q:=let ⟨q,_,_,hq,_⟩:=Ln;⟨q,hq⟩;exact Ep I (by rw[e];exact True.intro) hs he (Iu (Zb' (Nh kvs k) z) hd (rel.drop k) Ln)
theorem Ut {Q:Value->Shared->Prop}(I:Inv X pins σ H s)(e:Rd H a (.dK kvs))(h:∀ t s',Inv X pins σ H s'->Q (.int kvs.length t) s'):wpAny (model X.prog X.w) A (call (.builtin "len") [.ref a]) Q E s:=by
 obtain⟨z,hd,vs,rel,dd⟩:=rp I.hok e;refine call_len_dict hd dd (by rw[<-rel.length];rw[sizeLine_eq]at z;omega) ?_;rw[<-rel.length];exact h _ _ (I.tok _)
end
def Uu (i:Expr):Prop:=∀ ov iv,subscripted i false ov iv=operate [ov,iv] (getItem ov iv)
theorem Pg {prog:Program}{w:World}{A:Around}{E:Value->Shared->Prop}{s:Shared}{env:Env}{value slice:Expr}{pos:Pos}{T id:String}{Q:Value->Shared->Prop}
  (hl:typeLookup (.type T) "__getitem__"=pure (some (.builtin id))) (hs:Uu slice)
  (h:wpAny (model prog w) A (eval value env) (fun o s₁=>wpAny (model prog w) A (eval slice env) (fun i s₂=>s₂.TypeIs o T/\wpAny (model prog w) A (getItem o i) Q E s₂) E s₁) E s) :
  wpAny (model prog w) A (eval (.Subscript value slice pos) env) Q E s:=by
 refine Subscript_ (wpAny_mono h (fun o s₁ h₁=>wpAny_mono h₁ (fun i s₂ h₂=>?_) fun _ _ x=>x) fun _ _ x=>x);obtain⟨hT,h₂⟩:=h₂;unfold subscriptTail;refine C' ?_;rw[getitemInPython_of_ne hT.not_modules];refine C' (wpAny_specialOf hT hl ?_);have fin:wpAny (model prog w) A (subscripted slice false o i) (fun r s₃=>wpAny (model prog w) A (letTemporaryGo value o r >>= fun _=>pure r) Q E s₃) E s₂:=by
  rw[hs o i];exact wpAny_operating (wpAny_mono h₂ (fun r s₃ h₃=>C' (wpAny_letTemporaryGo (U' h₃))) fun _ _ x=>x)
 first
  |exact U' (C' fin)
  |exact C' (U' (C' fin))
  |exact C' fin
theorem FY {X:Cx}{pins:List (Addr×Obj)}{σ:St}{H:Hp}{s:Shared}{a:Addr}{y:V}{o:Option V}(I:Inv X pins σ H s)(g:kZ H a y o):s.TypeIs (.ref a) "dict":=by
 rcases g with ⟨kvs,k,e,_,_⟩|⟨kvs,k,b,e,_,_,_⟩
 ·obtain⟨_,_,vs,_,dd⟩:=rp I.hok e;exact dd.typeIs
 ·obtain⟨_,_,xs,_,dd⟩:=zZ I.hok e;exact dd.typeIs
def Uv (td ty:TE):TE:=fun σ H Q=>td σ H fun x H1=>ty σ H1 fun y H2=>∃ a v,x=.ref a/\kZ H2 a y (some v)/\Q v H2
def Xj (ty td:TE):TE:=fun σ H Q=>ty σ H fun y H1=>td σ H1 fun x H2=>∃ a o,x=.ref a/\kZ H2 a y o/\Q (.bl o.isSome) H2
def Ph (ty td:TE):TE:=fun σ H Q=>ty σ H fun y H1=>td σ H1 fun x H2=>∃ a o,x=.ref a/\kZ H2 a y o/\Q (.bl (!o.isSome)) H2
def Uw (td ty tv:TE):TS:=fun D σ H=>tv σ H fun v H1=>td σ H1 fun x H2=>ty σ H2 fun y H3=>∃ a H4,x=.ref a/\Ir H3 a y v H4/\D.nx σ H4
section
variable {X:Cx} {o i e value:Expr} {pos pos' tpos:Pos} {td ty tv:TE}
theorem e9 (hu:X.A.units+1<cLine)(ho:PE X o td)(hi:PE X i ty)(hs:Uu i):PE X (.Subscript o i pos) (Uv td ty):=by
 intro pins s σ H Q I h;refine Pg PySem.F.slot_dict_getitem.lookup hs (cu (ho pins s σ H _ I h) fun u s1 ⟨x,H1,I1,rx,q1⟩=>cu (hi pins s1 σ H1 _ I1 q1) fun iv s2 ⟨y,H2,I2,ry,a,v,ex,g,q2⟩=>?_);subst ex;obtain rfl:u=Value.ref a:=rx;exact⟨FY I2 g,Ll hu I2 g ry fun w' s3 I3 FA=>⟨v,H2,I3,FA,q2⟩⟩
theorem RK (hu:X.A.units+1<cLine)(hi:PE X i ty)(ho:PE X o td):PC X .In i o (Xj ty td):=by
 intro pins s σ H Q I h;refine cu (hi pins s σ H _ I h) fun iv s1 ⟨y,H1,I1,ry,q1⟩=>cu (ho pins s1 σ H1 _ I1 q1) fun u s2 ⟨x,H2,I2,rx,a,ov,ex,g,q2⟩=>?_;subst ex;obtain rfl:u=Value.ref a:=rx;exact Xi hu I2 g ry fun s3 I3=>⟨.bl ov.isSome,H2,I3,rfl,q2⟩
theorem wt (hu:X.A.units+1<cLine)(hi:PE X i ty)(ho:PE X o td):PC X .NotIn i o (Ph ty td):=by
 intro pins s σ H Q I h;refine cu (hi pins s σ H _ I h) fun iv s1 ⟨y,H1,I1,ry,q1⟩=>cu (ho pins s1 σ H1 _ I1 q1) fun u s2 ⟨x,H2,I2,rx,a,ov,ex,g,q2⟩=>?_;subst ex;obtain rfl:u=Value.ref a:=rx;exact Pf hu I2 g ry fun s3 I3=>⟨.bl (!ov.isSome),H2,I3,rfl,q2⟩
theorem Er (hu:X.A.units+1<cLine)(ho:PE X o td)(hi:PE X i ty)(hv:PE X value tv)(hs:swapsWith value (some (.Subscript o i pos')) pos.line X.env=pure false) :
  PS X (.Assign [.Subscript o i pos'] value pos) (Uw td ty tv):=by
 intro pins s σ H D I h;refine wpAny_Assign_Subscript (cu (hv pins s σ H _ I h) fun r s1 ⟨v,H1,I1,rv,q1⟩=>cu (ho pins s1 σ H1 _ I1 q1) fun u s2 ⟨x,H2,I2,rx,q2⟩=>cu (hi pins s2 σ H2 _ I2 q2) fun iv s3 ⟨y,H3,I3,ry,a,H4,ex,g,q3⟩=>?_) hs;subst ex;obtain rfl:u=Value.ref a:=rx;exact Lm hu I3 g ry rv fun s4 I4=>⟨σ,H4,I4,q3⟩
end
theorem Ni {P:Program}{w:World}{H:Hp}(h:Heap)(hb:sysModules<h.objs.size):eC P w H (h.push { cls:=.type "dict",data:=.dict #[] }) h.objs.size (.dK []) :=
 ⟨Zq' _,beq_eq_false_iff_ne.mpr (Zh' (Zn' hb)),[],.nil,Heap.DictOf.new h⟩
def sr:TE:=fun _ H Q=>∀ p,H p=none->Q (.ref p) (upd H p (.dK []))
section
variable {X:Cx} {pos:Pos}
theorem Nj:PE X (.Dict [] [] pos) sr:=fun pins s σ H Q I h =>
 wpAny_Dict_empty ⟨.ref s.heap.objs.size,_,I.laid (a:=s.heap.objs.size) (o:=.dK []) (t':=s.toks) (fun _ _ q=>P' _ q) (R' _) (Ni s.heap I.big),rfl,h _ (I.hok.fresh (R' _))⟩
end
structure M1 (X:Cx)(o:Expr)(m:Str)(apos:Pos)(e:Expr)(cpos:Pos):Prop where
 base:attributeBase o m X.env (eval o X.env)=eval o X.env
 few:((backTo cpos (starEach [e] X.env)).all (fun x=>!x.1)&&(backToKw cpos (keywordEach [] X.env)).all (fun x=>x.1.isSome)
  && decide (([e]:List Expr).length+([]:List Keyword).length+(if([]:List Keyword).isEmpty then 0 else 1)<30))=true
 line:(apos.endLine==cpos.line)=true
 trees:backTo cpos (starEach [e] X.env)=[(false,eval e X.env)]
structure M2 (X:Cx)(o:Expr)(m:Str)(apos:Pos)(e f:Expr)(cpos:Pos):Prop where
 base:attributeBase o m X.env (eval o X.env)=eval o X.env
 few:((backTo cpos (starEach [e,f] X.env)).all (fun x=>!x.1)&&(backToKw cpos (keywordEach [] X.env)).all (fun x=>x.1.isSome)
  && decide (([e,f]:List Expr).length+([]:List Keyword).length+(if([]:List Keyword).isEmpty then 0 else 1)<30))=true
 line:(apos.endLine==cpos.line)=true
 trees:backTo cpos (starEach [e,f] X.env)=[(false,eval e X.env),(false,eval f X.env)]
def Xl (H:Hp)(a:Addr):Prop:=(∃ kvs,Rd H a (.dK kvs))\/∃ kvs,Rd H a (.dT kvs)
theorem Nl {X:Cx}{pins:List (Addr×Obj)}{σ:St}{H:Hp}{s:Shared}{a:Addr}(I:Inv X pins σ H s)(d:Xl H a) :
  s.TypeIs (.ref a) "dict"/\(∀ b,Value.ref a=.ref b->∃ ob,s.heap.get? b=some ob/\ob.dict=none)/\(a==sysModules)=false:=by
 rcases d with ⟨kvs,e⟩|⟨kvs,e⟩
 ·obtain⟨_,hd,vs,_,dd⟩:=rp I.hok e;refine⟨dd.typeIs,fun b q=>?_,hd⟩;cases q;obtain⟨ob,_,_,h1,h2,_⟩:=dd;exact⟨ob,h1,h2.2.1⟩
 ·obtain⟨_,hd,xs,_,dd⟩:=zZ I.hok e;refine⟨dd.typeIs,fun b q=>?_,hd⟩;cases q;obtain⟨ob,_,_,h1,h2,_⟩:=dd;exact⟨ob,h1,h2.2.1⟩
section
variable {X:Cx} {pins:List (Addr×Obj)} {σ:St} {H:Hp} {s:Shared} {a:Addr} {y d:V} {u r:Value} {o:Option V} {A:Around} {E:Value->Shared->Prop}
theorem RL {Q:Value->Shared->Prop}(hu:A.units+1<cLine)(I:Inv X pins σ H s)(g:kZ H a y o)(ry:RelV y u)(rd:RelV d r)(h:∀ w' s',Inv X pins σ H s'->RelV (o.getD d) w'->Q w' s') :
  wpAny (model X.prog X.w) A (call (.builtin "dict.get") [.ref a,u,r]) Q E s:=by
 rcases g with ⟨kvs,k,e,ey,l⟩|⟨kvs,k,b,e,ey,eb,l⟩
 ·subst ey;obtain⟨z,hd,vs,rel,dd⟩:=rp I.hok e;refine call_meetsIn slot_dict_get dd.typeIs entry_dict_get (args_dict_get_3 _ _ _) (meets_dict_get_default (cf X.prog X.w) a (zY ry) hd r) ⟨_,dd.mapOf,h _ _ (I.tok _) ?_⟩;rw[l];exact(rel.val k).getD rd
 ·subst ey;cases (show u=Value.ref b from ry);obtain⟨z,hd,xs,rel,dd⟩:=zZ I.hok e;refine call_meetsIn slot_dict_get dd.typeIs entry_dict_get (args_dict_get_3 _ _ _) (meetsH_dict_get_default (tupleKind (cf X.prog X.w)) a b hd r) ⟨tupleKind_room_in1 hu,k,xs,wq I.hok eb,dd,h _ _ (I.tok _) ?_⟩;rw[l];exact(rel.val k).getD rd
end
def RM (td ty tx:TE):TE:=fun σ H Q=>td σ H fun x H1=>∃ a,x=.ref a/\Xl H1 a/\ty σ H1 fun y H2=>tx σ H2 fun z H3=>∃ o,kZ H3 a y o/\Q (o.getD z) H3
def RN (td ty:TE):TE:=fun σ H Q=>td σ H fun x H1=>∃ a,x=.ref a/\Xl H1 a/\ty σ H1 fun y H2=>∃ kvs k v,H2 a=some (.dK kvs)/\y=kV k/\kY kvs k=some v/\Q v (upd H2 a (.dK (zV kvs k)))
section
variable {X:Cx} {o e f:Expr} {apos cpos:Pos} {td ty tx:TE}
theorem Nm (hu:X.A.units+1<cLine)(ho:PE X o td)(he:PE X e ty)(hf:PE X f tx)(m:M2 X o "get" apos e f cpos):PE X (.Call (.Attribute o "get" apos) [e,f] [] cpos) (RM td ty tx):=by
 intro pins s σ H Q I h;refine wpAny_Call_method m.base m.few m.line plainAttrs_dict slot_dict_get type_dict_get (cu (ho pins s σ H _ I h) fun u s1 fS=>?_);obtain⟨x,H1,I1,rx,a,ex,d,q1⟩:=fS;subst ex;obtain rfl:u=Value.ref a:=rx;obtain⟨t1,t2,_⟩:=Nl I1 d;refine⟨t1,t2,?_⟩;rw[m.trees];refine Calls.callWith_builtin rfl (Calls.evalArgs_plain (Calls.spliced_cons (cu (he pins s1 σ H1 _ I1 q1) fun iv s2 ⟨y,H2,I2,ry,q2⟩ =>
  Calls.spliced_cons (cu (hf pins s2 σ H2 _ I2 q2) fun fv s3 ⟨z,H3,I3,rz,ov,g,q3⟩=>Calls.spliced_nil ?_))))
 exact RL hu I3 g ry rz fun w' s4 I4 FA=>⟨_,H3,I4,FA,q3⟩
theorem Nn (ho:PE X o td)(he:PE X e ty)(m:M1 X o "pop" apos e cpos):PE X (.Call (.Attribute o "pop" apos) [e] [] cpos) (RN td ty):=by
 intro pins s σ H Q I h;refine wpAny_Call_method m.base m.few m.line plainAttrs_dict slot_dict_pop PySem.F.type_dict_pop (cu (ho pins s σ H _ I h) fun u s1 fS=>?_);obtain⟨x,H1,I1,rx,a,ex,d,q1⟩:=fS;subst ex;obtain rfl:u=Value.ref a:=rx;obtain⟨t1,t2,_⟩:=Nl I1 d;refine⟨t1,t2,?_⟩;rw[m.trees];refine Calls.callWith_builtin rfl (Calls.evalArgs_plain (Calls.spliced_cons (cu (he pins s1 σ H1 _ I1 q1) fun iv s2 ⟨y,H2,I2,ry,kvs,k,v,ea,ey,l,q2⟩=>Calls.spliced_nil ?_)));subst ey;exact Us I2 ea ry l (.inl rfl) fun w' s3 I3 FA=>⟨v,_,I3,FA,q2⟩
end
section
variable {X:Cx} {pins:List (Addr×Obj)} {σ:St} {H:Hp} {s:Shared} {a:Addr} {kvs:List (Key×V)} {A:Around} {E:Value->Shared->Prop}
theorem Np {Q:Value->Shared->Prop}(I:Inv X pins σ H s)(e:Rd H a (.dK kvs))(h:∀ p s',H p=none->Inv X pins σ (upd H p (.dK kvs)) s'->Q (.ref p) s'):wpAny (model X.prog X.w) A (call (.type "dict") [.ref a]) Q E s:=by
 obtain⟨z,hd,vs,rel,dd⟩:=rp I.hok e;refine kt_call_dict hd dd (by rw[<-rel.length];exact z) fun h' Ln hs=>?_;refine h _ _ (I.hok.fresh (R' _)) (I.laid (a:=s.heap.objs.size) (o:=.dK kvs) (t':=s.toks) (fun b q hq=>?_) (R' _) (Iu z (beq_eq_false_iff_ne.mpr (Zh' (Zn' I.big))) rel Ln));exact(hs.2 b (Zn' (W' hq))).trans (P' _ hq)
end
section
variable {X:Cx} {pins:List (Addr×Obj)} {σ:St} {H:Hp} {s:Shared} {a:Addr} {y:V} {u:Value} {A:Around} {E:Value->Shared->Prop}
end
end L2
namespace L2
open PySem PySem.Spec PyProof.Rows
section
variable {X:Cx}
theorem Lo:ik X (.builtin "len") (fun xs H Q=>∃ a kvs,xs=[V.ref a]/\H a=some (.dK kvs)/\Q (.int kvs.length) H):=by
 intro pins s σ H xs us Q I r h;obtain⟨a,kvs,rfl,ha,q⟩:=h;obtain⟨u,rfl,ru⟩:=vals1 r;cases ru;exact Ut I (.inl ha) fun t s' I'=>⟨.int kvs.length,H,I',⟨t,rfl⟩,q⟩
end
section
variable {κ:Type} [DecidableEq κ]
theorem Pj {kvs:List (κ×V)}{k:κ}{v:V}(h:kY kvs k=some v):k∈kvs.map (·.1):=by
 have q:(kvs.any fun kv=>decide (kv.1=k))=true:=by
  rw[pV,h]
  all_goals rfl
 obtain⟨p,hp,e⟩:=any_eq_true.mp q;exact mem_map.mpr ⟨p,hp,G' e⟩
end
end L2
namespace L2
open PySem PySem.Spec PyProof.Rows
theorem Ux {P:Program}{w:World}{k:Key}{u:Value}(h:(cf P w).is k u=true):RelV (kV k) u:=by
 rcases dF (show zH k u=true from h) with ⟨i,t,rfl,rfl⟩|⟨x,t,rfl,rfl⟩
 ·exact⟨t,rfl⟩
 ·exact⟨t,rfl⟩
theorem QF:∀{xs:List V} {us:List Value},xs.length=us.length->(∀(i:Nat)(x:V)(u:Value),xs[i]? = some x->us[i]? = some u->RelV x u)->Vals xs us
 |[],[],_,_=>.nil
 |x::xs,u::us,hl,h=>.cons (h 0 x u rfl rfl) (QF (by simpa using hl) fun i y v e1 e2=>h (i+1) y v (by simpa using e1) (by simpa using e2))
 |[],_::_,hl,_=>by simp at hl
 |_::_,[],hl,_=>by simp at hl
section
variable {X:Cx}
theorem om:ik X (.type "list") (fun xs H Q=>X.calm=true/\∃ p kvs,xs=[.ref p]/\Rd H p (.dK kvs)/\∀ l,H l=none->Q (.ref l) (upd H l (.lst (kvs.map fun kv=>kV kv.1)))):=by
 intro pins s σ H xs us Q I r h;obtain⟨hc,p,kvs,rfl,hp,q⟩:=h;obtain⟨u,rfl,rx⟩:=vals1 r;cases rx;obtain⟨z,hd,vs,rel,dd⟩:=rp I.hok hp;obtain⟨ep,da⟩:=dd.dictAt;have hl:=rel.length;refine PySem.W.kdl_call (PySem.W.kdl_dict (knd:=cf X.prog X.w) (kvs:=vs) (ep:=ep) hd) (I.ok.hd hc) da (by omega) fun h' tk acc' c' kp e it=>?_;refine⟨.ref s.heap.objs.size,_,I.laid (t':=tk) kp (R' _) (show eC X.prog X.w _ h' _ (.lst (kvs.map fun kv=>kV kv.1)) from⟨by rw[L'];exact z,acc'.toList,c',?_,by rw[Array.toArray_toList];exact e⟩),rfl,q _ (I.hok.fresh (R' _))⟩;have hk:=rel.keys;have h1:acc'.toList.length=vs.length:=by rw[Array.length_toList];exact it.1
 refine QF (by rw[L',h1,hl]) fun i x u e1 e2=>?_;obtain⟨k,y,e3,e4⟩:=it.2 i u (by rw[<-Array.getElem?_toList];exact e2);have e5:(kvs.map (·.1))[i]? = some k:=by rw[hk,Zd',e3];rfl
 have e6:(kvs.map fun kv=>kV kv.1)[i]? = some (kV k):=by
  rw[Zd']at e5 ⊢;cases e7:kvs[i]? with
  |none=>rw[e7]at e5;cases e5
  |some w=>rw[e7]at e5;cases e5;rfl
 rw[e6]at e1;cases e1;exact Ux e4
theorem Iv:ik X (.type "dict") (fun xs H Q=>∃ p kvs,xs=[.ref p]/\Rd H p (.dK kvs)/\∀ l,H l=none->Q (.ref l) (upd H l (.dK kvs))):=by
 intro pins s σ H xs us Q I r h;obtain⟨p,kvs,rfl,hp,q⟩:=h;obtain⟨u,rfl,rx⟩:=vals1 r;cases rx;exact Np I hp fun l s' hl I'=>⟨.ref l,_,I',rfl,q l hl⟩
end
section
variable {P:Program} {w:World} {K:Frag} {mg:Str->Option Value} {base:Heap}
theorem Em.CF {x qual:Str}{st:Stmt}{f:Addr}{fd:FuncData}{dV:Value}{N ps:List Str}{k:Nat}{sp:Sp}(F:Em K x qual st f fd dV)(S:aA N ps (aj st))(len:∀ vs H Q E,sp vs H Q E->vs.length=ps.length)
  (hbody:∀(cdv:Value)(A:Around)(outer:List Env)(s:Shared)(H:Hp)(vs:List V)(Q:VK)(E:XK),fJ k (A.deeper (envOfC qual (aj st) s.heap.objs.size f cdv))->sp vs H Q E ->
   ∃ t,zy ((mC (eU P w) P w K mg base N qual (aj st) f cdv A outer s H E).wish (WD (mC (eU P w) P w K mg base N qual (aj st) f cdv A outer s H E) fun _ cls H'=>E cls none H')) (a8 st) t/\t { nx:=fun _ H'=>Q .non H',rt:=Q } (start N vs) H):aW P w K mg base (eU P w) (k+1) f fd ps sp:=by
 obtain⟨oc,od,kV,doc,pm,an,cdv,ct,osl,rfl,lk,hcd⟩:=F.ex;refine JH lk hcd S len fun A outer s H vs Q E hr hsp=>?_;obtain⟨t,h,q⟩:=hbody cdv A outer s H vs Q E hr hsp;exact⟨t,h.Nb fun _ _ z=>leaveX z,q⟩
end
end L2
namespace L2
open PySem PySem.Spec PyProof.Rows
section
variable {prog:Program} {w:World} {A:Around} {E:Value->Shared->Prop} {s:Shared}
end
section
variable {X:Cx}
end
end L2
namespace L2
open PySem PySem.Spec PyProof.Rows
section
variable {X:Cx}
def Uy (i j:Int):Prop:=0<j/\j<18446744073709551616
theorem Nq:mP X (binaryOp .FloorDiv) (rI Uy fun i j=>.int (i / j)):=TV fun i j _ _ _ _ _ hc q=>by
 have h1:(0:Int)<j:=hc.1;have h2:j<18446744073709551616:=hc.2;refine floordiv_int (by omega) (by rw[Int.fdiv_eq_ediv_of_nonneg i (by omega)];exact q) (.inl (PyProof.noPylong_of_log2 ?_));have h64:j.natAbs.log2<64:=(Nat.log2_lt (by omega)).mpr (by omega);omega
theorem Pk {pos:Pos}:y9 X (.Dict [] [] pos) sr:=⟨Nj⟩
theorem Nr {es:List Expr}{ks:List (Option Expr)}{vs:List Expr}{p:Pos}{te:TE}{t:TA}(h:y9 X (.Dict ks vs p) te)(hr:qN X es t):qN X (.Dict ks vs p::es) (ax te t):=⟨aa h.out hr.out⟩
theorem RO {i:Int}{j:Nat}{p pos:Pos}:y9 X (.UnaryOp .USub (.Constant (.int i) j p) pos) (K2 (rU fun i=>V.int (-i)) (tC (.int i))):=⟨rh mz ai⟩
theorem Nt {es:List Expr}{o:UnaryOp}{e:Expr}{p:Pos}{te:TE}{t:TA}(h:y9 X (.UnaryOp o e p) te)(hr:qN X es t):qN X (.UnaryOp o e p::es) (ax te t):=⟨aa h.out hr.out⟩
noncomputable def RP (s:Stmt)(e:Expr):Stmt:=match s with
 |.If t [.Assign ts (.Subscript _ i sp) ap] o p=>.If t [.Assign ts (.Subscript e i sp) ap] o p
 |s=>s
noncomputable def RQ (s:Stmt)(e:Expr):Stmt:=match s with
 |.Assign ts _ p=>.Assign ts e p
 |s=>s
theorem RS {st:Stmt}{t:TS}(h:PS X.Qf st t):PS X st t:=fun pins s σ H D I hw=>wpAny_mono (h pins s σ H D (I.wish _) hw) (fun _ _ q=>q.iU) fun _ _ z=>z.elim
def Uz (i j k:Nat)(ta:TA):TS:=fun D σ H=>ta σ H fun vs H1=>∃ u v w,vs=[u,v,w]/\D.nx (((σ.set i (some u)).set j (some v)).set k (some w)) H1
theorem Pl {i j k:Nat}{x y z:Str}{a b c:Expr}{ta:TA}{px py pz pt pos:Pos}{kt k2 Q6}(hc:X.calm=true)(hN:X.N.Nodup)(hi:X.N[i]? = some x)(hj:X.N[j]? = some y)(hk:X.N[k]? = some z)(hij:i≠j)(ZX:i≠k)(hjk:j≠k)
  (hx:X.env.scope.names.lookup x=some .local) (hy:X.env.scope.names.lookup y=some .local) (hz:X.env.scope.names.lookup z=some .local) (ha:PA X [a,b,c] ta)
  (hw:swappedStores [.Tuple [.Name x px,.Name y py,.Name z pz] kt pt] (.Tuple [a,b,c] k2 Q6) X.env=pure (some [x,y,z]))
  (hs:swapsWithSole [.Tuple [.Name x px,.Name y py,.Name z pz] kt pt] (.Tuple [a,b,c] k2 Q6) pos.line X.env=pure false:=by rfl) :
  PS X (.Assign [.Tuple [.Name x px,.Name y py,.Name z pz] kt pt] (.Tuple [a,b,c] k2 Q6) pos) (Uz i j k ta):=by
 intro pins s σ H D I h;rw[exec_Assign_arm];refine C' (wpAny_standAt ?_);rw[hs];refine C' (U' ?_);rw[T' (by decide)];refine C' (Tuple_ (cu (ha _ pins s σ H _ I h) fun us s1 fS=>?_));obtain⟨vs,H1,I1,r1,q1⟩:=fS;obtain⟨v1,v2,v3,e1,q1⟩:=q1;subst e1;obtain⟨u1,u2,u3,rfl,ZY,MW,ZZ⟩:∃ u1 u2 u3,us=[u1,u2,u3]/\RelV v1 u1/\RelV v2 u2/\RelV v3 u3:=by
  cases r1 with
  |cons p q=>cases q with
   |cons p' q'=>cases q' with
    |cons p2 q2 =>
     cases q2;exact⟨_,_,_,rfl,p,p',p2⟩
 refine wpAny_newObj_type ?_ (by show 3<=sizeLine;decide);have I2:Inv X pins σ H1 { s1 with heap:=s1.heap.push { cls:=.type "tuple",data:=.seq [u1,u2,u3].toArray } }:=I1.kept (t':=s1.toks) fun b o e=>P' _ e;rw[hw];refine C' (U' ?_);show wpAny (model X.prog X.w) X.A (do rule "assign.swapped-stores";let items <-unpackItems (.ref s1.heap.objs.size) 3 none;assignInOrder [fun v=>bindName X.env z v,fun v=>bindName X.env y v,fun v=>bindName X.env x v] items.reverse;pure Flow.next) _ _ _;refine C' (wpAny_rule (C' (unpackItems_tuple (items:=#[u1,u2,u3]) (I.ok.hd hc) (IsTup.new s1.heap _) fun h' hx'=>?_)));have I3:=I2.kept (h':=h') (t':=s1.toks) fun b o e=>hx' b o (Zn' (W' e)) e;show wpAny _ _ (assignInOrder [fun v=>bindName X.env z v,fun v=>bindName X.env y v,fun v=>bindName X.env x v] [u3,u2,u1] >>= fun _=>pure Flow.next) _ _ _;refine C' (assignInOrder_cons (wpAny_bindName (jo I3 hN hk (.inl hz) ZZ (fun s2 I4=>?_) (.inr hz))));refine assignInOrder_cons (wpAny_bindName (jo I4 hN hj (.inl hy) MW (fun s3 I5=>?_) (.inr hy)));refine assignInOrder_cons (wpAny_bindName (jo I5 hN hi (.inl hx) ZY (fun s4 I6=>assignInOrder_nil (U' ?_)) (.inr hx)));rw[List.set_comm _ _ (Zh' hij),List.set_comm _ _ (Zh' ZX),List.set_comm _ _ (Zh' hjk)]at I6;exact⟨_,H1,I6,q1⟩
def Nu (K:Frag)(cls:Value)(D:Ends)(σ:St)(H:Hp):List (Addr×TS)->Prop
 |[]=>False
 |c::r=>(exmOne K cls (.ref c.1)=some true/\c.2 D σ H)\/(exmOne K cls (.ref c.1)=some false/\Nu K cls D σ H r)
def PH (X:Cx)(h:ExceptHandler)(c:Addr×TS):Prop:=∃ x np b₀ suite hpos,h=.ExceptHandler (some (.Name x np)) none (b₀::suite) hpos/\Gl X x/\X.mg x=some (.ref c.1)/\(x==("__debug__":Str))=false/\∀ pn a,zy ((X.Fo pn).hand a) (b₀::suite) c.2
inductive QG (X:Cx):List ExceptHandler->List (Addr×TS)->Prop
 |nil:QG X [] []
 |cons {h:ExceptHandler} {c:Addr×TS} {hs:List ExceptHandler} {cs:List (Addr×TS)}:PH X h c->QG X hs cs->QG X (h::hs) (c::cs)
theorem JY:QG X [] []:=.nil
theorem f6 {CT:Addr}{x:Str}{b₀:Stmt}{suite:List Stmt}{np hpos:Pos}{ts:TS}{hs:List ExceptHandler}{cs:List (Addr×TS)}(h:∀ pn a,zy ((X.Fo pn).hand a) (b₀::suite) ts)(hg:Gl X x)(hm:X.mg x=some (.ref CT))(r:QG X hs cs)(hd:(x==("__debug__":Str))=false:=by decide) :
  QG X (.ExceptHandler (some (.Name x np)) none (b₀::suite) hpos::hs) ((CT,ts)::cs):=.cons ⟨x,np,b₀,suite,hpos,rfl,hg,hm,hd,h⟩ r
theorem handles {pins:List (Addr×Obj)}{σ:St}{H:Hp}{G B:Heap}{s1:Shared}{a:Addr}{cls a0:Value}{l:List Env}{D:Ends}(I1:Inv X pins σ H { s1 with heap:=G })(cov:∀ b o,G.get? b=some o->b ∉ frs X.stack->B.get? b=some o)(hok:X.Ok) :
  ∀{hs:List ExceptHandler} {cs:List (Addr×TS)},QG X hs cs->∀ h5,Heap.FlyingW B l a cls a0 h5->G.UpToSlots h5->Nu X.K cls D σ H cs->wpAny (model X.prog X.w) X.A (handleBy (.ref a) X.env hs) (fun f s'=>SP X pins D f s') X.xe { s1 with heap:=h5 }:=by
 intro hs cs hh
 induction hh with
 |nil=>intro h5 _ _ p;exact p.elim
 | @cons h c hs cs h0 _ ih =>
  intro h5 SX U5 p;obtain⟨x,np,b₀,suite,hpos,rfl,hg,hm,hd,Z0⟩:=h0;have I5:Inv X pins σ H { s1 with heap:=h5 }:=I1.flown cov SX.1 U5;have Z1:=I5.hand a;refine wpAny_handleBy_cons (codeAny_handlers_test (n9 Z1 hg hm ?_ hd)) (by intro q;cases q);obtain⟨ob,hob,hobc⟩:=SX.there;rcases p with ⟨hx,q⟩|⟨hx,q⟩
  ·refine(exm_one (M:=model X.prog X.w) I5.pE (hobc ▸ (PySem.W.Looks.ld hob).andThen .now) hx).here ?_;refine codeAny_handlers_suite ?_;refine lands_againW SX fun h6 Z2 Z3=>?_;have U6:=U5.trans Z3;have I6:Inv X pins σ H { s1 with heap:=h6 }:=I1.flown cov Z2.1 U6;refine wpAny_mono ((Z0 (X.pn++pins) a) [] _ _ _ D (I6.Fo.hand a) q) (fun f s9 z=>?_) fun _ _ z=>z.elim;cases f with
   |next=>obtain⟨σ9,H9,J,w⟩:=z;exact⟨_,H9,(J.Eo (hok.Fo _)).pT hok,w⟩
   |brk=>obtain⟨σ9,H9,J,w⟩:=z;exact⟨_,H9,(J.Eo (hok.Fo _)).pT hok,w⟩
   |cont=>obtain⟨σ9,H9,J,w⟩:=z;exact⟨_,H9,(J.Eo (hok.Fo _)).pT hok,w⟩
   |ret u=>obtain⟨v,σ9,H9,J,r,w⟩:=z;exact⟨v,_,H9,(J.Eo (hok.Fo _)).pT hok,r,w⟩
  ·refine(exm_one (M:=model X.prog X.w) I5.pE (hobc ▸ (PySem.W.Looks.ld hob).andThen .now) hx).here ?_;exact ih h5 SX U5 q
def UA (K:Frag)(cs:List (Addr×TS))(tb:Na->TS):TS:=fun D σ H=>tb (fun σ' cls H'=>Nu K cls D σ' H' cs) D σ H
theorem JZ {body:List Stmt}{h₀:ExceptHandler}{hs:List ExceptHandler}{cs:List (Addr×TS)}{pos:Pos}{tb:Na->TS}
  (hb:∀ pn XS,zy ((X.Fo pn).wish (WX (X.Fo pn) XS)) body (tb XS)) (hh:QG X (h₀::hs) cs) (hst:X.stack=X.env::X.outer) (hfr:X.env.frame=some X.env.locals) :
  PS X (.Try body (h₀::hs) [] [] pos) (UA X.K cs tb):=by
 intro pins s σ H D I h;refine wpAny_Try_except (wpAny_mono (hb (X.pn++pins) _ [] s σ H D (I.Fo.wish _) h) (fun f s1 q=>?_) fun ev s1 z=>?_)
 ·have q':SP X pins D f s1:=q.iU.pT I.ok;cases f with
  |next=>exact wpAny_execs_nil q'
  |brk=>exact q'
  |cont=>exact q'
  |ret u=>exact q'
 ·obtain⟨Fv,σ',H',G,a,cls,rfl,I',⟨B,a0,cov,fl,up,hn⟩,q⟩:=z;have I1:Inv X pins σ' H' { s1 with heap:=G }:=I'.pT I.ok;have hF:X.A.frames=some (X.env::X.outer):=by rw[<-hst];exact I.ok.frames
  have fl:Heap.FlyingW B (X.env::X.outer) a cls a0 s1.heap:=by rw[<-hst];exact fl
  refine wpAny_looks_onW hF hfr fl fun h4 UB Z4=>?_;refine wpAny_landsW UB fun h5 SX Z5=>?_;exact handles I1 cov I.ok hh h5 SX ((up.trans Z4).trans Z5) q
end
end L2
set_option maxHeartbeats 1000000
namespace cC
open PySem L2
inductive Kd where
 |G|D|R|s|d|r|dot|three|two
 deriving DecidableEq
noncomputable def Kd.str:Kd->Str
 |.G=>"G" | .D=>"D" | .R=>"R" | .s=>"s" | .d=>"d" | .r=>"r" | .dot=>"." | .three=>"3" | .two=>"2"
noncomputable def Kd.cp:Kd->Nat
 |.G=>71|.D=>68|.R=>82|.s=>115|.d=>100|.r=>114|.dot=>46|.three=>51|.two=>50
noncomputable def Kd.great:Kd->Bool
 |.G=>true|.D=>true|.R=>true|_=>false
noncomputable def Kd.small:Kd->Bool
 |.s=>true|.d=>true|.r=>true|_=>false
noncomputable def Kd.parting:Kd->Bool
 |.dot=>true|.three=>true|.two=>true|_=>false
noncomputable def Kd.meas:Kd->Bool
 |.three=>true|.two=>true|_=>false
noncomputable def Kd.gI:Kd->Bool
 |.G=>true|.D=>true|.s=>true|.d=>true|_=>false
noncomputable def lp:Option Kd->Str
 |some k=>k.str
 |none=>""
noncomputable abbrev Sg:=Kd×Int
noncomputable def wu (x y:Str):Bool:=!(Builtin.Str.occurrences y x 0 y.length 1).isEmpty
theorem UC (k:Kd):k.str=⟨#[k.cp]⟩:=by cases k <;> decide +kernel
theorem str_inj {a b:Kd}:a.str=b.str ↔ a=b:=by
 constructor
 ·revert a b
  have:∀ a b:Kd,a.str=b.str->a=b:=by
   intro a b;cases a <;> cases b <;> first|(intro _;rfl)|(intro h;exact S' h (by lk))
  exact fun {a b}=>this a b
 ·exact fun h=>by rw[h]
theorem FZ {a b:Option Kd}:lp a=lp b ↔ a=b:=by
 constructor
 ·have:∀ a b:Option Kd,lp a=lp b->a=b:=by
   intro a b;cases a with
   |none=>cases b with
    |none=>intro _;rfl
    |some b=>cases b <;> (intro h;exact S' h (by lk))
   |some a=>cases b with
    |none=>cases a <;> (intro h;exact S' h (by lk))
    |some b=>intro h;exact Zj' some (str_inj.mp h)
  exact fun h=>this a b h
 ·exact fun h=>by rw[h]
theorem Pm (a b:Str):decide (V.str a=V.str b)=decide (a=b):=by
 by_cases h:a=b
 ·rw[h];simp
 ·rw[J' h];exact J' fun e=>h (V.str.inj e)
theorem Lp (a b:Kd):decide (V.str a.str=V.str b.str)=decide (a=b):=by
 rw[Pm];exact decide_eq_decide.mpr str_inj
theorem UD (a b:Option Kd):decide (V.str (lp a)=V.str (lp b))=decide (a=b):=by
 rw[Pm];exact decide_eq_decide.mpr FZ
theorem YE (o:Option Kd):decide (V.str (lp o)=V.str "G")=decide (o=some .G):=UD o (some .G)
theorem Xm (k:Kd):decide (V.str k.str=V.str "G")=decide (k=.G):=Lp k .G
theorem Z6 (k:Kd):decide (V.str k.str=V.str "D")=decide (k=.D):=Lp k .D
theorem Z7 (o:Option Kd):decide (V.str (lp o)=V.str "s")=decide (o=some .s):=UD o (some .s)
theorem Z8 (k:Kd):decide (V.str k.str=V.str "s")=decide (k=.s):=Lp k .s
theorem UE (k:Kd):decide (V.str k.str=V.str ".")=decide (k=.dot):=Lp k .dot
theorem Es (k:Kd):decide (V.str k.str=V.str "3")=decide (k=.three):=Lp k .three
theorem Nv (k:Kd):decide (V.str k.str=V.str "2")=decide (k=.two):=Lp k .two
def Et (H:Hp)(v:V)(s:Sg):Prop:=∃ p,v=.ref p/\H p=some (.tup [.str s.1.str,.int s.2])
theorem Et.same {H H':Hp}{v:V}{s:Sg}(e:ao H H')(h:Et H v s):Et H' v s:=by
 obtain⟨p,rfl,q⟩:=h;exact⟨p,rfl,e _ _ q⟩
abbrev ig (H:Hp):List V->List Sg->Prop:=Paired (Et H)
theorem ig.same {H H':Hp}(e:ao H H'):∀{xs:List V} {ss:List Sg},ig H xs ss->ig H' xs ss
 |_,_,.nil=>.nil
 |_,_,.cons a b=>.cons (a.same e) (ig.same e b)
theorem oo {α β:Type}{F:α->β->Prop}:∀{xs:List α} {ys:List β} {i:Nat} {x:α},Paired F xs ys->xs[i]? = some x->∃ y,ys[i]? = some y/\F x y
 |_,_,_,_,.nil,e=>by simp at e
 |_,_,0,_,.cons r _,e=>by simp at e;subst e;exact⟨_,rfl,r⟩
 |_,_,i+1,x,.cons _ t,e=>by
  obtain⟨u,h1,h2⟩:=oo (i:=i) (x:=x) t (by simpa using e);exact⟨u,by simpa using h1,h2⟩
theorem lq {α β:Type}{F:α->β->Prop}:∀{xs:List α} {ys:List β} {i:Nat} {y:β},Paired F xs ys->ys[i]? = some y->∃ x,xs[i]? = some x/\F x y
 |_,_,_,_,.nil,e=>by simp at e
 |_,_,0,_,.cons r _,e=>by simp at e;subst e;exact⟨_,rfl,r⟩
 |_,_,i+1,x,.cons _ t,e=>by
  obtain⟨u,h1,h2⟩:=lq (i:=i) t (by simpa using e);exact⟨u,by simpa using h1,h2⟩
theorem bM {α β:Type}{F:α->β->Prop}{xs:List α}{ys:List β}(h:Paired F xs ys):xs.length=ys.length:=Paired.length h
theorem gN {α β:Type}{F:α->β->Prop}:∀{xs:List α} {ys:List β} {x:α} {y:β},Paired F xs ys->F x y->Paired F (xs++[x]) (ys++[y])
 |_,_,_,_,.nil,h=>.cons h .nil
 |_,_,_,_,.cons a b,h=>.cons a (gN b h)
theorem qU {α β:Type}{F:α->β->Prop}:∀{xs:List α} {ys:List β} {xs':List α} {ys':List β},Paired F xs ys->Paired F xs' ys'->Paired F (xs++xs') (ys++ys')
 |_,_,_,_,.nil,h=>h
 |_,_,_,_,.cons a b,h=>.cons a (qU b h)
theorem rq {α β:Type}{F:α->β->Prop}:∀{xs:List α} {ys:List β} (n:Nat),Paired F xs ys->Paired F (xs.drop n) (ys.drop n)
 |_,_,0,h=>h
 |_,_,n+1,.nil=>.nil
 |_,_,n+1,.cons a b=>rq n b
theorem pW {α β:Type}{F:α->β->Prop}:∀{xs:List α} {ys:List β} (n:Nat),Paired F xs ys->Paired F (xs.take n) (ys.take n)
 |_,_,0,h=>.nil
 |_,_,n+1,.nil=>.nil
 |_,_,n+1,.cons a b=>.cons a (pW n b)
theorem bZ {α β:Type}{F G:α->β->Prop}(h:∀ x y,F x y->G x y):∀{xs:List α} {ys:List β},Paired F xs ys->Paired G xs ys
 |_,_,.nil=>.nil
 |_,_,.cons a b=>.cons (h _ _ a) (bZ h b)
theorem cZ {H0 H:Hp}{l:Addr}{o:HO}(s:ao H0 H)(hl:H0 l=none):ao H0 (upd H l o):=fun b u e=>by
 rw[ak (au e hl)];exact s b u e
theorem Nw {H:Hp}{D:Addr}{o:HO}{zs:List V}{v:V}{s:Sg}(hD:H D=some (.lst zs))(h:Et H v s):Et (upd H D o) v s:=by
 obtain⟨p,e,q⟩:=h;exact⟨p,e,by rw[ak (fX q hD (by intro z;cases z))];exact q⟩
theorem Nx {H:Hp}{D:Addr}{o:HO}{zs:List V}{xs:List V}{ss:List Sg}(hD:H D=some (.lst zs))(h:ig H xs ss):ig (upd H D o) xs ss:=bZ (fun _ _ q=>Nw hD q) h
theorem Eu {ms:List Int}{i:Nat}{x:V}(h:(ms.map V.int)[i]? = some x):∃ z,ms[i]? = some z/\x=V.int z:=by
 rw[Zd']at h;cases e:ms[i]? with
 |none=>rw[e]at h;cases h
 |some z=>rw[e]at h;exact⟨z,rfl,(Z' h).symm⟩
section
variable {K:Frag} {H:Hp} {p:Addr} {Q:VK}
theorem SY {a b:V}(h:H p=some (.tup [a,b]))(q:Q a H):Eg K (.ref p) (.int 0) H Q\/Eh K (.ref p) (.int 0) H Q\/Ei (.ref p) (.int 0) H Q:=.inr (.inl ⟨p,_,0,a,rfl,rfl,jf.of h,rfl,q⟩)
theorem YF {a b:V}(h:H p=some (.tup [a,b]))(q:Q b H):Eg K (.ref p) (.int 1) H Q\/Eh K (.ref p) (.int 1) H Q\/Ei (.ref p) (.int 1) H Q:=.inr (.inl ⟨p,_,1,b,rfl,rfl,jf.of h,rfl,q⟩)
theorem tS {xs:List V}{i:Int}{n:Nat}{v:V}(h:aM K H p xs)(hn:i=n)(e:xs[n]? = some v)(q:Q v H):Eg K (.ref p) (.int i) H Q\/Eh K (.ref p) (.int i) H Q\/Ei (.ref p) (.int i) H Q:=.inl ⟨p,xs,i,v,rfl,rfl,h,by rw[hn];exact qM e,q⟩
theorem za {xs:List V}{ss:List Sg}{i:Int}{n:Nat}{s:Sg}(h:aM K H p xs)(g:ig H xs ss)(hn:i=n)(e:ss[n]? = some s)(q:∀ b,H b=some (.tup [.str s.1.str,.int s.2])->Q (.ref b) H) :
  Eg K (.ref p) (.int i) H Q\/Eh K (.ref p) (.int i) H Q\/Ei (.ref p) (.int i) H Q:=by
 obtain⟨x,hx,b,rfl,hb⟩:=lq g e;exact tS h hn hx (q b hb)
theorem Ny {ns:List Int}{i:Int}{n:Nat}{z:Int}(h:aM K H p (ns.map V.int))(hn:i=n)(e:ns[n]? = some z)(q:Q (.int z) H):Eg K (.ref p) (.int i) H Q\/Eh K (.ref p) (.int i) H Q\/Ei (.ref p) (.int i) H Q :=
 tS h hn (by rw[Zd',e];rfl) q
end
noncomputable def nm (m:Int):Kd->Int
 |.three=>3
 |.two=>2
 |_=>m
def Ms (m:Int):Prop:=m=3\/m=2
theorem Ms.nm {m:Int}(h:Ms m)(k:Kd):Ms (nm m k):=by
 cases k <;> first|exact h|exact .inl rfl|exact .inr rfl
noncomputable def fN (m:Int):List Kd->List Int
 |[]=>[]
 |k::t=>nm m k::fN (nm m k) t
theorem wx (m:Int)(ks:List Kd):(fN m ks).length=ks.length:=by
 induction ks generalizing m with
 |nil=>rfl
 |cons k t ih=>simp[fN,ih]
noncomputable def pw:Kd->Int->Int
 |.G,m=>if m=2 then 2 else 3
 |.R,m=>if m=2 then 2 else 3
 |.D,_=>2
 |.s,_=>1
 |.d,_=>1
 |.r,_=>1
 |_,_=>0
noncomputable def bw (m:Int)(k:Kd)(n:Option Kd):Int:=if m=2/\k=.G/\n=some .dot then 3 else pw k m
noncomputable def gb (m:Int):List Kd->List Int
 |[]=>[]
 |k::t=>bw (nm m k) k t.head? :: gb (nm m k) t
noncomputable def su:List Kd->List Int->List Int
 |k::t,m::ms=>bw m k t.head? :: su t ms
 |_,_=>[]
theorem F8 (m:Int)(ks:List Kd):su ks (fN m ks)=gb m ks:=by
 induction ks generalizing m with
 |nil=>rfl
 |cons k t ih=>simp[fN,su,gb,ih]
theorem mZ (m:Int)(ks:List Kd):(gb m ks).length=ks.length:=by
 induction ks generalizing m with
 |nil=>rfl
 |cons k t ih=>simp[gb,ih]
noncomputable def inR (m:Int)(k:Kd):Bool:=decide (m≠2)&&k.small
noncomputable def gO (m:Int):List Kd->List Bool
 |[]=>[]
 |k::t=>inR (nm m k) k::gO (nm m k) t
theorem kc (m:Int)(ks:List Kd):(gO m ks).length=ks.length:=by
 induction ks generalizing m with
 |nil=>rfl
 |cons k t ih=>simp[gO,ih]
noncomputable def Ga:List Kd->List Int->List Bool
 |k::t,m::ms=>inR m k::Ga t ms
 |_,_=>[]
theorem Iw (m:Int)(ks:List Kd):Ga ks (fN m ks)=gO m ks:=by
 induction ks generalizing m with
 |nil=>rfl
 |cons k t ih=>simp[fN,Ga,gO,ih]
noncomputable def dU (at' first:Nat):List Bool->List (Nat×Nat)
 |[]=>if first<at' then [(first,at')] else []
 |true::t=>dU (at'+1) first t
 |false::t=>(if first<at' then [(first,at')] else [])++dU (at'+1) (at'+1) t
noncomputable def oM (m:Int)(ks:List Kd):List (Nat×Nat):=dU 0 0 (gO m ks)
noncomputable def Ew (ks:List Kd)(i:Int):Option Kd:=if 0<=i then ks[i.toNat]? else none
theorem lr (ks:List Kd)(n:Nat):Ew ks (n:Int)=ks[n]?:=by
 unfold Ew;rw[X' (by omega)];rfl
noncomputable def mF:Option Kd->Bool
 |some k=>k.great
 |none=>false
noncomputable def gP (ks:List Kd)(f:List Int)(a:Nat):Bool:=decide (Ew ks ((a:Int)-1)=some .G)&&decide (f.getD (a-1) 0=3)
noncomputable def fb (ks:List Kd)(z:Nat):Bool:=decide (ks[z]? = some .G) && !mF ks[z+1]?
noncomputable def tT (ks:List Kd)(f:List Int)(a z:Nat):Bool×List Int:=if gP ks f a then(true,f.set (a-1) 2) else if fb ks z then(true,f.set z 2) else(false,f)
noncomputable def tU (ks:List Kd)(f:List Int)(a z:Nat):Bool×List Int:=if mF ks[z]? && decide (ks[z-1]? = some .s) then(true,f.set (z-1) 2) else if gP ks f a&&fb ks z then(true,(f.set (a-1) 2).set z 2) else(false,f)
noncomputable def settle (ks:List Kd)(f:List Int)(a z:Nat):Bool×List Int:=if(z-a) % 3=1 then tT ks f a z else if(z-a) % 3=2 then tU ks f a z else(true,f)
theorem sv (ks:List Kd)(f:List Int)(a z:Nat):(settle ks f a z).2.length=f.length:=by
 unfold settle tT tU
 repeat' split
 all_goals simp
noncomputable abbrev QH:=List Int×List (Nat×Nat)
noncomputable def mG (ks:List Kd)(c:QH)(p:Nat×Nat):QH:=((settle ks c.1 p.1 p.2).2,if(settle ks c.1 p.1 p.2).1 then c.2 else c.2++[p])
noncomputable def hZ (m:Int)(ks:List Kd):QH:=(oM m ks).foldl (mG ks) (gb m ks,[])
theorem Nz (ks:List Kd)(rs:List (Nat×Nat))(c:QH):(rs.foldl (mG ks) c).1.length=c.1.length:=by
 induction rs generalizing c with
 |nil=>rfl
 |cons p t ih=>rw[List.foldl_cons,ih];exact sv ..
theorem qO (m:Int)(ks:List Kd):(hZ m ks).1.length=ks.length:=by
 unfold hZ;rw[Nz,mZ]
theorem z0:∀(bs:List Bool)(at' first:Nat),first<=at'->∀ p∈dU at' first bs,first<=p.1/\p.1<p.2/\p.2<=at'+bs.length
 |[],at',first,h,p,hp=>by
  unfold dU at hp;split at hp
  ·have:p=(first,at'):=by simpa using hp
   subst this;exact⟨R' _,by assumption,by simp⟩
  ·cases hp
 |true::t,at',first,h,p,hp=>by
  have:=z0 t (at'+1) first (by omega) p hp
  simp only [Ya'];omega
 |false::t,at',first,h,p,hp=>by
  unfold dU at hp;simp only [Ya'];rcases Zp'.mp hp with hp|hp
  ·split at hp
   ·have:p=(first,at'):=by simpa using hp
    subst this;exact⟨R' _,by assumption,by simp⟩
   ·cases hp
  ·have:=z0 t (at'+1) (at'+1) (R' _) p hp;omega
theorem NA (m:Int)(ks:List Kd):∀ p∈oM m ks,p.1<p.2/\p.2<=ks.length:=by
 intro p hp;have:=z0 (gO m ks) 0 0 (R' _) p hp;rw[kc]at this;omega
theorem jr:∀(bs:List Bool)(at' first:Nat),(dU at' first bs).length<=bs.length+1
 |[],at',first=>by unfold dU;split <;> simp
 |true::t,at',first=>by
  unfold dU;have:=jr t (at'+1) first
  simp only [Ya'];omega
 |false::t,at',first=>by
  unfold dU;have:=jr t (at'+1) (at'+1);simp only [Ya',V'];split <;> simp <;> omega
def Lq (H:Hp)(v:V)(q:Nat×Nat):Prop:=∃ p,v=.ref p/\H p=some (.tup [.int (q.1:Int),.int (q.2:Int)])
abbrev Iy (H:Hp):List V->List (Nat×Nat)->Prop:=Paired (Lq H)
theorem Lq.same {H H':Hp}{v:V}{q:Nat×Nat}(e:ao H H')(h:Lq H v q):Lq H' v q:=by
 obtain⟨p,rfl,z⟩:=h;exact⟨p,rfl,e _ _ z⟩
theorem lu {H H':Hp}(e:ao H H'){xs:List V}{qs:List (Nat×Nat)}(h:Iy H xs qs):Iy H' xs qs:=bZ (fun _ _ z=>z.same e) h
theorem Gb {H:Hp}{D:Addr}{o:HO}{zs:List V}{v:V}{q:Nat×Nat}(hD:H D=some (.lst zs))(h:Lq H v q):Lq (upd H D o) v q:=by
 obtain⟨p,e,z⟩:=h;exact⟨p,e,by rw[ak (fX z hD (by intro z;cases z))];exact z⟩
theorem ke {H:Hp}{D:Addr}{o:HO}{zs:List V}{xs:List V}{qs:List (Nat×Nat)}(hD:H D=some (.lst zs))(h:Iy H xs qs):Iy (upd H D o) xs qs:=bZ (fun _ _ q=>Gb hD q) h
theorem tV {H:Hp}{a:Addr}{o:HO}(h:H a=some o):upd H a o=H:=by
 funext b
 unfold upd;split
 ·rename_i e;rw[e,h]
 ·rfl
theorem wz {ks:List Kd}{f:List Int}{a:Nat}(h:gP ks f a=true):1<=a/\a-1<ks.length:=by
 unfold gP at h;have h1:=G' (Bool.and_eq_true_iff.mp h).1;unfold Ew at h1;split at h1
 ·have:=(K'.mp h1).1;omega
 ·cases h1
theorem sx {ks:List Kd}{z:Nat}(h:fb ks z=true):z<ks.length:=by
 unfold fb at h;have h1:=G' (Bool.and_eq_true_iff.mp h).1;exact(K'.mp h1).1
theorem lx {n:Nat}{i:Int}{j:Nat}(e:i=j)(h:j<n):La n i=some j:=by
 unfold La;subst e;rw[X' (by omega),X' (by omega)];rfl
theorem jX {α:Type}{l:List α}{i:Nat}{x:α}(h:l[i]? = some x):l.drop i=x::l.drop (i+1):=by
 obtain⟨hi,e⟩:=K'.mp h;rw[List.drop_eq_getElem_cons hi,e]
theorem pX {α β:Type}{l:List α}{f:α->β}{i:Nat}{x:α}(h:l[i]? = some x):(l.map f)[i]? = some (f x):=by rw[Zd',h];rfl
noncomputable abbrev bj (ss:List Sg):List Kd:=ss.map Prod.fst
theorem jg {fs:List Int}{j:Nat}{v:Int}:(fs.map V.int).set j (V.int v)=(fs.set j v).map V.int:=by rw[List.map_set]
theorem big {n:Nat}(h:n<=1000):n<=sizeLine:=Nat.le_of_lt (aL h)
theorem head_drop {α:Type}(l:List α)(i:Nat):(l.drop i).head? = l[i]?:=by
 rw[List.head?_drop]
noncomputable def g8 (m:Int):List Kd->List Bool
 |[]=>[]
 |k::t=>decide (nm m k=3)::g8 (nm m k) t
theorem Iz (m:Int)(ks:List Kd):(g8 m ks).length=ks.length:=by
 induction ks generalizing m with
 |nil=>rfl
 |cons k t ih=>simp[g8,ih]
noncomputable def lead:List Bool->Nat
 |true::t=>lead t+1
 |_=>0
theorem J0:∀ bs:List Bool,lead bs<=bs.length
 |[]=>R' _
 |true::t=>by simp only [lead,Ya'];have:=J0 t;omega
 |false::t=>Zq' _
theorem z9:∀(bs:List Bool)(at' first:Nat),first<at'+lead bs\/lead bs=0->first<=at'->dU at' first bs=(if first<at'+lead bs then [(first,at'+lead bs)] else [])++dU (at'+lead bs) (at'+lead bs) (bs.drop (lead bs))
 |[],at',first,_,h=>by
  show(if first<at' then [(first,at')] else [])=(if first<at' then [(first,at')] else [])++dU at' at' [];rw[show dU at' at' []=[] by unfold dU;rw[T' (Nat.lt_irrefl _)],append_nil]
 |true::t,at',first,h0,h=>by
  have ih:=z9 t (at'+1) first (.inl (by omega)) (by omega)
  have e:at'+1+lead t=at'+(lead t+1):=by omega
  rw[e]at ih;simp only [dU,lead,List.drop_succ_cons];exact ih
 |false::t,at',first,_,h=>by
  show(if first<at' then [(first,at')] else [])++dU (at'+1) (at'+1) t=(if first<at' then [(first,at')] else [])++((if at'<at' then [(at',at')] else [])++dU (at'+1) (at'+1) t);rw[T' (Nat.lt_irrefl at'),nil_append]
theorem J1 {m:Int}(h:Ms m):∀(ks:List Kd)(i:Nat)(k:Kd),ks[i]? = some k->∃ b,(g8 m ks)[i]? = some b/\(gO m ks)[i]? = some (k.small&&b)
 |[],i,k,e=>by simp at e
 |c::t,0,k,e=>by
  have:c=k:=by simpa using e
  subst this;refine⟨decide (nm m c=3),rfl,?_⟩;simp only [gO,List.getElem?_cons_zero,inR];have hm:=h.nm c;rcases hm with e|e <;> rw[e] <;> cases c <;> rfl
 |c::t,i+1,k,e=>by
  obtain⟨b,h1,h2⟩:=J1 (h.nm c) t i k (by simpa using e);exact⟨b,by simpa [g8] using h1,by simpa [gO] using h2⟩
theorem J2:∀(bs:List Bool)(j:Nat),j<=lead bs->(j<lead bs ↔ bs[j]? = some true)
 |[],j,h=>by simp[lead]
 |true::t,0,h=>by simp[lead]
 |true::t,j+1,h=>by
  have:=J2 t j (by simp only [lead]at h;omega);simp only [lead,List.getElem?_cons_succ];rw[<-this];omega
 |false::t,j,h=>by
  have:j=0:=by simp only [lead]at h;omega
  subst this;simp[lead]
theorem RT {m:Int}{ks:List Kd}{low j:Nat}:((gO m ks).drop low)[j]? = (gO m ks)[low+j]?:=by rw[getElem?_drop]
theorem CI (xs:List V)(n:Nat):j7 xs none (some (n:Int))=xs.take n:=by
 unfold j7;have e:HT.ip xs.length xs.length (some (n:Int))=min n xs.length:=HT.Ee xs.length xs.length n;rw[HT.tM,e,Nat.sub_zero,List.drop_zero];rcases Nat.le_total n xs.length with h|h
 ·rw[Nat.min_eq_left h]
 ·rw[Nat.min_eq_right h,take_length,List.take_of_length_le h]
theorem zC (xs:List V)(n:Nat)(h:n<=xs.length):j7 xs (some (n:Int)) none=xs.drop n:=by
 unfold j7;have e:HT.ip xs.length 0 (some (n:Int))=min n xs.length:=HT.Ee xs.length 0 n;rw[HT.tM,e,Nat.min_eq_left h];exact List.take_of_length_le (by rw[Yd'];omega)
theorem UG {K:Frag}{H:Hp}{p p2:Addr}{s:Sg}(n:Nat)(h1:H p=some (.tup [.str s.1.str,.int s.2]))(h2:H p2=some (.tup [.str s.1.str,.int s.2])):Ml K H (n+1) (.ref p) (.ref p2):=by
 refine .tup (jf.of h1) (jf.of h2) rfl fun i x y e1 e2=>?_;have e:x=y:=Z' (e1.symm.trans e2);subst e
 match i,e1 with
 |0,e1=>cases e1;exact .flat rfl
 |1,e1=>cases e1;exact .flat rfl
 |n+2,e1=>simp at e1
def Aa (K:Frag):Sp:=fun vs H Q _=>∃(a:Addr)(ns:List Int),vs=[.ref a]/\aM K H a (ns.map V.int)/\ns.length<=63/\∀ H',Q (.bl true) H'
theorem Lr {K:Frag}{H:Hp}{a:Addr}{ns:List Int}(hl:ns.length<=63)(_:Only H)(hS:aM K H a (ns.map V.int)):Aa K [.ref a] H (fun v _=>v=.bl true) fun _ _ _=>False :=
 ⟨a,ns,rfl,hS,hl,fun _=>rfl⟩
theorem mH {k:Str}{v:V}{r:List (Str×V)}:((k,v)::r).lookup k=some v:=by simp[List.lookup]
theorem aG {k g:Str}{v:V}{r:List (Str×V)}(h:¬ g=k):((k,v)::r).lookup g=r.lookup g:=by
 have:(g==k)=false:=beq_eq_false_iff_ne.mpr h;simp[List.lookup,this]
theorem gT {k g:Str}{x y:V}{r:List (Str×V)}(h:¬ g=k):iK k y ((g,x)::r)=(g,x)::iK k y r:=T' h
noncomputable def QI (n:Str)(tm:V)(L:Addr):List (Str×V):=[("name",V.str n),("terms",tm),("signs",V.ref L)]
theorem Gd (n:Str)(tm:V)(L:Addr):(QI n tm L).lookup ("name":Str)=some (V.str n):=mH
theorem qP (n:Str)(tm:V)(L:Addr):(QI n tm L).lookup ("terms":Str)=some (tm):=(aG (by lk)).trans (mH)
theorem m6 (n:Str)(tm:V)(L:Addr):(QI n tm L).lookup ("signs":Str)=some (V.ref L):=(aG (by lk)).trans ((aG (by lk)).trans (mH))
theorem Ex (v0:V):iK "name" v0 ([]:List (Str×V))=([("name",v0)]:List (Str×V)):=rfl
theorem J3 (v0 v1:V):iK "terms" v1 ([("name",v0)]:List (Str×V))=([("name",v0),("terms",v1)]:List (Str×V)):=(gT (by lk)).trans (Zj' _ (rfl))
theorem Pn (v0 v1 v2:V):iK "signs" v2 ([("name",v0),("terms",v1)]:List (Str×V))=([("name",v0),("terms",v1),("signs",v2)]:List (Str×V)):=(gT (by lk)).trans (Zj' _ ((gT (by lk)).trans (Zj' _ (rfl))))
noncomputable def xy (T:Addr)(at_:Int)(B A:Addr):List (Str×V):=[("things",V.ref T),("at",V.int at_),("before",V.ref B),("after",V.ref A)]
theorem Ab (T:Addr)(at_:Int)(B A:Addr):(xy T at_ B A).lookup ("things":Str)=some (V.ref T):=mH
theorem Ey (T:Addr)(at_:Int)(B A:Addr):(xy T at_ B A).lookup ("at":Str)=some (V.int at_):=(aG (by lk)).trans (mH)
theorem Ac (T:Addr)(at_:Int)(B A:Addr):(xy T at_ B A).lookup ("before":Str)=some (V.ref B):=(aG (by lk)).trans ((aG (by lk)).trans (mH))
theorem CJ (T:Addr)(at_:Int)(B A:Addr):(xy T at_ B A).lookup ("after":Str)=some (V.ref A):=(aG (by lk)).trans ((aG (by lk)).trans ((aG (by lk)).trans (mH)))
theorem CK (T:Addr)(at_:Int)(B A:Addr):(xy T at_ B A).lookup ("do":Str)=none:=(aG (by lk)).trans ((aG (by lk)).trans ((aG (by lk)).trans ((aG (by lk)).trans (rfl))))
theorem Ge (T:Addr)(at_:Int)(B A:Addr):(xy T at_ B A).lookup ("undo":Str)=none:=(aG (by lk)).trans ((aG (by lk)).trans ((aG (by lk)).trans ((aG (by lk)).trans (rfl))))
theorem zD (v0:V):iK "things" v0 ([]:List (Str×V))=([("things",v0)]:List (Str×V)):=rfl
theorem Ez (v0 v1:V):iK "at" v1 ([("things",v0)]:List (Str×V))=([("things",v0),("at",v1)]:List (Str×V)):=(gT (by lk)).trans (Zj' _ (rfl))
theorem J4 (v0 v1 v2:V):iK "before" v2 ([("things",v0),("at",v1)]:List (Str×V))=([("things",v0),("at",v1),("before",v2)]:List (Str×V)):=(gT (by lk)).trans (Zj' _ ((gT (by lk)).trans (Zj' _ (rfl))))
theorem Po (v0 v1 v2 v3:V):iK "after" v3 ([("things",v0),("at",v1),("before",v2)]:List (Str×V))=([("things",v0),("at",v1),("before",v2),("after",v3)]:List (Str×V)):=(gT (by lk)).trans (Zj' _ ((gT (by lk)).trans (Zj' _ ((gT (by lk)).trans (Zj' _ (rfl))))))
noncomputable def pY (V_ D U:Addr):List (Str×V):=[("voices",V.ref V_),("done",V.ref D),("undone",V.ref U)]
theorem g9 (V_ D U:Addr):(pY V_ D U).lookup ("voices":Str)=some (V.ref V_):=mH
theorem pZ (V_ D U:Addr):(pY V_ D U).lookup ("done":Str)=some (V.ref D):=(aG (by lk)).trans (mH)
theorem kf (V_ D U:Addr):(pY V_ D U).lookup ("undone":Str)=some (V.ref U):=(aG (by lk)).trans ((aG (by lk)).trans (mH))
theorem m7 (V_ D U:Addr):(pY V_ D U).lookup ("add_voice":Str)=none:=(aG (by lk)).trans ((aG (by lk)).trans ((aG (by lk)).trans (rfl)))
theorem iY (V_ D U:Addr):(pY V_ D U).lookup ("add_canon":Str)=none:=(aG (by lk)).trans ((aG (by lk)).trans ((aG (by lk)).trans (rfl)))
theorem Gf (V_ D U:Addr):(pY V_ D U).lookup ("drop":Str)=none:=(aG (by lk)).trans ((aG (by lk)).trans ((aG (by lk)).trans (rfl)))
theorem Ad (V_ D U:Addr):(pY V_ D U).lookup ("put":Str)=none:=(aG (by lk)).trans ((aG (by lk)).trans ((aG (by lk)).trans (rfl)))
theorem IA (V_ D U:Addr):(pY V_ D U).lookup ("cut":Str)=none:=(aG (by lk)).trans ((aG (by lk)).trans ((aG (by lk)).trans (rfl)))
theorem Gg (V_ D U:Addr):(pY V_ D U).lookup ("swap":Str)=none:=(aG (by lk)).trans ((aG (by lk)).trans ((aG (by lk)).trans (rfl)))
theorem xA (V_ D U:Addr):(pY V_ D U).lookup ("undo":Str)=none:=(aG (by lk)).trans ((aG (by lk)).trans ((aG (by lk)).trans (rfl)))
theorem Gh (V_ D U:Addr):(pY V_ D U).lookup ("redo":Str)=none:=(aG (by lk)).trans ((aG (by lk)).trans ((aG (by lk)).trans (rfl)))
theorem ir (V_ D U:Addr):(pY V_ D U).lookup ("names":Str)=none:=(aG (by lk)).trans ((aG (by lk)).trans ((aG (by lk)).trans (rfl)))
theorem h8 (V_ D U:Addr):(pY V_ D U).lookup ("line":Str)=none:=(aG (by lk)).trans ((aG (by lk)).trans ((aG (by lk)).trans (rfl)))
theorem xB (V_ D U:Addr):(pY V_ D U).lookup ("kept":Str)=none:=(aG (by lk)).trans ((aG (by lk)).trans ((aG (by lk)).trans (rfl)))
theorem iu (V_ D U:Addr):(pY V_ D U).lookup ("canon":Str)=none:=(aG (by lk)).trans ((aG (by lk)).trans ((aG (by lk)).trans (rfl)))
theorem qV (V_ D U:Addr):(pY V_ D U).lookup ("forget_deeds":Str)=none:=(aG (by lk)).trans ((aG (by lk)).trans ((aG (by lk)).trans (rfl)))
theorem gh (V_ D U:Addr):(pY V_ D U).lookup ("perform":Str)=none:=(aG (by lk)).trans ((aG (by lk)).trans ((aG (by lk)).trans (rfl)))
theorem rA (V_ D U:Addr):(pY V_ D U).lookup ("put_in":Str)=none:=(aG (by lk)).trans ((aG (by lk)).trans ((aG (by lk)).trans (rfl)))
theorem ly (V_ D U:Addr):(pY V_ D U).lookup ("refuse_new":Str)=none:=(aG (by lk)).trans ((aG (by lk)).trans ((aG (by lk)).trans (rfl)))
theorem dt (V_ D U:Addr):(pY V_ D U).lookup ("voice_called":Str)=none:=(aG (by lk)).trans ((aG (by lk)).trans ((aG (by lk)).trans (rfl)))
theorem fc (V_ D U:Addr):(pY V_ D U).lookup ("plain_voice":Str)=none:=(aG (by lk)).trans ((aG (by lk)).trans ((aG (by lk)).trans (rfl)))
theorem EA (v0:V):iK "voices" v0 ([]:List (Str×V))=([("voices",v0)]:List (Str×V)):=rfl
theorem J5 (v0 v1:V):iK "done" v1 ([("voices",v0)]:List (Str×V))=([("voices",v0),("done",v1)]:List (Str×V)):=(gT (by lk)).trans (Zj' _ (rfl))
theorem Pp (v0 v1 v2:V):iK "undone" v2 ([("voices",v0),("done",v1)]:List (Str×V))=([("voices",v0),("done",v1),("undone",v2)]:List (Str×V)):=(gT (by lk)).trans (Zj' _ ((gT (by lk)).trans (Zj' _ (rfl))))
theorem cQ {a b:TS}{D:Ends}{σ:St}{H:Hp}(h:∀ N:St->Hp->Prop,(∀ σ H,b D σ H->N σ H)->a { D with nx:=N } σ H):OX a b D σ H:=h (b D) fun _ _ z=>z
structure Vx where
 o:Addr
 d:Addr
 n:Str
 tm:V
 l:Addr
def Pq (C:Addr)(H:Hp)(v:V)(a:Vx):Prop:=v=.ref a.o/\H a.o=some (.ins C a.d (QI a.n a.tm a.l))
structure Dd where
 o:Addr
 d:Addr
 T:Addr
 i:Nat
 B:Addr
 A:Addr
 bs:List V
 as:List V
def js (C:Addr)(H:Hp)(v:V)(e:Dd):Prop:=v=.ref e.o/\H e.o=some (.ins C e.d (xy e.T (e.i:Int) e.B e.A))/\H e.B=some (.lst e.bs)/\H e.A=some (.lst e.as)
noncomputable abbrev MM:=Addr->List V
noncomputable def putAt (S:MM)(T:Addr)(zs:List V):MM:=fun b=>if b=T then zs else S b
theorem eh {S:MM}{T:Addr}{zs:List V}:putAt S T zs T=zs:=X' rfl
theorem jt {S:MM}{T b:Addr}{zs:List V}(h:b≠T):putAt S T zs b=S b:=T' h
noncomputable def n5 (e:Dd)(S:MM):MM:=putAt S e.T ((S e.T).take e.i++e.as++(S e.T).drop (e.i+e.bs.length))
noncomputable def Xo (e:Dd)(S:MM):MM:=putAt S e.T ((S e.T).take e.i++e.bs++(S e.T).drop (e.i+e.as.length))
def Fits (e:Dd)(S:MM):Prop:=e.i+e.bs.length<=(S e.T).length/\((S e.T).drop e.i).take e.bs.length=e.bs
theorem UH {α:Type}{xs bs as:List α}{i:Nat}(h:i+bs.length<=xs.length):(xs.take i++as++xs.drop (i+bs.length)).take i=xs.take i/\(xs.take i++as++xs.drop (i+bs.length)).drop (i+as.length)=xs.drop (i+bs.length):=by
 have h1:(xs.take i).length=i:=by rw[Zo'];omega
 constructor
 ·rw[List.append_assoc];exact List.take_left' h1
 ·exact List.drop_left' (by rw[V',h1])
theorem UI {e:Dd}{S:MM}(h:Fits e S):Xo e (n5 e S)=S:=by
 funext b
 unfold Xo
 by_cases hb:b=e.T
 ·subst hb;rw[eh];unfold n5;rw[eh,(UH h.1).1,(UH h.1).2];have h2:e.bs++(S e.T).drop (e.i+e.bs.length)=(S e.T).drop e.i:=by
   rw[<-List.drop_drop];have:=take_append_drop e.bs.length ((S e.T).drop e.i);rw[h.2]at this;exact this
  rw[List.append_assoc,h2,take_append_drop]
 ·rw[jt hb];unfold n5;rw[jt hb]
theorem Pr {e:Dd}{S:MM}(h:Fits e S):e.i+e.as.length<=(n5 e S e.T).length:=by
 unfold n5;rw[eh,V',V',Zo'];have:=h.1;omega
inductive Path:List MM->List Dd->MM->Prop
 |nil {M:MM}:Path [] [] M
 |snoc {Ps:List MM} {es:List Dd} {S:MM} {e:Dd}:Path Ps es S->Fits e S->Path (Ps++[S]) (es++[e]) (n5 e S)
inductive NB:MM->List Dd->List MM->Prop
 |nil {M:MM}:NB M [] []
 |snoc {M:MM} {us:List Dd} {Fs:List MM} {e:Dd}:Fits e M->NB (n5 e M) us Fs->NB M (us++[e]) (Fs++[n5 e M])
theorem p3 {α:Type}{a b:List α}{x y:α}(h:a++[x]=b++[y]):a=b/\x=y:=by
 have:=List.append_inj' h rfl;exact⟨this.1,by simpa using this.2⟩
theorem Path.last {Ps:List MM}{es:List Dd}{e:Dd}{M:MM}(h:Path Ps (es++[e]) M):∃ Ta S,Ps=Ta++[S]/\Path Ta es S/\Fits e S/\M=n5 e S:=by
 generalize he:es++[e]=es' at h;cases h with
 |nil=>simp at he
 |snoc p f =>
  obtain⟨rfl,rfl⟩:=p3 he;exact⟨_,_,rfl,p,f,rfl⟩
theorem NB.last {us:List Dd}{e:Dd}{M:MM}{Fs:List MM}(h:NB M (us++[e]) Fs):∃ Fs',Fs=Fs'++[n5 e M]/\Fits e M/\NB (n5 e M) us Fs':=by
 generalize he:us++[e]=us' at h;cases h with
 |nil=>simp at he
 |snoc f p =>
  obtain⟨rfl,rfl⟩:=p3 he;exact⟨_,rfl,f,p⟩
theorem Path.len {Ps:List MM}{es:List Dd}{M:MM}(h:Path Ps es M):Ps.length=es.length:=by
 induction h with
 |nil=>rfl
 |snoc _ _ ih=>rw[V',V',ih];rfl
theorem NB.len {us:List Dd}{M:MM}{Fs:List MM}(h:NB M us Fs):Fs.length=us.length:=by
 induction h with
 |nil=>rfl
 |snoc _ _ ih=>rw[V',V',ih];rfl
def jM (s:Sg):Prop:=(s.1.gI=true->0<=s.2/\s.2<100)/\(s.1.gI=false->s.2=0)
def GV (H:Hp)(v:V):Prop:=∃ s,Et H v s/\jM s
structure WF (H:Hp)(L:Addr)(all:List Vx)(S:MM):Prop where
 vs:∃ vx:List Vx,Paired (fun v a=>v=V.ref a.o/\a∈all) (S L) vx
 ln:∀ a∈all,(S a.l).length<=200/\∀ v∈S a.l,GV H v
 len:(S L).length<=12
 out:∀ b,b≠L->(∀ a∈all,b≠a.l)->S b=[]
inductive Th where
 |pl (ss:List Sg)
 |cn (ld:Str) (lt sl:Int) (tn:Bool)
noncomputable abbrev Vw:=List (Str×Th)
def NC (H:Hp)(S:MM)(a:Vx):Th->Prop
 |.pl ss=>a.tm=.non/\ig H (S a.l) ss
 |.cn ld lt sl tn=>∃ p,a.tm=.ref p/\H p=some (.tup [.str ld,.int lt,.int sl,.bl tn])
def IB (H:Hp)(all:List Vx)(S:MM)(v:V)(q:Str×Th):Prop:=∃ a∈all,v=.ref a.o/\a.n=q.1/\NC H S a q.2
abbrev Is (H:Hp)(L:Addr)(all:List Vx)(S:MM)(vw:Vw):Prop:=Paired (IB H all S) (S L) vw
structure mQ (vw:Vw):Prop where
 nd:(vw.map (·.1)).Nodup
 ld:∀ n ld lt sl tn,(n,Th.cn ld lt sl tn)∈vw->(∃ ss,(ld,Th.pl ss)∈vw)/\0<=lt/\lt<=999/\1<=sl/\sl<=9
 gd:∀ n ss,(n,Th.pl ss)∈vw->ss.length<=200/\∀ s∈ss,jM s
 len:vw.length<=12
structure BQ (CB CV CD:Addr)(H:Hp)(x L D U:Addr)(all:List Vx)(M:MM)(Ps Fs:List MM)(es us:List Dd):Prop where
 hx:∃ dx,H x=some (.ins CB dx (pY L D U))
 hL:H L=some (.lst (M L))
 hD:∃ xs,H D=some (.lst xs)/\Paired (js CD H) xs es
 hU:∃ xs,H U=some (.lst xs)/\Paired (js CD H) xs us
 ha:∀ a∈all,H a.o=some (.ins CV a.d (QI a.n a.tm a.l))/\H a.l=some (.lst (M a.l))
 LD:L≠D
 LU:L≠U
 DU:D≠U
 nl:∀ a∈all,a.l≠L/\a.l≠D/\a.l≠U
 ni:∀ a∈all,∀ b∈all,a.l=b.l->a=b
 no:∀ a∈all,∀ b∈all,a.o=b.o->a=b
 dd:∀ e,e∈es\/e∈us->(e.T=L\/∃ a∈all,e.T=a.l)/\(e.B≠L/\e.B≠D/\e.B≠U/\∀ a∈all,e.B≠a.l)/\(e.A≠L/\e.A≠D/\e.A≠U/\∀ a∈all,e.A≠a.l)/\e.bs.length<=1/\e.as.length<=1
 past:Path Ps es M
 fut:NB M us Fs
 wf:∀ S,S∈Ps\/S=M\/S∈Fs->WF H L all S
structure Gi (F:Addr->Prop)(L D U:Addr)(all:List Vx)(es us:List Dd):Prop where
 L:F L
 D:F D
 U:F U
 l:∀ a∈all,F a.l
 d:∀ e,e∈es\/e∈us->F e.B/\F e.A
structure Bk (CB CV CD:Addr)(H:Hp)(x:Addr)(F:Addr->Prop)(vw:Vw)(ps fs:List Vw):Prop where
 ex:∃(L D U:Addr)(all:List Vx)(M:MM)(Ps Fs:List MM)(es us:List Dd),BQ CB CV CD H x L D U all M Ps Fs es us/\Is H L all M vw/\Paired (Is H L all) Ps ps/\Paired (Is H L all) Fs fs/\Gi F L D U all es us
 wv:∀ v,v∈ps\/v=vw\/v∈fs->mQ v
def Kept (F:Addr->Prop)(H H':Hp):Prop:=∀ y o,H y=some o->(F y\/∀ xs,o≠.lst xs)->H' y=some o
theorem Kept.same {F:Addr->Prop}{H H':Hp}(s:ao H H'):Kept F H H':=fun y o e _=>s y o e
section
variable {CB CV CD:Addr} {H H':Hp} {x L D U:Addr} {all:List Vx} {M S:MM} {Ps Fs:List MM} {es us:List Dd} {F:Addr->Prop} {vw:Vw} {ps fs:List Vw}
theorem Kept.sgs (k:Kept F H H'){xs:List V}{ss:List Sg}(h:ig H xs ss):ig H' xs ss:=bZ (fun _ _ ⟨p,e1,e2⟩=>⟨p,e1,k _ _ e2 (.inr fun _ z=>nomatch z)⟩) h
theorem Kept.gv (k:Kept F H H'){v:V}(h:GV H v):GV H' v:=by
 obtain⟨s,⟨p,e1,e2⟩,g⟩:=h;exact⟨s,⟨p,e1,k _ _ e2 (.inr fun _ z=>nomatch z)⟩,g⟩
theorem WF.kept (k:Kept F H H')(h:WF H L all S):WF H' L all S:=⟨h.vs,fun a ha=>⟨(h.ln a ha).1,fun v hv=>k.gv ((h.ln a ha).2 v hv)⟩,h.len,h.out⟩
theorem IB.kept (k:Kept F H H'){v:V}{q:Str×Th}(h:IB H all S v q):IB H' all S v q:=by
 obtain⟨a,ha,e1,e2,t⟩:=h;refine⟨a,ha,e1,e2,?_⟩;cases hq:q.2 with
 |pl ss=>rw[hq]at t;exact⟨t.1,k.sgs t.2⟩
 |cn ld lt sl tn =>
  rw[hq]at t;obtain⟨p,e3,e4⟩:=t;exact⟨p,e3,k _ _ e4 (.inr fun _ z=>nomatch z)⟩
theorem Is.kept (k:Kept F H H')(h:Is H L all S vw):Is H' L all S vw:=bZ (fun _ _ q=>IB.kept k q) h
theorem gu (k:Kept F H H'){v:V}{e:Dd}(f:F e.B/\F e.A)(h:js CD H v e):js CD H' v e:=⟨h.1,k _ _ h.2.1 (.inr fun _ z=>nomatch z),k _ _ h.2.2.1 (.inl f.1),k _ _ h.2.2.2 (.inl f.2)⟩
theorem mI {α β:Type}{F G:α->β->Prop}:∀{xs:List α} {ys:List β},(∀ x y,y∈ys->F x y->G x y)->Paired F xs ys->Paired G xs ys
 |_,_,_,.nil=>.nil
 |_,_,h,.cons a b=>.cons (h _ _ (mem_cons_self ..) a) (mI (fun x y hy=>h x y (Yc' _ hy)) b)
theorem BQ.kept (h:BQ CB CV CD H x L D U all M Ps Fs es us)(f:Gi F L D U all es us)(k:Kept F H H'):BQ CB CV CD H' x L D U all M Ps Fs es us :=
 {
  h with
  hx:=let ⟨dx,e⟩:=h.hx;⟨dx,k _ _ e (.inr fun _ z=>nomatch z)⟩
  hL:=k _ _ h.hL (.inl f.L)
  hD:=let ⟨xs,e,p⟩:=h.hD;⟨xs,k _ _ e (.inl f.D),mI (fun _ e he q=>gu k (f.d e (.inl he)) q) p⟩
  hU:=let ⟨xs,e,p⟩:=h.hU;⟨xs,k _ _ e (.inl f.U),mI (fun _ e he q=>gu k (f.d e (.inr he)) q) p⟩
  ha:=fun a m=>⟨k _ _ (h.ha a m).1 (.inr fun _ z=>nomatch z),k _ _ (h.ha a m).2 (.inl (f.l a m))⟩
  wf:=fun S hS=>(h.wf S hS).kept k }
theorem Bk.kept (h:Bk CB CV CD H x F vw ps fs)(k:Kept F H H'):Bk CB CV CD H' x F vw ps fs:=by
 obtain⟨L,D,U,all,M,Ps,Fs,es,us,b,i,pp,pf,f⟩:=h.ex;exact⟨⟨L,D,U,all,M,Ps,Fs,es,us,b.kept f k,Is.kept k i,bZ (fun _ _ q=>Is.kept k q) pp,bZ (fun _ _ q=>Is.kept k q) pf,f⟩,h.wv⟩
theorem Bk.same (h:Bk CB CV CD H x F vw ps fs)(s:ao H H'):Bk CB CV CD H' x F vw ps fs:=h.kept (.same s)
theorem BQ.oq (b:BQ CB CV CD H x L D U all M Ps Fs es us)(i:Is H L all M vw):∃ vx:List Vx,Paired (Pq CV H) (M L) vx/\Paired (fun a q=>a∈all/\a.n=q.1/\NC H M a q.2) vx vw:=by
 have go:∀{xs:List V} {vw:Vw},Paired (IB H all M) xs vw->∃ vx:List Vx,Paired (Pq CV H) xs vx/\Paired (fun a q=>a∈all/\a.n=q.1/\NC H M a q.2) vx vw:=by
  intro xs vw h
  induction h with
  |nil=>exact⟨[],.nil,.nil⟩
  |cons q _ ih =>
   obtain⟨a,ha,e1,e2,e3⟩:=q;obtain⟨vx,p1,p2⟩:=ih;exact⟨a::vx,.cons ⟨e1,(b.ha a ha).1⟩ p1,.cons ⟨ha,e2,e3⟩ p2⟩
 exact go i
def Ls (L D U:Addr)(all:List Vx)(e:Dd):Prop:=(e.T=L\/∃ a∈all,e.T=a.l)/\(e.B≠L/\e.B≠D/\e.B≠U/\∀ a∈all,e.B≠a.l)/\(e.A≠L/\e.A≠D/\e.A≠U/\∀ a∈all,e.A≠a.l)/\e.bs.length<=1/\e.as.length<=1
theorem BQ.lists (b:BQ CB CV CD H x L D U all M Ps Fs es us){T:Addr}(tg:T=L\/∃ a∈all,T=a.l):H T=some (.lst (M T))/\T≠D/\T≠U:=by
 rcases tg with rfl|⟨a,ha,rfl⟩
 ·exact⟨b.hL,b.LD,b.LU⟩
 ·exact⟨(b.ha a ha).2,(b.nl a ha).2.1,(b.nl a ha).2.2⟩
theorem BQ.chg (b:BQ CB CV CD H x L D U all M Ps Fs es us){T:Addr}(tg:T=L\/∃ a∈all,T=a.l){H2:Hp}(fr:∀ y o,H y=some o->y≠T->y≠D->y≠U->H2 y=some o){M':MM}(m1:∀ c,c≠T->M' c=M c)(hT:H2 T=some (.lst (M' T)))
  {dx:List V} {es':List Dd} (hD:H2 D=some (.lst dx)) (pD:Paired (js CD H) dx es') {ux:List V} {us':List Dd} (hU:H2 U=some (.lst ux)) (pU:Paired (js CD H) ux us') (Ln:∀ e,e∈es'\/e∈us'->Ls L D U all e)
  {Ta Fs':List MM} (UJ:Path Ta es' M') (Xp:NB M' us' Fs') (wf':∀ S,S∈Ta\/S=M'\/S∈Fs'->WF H L all S):BQ CB CV CD H2 x L D U all M' Ta Fs' es' us'/\Kept (fun _=>False) H H2:=by
 obtain⟨hT0,TD,TU⟩:=b.lists tg;obtain⟨dx0,Mm,_⟩:=b.hD;obtain⟨QJ,Fp,_⟩:=b.hU;have kN:∀ y o,H y=some o->(∀ zs,o≠.lst zs)->H2 y=some o:=fun y o hy hn=>fr y o hy
  (fun e=>by rw[e,hT0]at hy;cases hy;exact hn _ rfl) (fun e=>by rw[e,Mm]at hy;cases hy;exact hn _ rfl) (fun e=>by rw[e,Fp]at hy;cases hy;exact hn _ rfl)
 have k:Kept (fun _=>False) H H2:=fun y o hy h=>kN y o hy (h.elim False.elim id);have dk:∀{v e},Ls L D U all e->js CD H v e->js CD H2 v e:=fun {v e} ok h=>by
  have nT:∀{c:Addr},c≠L/\c≠D/\c≠U/\(∀ a∈all,c≠a.l)->c≠T:=fun {c} q z=>by
   rcases tg with rfl|⟨a,ha,rfl⟩
   ·exact q.1 z
   ·exact q.2.2.2 a ha z
  exact⟨h.1,kN _ _ h.2.1 (fun _ z=>nomatch z),fr _ _ h.2.2.1 (nT ok.2.1) ok.2.1.2.1 ok.2.1.2.2.1,fr _ _ h.2.2.2 (nT ok.2.2.1) ok.2.2.1.2.1 ok.2.2.1.2.2.1⟩
 have at_:∀{c:Addr},(c=L\/∃ a∈all,c=a.l)->H2 c=some (.lst (M' c)):=fun {c} hc=>by
  by_cases e:c=T
  ·rw[e];exact hT
  ·obtain⟨h1,h2,h3⟩:=b.lists hc;rw[m1 c e];exact fr _ _ h1 e h2 h3
 refine⟨{
      hx:=let ⟨dx,e⟩:=b.hx;⟨dx,kN _ _ e (fun _ z=>nomatch z)⟩
      hL:=at_ (.inl rfl)
      hD:=⟨_,hD,mI (fun _ e he q=>dk (Ln e (.inl he)) q) pD⟩
      hU:=⟨_,hU,mI (fun _ e he q=>dk (Ln e (.inr he)) q) pU⟩
      ha:=fun a ha=>⟨kN _ _ (b.ha a ha).1 (fun _ z=>nomatch z),at_ (.inr ⟨a,ha,rfl⟩)⟩
      LD:=b.LD,LU:=b.LU,DU:=b.DU,nl:=b.nl,ni:=b.ni,no:=b.no,dd:=Ln
      past:=UJ
      fut:=Xp
      wf:=fun S hS=>(wf' S hS).kept k },k⟩
theorem BQ.grow (b:BQ CB CV CD H x L D U all M Ps Fs es us){a:Vx}{H1:Hp}(s:ao H H1)(n1:H a.o=none)(n2:H a.l=none)(h1:H1 a.o=some (.ins CV a.d (QI a.n a.tm a.l)))(h2:H1 a.l=some (.lst [])):BQ CB CV CD H1 x L D U (all++[a]) M Ps Fs es us:=by
 have b1:=b.kept (F:=fun _=>True) ⟨trivial,trivial,trivial,fun _ _=>trivial,fun _ _=>⟨trivial,trivial⟩⟩ (.same s);obtain⟨dx0,Mm,Xq⟩:=b.hD;obtain⟨QJ,Fp,Xr⟩:=b.hU;have nL:a.l≠L:=Zh' (au b.hL n2);have nD:a.l≠D:=Zh' (au Mm n2);have nU:a.l≠U:=Zh' (au Fp n2);have nA:∀ c∈all,a.l≠c.l:=fun c hc=>Zh' (au (b.ha c hc).2 n2);have nO:∀ c∈all,a.o≠c.o:=fun c hc=>Zh' (au (b.ha c hc).1 n1);have mem:∀{c:Vx},c∈all++[a]->c∈all\/c=a:=fun h=>by simpa using h
 have RU:∀ S,WF H1 L all S->WF H1 L (all++[a]) S:=fun S w =>
  {
   vs:=let ⟨vx,p⟩:=w.vs;⟨vx,bZ (fun _ _ q=>⟨q.1,Yb' _ q.2⟩) p⟩
   ln:=fun c hc=>by
    rcases mem hc with hc|rfl
    ·exact w.ln c hc
    ·have e:S c.l=[]:=w.out c.l nL fun d hd=>nA d hd;rw[e];exact⟨Zq' _,fun _ z=>nomatch z⟩
   len:=w.len
   out:=fun c h h'=>w.out c h fun d hd=>h' d (Yb' _ hd) }
 have YG:∀{v e},js CD H v e->e.B≠a.l/\e.A≠a.l:=fun h=>⟨au h.2.2.1 n2,au h.2.2.2 n2⟩;have YH:∀ e,e∈es\/e∈us->e.B≠a.l/\e.A≠a.l:=fun e he=>by
  rcases he with he|he
  ·obtain⟨i,hi⟩:=getElem?_of_mem he;obtain⟨v,_,q⟩:=lq Xq hi;exact YG q
  ·obtain⟨i,hi⟩:=getElem?_of_mem he;obtain⟨v,_,q⟩:=lq Xr hi;exact YG q
 exact { b1 with
  ha:=fun c hc=>by
   rcases mem hc with hc|rfl
   ·exact b1.ha c hc
   ·refine⟨h1,?_⟩;rw[(b.wf M (.inr (.inl rfl))).out c.l nL fun d hd=>nA d hd];exact h2
  nl:=fun c hc=>by
   rcases mem hc with hc|rfl
   ·exact b1.nl c hc
   ·exact⟨nL,nD,nU⟩
  ni:=fun c hc d hd e=>by
   rcases mem hc with z1|z1 <;> rcases mem hd with z2|z2
   ·exact b1.ni c z1 d z2 e
   ·rw[z2]at e;exact S' e.symm (nA c z1)
   ·rw[z1]at e;exact S' e (nA d z2)
   ·rw[z1,z2]
  no:=fun c hc d hd e=>by
   rcases mem hc with z1|z1 <;> rcases mem hd with z2|z2
   ·exact b1.no c z1 d z2 e
   ·rw[z2]at e;exact S' e.symm (nO c z1)
   ·rw[z1]at e;exact S' e (nO d z2)
   ·rw[z1,z2]
  dd:=fun e he=>by
   obtain⟨q1,q2,q3,q4⟩:=b1.dd e he;refine⟨q1.imp id fun⟨c,hc,z⟩=>⟨c,Yb' _ hc,z⟩,⟨q2.1,q2.2.1,q2.2.2.1,fun c hc=>?_⟩,⟨q3.1,q3.2.1,q3.2.2.1,fun c hc=>?_⟩,q4⟩
   ·rcases mem hc with hc|rfl
    ·exact q2.2.2.2 c hc
    ·exact(YH e he).1
   ·rcases mem hc with hc|rfl
    ·exact q3.2.2.2 c hc
    ·exact(YH e he).2
  wf:=fun S hS=>RU S (b1.wf S hS) }
theorem Is.grow {a:Vx}(h:Is H L all S vw):Is H L (all++[a]) S vw:=bZ (fun _ _ ⟨c,hc,q⟩=>⟨c,Yb' _ hc,q⟩) h
end
section
variable {CB CV CD:Addr} {H H1 H2 H':Hp} {x L D U:Addr} {all:List Vx} {M S:MM} {Ps Fs:List MM} {es us:List Dd} {F:Addr->Prop} {vw J6:Vw} {ps fs:List Vw}
theorem Bk.deed (b:BQ CB CV CD H1 x L D U all M Ps Fs es us)(i:Is H1 L all M vw)(pp:Paired (Is H1 L all) Ps ps)(f:Gi F L D U all es us)(wv:∀ v,v∈ps\/v=vw->mQ v){e:Dd}(hd:js CD H1 (.ref e.o) e)(ok:Ls L D U all e)(ft:Fits e M)(w:WF H1 L all (n5 e M))
  (i':Is H1 L all (n5 e M) J6) (wv':mQ J6) {dx:List V} (pD:Paired (js CD H1) dx es) (fr:∀ y o,H1 y=some o->y≠e.T->y≠D->y≠U->H2 y=some o) (hT:H2 e.T=some (.lst (n5 e M e.T))) (hD2:H2 D=some (.lst (dx++[.ref e.o]))) (ND:H2 U=some (.lst [])) :
  Bk CB CV CD H2 x (fun y=>F y\/y=e.B\/y=e.A) J6 (ps++[vw]) []:=by
 obtain⟨b2,k⟩:=b.chg ok.1 fr (M':=n5 e M) (fun c hc=>jt hc) hT hD2 (gN pD hd) ND .nil (fun e' he=>by
  rcases he with he|he
  ·rcases Zp'.mp he with he|he
   ·exact b.dd e' (.inl he)
   ·rw[Zg'.mp he];exact ok
  ·cases he) (b.past.snoc ft) .nil (fun S hS=>by
  rcases hS with hS|hS|hS
  ·rcases Zp'.mp hS with hS|hS
   ·exact b.wf S (.inl hS)
   ·exact b.wf S (.inr (.inl (Zg'.mp hS)))
  ·rw[hS];exact w
  ·cases hS)
 refine⟨⟨L,D,U,all,_,_,_,_,_,b2,Is.kept k i',gN (bZ (fun _ _ q=>Is.kept k q) pp) (Is.kept k i),.nil,⟨.inl f.L,.inl f.D,.inl f.U,fun a ha=>.inl (f.l a ha),fun e' he=>?_⟩⟩,fun v hv=>?_⟩
 ·rcases he with he|he
  ·rcases Zp'.mp he with he|he
   ·exact⟨.inl (f.d e' (.inl he)).1,.inl (f.d e' (.inl he)).2⟩
   ·rw[Zg'.mp he];exact⟨.inr (.inl rfl),.inr (.inr rfl)⟩
  ·cases he
 ·rcases hv with hv|hv|hv
  ·rcases Zp'.mp hv with hv|hv
   ·exact wv v (.inl hv)
   ·exact wv v (.inr (Zg'.mp hv))
  ·rw[hv];exact wv'
  ·cases hv
theorem Ae {α β:Type}{F:α->β->Prop}:∀{xs:List α} {x:α} {zs:List β},Paired F (xs++[x]) zs->∃ ys y,zs=ys++[y]/\Paired F xs ys/\F x y
 |[],_,_,.cons r .nil=>⟨[],_,rfl,.nil,r⟩
 |_::_,_,_,.cons r t=>by
  obtain⟨ys,y,rfl,p,q⟩:=Ae t;exact⟨_::ys,y,rfl,.cons r p,q⟩
theorem Bk.RV (b:BQ CB CV CD H x L D U all M Ps Fs es us)(i:Is H L all M vw)(pp:Paired (Is H L all) Ps ps)(pf:Paired (Is H L all) Fs fs)(f:Gi F L D U all es us)(wv:∀ v,v∈ps\/v=vw\/v∈fs->mQ v){e:Dd}{UK:List Dd}(he:es=UK++[e]){dx ux:List V}(pD:Paired (js CD H) dx UK)(hd:js CD H (.ref e.o) e)(pU:Paired (js CD H) ux us)
  (fr:∀ y o,H y=some o->y≠e.T->y≠D->y≠U->H2 y=some o) (hT:H2 e.T=some (.lst (Xo e M e.T))) (hD2:H2 D=some (.lst dx)) (ND:H2 U=some (.lst (ux++[.ref e.o]))) :
  ∃ J7 v,ps=J7++[v]/\Bk CB CV CD H2 x F v J7 (fs++[vw]):=by
 subst he;obtain⟨Ps0,S,rfl,p0,ft,rfl⟩:=b.past.last;have ok:=b.dd e (.inl (Zi' _ (List.mem_singleton_self _)));rw[UI ft]at hT;obtain⟨b2,k⟩:=b.chg ok.1 fr (M':=S) (fun c hc=>(jt hc).symm) hT hD2 pD ND (gN pU hd) (fun e' he=>by
  rcases he with he|he
  ·exact b.dd e' (.inl (Yb' _ he))
  ·rcases Zp'.mp he with he|he
   ·exact b.dd e' (.inr he)
   ·rw[Zg'.mp he];exact ok) p0 (NB.snoc ft b.fut) (fun T hT=>by
  rcases hT with hT|hT|hT
  ·exact b.wf T (.inl (Yb' _ hT))
  ·exact b.wf T (.inl (Zi' _ (Zg'.mpr hT)))
  ·rcases Zp'.mp hT with hT|hT
   ·exact b.wf T (.inr (.inr hT))
   ·exact b.wf T (.inr (.inl (Zg'.mp hT))))
 obtain⟨J7,v,rfl,pp0,iv⟩:=Ae pp;refine⟨J7,v,rfl,⟨⟨L,D,U,all,_,_,_,_,_,b2,Is.kept k iv,bZ (fun _ _ q=>Is.kept k q) pp0,gN (bZ (fun _ _ q=>Is.kept k q) pf) (Is.kept k i),⟨f.L,f.D,f.U,f.l,fun e' he=>?_⟩⟩,fun u hu=>?_⟩⟩
 ·rcases he with he|he
  ·exact f.d e' (.inl (Yb' _ he))
  ·rcases Zp'.mp he with he|he
   ·exact f.d e' (.inr he)
   ·rw[Zg'.mp he];exact f.d e (.inl (Zi' _ (List.mem_singleton_self _)))
 ·rcases hu with hu|hu|hu
  ·exact wv u (.inl (Yb' _ hu))
  ·exact wv u (.inl (Zi' _ (Zg'.mpr hu)))
  ·rcases Zp'.mp hu with hu|hu
   ·exact wv u (.inr (.inr hu))
   ·exact wv u (.inr (.inl (Zg'.mp hu)))
theorem Bk.RW (b:BQ CB CV CD H x L D U all M Ps Fs es us)(i:Is H L all M vw)(pp:Paired (Is H L all) Ps ps)(pf:Paired (Is H L all) Fs fs)(f:Gi F L D U all es us)(wv:∀ v,v∈ps\/v=vw\/v∈fs->mQ v){e:Dd}{Xs:List Dd}(he:us=Xs++[e]){dx ux:List V}(pD:Paired (js CD H) dx es)(hd:js CD H (.ref e.o) e)(pU:Paired (js CD H) ux Xs)
  (fr:∀ y o,H y=some o->y≠e.T->y≠D->y≠U->H2 y=some o) (hT:H2 e.T=some (.lst (n5 e M e.T))) (hD2:H2 D=some (.lst (dx++[.ref e.o]))) (ND:H2 U=some (.lst ux)) :
  ∃ CL v,fs=CL++[v]/\Bk CB CV CD H2 x F v (ps++[vw]) CL:=by
 subst he;obtain⟨Fs0,rfl,ft,p0⟩:=b.fut.last;have ok:=b.dd e (.inr (Zi' _ (List.mem_singleton_self _)));obtain⟨b2,k⟩:=b.chg ok.1 fr (M':=n5 e M) (fun c hc=>jt hc) hT hD2 (gN pD hd) ND pU (fun e' he=>by
  rcases he with he|he
  ·rcases Zp'.mp he with he|he
   ·exact b.dd e' (.inl he)
   ·rw[Zg'.mp he];exact ok
  ·exact b.dd e' (.inr (Yb' _ he))) (b.past.snoc ft) p0 (fun T hT=>by
  rcases hT with hT|hT|hT
  ·rcases Zp'.mp hT with hT|hT
   ·exact b.wf T (.inl hT)
   ·exact b.wf T (.inr (.inl (Zg'.mp hT)))
  ·exact b.wf T (.inr (.inr (Zi' _ (Zg'.mpr hT))))
  ·exact b.wf T (.inr (.inr (Yb' _ hT))))
 obtain⟨CL,v,rfl,pf0,iv⟩:=Ae pf;refine⟨CL,v,rfl,⟨⟨L,D,U,all,_,_,_,_,_,b2,Is.kept k iv,gN (bZ (fun _ _ q=>Is.kept k q) pp) (Is.kept k i),bZ (fun _ _ q=>Is.kept k q) pf0,⟨f.L,f.D,f.U,f.l,fun e' he=>?_⟩⟩,fun u hu=>?_⟩⟩
 ·rcases he with he|he
  ·rcases Zp'.mp he with he|he
   ·exact f.d e' (.inl he)
   ·rw[Zg'.mp he];exact f.d e (.inr (Zi' _ (List.mem_singleton_self _)))
  ·exact f.d e' (.inr (Yb' _ he))
 ·rcases hu with hu|hu|hu
  ·rcases Zp'.mp hu with hu|hu
   ·exact wv u (.inl hu)
   ·exact wv u (.inr (.inl (Zg'.mp hu)))
  ·exact wv u (.inr (.inr (Zi' _ (Zg'.mpr hu))))
  ·exact wv u (.inr (.inr (Yb' _ hu)))
noncomputable def aO (vw:Vw)(n:Str):Option Th:=(vw.find? fun q=>decide (q.1=n)).map (·.2)
noncomputable def kg (vw:Vw)(n:Str)(th:Th):Vw:=vw.map fun q=>if q.1=n then(n,th) else q
theorem bP {n:Str}{th:Th}(h:aO vw n=some th):(n,th)∈vw:=by
 unfold aO at h;cases e:vw.find? (fun q=>decide (q.1=n)) with
 |none=>rw[e]at h;cases h
 |some q =>
  rw[e]at h;have h1:=List.mem_of_find?_eq_some e;have h2:=List.find?_some e;have h3:q.1=n:=G' h2;have h4:q.2=th:=Z' h;rw[<-h3,<-h4];exact h1
theorem iZ {n:Str}(h:aO vw n=none):∀ q∈vw,q.1≠n:=by
 unfold aO at h;rw[Option.map_eq_none_iff]at h;intro q hq e;exact List.find?_eq_none.mp h q hq (A' e)
theorem tW:∀{l:List Str} {i j:Nat} {n:Str},l.Nodup->l[i]? = some n->l[j]? = some n->i=j
 |[],_,_,_,_,h,_=>by simp at h
 |a::l,i,j,n,nd,h1,h2=>by
  obtain⟨na,nd'⟩:=List.nodup_cons.mp nd
  match i,j,h1,h2 with
  |0,0,_,_=>rfl
  |0,j+1,h1,h2 =>
   rw[List.getElem?_cons_zero]at h1;rw[List.getElem?_cons_succ]at h2;cases h1;exact S' (Zf' h2) na
  |i+1,0,h1,h2 =>
   rw[List.getElem?_cons_zero]at h2;rw[List.getElem?_cons_succ]at h1;cases h2;exact S' (Zf' h1) na
  |i+1,j+1,h1,h2 =>
   rw[List.getElem?_cons_succ]at h1 h2;rw[tW nd' h1 h2]
theorem mQ.uniq (w:mQ vw){q q':Str×Th}(h:q∈vw)(h':q'∈vw)(e:q.1=q'.1):q=q':=by
 obtain⟨i,hi⟩:=getElem?_of_mem h;obtain⟨j,hj⟩:=getElem?_of_mem h';have h1:(vw.map (·.1))[i]? = some q.1:=by rw[Zd',hi];rfl
 have h2:(vw.map (·.1))[j]? = some q.1:=by rw[Zd',hj,e];rfl
 have:=tW w.nd h1 h2;subst this;rw[hi]at hj;exact Z' hj
theorem mQ.find (w:mQ vw){n:Str}{th:Th}(h:(n,th)∈vw):aO vw n=some th:=by
 cases e:aO vw n with
 |none=>exact S' rfl (iZ e _ h)
 |some t =>
  have:=w.uniq (bP e) h rfl;rw[Prod.mk.injEq]at this;rw[this.2]
theorem Af (n:Str)(th:Th):(kg vw n th).map (·.1)=vw.map (·.1):=by
 unfold kg;rw[List.map_map];refine List.map_congr_left fun q _=>?_;show(if q.1=n then(n,th) else q).1=q.1;split
 ·next h=>exact h.symm
 ·rfl
theorem Ag {n:Str}{th:Th}{q:Str×Th}(h:q∈kg vw n th):(q=(n,th)/\∃ q'∈vw,q'.1=n)\/(q∈vw/\q.1≠n):=by
 obtain⟨q',h1,h2⟩:=mem_map.mp h;split at h2
 ·next e=>exact .inl ⟨h2.symm,q',h1,e⟩
 ·next e=>rw[<-h2];exact .inr ⟨h1,e⟩
theorem IC {n:Str}{th:Th}{q:Str×Th}(h:q∈vw)(hn:q.1≠n):q∈kg vw n th:=mem_map.mpr ⟨q,h,T' hn⟩
theorem NF {n:Str}{th t:Th}(h:(n,t)∈vw):(n,th)∈kg vw n th:=mem_map.mpr ⟨(n,t),h,X' rfl⟩
theorem mQ.set (w:mQ vw){n:Str}{ss ss':List Sg}(h:(n,Th.pl ss)∈vw)(h1:ss'.length<=200)(h2:∀ s∈ss',jM s):mQ (kg vw n (.pl ss')) where
 nd:=by rw[Af];exact w.nd
 ld:=fun m ld lt sl tn hm=>by
  rcases Ag hm with ⟨e,_⟩|⟨hm',_⟩
  ·cases e
  ·obtain⟨⟨s0,h0⟩,r⟩:=w.ld m ld lt sl tn hm';refine⟨?_,r⟩
   by_cases e:ld=n
   ·rw[e];exact⟨ss',NF h⟩
   ·exact⟨s0,IC h0 e⟩
 gd:=fun m s0 hm=>by
  rcases Ag hm with ⟨e,_⟩|⟨hm',_⟩
  ·cases e;exact⟨h1,h2⟩
  ·exact w.gd m s0 hm'
 len:=by
  have:=Zj' List.length (Af (vw:=vw) n (.pl ss'));rw[L',L']at this;rw[this];exact w.len
theorem mQ.UL (w:mQ vw){n:Str}(hn:∀ q∈vw,q.1≠n)(hl:vw.length<12):mQ (vw++[(n,.pl [])]) where
 nd:=by
  rw[map_append,List.nodup_append];refine⟨w.nd,by simp,?_⟩;intro a ha c hc e;obtain⟨q,hq,e1⟩:=mem_map.mp ha;have:c=n:=by simpa using hc
  exact hn q hq (by rw[e1,e,this])
 ld:=fun m ld lt sl tn hm=>by
  rcases Zp'.mp hm with hm|hm
  ·obtain⟨⟨s0,h0⟩,r⟩:=w.ld m ld lt sl tn hm;exact⟨⟨s0,Yb' _ h0⟩,r⟩
  ·have:=Zg'.mp hm;cases this
 gd:=fun m s0 hm=>by
  rcases Zp'.mp hm with hm|hm
  ·exact w.gd m s0 hm
  ·have:=Zg'.mp hm;cases this;exact⟨Zq' _,fun _ z=>nomatch z⟩
 len:=by rw[V'];exact hl
theorem mQ.UM (w:mQ vw){n ld:Str}{lt sl:Int}{tn:Bool}{ss:List Sg}(hn:∀ q∈vw,q.1≠n)(hl:vw.length<12)(h:(ld,Th.pl ss)∈vw)(h1:0<=lt)(h2:lt<=999)(h3:1<=sl)(h4:sl<=9):mQ (vw++[(n,.cn ld lt sl tn)]) where
 nd:=by
  rw[map_append,List.nodup_append];refine⟨w.nd,by simp,?_⟩;intro a ha c hc e;obtain⟨q,hq,e1⟩:=mem_map.mp ha;have:c=n:=by simpa using hc
  exact hn q hq (by rw[e1,e,this])
 ld:=fun m l2 t2 s2 n2 hm=>by
  rcases Zp'.mp hm with hm|hm
  ·obtain⟨⟨s0,h0⟩,r⟩:=w.ld m l2 t2 s2 n2 hm;exact⟨⟨s0,Yb' _ h0⟩,r⟩
  ·have:=Zg'.mp hm;cases this;exact⟨⟨ss,Yb' _ h⟩,h1,h2,h3,h4⟩
 gd:=fun m s0 hm=>by
  rcases Zp'.mp hm with hm|hm
  ·exact w.gd m s0 hm
  ·have:=Zg'.mp hm;cases this
 len:=by rw[V'];exact hl
theorem QK {α β γ:Type}{F:α->β->Prop}{G:α->γ->Prop}{f:β->γ}:∀{xs:List α} {ys:List β},Paired F xs ys->(∀(k:Nat) x y,xs[k]? = some x->ys[k]? = some y->F x y->G x (f y))->Paired G xs (ys.map f)
 |_,_,.nil,_=>.nil
 |_,_,.cons a b,h=>.cons (h 0 _ _ rfl rfl a) (QK b fun k x y e1 e2=>h (k+1) x y (by simpa using e1) (by simpa using e2))
theorem Is.line (b:BQ CB CV CD H x L D U all M Ps Fs es us)(i:Is H L all M vw)(w:mQ vw){a:Vx}(ha:a∈all){j:Nat}{th:Th}{ss':List Sg}(hj:(M L)[j]? = some (.ref a.o))(hm:vw[j]? = some (a.n,th))(Fq:a.tm=.non){M':MM}(m1:∀ c,c≠a.l->M' c=M c)(g:ig H (M' a.l) ss'):Is H L all M' (kg vw a.n (.pl ss')):=by
 show Paired _ (M' L) _;rw[m1 L (Zh' (b.nl a ha).1)];refine QK i fun k v q hk hq hvq=>?_;obtain⟨c,hc,rfl,e1,t⟩:=hvq;split
 ·next e =>
  have h1:(vw.map (·.1))[k]? = some a.n:=by rw[Zd',hq,<-e];rfl
  have h2:(vw.map (·.1))[j]? = some a.n:=by rw[Zd',hm];rfl
  have hkj:=tW w.nd h1 h2;subst hkj;rw[hj]at hk;have:a.o=c.o:=V.ref.inj (Z' hk);have:=b.no a ha c hc this;subst this;exact⟨a,hc,rfl,rfl,Fq,g⟩
 ·next e =>
  refine⟨c,hc,rfl,e1,?_⟩;have ne:c.l≠a.l:=fun z=>e (by rw[<-e1,b.ni c hc a ha z]);cases hq2:q.2 with
  |pl s0=>rw[hq2]at t;exact⟨t.1,by rw[m1 _ ne];exact t.2⟩
  |cn ld lt sl tn=>rw[hq2]at t;exact t
end
noncomputable abbrev Sn:=Str×Int
noncomputable def hI:List V:=[.str "G",.str "D",.str "s",.str "d"]
noncomputable def ff:List V:=[.str "R",.str "r",.str ".",.str "3",.str "2"]
noncomputable def dO (s:Sn):Bool:=if inV (.str s.1) hI=true then(if decide (0<=s.2)=true then decide (s.2<=99) else false) else(if inV (.str s.1) ff=true then decide (s.2=0) else false)
noncomputable def oN (n:Int):Str:=Str.ofString (toString n)
theorem Lu {n:Int}(h0:0<=n)(h1:n<100):n.natAbs.log2<1920:=by
 have hb:n.natAbs<2 ^ 1920:=Za' (show n.natAbs<2 ^ 7 by omega) (Nat.pow_le_pow_right (by decide) (by decide))
 by_cases z:n.natAbs=0
 ·rw[z];decide
 ·exact(Nat.log2_lt z).mpr hb
theorem RY:(List.range 100).all (fun n=>decide ((oN (n:Int)).length<=2))=true:=by lk
theorem Pt {n:Int}(h0:0<=n)(h1:n<100):(oN n).length<=2:=by
 have:=all_eq_true.mp RY n.toNat (mem_range.mpr (by omega));have e:((n.toNat:Nat):Int)=n:=by omega
 rw[e]at this;exact G' this
inductive Rf where
 |lz|zE|qQ|Full|dm|eJ|jY|lB|p5|gi
structure Cs where
 B:Addr
 V:Addr
 D:Addr
 on:Bool
 x:Rf->Addr
def RX (E:XK)(c:Cs)(r:Rf)(H:Hp):Prop:=c.on=true/\E (.ref (c.x r)) none H
noncomputable abbrev n6 (c:Cs):=Bk c.B c.V c.D
def Fr (F:Addr->Prop)(H H':Hp):Prop:=∀ y o,H y=some o->¬ F y->H' y=some o
def Gr (F F':Addr->Prop)(H:Hp):Prop:=∀ y,F' y->F y\/H y=none
theorem Gr.refl (F:Addr->Prop)(H:Hp):Gr F F H:=fun _ h=>.inl h
theorem Gr.old {F F':Addr->Prop}{H H':Hp}(s:ao H H')(g:Gr F F' H'):Gr F F' H:=fun y z=>(g y z).imp id fun q=>s.free q
noncomputable def nameB (x:Str):Bool:=decide (1<=x.length)&&(decide (x.length<=8)&&x.cps.toList.all fun c=>wu ⟨#[c]⟩ "abcdefghijklmnopqrstuvwxyz")
theorem kinds_of {k:Str}(h:inV (.str k) hI=true\/inV (.str k) ff=true):∃ d:Kd,d.str=k:=by
 have go:∀ l:List V,(∀ v∈l,∃ d:Kd,v=.str d.str)->inV (.str k) l=true->∃ d:Kd,d.str=k:=fun l hl h=>by
  unfold inV at h;obtain⟨y,hy,e⟩:=any_eq_true.mp h;obtain⟨d,rfl⟩:=hl y hy;have:d.str=k:=by simpa [JL] using e
  exact⟨d,this⟩
 have c:∀(l:List Kd),∀ v∈l.map (fun d=>V.str d.str),∃ d:Kd,v=.str d.str:=fun l v hv=>by
  obtain⟨d,_,e⟩:=mem_map.mp hv;exact⟨d,e.symm⟩
 rcases h with h|h
 ·exact go hI (c [.G,.D,.s,.d]) h
 ·exact go ff (c [.R,.r,.dot,.three,.two]) h
theorem QL (d:Kd):inV (.str d.str) hI=d.gI:=by cases d <;> decide +kernel
theorem NG (d:Kd):inV (.str d.str) ff = !d.gI:=by cases d <;> decide +kernel
theorem EB {sn:Sn}(h:dO sn=true):∃ s:Sg,s.1.str=sn.1/\s.2=sn.2/\jM s:=by
 unfold dO at h;split at h
 ·next h1 =>
  obtain⟨d,hd⟩:=kinds_of (.inl h1);rw[<-hd,QL]at h1;split at h
  ·next h2=>exact⟨(d,sn.2),hd,rfl,⟨(fun _=>⟨G' h2,by have:=G' h;show sn.2<100;omega⟩),fun z=>by rw[show d.gI=false from z]at h1;cases h1⟩⟩
  ·cases h
 ·next h1 =>
  split at h
  ·next h2 =>
   obtain⟨d,hd⟩:=kinds_of (.inr h2);rw[<-hd,NG]at h2;exact⟨(d,sn.2),hd,rfl,⟨(fun z=>by rw[show d.gI=true from z]at h2;cases h2),fun _=>G' h⟩⟩
  ·cases h
theorem J8 {s:Sg}(h:jM s):dO (s.1.str,s.2)=true:=by
 unfold dO;rw[QL,NG];cases hs:s.1.gI with
 |true =>
  obtain⟨a,b⟩:=h.1 hs;simp only [if_true];rw[X' (A' a)];exact A' (by omega)
 |false =>
  have:=h.2 hs;simp[this]
noncomputable def CM:Kd->Kd
 |.three=>.two
 |.two=>.three
 |k=>k
noncomputable def lC (s:Sg):Sg:=(CM s.1,s.2)
noncomputable def tX (vw:Vw)(n:Str):List Sg:=match aO vw n with
 |some (.pl ss)=>ss
 |some (.cn ld _ _ tn)=>match aO vw ld with
  |some (.pl ss)=>if tn then ss.map lC else ss
  |_=>[]
 |none=>[]
noncomputable def oO (vw:Vw)(n:Str):List Int:=match aO vw n with
 |some (.pl ss)=>(hZ 3 (bj ss)).1
 |some (.cn ld _ sl tn)=>match aO vw ld with
  |some (.pl ss)=>(hZ (if tn then 2 else 3) (bj (if tn then ss.map lC else ss))).1.map fun w=>sl * w
  |_=>[]
 |none=>[]
theorem m8 {vw:Vw}{n:Str}{ss:List Sg}(h:aO vw n=some (.pl ss)):tX vw n=ss:=by
 unfold tX;rw[h]
theorem p6 {vw:Vw}{n ld:Str}{lt sl:Int}{tn:Bool}{ss:List Sg}(h:aO vw n=some (.cn ld lt sl tn))(h':aO vw ld=some (.pl ss)):tX vw n=if tn=true then ss.map lC else ss:=by
 unfold tX;rw[h];show(match aO vw ld with|some (.pl ss)=>if tn=true then ss.map lC else ss|_=>[])=_;rw[h']
theorem Ah {vw:Vw}{n:Str}{ss:List Sg}(h:aO vw n=some (.pl ss)):oO vw n=(hZ 3 (bj ss)).1:=by
 unfold oO;rw[h]
theorem Ai {vw:Vw}{n ld:Str}{lt sl:Int}{tn:Bool}{ss:List Sg}(h:aO vw n=some (.cn ld lt sl tn))(h':aO vw ld=some (.pl ss)):oO vw n=(hZ (if tn then 2 else 3) (bj (if tn then ss.map lC else ss))).1.map fun w=>sl * w:=by
 unfold oO;rw[h];show(match aO vw ld with|some (.pl ss)=>(hZ (if tn then 2 else 3) (bj (if tn then ss.map lC else ss))).1.map fun w=>sl * w|_=>[])=_;rw[h']
theorem NH {H H':Hp}{x dx C:Addr}(hx:H x=none)(hdx:H dx=none)(kp:∀ y o,(upd (upd H dx (.own x)) x (.ins C dx [])) y=some o->y≠x->H' y=some o):ao H H':=fun y o hy =>
 kp y o (by rw[ak (au hy hx),ak (au hy hdx)];exact hy) (au hy hx)
theorem p7 {H:Hp}{x dx D:Addr}{o1 o2:HO}(h:upd (upd H dx o1) x o2 D=none):H D=none:=by
 unfold upd at h;split at h
 ·cases h
 ·split at h
  ·cases h
  ·exact h
theorem tY {H:Hp}{B A:Addr}{o:HO}(h:upd H B o A=none):H A=none:=by
 unfold upd at h;split at h
 ·cases h
 ·exact h
theorem EC (z:Int){k:Int}(hk:0<k):∃ m:Nat,z % k=(m:Int)/\(m:Int)<k:=by
 have z1:=Int.emod_nonneg z (show k≠0 by omega);have z2:=Int.emod_lt_of_pos z hk;exact⟨(z % k).toNat,by omega,by omega⟩
theorem Bk.new {c:Cs}{H:Hp}{x dx L D U:Addr}(hx:H x=some (.ins c.B dx (pY L D U)))(hL:H L=some (.lst []))(hD:H D=some (.lst []))(hU:H U=some (.lst []))(LD:L≠D)(LU:L≠U)(DU:D≠U):n6 c H x (fun y=>y=L\/y=D\/y=U) [] [] [] where
 ex:=⟨L,D,U,[],fun _=>[],[],[],[],[],
  {
   hx:=⟨dx,hx⟩,hL:=hL,hD:=⟨[],hD,.nil⟩,hU:=⟨[],hU,.nil⟩,ha:=fun _ h=>(nomatch h),LD:=LD,LU:=LU,DU:=DU,nl:=fun _ h=>(nomatch h),ni:=fun _ h=>(nomatch h),no:=fun _ h=>(nomatch h)
   dd:=fun _ h=>h.elim (fun z=>(nomatch z)) fun z=>(nomatch z)
   past:=.nil
   fut:=.nil
   wf:=fun S hS=>by
    rcases hS with hS|hS|hS
    ·cases hS
    ·subst hS;exact⟨⟨[],.nil⟩,fun _ h=>(nomatch h),Zq' _,fun _ _ _=>rfl⟩
    ·cases hS },
  .nil,.nil,.nil,⟨.inl rfl,.inr (.inl rfl),.inr (.inr rfl),fun _ h=>(nomatch h),fun _ h=>h.elim (fun z=>(nomatch z)) fun z=>(nomatch z)⟩⟩
 wv:=fun v hv=>by
  rcases hv with hv|hv|hv
  ·cases hv
  ·subst hv;exact⟨.nil,fun _ _ _ _ _ h=>(nomatch h),fun _ _ h=>(nomatch h),Zq' _⟩
  ·cases hv
theorem RZ {R:Vx->Str×Th->Prop}{vx:List Vx}{vw:Vw}(h:Paired R vx vw)(hn:∀ a q,R a q->a.n=q.1):vx.map (fun a=>V.str a.n)=vw.map (fun a=>V.str a.1):=by
 induction h with
 |nil=>rfl
 |cons r _ ih=>rw[map_cons,map_cons,ih,hn _ _ r]
theorem xC {vx:List Vx}{vw:Vw}{R:Vx->Str×Th->Prop}(h:Paired R vx vw)(hn:∀ a q,R a q->a.n=q.1)(n:Str) :
  (vx.find? (fun a=>decide (a.n=n))=none/\aO vw n=none)\/∃ a th,∃ j:Nat,vx.find? (fun a=>decide (a.n=n))=some a/\aO vw n=some th/\R a (n,th)/\a.n=n/\vx[j]? = some a/\vw[j]? = some (n,th):=by
 induction h with
 |nil=>exact .inl ⟨rfl,rfl⟩
 | @cons a q as qs r t ih =>
  have e:=hn a q r
  by_cases hq:q.1=n
  ·refine .inr ⟨a,q.2,0,?_,?_,?_,e.trans hq,rfl,by rw[<-hq];rfl⟩
   ·rw[List.find?_cons_of_pos];exact A' (e.trans hq)
   ·unfold aO;rw[List.find?_cons_of_pos (p:=fun q:Str×Th=>decide (q.1=n)) (A' hq)];rfl
   ·rw[<-hq];exact r
  ·have h1:¬ decide (a.n=n)=true:=fun z=>hq (e ▸ G' z);have h2:¬ decide (q.1=n)=true:=fun z=>hq (G' z);have f1:(a::as).find? (fun a=>decide (a.n=n))=as.find? (fun a=>decide (a.n=n)):=List.find?_cons_of_neg h1;have f2:aO (q::qs) n=aO qs n:=by
    unfold aO;rw[List.find?_cons_of_neg (p:=fun q:Str×Th=>decide (q.1=n)) h2]
   rw[f1,f2];exact ih.imp id fun⟨a,th,j,h1,h2,h3,h4,h5,h6⟩=>⟨a,th,j+1,h1,h2,h3,h4,by simpa using h5,by simpa using h6⟩
theorem Bk.added {c:Cs}{H H1 H2 H':Hp}{x L D U:Addr}{all:List Vx}{M:MM}{Ps Fs:List MM}{es us:List Dd}{F:Addr->Prop}{vw:Vw}{ps fs:List Vw}(b:BQ c.B c.V c.D H x L D U all M Ps Fs es us)(i:Is H L all M vw)(pp:Paired (Is H L all) Ps ps)(f:Gi F L D U all es us)(wv:∀ v,v∈ps\/v=vw\/v∈fs->mQ v)
  {a:Vx} {th:Th} (s1:ao H H1) (n1:H a.o=none) (n2:H a.l=none) (h1:H1 a.o=some (.ins c.V a.d (QI a.n a.tm a.l))) (h2:H1 a.l=some (.lst [])) (ht:∀ M',M' a.l=[]->NC H1 M' a th) (w':mQ (vw++[(a.n,th)]))
  {e:Dd} (eT:e.T=L) (ei:e.i=(M L).length) (eb:e.bs=[]) (ea:e.as=[.ref a.o]) (s2:ao H1 H2) (nB:H1 e.B=none) (nA:H1 e.A=none) (hd:js c.D H2 (.ref e.o) e) {ds:List V} (hD:H D=some (.lst ds)) (pD:Paired (js c.D H) ds es)
  (fr:∀ y o,H2 y=some o->y≠L->y≠D->y≠U->H' y=some o) (hL':H' L=some (.lst (M L++[.ref a.o]))) (hD':H' D=some (.lst (ds++[.ref e.o]))) (hU':H' U=some (.lst [])) :
  ∃ F',Gr F F' H/\Fr F H H'/\n6 c H' x F' (vw++[(a.n,th)]) (ps++[vw]) []:=by
 have s12:=s1.trans s2;have kT:Kept (fun _=>True) H H2:=.same s12;have b2:=(b.grow s1 n1 n2 h1 h2).kept (F:=fun _=>True) ⟨trivial,trivial,trivial,fun _ _=>trivial,fun _ _=>⟨trivial,trivial⟩⟩ (.same s2);have w2:=w'.len;rw[V']at w2;have ll:=bM i;have w2':vw.length+1<=12:=w2;have hM:n5 e M L=M L++[.ref a.o]:=by
  unfold n5;rw[eT,eh,ei,eb,ea];simp
 have mo:∀ y,y≠L->n5 e M y=M y:=fun y hy=>by
  unfold n5;exact jt (by rw[eT];exact hy)
 have wM:=b2.wf M (.inr (.inl rfl));have Tb:∀ z∈all++[a],z.l≠L:=fun z hz=>(b2.nl z hz).1;obtain⟨ux,hU,_⟩:=b2.hU;have old:∀{y:Addr},H1 y=none->∀{z o},H z=some o->y≠z:=fun {y} hy {z o} hz q=>by rw[q,s1 _ _ hz]at hy;cases hy
 have oA:∀{y:Addr},H1 y=none->y≠L/\y≠D/\y≠U/\∀ z∈all++[a],y≠z.l:=fun {y} hy=>by
  obtain⟨u0,Fp,_⟩:=b.hU;refine⟨old hy b.hL,old hy hD,old hy Fp,fun z hz=>?_⟩;rcases Zp'.mp hz with hz|hz
  ·exact old hy (b.ha z hz).2
  ·rw[Zg'.mp hz];exact fun q=>by rw[q,h2]at hy;cases hy
 have ok:Ls L D U (all++[a]) e:=⟨.inl eT,oA nB,oA nA,by rw[eb];simp,by rw[ea];simp⟩;have ft:Fits e M:=⟨by rw[ei,eb,eT];simp,by rw[eb];simp⟩;have RU:WF H2 L (all++[a]) (n5 e M) :=
  {
   vs:=(let ⟨vx,p⟩:=wM.vs;⟨vx++[a],by rw[hM];exact gN p ⟨rfl,Zi' _ (List.mem_singleton_self _)⟩⟩)
   ln:=fun z hz=>by rw[mo _ (Tb z hz)];exact wM.ln z hz
   len:=by rw[hM,V',ll];exact w2'
   out:=fun y h1 h2=>by rw[mo y h1];exact wM.out y h1 h2 }
 have i2:Is H2 L (all++[a]) M vw:=Is.kept kT (Is.grow i);have i':Is H2 L (all++[a]) (n5 e M) (vw++[(a.n,th)]):=by
  show Paired _ (n5 e M L) _;rw[hM];refine gN ?_ ?_
  ·refine bZ (fun v q hq=>?_) i2;obtain⟨z,hz,e1,e2,e3⟩:=hq;refine⟨z,hz,e1,e2,?_⟩;cases hq2:q.2 with
   |pl ss=>rw[hq2]at e3;exact⟨e3.1,by rw[mo _ (Tb z hz)];exact e3.2⟩
   |cn ld lt sl tn=>rw[hq2]at e3;exact e3
  ·refine⟨a,Zi' _ (List.mem_singleton_self _),rfl,rfl,?_⟩;have UN:a.l≠L:=Tb a (Zi' _ (List.mem_singleton_self _));have:=ht (n5 e M) (by rw[mo _ UN];exact(b.wf M (.inr (.inl rfl))).out _ UN fun z hz q=>by rw[q,(b.ha z hz).2]at n2;cases n2);show NC H2 (n5 e M) a th;cases th with
   |pl ss=>exact⟨this.1,this.2.same s2⟩
   |cn ld lt sl tn=>obtain⟨p,e1,e2⟩:=this;exact⟨p,e1,s2 _ _ e2⟩
 have B:=Bk.deed b2 i2 (bZ (fun _ _ q=>Is.kept kT (Is.grow q)) pp) (F:=fun y=>F y\/y=a.l) ⟨.inl f.L,.inl f.D,.inl f.U,fun z hz=>by
   rcases Zp'.mp hz with hz|hz
   ·exact .inl (f.l z hz)
   ·rw[Zg'.mp hz];exact .inr rfl,fun e' he=>⟨.inl (f.d e' he).1,.inl (f.d e' he).2⟩⟩ (fun v hv=>wv v (hv.imp id .inl)) hd ok ft RU i' w' (mI (fun _ e' he q=>gu (F:=fun _=>True) kT ⟨trivial,trivial⟩ q) pD) (H2:=H')
  (fun y o hy y1 y2 y3=>fr y o hy (by rw[<-eT];exact y1) y2 y3) (by rw[eT,hM];exact hL') hD' hU'
 refine⟨_,fun y hy=>?_,fun y o hy hn=>fr y o (s12 y o hy) (fun q=>hn (q ▸ f.L)) (fun q=>hn (q ▸ f.D)) (fun q=>hn (q ▸ f.U)),B⟩;rcases hy with (hy|hy)|hy|hy
 ·exact .inl hy
 ·rw[hy];exact .inr n2
 ·rw[hy];exact .inr (s1.free nB)
 ·rw[hy];exact .inr (s1.free nA)
theorem Bk.NI {c:Cs}{H H1 H':Hp}{x L D U:Addr}{all:List Vx}{M:MM}{Ps Fs:List MM}{es us:List Dd}{F:Addr->Prop}{vw:Vw}{ps fs:List Vw}(b:BQ c.B c.V c.D H x L D U all M Ps Fs es us)(i:Is H L all M vw)(pp:Paired (Is H L all) Ps ps)(f:Gi F L D U all es us)(wv:∀ v,v∈ps\/v=vw\/v∈fs->mQ v)
  {a:Vx} (ha:a∈all) {j:Nat} {ss ss':List Sg} (hj:(M L)[j]? = some (.ref a.o)) (hm:vw[j]? = some (a.n,.pl ss)) (Fq:a.tm=.non) {e:Dd} (eT:e.T=a.l) (ft:Fits e M) (lb:e.bs.length<=1) (la:e.as.length<=1) (s1:ao H H1) (nB:H e.B=none) (nA:H e.A=none) (hd:js c.D H1 (.ref e.o) e)
  (g':ig H1 (n5 e M a.l) ss') (gl:ss'.length<=200) (gg:∀ s∈ss',jM s) {ds:List V} (hD:H D=some (.lst ds)) (pD:Paired (js c.D H) ds es)
  (fr:∀ y o,H1 y=some o->y≠a.l->y≠D->y≠U->H' y=some o) (hl':H' a.l=some (.lst (n5 e M a.l))) (hD':H' D=some (.lst (ds++[.ref e.o]))) (hU':H' U=some (.lst [])) :
  ∃ F',Gr F F' H/\Fr F H H'/\n6 c H' x F' (kg vw a.n (.pl ss')) (ps++[vw]) []:=by
 have kT:Kept (fun _=>True) H H1:=.same s1;have b2:=b.kept (F:=fun _=>True) ⟨trivial,trivial,trivial,fun _ _=>trivial,fun _ _=>⟨trivial,trivial⟩⟩ kT;have mo:∀ y,y≠a.l->n5 e M y=M y:=fun y hy=>jt (by rw[eT];exact hy);have wM:=b2.wf M (.inr (.inl rfl));have YI:=wv vw (.inr (.inl rfl));have oA:∀{y:Addr},H y=none->y≠L/\y≠D/\y≠U/\∀ z∈all,y≠z.l:=fun {y} hy=>by
  obtain⟨u0,Fp,_⟩:=b.hU;exact⟨Zh' (au b.hL hy),Zh' (au hD hy),Zh' (au Fp hy),fun z hz=>Zh' (au (b.ha z hz).2 hy)⟩
 have ok:Ls L D U all e:=⟨.inr ⟨a,ha,eT⟩,oA nB,oA nA,lb,la⟩;have UN:L≠a.l:=Zh' (b.nl a ha).1;have RU:WF H1 L all (n5 e M) :=
  {
   vs:=by rw[mo L UN];exact wM.vs
   ln:=fun z hz=>by
    by_cases YJ:z.l=a.l
    ·rw[YJ];refine⟨by rw[bM g'];exact gl,fun v hv=>?_⟩;obtain⟨k,hk⟩:=getElem?_of_mem hv;obtain⟨sg,e1,e2⟩:=oo g' hk;exact⟨sg,e2,gg sg (Zf' e1)⟩
    ·rw[mo _ YJ];exact wM.ln z hz
   len:=by rw[mo L UN];exact wM.len
   out:=fun y h1 h2=>by rw[mo y (h2 a ha)];exact wM.out y h1 h2 }
 have i2:Is H1 L all M vw:=Is.kept kT i;have B:=Bk.deed b2 i2 (bZ (fun _ _ q=>Is.kept kT q) pp) f (fun v hv=>wv v (hv.imp id .inl)) hd ok ft RU (Is.line b2 i2 YI ha hj hm Fq mo g') (YI.set (Zf' hm) gl gg) (mI (fun _ e' he q=>gu (F:=fun _=>True) kT ⟨trivial,trivial⟩ q) pD) (H2:=H')
  (fun y o hy y1 y2 y3=>fr y o hy (by rw[<-eT];exact y1) y2 y3) (by rw[eT];exact hl') hD' hU'
 refine⟨_,fun y hy=>?_,fun y o hy hn=>fr y o (s1 y o hy) (fun q=>hn (q ▸ f.l a ha)) (fun q=>hn (q ▸ f.D)) (fun q=>hn (q ▸ f.U)),B⟩;rcases hy with hy|hy|hy
 ·exact .inl hy
 ·rw[hy];exact .inr nB
 ·rw[hy];exact .inr nA
def QM (H:Hp)(v:V):Th->Prop
 |.pl ss=>∃ l ys,v=.ref l/\H l=some (.lst ys)/\ig H ys ss
 |.cn ld lt sl tn=>∃ p,v=.ref p/\H p=some (.tup [.str ld,.int lt,.int sl,.bl tn])
def Aj (H:Hp)(kv:Key×V)(q:Str×Th):Prop:=kv.1=Sum.inr q.1/\QM H kv.2 q.2
def lg (H:Hp)(d:Addr)(vw:Vw):Prop:=∃ kvs,H d=some (.dK kvs)/\Paired (Aj H) kvs vw
theorem QM.same {H H':Hp}(s:ao H H'){v:V}{th:Th}(h:QM H v th):QM H' v th:=by
 cases th with
 |pl ss=>obtain⟨l,ys,e1,e2,e3⟩:=h;exact⟨l,ys,e1,s _ _ e2,e3.same s⟩
 |cn ld lt sl tn=>obtain⟨p,e1,e2⟩:=h;exact⟨p,e1,s _ _ e2⟩
theorem Aj.same {H H':Hp}(s:ao H H'){kv:Key×V}{q:Str×Th}(h:Aj H kv q):Aj H' kv q:=⟨h.1,h.2.same s⟩
theorem lg.same {H H':Hp}(s:ao H H'){d:Addr}{vw:Vw}(h:lg H d vw):lg H' d vw:=by
 obtain⟨kvs,e,p⟩:=h;exact⟨kvs,s _ _ e,bZ (fun _ _ q=>q.same s) p⟩
theorem ID {H:Hp}{kvs:List (Key×V)}{vw:Vw}(h:Paired (Aj H) kvs vw){n:Str}{th:Th}(hf:aO vw n=some th):∃ v,kY kvs (Sum.inr n)=some v/\QM H v th:=by
 induction h with
 |nil=>cases hf
 | @cons kv q as qs r t ih =>
  by_cases hq:q.1=n
  ·have e:aO (q::qs) n=some q.2:=by
    unfold aO;rw[List.find?_cons_of_pos (p:=fun q:Str×Th=>decide (q.1=n)) (A' hq)];rfl
   rw[e]at hf;cases hf;refine⟨kv.2,?_,r.2⟩;unfold kY;rw[List.find?_cons_of_pos (p:=fun kv:Key×V=>decide (kv.1=Sum.inr n)) (A' (by rw[r.1,hq]))];rfl
  ·have e:aO (q::qs) n=aO qs n:=by
    unfold aO;rw[List.find?_cons_of_neg (p:=fun q:Str×Th=>decide (q.1=n)) (fun z=>hq (G' z))]
   rw[e]at hf;obtain⟨v,h1,h2⟩:=ih hf;refine⟨v,?_,h2⟩;unfold kY at h1 ⊢;rw[List.find?_cons_of_neg (p:=fun kv:Key×V=>decide (kv.1=Sum.inr n)) (fun z=>hq (Sum.inr.inj (r.1.symm.trans (G' z))))];exact h1
theorem lg.get {H:Hp}{d:Addr}{vw:Vw}(h:lg H d vw){n:Str}{th:Th}(hf:aO vw n=some th):∃ v,kZ H d (.str n) (some v)/\QM H v th:=by
 obtain⟨kvs,e,p⟩:=h;obtain⟨v,h1,h2⟩:=ID p hf;refine⟨v,?_,h2⟩;have:=kZ.k (k:=Sum.inr n) e;rw[h1]at this;exact this
theorem lg.keys {H:Hp}{d:Addr}{vw:Vw}(h:lg H d vw):∃ kvs,H d=some (.dK kvs)/\(kvs.map fun kv=>kV kv.1)=vw.map fun q=>V.str q.1:=by
 obtain⟨kvs,e,p⟩:=h;refine⟨kvs,e,?_⟩;clear e
 induction p with
 |nil=>rfl
 |cons r _ ih=>rw[map_cons,map_cons,ih,r.1];rfl
theorem Bk.UO {CB CV CD:Addr}{H:Hp}{x:Addr}{F:Addr->Prop}{vw:Vw}{ps fs:List Vw}(h:Bk CB CV CD H x F vw ps fs):∃ F0:Addr->Prop,(∀ y,F0 y->F y)/\(∀ y,F0 y->∃ xs,H y=some (.lst xs))/\Bk CB CV CD H x F0 vw ps fs:=by
 obtain⟨L,D,U,all,M,Ps,Fs,es,us,b,i,pp,pf,f⟩:=h.ex;obtain⟨ds,hD,pD⟩:=b.hD;obtain⟨ux,hU,pU⟩:=b.hU;have dd:∀ e,e∈es\/e∈us->H e.B=some (.lst e.bs)/\H e.A=some (.lst e.as):=fun e he=>by
  rcases he with he|he
  ·obtain⟨k,hk⟩:=getElem?_of_mem he;obtain⟨v,_,q⟩:=lq pD hk;exact⟨q.2.2.1,q.2.2.2⟩
  ·obtain⟨k,hk⟩:=getElem?_of_mem he;obtain⟨v,_,q⟩:=lq pU hk;exact⟨q.2.2.1,q.2.2.2⟩
 refine⟨fun y=>y=L\/y=D\/y=U\/(∃ a∈all,y=a.l)\/∃ e,(e∈es\/e∈us)/\(y=e.B\/y=e.A),fun y hy=>?_,fun y hy=>?_,⟨⟨L,D,U,all,M,Ps,Fs,es,us,b,i,pp,pf,⟨.inl rfl,.inr (.inl rfl),.inr (.inr (.inl rfl)),fun a ha=>.inr (.inr (.inr (.inl ⟨a,ha,rfl⟩))),fun e he=>⟨.inr (.inr (.inr (.inr ⟨e,he,.inl rfl⟩))),.inr (.inr (.inr (.inr ⟨e,he,.inr rfl⟩)))⟩⟩⟩,h.wv⟩⟩
 ·rcases hy with rfl|rfl|rfl|⟨a,ha,rfl⟩|⟨e,he,rfl|rfl⟩
  ·exact f.L
  ·exact f.D
  ·exact f.U
  ·exact f.l a ha
  ·exact(f.d e he).1
  ·exact(f.d e he).2
 ·rcases hy with rfl|rfl|rfl|⟨a,ha,rfl⟩|⟨e,he,rfl|rfl⟩
  ·exact⟨_,b.hL⟩
  ·exact⟨_,hD⟩
  ·exact⟨_,hU⟩
  ·exact⟨_,(b.ha a ha).2⟩
  ·exact⟨_,(dd e he).1⟩
  ·exact⟨_,(dd e he).2⟩
def Xt (own:List Addr)(H H':Hp):Prop:=∀ y o,H y=some o->((∀ xs,o≠.lst xs)\/y∈own)->H' y=some o
section
variable {c:Cs} {H H' H1:Hp} {x:Addr} {own:List Addr} {vw J6:Vw} {ps ps' fs fs':List Vw} {F F':Addr->Prop}
end
end cC
namespace L2
open PySem PySem.Spec PyProof.Rows
variable {X:Cx}
def R0:V->List V->Hp->VK->Prop:=fun x vs H Q=>∃(l:Addr)(ys:List Str)(z:Str)(j:Nat),x=.ref l/\vs=[.str z]/\H l=some (.lst (ys.map V.str))/\ys[j]? = some z/\(∀ i,i<j->ys[i]? ≠ some z)/\Q (.int j) H
theorem NJ:Rl X "list.index" R0:=by
 intro pins s σ H x vs v us Q I rx rv h;obtain⟨l,ys,k,j,rfl,rfl,hH,hj,hno,q⟩:=h;cases rx;obtain⟨u,rfl,t,rfl⟩:=rv.one;obtain⟨z,its,n,r,hl,e⟩:=I.BO hH;have ha:=zP r;have at_:∀{i:Nat} {y:Str},ys[i]? = some y->∃ t',its[i]? = some (.str y t'):=fun {i y} hy=>by
  obtain⟨u,hu,t',rfl⟩:=r.get (i:=i) (x:=.str y) (by rw[Zd',hy];rfl);exact⟨t',hu⟩
 have ln:its.length=ys.length:=by rw[<-L' (f:=V.str) (as:=ys)];exact hl.symm
 have hjl:j<ys.length:=(K'.mp hj).1;obtain⟨tj,ej⟩:=at_ hj;have b:sizeLine<2 ^ 60:=by decide
 have z':ys.length<=sizeLine:=by rw[<-L' (f:=V.str) (as:=ys)];exact z
 refine call_meets F.slot_list_index ⟨_,e,rfl⟩ F.entry_list_index (F.args_list_index_2 _ _)
  (MeetsSeq.list_index l its.toArray n (.str k t) (isStrOf k) (fun y hy=>eq_isStrOf k t ha y (by simpa using hy)) j (by rw[Ze'];omega) (by omega) ?_ ?_) ⟨e,?_⟩
 ·have:its.toArray[j]'(by rw[Ze'];omega)=.str k tj:=by
   have:=(K'.mp ej).2
   simpa using this
  rw[this];exact beq_self_eq_true k
 ·intro i hi hlt;have hil:i<ys.length:=by omega
  have hy:ys[i]? = some ys[i]:=N' hil;obtain⟨ti,ei⟩:=at_ hy;have:its.toArray[i]'hi=.str ys[i] ti:=by
   have:=(K'.mp ei).2
   simpa using this
  rw[this];exact beq_eq_false_iff_ne.mpr fun z=>hno i hlt (by rw[hy,z])
 ·exact⟨.int j,H,I.tok _,⟨_,rfl⟩,q⟩
end L2
namespace cC
open PySem L2
theorem Bk.dropped {c:Cs}{H H1 H':Hp}{x L D U:Addr}{all:List Vx}{M:MM}{Ps Fs:List MM}{es us:List Dd}{F:Addr->Prop}{vw:Vw}{ps fs:List Vw}(b:BQ c.B c.V c.D H x L D U all M Ps Fs es us)(i:Is H L all M vw)(pp:Paired (Is H L all) Ps ps)(f:Gi F L D U all es us)(wv:∀ v,v∈ps\/v=vw\/v∈fs->mQ v)
  {j:Nat} {v:V} (hj:(M L)[j]? = some v) (w':mQ (vw.take j++vw.drop (j+1))) {e:Dd} (eT:e.T=L) (ei:e.i=j) (eb:e.bs=[v]) (ea:e.as=[]) (s1:ao H H1) (nB:H e.B=none) (nA:H e.A=none) (hd:js c.D H1 (.ref e.o) e)
  {ds:List V} (hD:H D=some (.lst ds)) (pD:Paired (js c.D H) ds es)
  (fr:∀ y o,H1 y=some o->y≠L->y≠D->y≠U->H' y=some o) (hL':H' L=some (.lst ((M L).take j++(M L).drop (j+1)))) (hD':H' D=some (.lst (ds++[.ref e.o]))) (hU':H' U=some (.lst [])) :
  ∃ F',Gr F F' H/\Fr F H H'/\n6 c H' x F' (vw.take j++vw.drop (j+1)) (ps++[vw]) []:=by
 have kT:Kept (fun _=>True) H H1:=.same s1;have b2:=b.kept (F:=fun _=>True) ⟨trivial,trivial,trivial,fun _ _=>trivial,fun _ _=>⟨trivial,trivial⟩⟩ kT;have hjl:j<(M L).length:=(K'.mp hj).1;have hM:n5 e M L=(M L).take j++(M L).drop (j+1):=by
  unfold n5;rw[eT,eh,ei,eb,ea];simp
 have mo:∀ y,y≠L->n5 e M y=M y:=fun y hy=>jt (by rw[eT];exact hy);have wM:=b2.wf M (.inr (.inl rfl));have Tb:∀ z∈all,z.l≠L:=fun z hz=>(b2.nl z hz).1;have oA:∀{y:Addr},H y=none->y≠L/\y≠D/\y≠U/\∀ z∈all,y≠z.l:=fun {y} hy=>by
  obtain⟨u0,Fp,_⟩:=b.hU;exact⟨Zh' (au b.hL hy),Zh' (au hD hy),Zh' (au Fp hy),fun z hz=>Zh' (au (b.ha z hz).2 hy)⟩
 have ok:Ls L D U all e:=⟨.inl eT,oA nB,oA nA,by rw[eb];simp,by rw[ea];simp⟩;have ft:Fits e M:=by
  refine⟨by rw[ei,eb,eT];exact hjl,?_⟩;rw[eb,eT,ei];show((M L).drop j).take 1=[v];rw[List.drop_eq_getElem_cons hjl,List.take_succ_cons,List.take_zero];rw[(K'.mp hj).2]
 have RU:WF H1 L all (n5 e M) :=
  {
   vs:=(let ⟨vx,p⟩:=wM.vs;⟨vx.take j++vx.drop (j+1),by rw[hM];exact qU (pW j p) (rq (j+1) p)⟩)
   ln:=fun z hz=>by rw[mo _ (Tb z hz)];exact wM.ln z hz
   len:=by rw[hM,V',Zo',Yd'];have:=wM.len;omega
   out:=fun y h1 h2=>by rw[mo y h1];exact wM.out y h1 h2 }
 have i2:Is H1 L all M vw:=Is.kept kT i;have i3:Paired (IB H1 all (n5 e M)) (M L) vw:=by
  refine bZ (fun v q hq=>?_) i2;obtain⟨z,hz,e1,e2,e3⟩:=hq;refine⟨z,hz,e1,e2,?_⟩;cases hq2:q.2 with
  |pl ss=>rw[hq2]at e3;exact⟨e3.1,by rw[mo _ (Tb z hz)];exact e3.2⟩
  |cn ld lt sl tn=>rw[hq2]at e3;exact e3
 have i':Is H1 L all (n5 e M) (vw.take j++vw.drop (j+1)):=by
  show Paired _ (n5 e M L) _;rw[hM];exact qU (pW j i3) (rq (j+1) i3)
 have B:=Bk.deed b2 i2 (bZ (fun _ _ q=>Is.kept kT q) pp) f (fun v hv=>wv v (hv.imp id .inl)) hd ok ft RU i' w' (mI (fun _ e' he q=>gu (F:=fun _=>True) kT ⟨trivial,trivial⟩ q) pD) (H2:=H')
  (fun y o hy y1 y2 y3=>fr y o hy (by rw[<-eT];exact y1) y2 y3) (by rw[eT,hM];exact hL') hD' hU'
 refine⟨_,fun y hy=>?_,fun y o hy hn=>fr y o (s1 y o hy) (fun q=>hn (q ▸ f.L)) (fun q=>hn (q ▸ f.D)) (fun q=>hn (q ▸ f.U)),B⟩;rcases hy with hy|hy|hy
 ·exact .inl hy
 ·rw[hy];exact .inr nB
 ·rw[hy];exact .inr nA
noncomputable def kh (n:Str)(q:Str×Th):Bool:=match q.2 with
 |.cn ld _ _ _=>decide (ld=n)
 |.pl _=>false
noncomputable def leans (vw:Vw)(n:Str):Bool:=vw.any (kh n)
noncomputable def iL (vw:Vw)(n:Str):Vw:=vw.filter fun q=>!decide (q.1=n)
theorem IE {n:Str}:∀{vw:Vw},(∀ q∈vw,q.1≠n)->iL vw n=vw:=fun {vw} h =>
 List.filter_eq_self.mpr fun q hq=>by rw[J' (h q hq)];rfl
theorem Ak {n:Str}{th:Th}:∀{vw:Vw} {j:Nat},(vw.map (·.1)).Nodup->vw[j]? = some (n,th)->iL vw n=vw.take j++vw.drop (j+1)
 |[],_,_,h=>by simp at h
 |q::vw,0,nd,h=>by
  simp only [List.getElem?_cons_zero,Option.some.injEq]at h;rw[map_cons]at nd;obtain⟨n1,_⟩:=List.nodup_cons.mp nd;unfold iL;rw[List.filter_cons_of_neg (by rw[h];simp)];refine IE fun q' hq' e=>n1 ?_;rw[h];exact e ▸ mem_map.mpr ⟨q',hq',rfl⟩
 |q::vw,j+1,nd,h=>by
  rw[List.getElem?_cons_succ]at h;rw[map_cons]at nd;obtain⟨n1,n2⟩:=List.nodup_cons.mp nd;have ne:q.1≠n:=fun e=>n1 (e ▸ mem_map.mpr ⟨(n,th),Zf' h,rfl⟩);unfold iL;rw[List.filter_cons_of_pos (by rw[J' ne];rfl)];have:=Ak n2 h;unfold iL at this;rw[this];rfl
theorem qR {vw:Vw}{n:Str}{q:Str×Th}:q∈iL vw n ↔ q∈vw/\q.1≠n:=by
 unfold iL;rw[List.mem_filter];simp
theorem mQ.dropped {vw:Vw}(w:mQ vw){n:Str}(h:leans vw n=false):mQ (iL vw n) where
 nd:=List.Sublist.nodup (List.Sublist.map _ List.filter_sublist) w.nd
 ld:=fun m ld lt sl tn hm=>by
  obtain⟨hm,_⟩:=qR.mp hm;obtain⟨⟨ss,hs⟩,r⟩:=w.ld m ld lt sl tn hm;refine⟨⟨ss,qR.mpr ⟨hs,fun e=>?_⟩⟩,r⟩;have:=List.any_eq_false.mp h _ hm;exact this (A' e)
 gd:=fun m ss hm=>w.gd m ss (qR.mp hm).1
 len:=Zb' (List.length_filter_le _ _) w.len
end cC
namespace L2
open PySem PySem.Spec PyProof.Rows
theorem Pu {z:Str}{g:TG}{tb:TS}{D:Ends}{σ:St}{H:Hp}(Pv:Nat->St->Hp->Prop)(h0:Pv 0 σ H)
  (hs:∀ i c σ H,z.cps[i]? = some c->Pv i σ H->g (.str ⟨#[c]⟩) σ H fun σ2 H2=>tb { D with nx:=Pv (i+1),ct:=Pv (i+1),bk:=D.nx } σ2 H2) (hd:∀ σ H,Pv z.cps.size σ H->D.nx σ H) :
  ∃ W:Nat->Nat->St->Hp->Prop,(∃ m,W 0 m σ H)/\∀ i m σ H,W i m σ H ->
   ((SO z).stop i H/\D.nx σ H)\/((SO z).go i H/\∃ N:St->Hp->Prop,(∀ σ' H',N σ' H'->∃ m',m'<m/\W (i+1) m' σ' H')/\∀ x H',(SO z).KZ i H x H'->g x σ H' fun σ2 H2=>tb { D with nx:=N,ct:=N,bk:=D.nx } σ2 H2):=by
 refine⟨fun i m σ H=>m=z.cps.size-i/\i<=z.cps.size/\Pv i σ H,⟨z.cps.size,by simp,Zq' _,h0⟩,?_⟩;rintro i m σ H ⟨rfl,hi,p⟩
 by_cases hlt:i<z.cps.size
 ·refine .inr ⟨hlt,Pv (i+1),fun σ' H' p'=>⟨z.cps.size-(i+1),by omega,rfl,hlt,p'⟩,fun x H' y=>?_⟩;obtain⟨e,c,hc,rfl⟩:=y;subst e;exact hs i c σ _ hc p
 ·have e:i=z.cps.size:=by omega
  subst e;exact .inl ⟨R' _,hd σ H p⟩
end L2
namespace cC
open PySem L2
noncomputable def gQ (ks:List Kd):Nat->Nat->Nat
 |0,_=>0
 |p+1,met=>if(if(ks.getD p .dot).small=true then met else met+1)=2 then p else gQ ks p (if(ks.getD p .dot).small=true then met else met+1)
noncomputable def rB (wide:Bool)(k:Kd):Bool:=if wide=true then k.meas else k.parting
noncomputable def tZ (ks:List Kd)(i:Nat)(wide:Bool):Nat:=i+((ks.drop i).takeWhile fun k=>!rB wide k).length
noncomputable def IF (wide:Bool):List V:=if wide=true then [.str "3",.str "2"] else [.str ".",.str "3",.str "2"]
theorem NK (wide:Bool)(k:Kd):inV (.str k.str) (IF wide)=rB wide k:=by cases wide <;> cases k <;> decide +kernel
noncomputable def ED (ss:List Sg)(i b:Nat)(ch:List Sg):List V:=[.int (gQ (bj ss) i 0:Nat),.int (tZ (bj ss) b (ch.any fun s=>s.1.meas):Nat)]
theorem Gj {p:Kd->Bool}:∀{l:List Kd} {j:Nat} {k:Kd},(∀ m x,m<j->l[m]? = some x->p x=true)->l[j]? = some k->p k=false->(l.takeWhile p).length=j
 |[],_,_,_,h,_=>by simp at h
 |x::l,0,k,_,h,hk=>by
  simp only [List.getElem?_cons_zero,Option.some.injEq]at h;rw[h,List.takeWhile_cons_of_neg (by rw[hk];decide)];rfl
 |x::l,j+1,k,hi,h,hk=>by
  rw[List.takeWhile_cons_of_pos (hi 0 x (Nat.succ_pos _) rfl),Ya',Gj (l:=l) (j:=j) (fun m y hm hy=>hi (m+1) y (Nat.succ_lt_succ hm) (by simpa using hy)) (by simpa using h) hk]
theorem CN {p:Kd->Bool}:∀{l:List Kd},(∀(m:Nat)(x:Kd),l[m]? = some x->p x=true)->(l.takeWhile p).length=l.length
 |[],_=>rfl
 |x::l,h=>by
  rw[List.takeWhile_cons_of_pos (h 0 x rfl),Ya',Ya',CN (l:=l) fun m y hy=>h (m+1) y (by simpa using hy)]
theorem J9 {ks:List Kd}{i j:Nat}{wide:Bool}{k:Kd}(hi:∀ m x,m<j->ks[i+m]? = some x->rB wide x=false)(h:ks[i+j]? = some k)(hk:rB wide k=true):tZ ks i wide=i+j:=by
 unfold tZ;rw[Gj (j:=j) (k:=k) (fun m x hm hx=>by rw[getElem?_drop]at hx;rw[hi m x hm hx];rfl) (by rw[getElem?_drop];exact h) (by rw[hk];rfl)]
theorem Gk {ks:List Kd}{i:Nat}{wide:Bool}(hl:i<=ks.length)(hi:∀(m:Nat)(x:Kd),ks[i+m]? = some x->rB wide x=false):tZ ks i wide=ks.length:=by
 unfold tZ;rw[CN (fun m x hx=>by rw[getElem?_drop]at hx;rw[hi m x hx];rfl),Yd'];omega
noncomputable def kdOf (k:Str):Kd:=if k = "G" then .G else if k = "D" then .D else if k = "R" then .R else if k = "s" then .s else if k = "d" then .d else if k = "r" then .r else if k = "." then .dot else if k = "3" then .three else .two
theorem NL (k:Kd):kdOf k.str=k:=by cases k <;> decide +kernel
noncomputable def ki (s:Sn):Sg:=(kdOf s.1,s.2)
theorem t6 {s:Sg}{n:Sn}(h1:s.1.str=n.1)(h2:s.2=n.2):ki n=s:=by
 unfold ki;rw[<-h1,<-h2,NL]
theorem Gm {n:Sn}(h:dO n=true):(ki n).1.str=n.1/\(ki n).2=n.2/\jM (ki n):=by
 obtain⟨s,h1,h2,g⟩:=EB h;rw[t6 h1 h2];exact⟨h1,h2,g⟩
inductive Wy where
 |put|cut|swap|add|canon|drop|undo|lh
 deriving DecidableEq
noncomputable def Wy.str:Wy->Str
 |.put=>"put" | .cut=>"cut" | .swap=>"swap" | .add=>"add" | .canon=>"canon" | .drop=>"drop" | .undo=>"undo" | .lh=>"redo"
structure De where
 wy:Wy
 n:Str
 ld:Str
 pl:Int
 sg:Sn
 lt:Int
 sl:Int
 tn:Bool
structure Xu (H:Hp)(v:V)(d:De):Prop where
 ex:∃ p xs,v=.ref p/\H p=some (.tup xs)/\xs[0]? = some (.str d.wy.str)/\xs[1]? = some (.str d.n)/\(d.wy=.put\/d.wy=.swap->∃ ps,xs[4]? = some (.ref ps)/\H ps=some (.tup [.str d.sg.1,.int d.sg.2]))/\(d.wy=.canon->xs[2]? = some (.str d.ld)/\xs[5]? = some (.int d.lt)/\xs[6]? = some (.int d.sl)/\xs[7]? = some (.bl d.tn))
def ot (H:Hp)(v:V)(d:De):Prop:=∃ p ps,v=.ref p/\H p=some (.tup [.str d.wy.str,.str d.n,.str d.ld,.int d.pl,.ref ps,.int d.lt,.int d.sl,.bl d.tn])/\H ps=some (.tup [.str d.sg.1,.int d.sg.2])
theorem ot.short {H:Hp}{v:V}{d:De}(h:ot H v d):Xu H v d:=by
 obtain⟨p,ps,e,h1,h2⟩:=h;exact⟨p,_,e,h1,rfl,rfl,fun _=>⟨ps,rfl,h2⟩,fun _=>⟨rfl,rfl,rfl,rfl⟩⟩
theorem ot.same {H H':Hp}(s:ao H H'){v:V}{d:De}(h:ot H v d):ot H' v d:=by
 obtain⟨p,ps,e,h1,h2⟩:=h;exact⟨p,ps,e,s _ _ h1,s _ _ h2⟩
def Tc (H:Hp)(v:V)(vw:Vw):Prop:=∃ d,v=.ref d/\lg H d vw
theorem Tc.same {H H':Hp}(s:ao H H'){v:V}{vw:Vw}(h:Tc H v vw):Tc H' v vw:=by
 obtain⟨d,e,h⟩:=h;exact⟨d,e,h.same s⟩
structure Std where
 vw:Vw
 ps:List Vw
 fs:List Vw
def BR (H:Hp)(v:V)(st:Std):Prop:=∃ p d a b xs ys,v=.ref p/\H p=some (.tup [.ref d,.ref a,.ref b])/\lg H d st.vw/\H a=some (.lst xs)/\Paired (Tc H) xs st.ps/\H b=some (.lst ys)/\Paired (Tc H) ys st.fs
theorem BR.same {H H':Hp}(s:ao H H'){v:V}{st:Std}(h:BR H v st):BR H' v st:=by
 obtain⟨p,d,a,b,xs,ys,e,h1,h2,h3,h4,h5,h6⟩:=h;exact⟨p,d,a,b,xs,ys,e,s _ _ h1,h2.same s,s _ _ h3,bZ (fun _ _ q=>q.same s) h4,s _ _ h5,bZ (fun _ _ q=>q.same s) h6⟩
def en (lt sl:Int):Prop:=0<=lt/\lt<=999/\1<=sl/\sl<=9
instance (lt sl:Int):Decidable (en lt sl):=by unfold en;exact inferInstance
noncomputable def bY (vw:Vw)(n:Str):Option Rf:=if nameB n=false then some .zE else if(aO vw n).isSome then some .qQ else if 12<=vw.length then some .Full else none
noncomputable def dP (vw:Vw)(ld:Str)(lt sl:Int):Option Rf:=match aO vw ld with
 |none=>some .dm
 |some (.cn _ _ _ _)=>some .eJ
 |some (.pl _)=>if en lt sl then none else some .lB
noncomputable def gU (vw:Vw)(n:Str):Option Rf:=match aO vw n with
 |none=>some .dm
 |some _=>if leans vw n=true then some .p5 else none
noncomputable def iw (vw:Vw)(wy:Wy)(n:Str)(at_:Int)(sg:Sn):Option Rf:=match aO vw n with
 |none=>some .dm
 |some (.cn _ _ _ _)=>some .eJ
 |some (.pl ss)=>if at_<0\/(ss.length:Int)+(if wy=.put then 1 else 0)<=at_ then some .jY else if wy≠.cut/\dO sg=false then some .lz else if wy=.put/\200<=ss.length then some .Full else none
noncomputable def dS (st:Std)(d:De)(at_:Int):Option Rf:=match d.wy with
 |.undo=>if st.ps=[] then some .gi else none
 |.lh=>if st.fs=[] then some .gi else none
 |.drop=>gU st.vw d.n
 |.add=>bY st.vw d.n
 |.canon=>match bY st.vw d.n with
  |some r=>some r
  |none=>dP st.vw d.ld d.lt d.sl
 |w=>iw st.vw w d.n at_ d.sg
noncomputable def bC (ss:List Sg)(wy:Wy)(sg:Sn)(i:Nat):List Sg:=match wy with
 |.cut=>ss.take i++[]++ss.drop (i+1)
 |.swap=>ss.take i++[ki sg]++ss.drop (i+1)
 |_=>ss.take i++[ki sg]++ss.drop i
noncomputable def gJ (vw:Vw)(n:Str):List Sg:=match aO vw n with
 |some (.pl ss)=>ss
 |_=>[]
noncomputable def dQ (st:Std)(d:De)(at_:Int):Std:=match d.wy with
 |.undo=>⟨st.ps.getLast?.getD [],st.ps.dropLast,st.fs++[st.vw]⟩
 |.lh=>⟨st.fs.getLast?.getD [],st.ps++[st.vw],st.fs.dropLast⟩
 |.drop=>⟨iL st.vw d.n,st.ps++[st.vw],[]⟩
 |.add=>⟨st.vw++[(d.n,.pl [])],st.ps++[st.vw],[]⟩
 |.canon=>⟨st.vw++[(d.n,.cn d.ld d.lt d.sl d.tn)],st.ps++[st.vw],[]⟩
 |w=>⟨kg st.vw d.n (.pl (bC (gJ st.vw d.n) w d.sg at_.toNat)),st.ps++[st.vw],[]⟩
def jN (H:Hp)(st:Std)(d:De)(at_:Int)(v:V):Prop:=match d.wy with
 |.put=>∃ w,v=.ref w/\H w=some (.tup (ED (bC (gJ st.vw d.n) .put d.sg at_.toNat) at_.toNat (at_.toNat+1) [ki d.sg]))
 |.cut=>∃ w,v=.ref w/\∃ s,(gJ st.vw d.n)[at_.toNat]? = some s/\H w=some (.tup (ED (bC (gJ st.vw d.n) .cut d.sg at_.toNat) at_.toNat at_.toNat [s]))
 |.swap=>∃ w,v=.ref w/\∃ s,(gJ st.vw d.n)[at_.toNat]? = some s/\H w=some (.tup (ED (bC (gJ st.vw d.n) .swap d.sg at_.toNat) at_.toNat (at_.toNat+1) [s,ki d.sg]))
 |_=>v=.non
noncomputable def Rf.str:Rf->Str
 |.lz=>"BadSign" | .zE=>"BadName" | .qQ=>"NameTaken" | .Full=>"Full" | .dm=>"NoVoice" | .eJ=>"NotPlain" | .jY=>"NoPlace" | .lB=>"BadTerm" | .p5=>"Leaned" | .gi=>"NoMore"
noncomputable def qW:Option Rf->Str
 |none=>""
 |some r=>r.str
noncomputable def t7 (vw:Vw)(n:Str):Int:=match aO vw n with
 |some (.pl ss)=>ss.length
 |_=>5
noncomputable def bH (vw:Vw)(d:De):Int:=if d.pl % 16=7 then([-1,-t7 vw d.n-1,t7 vw d.n+40,10 ^ 12].getD (d.pl / 16 % 4).toNat 0) else d.pl / 16 % (t7 vw d.n+2)
theorem bD {K:Frag}{H:Hp}{p:Addr}{xs:List V}{i:Nat}{v:V}{Q:VK}(h:H p=some (.tup xs))(e:xs[i]? = some v)(q:Q v H):Eg K (.ref p) (.int (i:Int)) H Q\/Eh K (.ref p) (.int (i:Int)) H Q\/Ei (.ref p) (.int (i:Int)) H Q:=.inr (.inl ⟨p,_,i,v,rfl,rfl,jf.of h,qM e,q⟩)
theorem IG {H:Hp}{kvs:List (Key×V)}{vw:Vw}(h:Paired (Aj H) kvs vw){n:Str}(hf:aO vw n=none):kY kvs (Sum.inr n)=none:=by
 cases e:kY kvs (Sum.inr n) with
 |none=>rfl
 |some v =>
  have hm:=Pj e;obtain⟨kv,hk,hk2⟩:=mem_map.mp hm;obtain⟨i,hi⟩:=getElem?_of_mem hk;obtain⟨q,hq,r⟩:=oo h hi;exact S' (Sum.inr.inj (r.1.symm.trans hk2)) (iZ hf q (Zf' hq))
theorem lg.look {H:Hp}{d:Addr}{vw:Vw}(h:lg H d vw)(n:Str):(aO vw n=none/\kZ H d (.str n) none)\/∃ th v,aO vw n=some th/\kZ H d (.str n) (some v)/\QM H v th:=by
 cases e:aO vw n with
 |none =>
  obtain⟨kvs,e1,p⟩:=h;have:=kZ.k (k:=Sum.inr n) e1;rw[IG p e]at this;exact .inl ⟨rfl,this⟩
 |some th =>
  obtain⟨v,h1,h2⟩:=h.get e;exact .inr ⟨th,v,rfl,h1,h2⟩
theorem lg.len {H:Hp}{d:Addr}{vw:Vw}(h:lg H d vw):∃ kvs,H d=some (.dK kvs)/\kvs.length=vw.length:=by
 obtain⟨kvs,e,p⟩:=h;exact⟨kvs,e,bM p⟩
theorem Gn {H H':Hp}{a:Addr}{y:V}{r:Option V}(s:ao H H')(h:kZ H a y r):kZ H' a y r:=by
 have rd:∀{u},Rd H a u->Rd H' a u:=fun z=>z.imp (fun e=>s _ _ e) fun⟨o,e⟩=>⟨o,s _ _ e⟩;rcases h with ⟨kvs,k,e,e2,e3⟩|⟨kvs,k,b,e,e2,e3,e4⟩
 ·exact .inl ⟨kvs,k,rd e,e2,e3⟩
 ·exact .inr ⟨kvs,k,b,rd e,e2,s _ _ e3,e4⟩
theorem gw {vw:Vw}{wy:Wy}{n:Str}{a:Int}{sg:Sn}(h:aO vw n=none):iw vw wy n a sg=some .dm:=by unfold iw;rw[h]
theorem i0 {vw:Vw}{wy:Wy}{n ld:Str}{a lt sl:Int}{tn:Bool}{sg:Sn}(h:aO vw n=some (.cn ld lt sl tn)):iw vw wy n a sg=some .eJ:=by unfold iw;rw[h]
theorem i4 {vw:Vw}{wy:Wy}{n:Str}{a:Int}{sg:Sn}{ss:List Sg}(h:aO vw n=some (.pl ss)):iw vw wy n a sg=if a<0\/(ss.length:Int)+(if wy=.put then 1 else 0)<=a then some .jY else if wy≠.cut/\dO sg=false then some .lz else if wy=.put/\200<=ss.length then some .Full else none:=by unfold iw;rw[h]
theorem fO (a b:Wy):decide (V.str a.str=V.str b.str)=decide (a=b):=by cases a <;> cases b <;> decide +kernel
noncomputable def jh:List Str:=["G","D","R","s","d","r",".","3","2","g",""]
theorem NM {k:Str}(h:k∈jh):(decide (k.length=1)&&wu k "GDRsdr.32")=(inV (.str k) hI||inV (.str k) ff)/\(inV (.str k) hI=true->wu k "Rr.32" = false)/\(inV (.str k) ff=true->wu k "Rr.32" = true/\inV (.str k) hI=false):=by
 have:jh.all (fun k=>decide ((decide (k.length=1)&&wu k "GDRsdr.32")=(inV (.str k) hI||inV (.str k) ff))&&(!inV (.str k) hI || !wu k "Rr.32")&&(!inV (.str k) ff||(wu k "Rr.32" && !inV (.str k) hI)))=true:=by lk
 have:=all_eq_true.mp this k h;simp only [Bool.and_eq_true,decide_eq_true_eq,Bool.or_eq_true,Bool.not_eq_true']at this;obtain⟨⟨h1,h2⟩,h3⟩:=this;refine⟨h1,fun z=>?_,fun z=>?_⟩
 ·rcases h2 with h2|h2
  ·rw[z]at h2;cases h2
  ·exact h2
 ·rcases h3 with h3|h3
  ·rw[z]at h3;cases h3
  ·exact h3
theorem R1 {k:Str}(h:k∈jh):k.length<=1:=by
 have:jh.all (fun k=>decide (k.length<=1))=true:=by lk
 exact G' (all_eq_true.mp this k h)
noncomputable def Gp (s:Sn):Bool:=decide (s.1.length=1)&&(wu s.1 "GDRsdr.32" && (decide (0<=s.2)&&decide (s.2<100)))
theorem Lv {s:Sn}(h:s.1∈jh):(!Gp s||(!decide (s.2=0)&&wu s.1 "Rr.32")) = !dO s:=by
 obtain⟨h1,h2,h3⟩:=NM h;unfold Gp dO;rw[<-Bool.and_assoc,h1];cases e1:inV (.str s.1) hI with
 |true =>
  rw[h2 e1,Bool.and_false,Bool.or_false,Bool.true_or,Bool.true_and]
  by_cases a:0<=s.2
  ·rw[A' a,Bool.true_and];simp only [if_true]
   congr 1
   exact decide_eq_decide.mpr (by omega)
  ·rw[J' a];simp
 |false =>
  rw[Bool.false_or];cases e2:inV (.str s.1) ff with
  |true =>
   rw[(h3 e2).1,Bool.and_true,Bool.true_and]
   by_cases a:s.2=0
   ·rw[a];decide
   ·rw[J' a];simp[a]
  |false=>simp
noncomputable def Xv (n:Str):Bool:=!decide (n.cps[0]? = ("x":Str).cps[0]?)
structure Lw (d:De):Prop where
 nl:d.n.length<=1000
 ll:d.ld.length<=1000
 sk:d.sg.1∈jh
 nx:Xv d.n=true
noncomputable def cG (s:Sg):Str:=if s.1.gI=true then s.1.str++oN s.2 else s.1.str
theorem NN (k:Kd):k.str.length=1:=by cases k <;> decide +kernel
theorem CO {s:Sg}(h:jM s):(cG s).length<=3:=by
 unfold cG;have h1:=NN s.1
 by_cases e:s.1.gI=true
 ·rw[X' e,PySem.Str.length_append];have:=Pt (h.1 e).1 (h.1 e).2;omega
 ·rw[T' e];omega
theorem Pw:(List.range 1000).all (fun n=>decide ((oN (n:Int)).length<=3))=true:=by lk
theorem Px {n:Int}(h0:0<=n)(h1:n<1000):(oN n).length<=3:=by
 have:=all_eq_true.mp Pw n.toNat (mem_range.mpr (by omega));have e:((n.toNat:Nat):Int)=n:=by omega
 rw[e]at this;exact G' this
theorem UP {n:Int}(h0:0<=n)(h1:n<1000):n.natAbs.log2<1920:=by
 have hb:n.natAbs<2 ^ 1920:=Za' (show n.natAbs<2 ^ 10 by omega) (Nat.pow_le_pow_right (by decide) (by decide))
 by_cases z:n.natAbs=0
 ·rw[z];decide
 ·exact(Nat.log2_lt z).mpr hb
theorem sy:∀{ss:List Sg},(∀ s∈ss,jM s)->((ss.map cG).map (·.length)).sum<=3 * ss.length
 |[],_=>R' _
 |s::ss,h=>by
  have h1:=CO (h s mem_cons_self);have h2:=sy fun x hx=>h x (Yc' _ hx);simp only [map_cons,List.sum_cons,Ya'];omega
noncomputable def wA (tn:Bool):Str:=if tn=true then "turned" else "straight"
noncomputable def i5 (q:Str×Th):Str:=match q.2 with
 |.pl ss=>Str.join " " ("voice" :: q.1::ss.map cG)
 |.cn ld lt sl tn=>"canon " ++ q.1 ++ " " ++ ld ++ " " ++ oN lt ++ " " ++ oN sl ++ " " ++ wA tn
noncomputable def rC (vw:Vw):Str:=Str.join "\n" (vw.map i5)
theorem join_cons (d a b:Str)(t:List Str):Str.join d (a::b::t)=a++d++Str.join d (b::t):=rfl
noncomputable def jl (c:Nat):List (List Nat)->List Nat
 |[]=>[]
 |[x]=>x
 |x::y::r=>x++c::jl c (y::r)
theorem Ka {c:Nat}:∀{a b x y:List Nat},c ∉ a->c ∉ b->a++c::x=b++c::y->a=b/\x=y
 |[],[],x,y,_,_,h=>by
  simp at h;exact⟨rfl,h⟩
 |[],d::b,x,y,_,hb,h=>by
  simp at h;exact S' (by rw[h.1];exact mem_cons_self) hb
 |d::a,[],x,y,ha,_,h=>by
  simp at h;exact S' (by rw[<-h.1];exact mem_cons_self) ha
 |d::a,e::b,x,y,ha,hb,h=>by
  simp at h;obtain⟨r1,r2⟩:=Ka (fun z=>ha (Yc' _ z)) (fun z=>hb (Yc' _ z)) h.2;exact⟨by rw[h.1,r1],r2⟩
theorem NO {c:Nat}:∀{A B:List (List Nat)},A≠[]->B≠[]->(∀ p∈A,c ∉ p)->(∀ p∈B,c ∉ p)->jl c A=jl c B->A=B
 |[],_,h,_,_,_,_=>S' rfl h
 |_,[],_,h,_,_,_=>S' rfl h
 |[a],[b],_,_,_,_,h=>by
  simp only [jl]at h;rw[h]
 |[a],b::b2::r,_,_,ha,_,h=>by
  simp only [jl]at h;exact S' (by rw[h];simp) (ha a mem_cons_self)
 |a::a2::r,[b],_,_,_,hb,h=>by
  simp only [jl]at h;exact S' (by rw[<-h];simp) (hb b mem_cons_self)
 |a::a2::r,b::b2::q,_,_,ha,hb,h=>by
  simp only [jl]at h;obtain⟨r1,r2⟩:=Ka (ha a mem_cons_self) (hb b mem_cons_self) h;have:=NO (A:=a2::r) (B:=b2::q) (by simp) (by simp) (fun p hp=>ha p (Yc' _ hp)) (fun p hp=>hb p (Yc' _ hp)) r2;rw[r1,this]
theorem zF (c:Nat):∀ ws:List Str,(Str.join ⟨#[c]⟩ ws).cps.toList=jl c (ws.map (·.cps.toList))
 |[]=>rfl
 |[x]=>rfl
 |x::y::r=>by
  show(x++⟨#[c]⟩++Str.join ⟨#[c]⟩ (y::r)).cps.toList=_;rw[Str.cps_append,Str.cps_append,Array.toList_append,Array.toList_append,zF c (y::r)];simp[jl]
theorem toList_inj:∀{A B:List Str},A.map (·.cps.toList)=B.map (·.cps.toList)->A=B
 |[],[],_=>rfl
 |[],_::_,h=>by simp at h
 |_::_,[],h=>by simp at h
 |a::A,b::B,h=>by
  simp only [map_cons,List.cons.injEq]at h;have e:a=b:=Str.ext' (Array.toList_inj.mp h.1);rw[e,toList_inj h.2]
theorem Al {c:Nat}{ws:List Str}(hn:ws≠[])(hf:∀ p∈ws,c ∉ p.cps.toList)(hx:Str.join ⟨#[c]⟩ ws≠Str.empty):Txt.split (Str.join ⟨#[c]⟩ ws) ⟨#[c]⟩=ws:=by
 have h1:=StrLaws.join_split (Str.join ⟨#[c]⟩ ws) ⟨#[c]⟩;have h2:=StrLaws.split_free (Str.join ⟨#[c]⟩ ws) c;generalize Txt.split (Str.join ⟨#[c]⟩ ws) ⟨#[c]⟩=A at h1 h2;have hA:A≠[]:=by
  rintro rfl;exact hx h1.symm
 refine toList_inj (NO (c:=c) (by simpa using hA) (by simpa using hn) ?_ ?_ ?_)
 ·intro p hp;obtain⟨q,hq,rfl⟩:=mem_map.mp hp;exact h2 q hq
 ·intro p hp;obtain⟨q,hq,rfl⟩:=mem_map.mp hp;exact hf q hq
 ·rw[<-zF,<-zF,h1]
noncomputable def kj (q:Str×Th):List Str:=match q.2 with
 |.pl ss=>"voice" :: q.1::ss.map cG
 |.cn ld lt sl tn=>["canon",q.1,ld,oN lt,oN sl,wA tn]
theorem NP:("canon":Str) ++ " " = "canon ":=by lk
theorem CP (q:Str×Th):i5 q=Str.join " " (kj q):=by
 obtain⟨n,th⟩:=q;cases th with
 |pl ss=>rfl
 |cn ld lt sl tn =>
  show _=Str.join " " ["canon",n,ld,oN lt,oN sl,wA tn];rw[join_cons,join_cons,join_cons,join_cons,join_cons,NP];show "canon " ++ n ++ " " ++ ld ++ " " ++ oN lt ++ " " ++ oN sl ++ " " ++ wA tn=_;simp only [PySem.Str.append_assoc];rfl
def Fw (w:Str):Prop:=32 ∉ w.cps.toList/\10 ∉ w.cps.toList
instance (w:Str):Decidable (Fw w):=inferInstanceAs (Decidable (_/\_))
theorem Kb {n:Str}(h:nameB n=true):Fw n:=by
 unfold nameB at h;rw[Bool.and_eq_true,Bool.and_eq_true]at h;have ha:=all_eq_true.mp h.2.2;refine⟨fun hc=>?_,fun hc=>?_⟩
 ·have:=ha _ hc;exact S' this (by lk)
 ·have:=ha _ hc;exact S' this (by lk)
theorem Py:(List.range 1000).all (fun n=>decide (Fw (oN (n:Int))))=true:=by lk
theorem NQ {n:Int}(h0:0<=n)(h1:n<1000):Fw (oN n):=by
 have:=G' (all_eq_true.mp Py n.toNat (mem_range.mpr (by omega)));rw[Int.toNat_of_nonneg h0]at this;exact this
noncomputable def UQ:List Kd:=[.G,.D,.R,.s,.d,.r,.dot,.three,.two]
theorem NR (k:Kd):k∈UQ:=by cases k <;> decide
theorem NS:(UQ.all fun k=>decide (Fw k.str)&&(List.range 100).all fun n=>decide (Fw (k.str++oN (n:Int))))=true:=by lk
theorem Pz {s:Sg}(h:jM s):Fw (cG s):=by
 have hk:=all_eq_true.mp NS s.1 (NR s.1);rw[Bool.and_eq_true]at hk;unfold cG;split
 ·rename_i e
  obtain⟨h0,h1⟩:=h.1 e;have:=G' (all_eq_true.mp hk.2 s.2.toNat (mem_range.mpr (by omega)));rw[Int.toNat_of_nonneg h0]at this;exact this
 ·exact G' hk.1
theorem R3 (tn:Bool):Fw (wA tn):=by cases tn <;> decide +kernel
theorem Gq:Fw "voice"/\Fw "canon":=by lk
structure Lx (vw:Vw):Prop where
 w:mQ vw
 nm:∀ q∈vw,nameB q.1=true
theorem Lx.words {vw:Vw}(h:Lx vw){q:Str×Th}(hq:q∈vw):∀ x∈kj q,Fw x:=by
 obtain⟨n,th⟩:=q;have hn:=Kb (h.nm _ hq);cases th with
 |pl ss =>
  intro x hx;rcases List.mem_cons.mp hx with rfl|hx
  ·exact Gq.1
  rcases List.mem_cons.mp hx with rfl|hx
  ·exact hn
  obtain⟨s,hs,rfl⟩:=mem_map.mp hx;exact Pz ((h.w.gd _ _ hq).2 s hs)
 |cn ld lt sl tn =>
  obtain⟨⟨ss,rD⟩,a1,a2,a3,a4⟩:=h.w.ld n ld lt sl tn hq;intro x hx;rcases List.mem_cons.mp hx with rfl|hx
  ·exact Gq.2
  rcases List.mem_cons.mp hx with rfl|hx
  ·exact hn
  rcases List.mem_cons.mp hx with rfl|hx
  ·exact Kb (h.nm _ rD)
  rcases List.mem_cons.mp hx with rfl|hx
  ·exact NQ a1 (by omega)
  rcases List.mem_cons.mp hx with rfl|hx
  ·exact NQ (by omega) (by omega)
  rw[Zg'.mp hx];exact R3 tn
theorem NT:Str.ofString " "=(⟨#[32]⟩:Str):=by lk
theorem UR:Str.ofString "\n" = (⟨#[10]⟩:Str):=by lk
theorem NU (q:Str×Th):kj q≠[]:=by
 obtain⟨n,th⟩:=q;cases th <;> exact List.cons_ne_nil _ _
theorem NV (q:Str×Th):i5 q≠Str.empty:=fun e=>by
 have l:(i5 q).length=0:=by rw[e];rfl
 have v5:(Str.ofString "voice").length=5:=by lk
 have c6:(Str.ofString "canon ").length=6:=by lk
 obtain⟨n,th⟩:=q;cases th with
 |pl ss =>
  have:i5 (n,.pl ss) = "voice" ++ " " ++ Str.join " " (n::ss.map cG):=rfl;rw[this,PySem.Str.length_append,PySem.Str.length_append,v5]at l;omega
 |cn ld lt sl tn =>
  have:i5 (n,.cn ld lt sl tn) = "canon " ++ n ++ " " ++ ld ++ " " ++ oN lt ++ " " ++ oN sl ++ " " ++ wA tn:=rfl;rw[this]at l;simp only [PySem.Str.length_append,c6]at l;omega
theorem Ly {vw:Vw}(h:Lx vw){q:Str×Th}(hq:q∈vw):Txt.split (i5 q) " "=kj q:=by
 have e:=CP q;have ne:=NV q;rw[e]at ne ⊢;rw[NT]at ne ⊢;exact Al (NU q) (fun p hp=>(h.words hq p hp).1) ne
theorem Lz (c:Nat){d:Nat}(hd:c≠d):∀{ws:List Str},(∀ w∈ws,c ∉ w.cps.toList)->c ∉ (Str.join ⟨#[d]⟩ ws).cps.toList:=by
 intro ws h;rw[zF];have go:∀ A:List (List Nat),(∀ p∈A,c ∉ p)->c ∉ jl d A:=by
  intro A
  induction A with
  |nil=>intro _ h;cases h
  |cons x r ih =>
   intro hA;cases r with
   |nil=>exact hA x mem_cons_self
   |cons y r =>
    show c ∉ x++d::jl d (y::r);intro hc;rcases Zp'.mp hc with hc|hc
    ·exact hA x mem_cons_self hc
    ·rcases List.mem_cons.mp hc with hc|hc
     ·exact hd hc
     ·exact ih (fun p hp=>hA p (Yc' _ hp)) hc
 refine go _ fun p hp=>?_;obtain⟨q,hq,rfl⟩:=mem_map.mp hp;exact h q hq
theorem NW {vw:Vw}(h:Lx vw){q:Str×Th}(hq:q∈vw):10 ∉ (i5 q).cps.toList:=by
 rw[CP,NT];exact Lz 10 (by decide) fun w hw=>(h.words hq w hw).2
theorem PB {d a:Str}{r:List Str}(h:a≠Str.empty):Str.join d (a::r)≠Str.empty:=fun e=>by
 cases r with
 |nil=>exact h e
 |cons b r =>
  have l:(Str.join d (a::b::r)).length=0:=by rw[e];rfl
  rw[join_cons,PySem.Str.length_append,PySem.Str.length_append]at l;apply h;have:a.cps.size=0:=by
   show a.length=0;omega
  exact Str.ext' (by rw[Array.size_eq_zero_iff.mp this];rfl)
theorem IH {vw:Vw}(h:Lx vw)(hn:vw≠[]):rC vw≠Str.empty/\Txt.split (rC vw) "\n" = vw.map i5:=by
 obtain⟨q,r,rfl⟩:∃ q r,vw=q::r:=by
  cases vw with
  |nil=>exact S' rfl hn
  |cons a r=>exact⟨a,r,rfl⟩
 have ne:rC (q::r)≠Str.empty:=PB (NV q);refine⟨ne,?_⟩;unfold rC at ne ⊢;rw[UR]at ne ⊢;refine Al (by simp) (fun p hp=>?_) ne;obtain⟨x,hx,rfl⟩:=mem_map.mp hp;exact NW h hx
noncomputable def PD:List Nat:=[48,49,50,51,52,53,54,55,56,57]
def PJ (z:Str)(n:Int):Prop:=1<=z.length/\z.length<=3/\(∀ c∈z.cps.toList,c∈PD)/\¬(1<z.length/\z.cps.toList[0]? = some 48)/\intText? z=some n
instance (z:Str) (n:Int):Decidable (PJ z n):=inferInstanceAs (Decidable (_/\_/\_/\_/\_))
theorem R4:(List.range 1000).all (fun n=>decide (PJ (oN (n:Int)) (n:Int))&&decide ((n:Nat)<100->(oN (n:Int)).length<=2))=true:=by lk
theorem NX {n:Int}(h0:0<=n)(h1:n<1000):PJ (oN n) n/\(n<100->(oN n).length<=2):=by
 have:=all_eq_true.mp R4 n.toNat (mem_range.mpr (by omega));rw[Bool.and_eq_true]at this;have e:((n.toNat:Nat):Int)=n:=Int.toNat_of_nonneg h0;rw[e]at this;exact⟨G' this.1,fun h=>G' this.2 (by omega)⟩
noncomputable def Kc:List V:=[.str "0",.str "1",.str "2",.str "3",.str "4",.str "5",.str "6",.str "7",.str "8",.str "9"]
noncomputable def chr (c:Nat):Str:=⟨#[c]⟩
theorem Ke (d c:Nat):(chr d==chr c)=decide (c=d):=by
 by_cases h:c=d
 ·subst h;rw[beq_self_eq_true,A' rfl]
 ·rw[J' h];refine Y'.mpr fun q=>h ?_;have e:=beq_iff_eq.mp q;unfold chr at e
  injection e with e
  have:[d]=[c]:=Zj' Array.toList e;exact(List.cons.inj this).1.symm
theorem Kf (c:Nat):∀ l:List Nat,inV (.str (chr c)) (l.map fun d=>V.str (chr d))=decide (c∈l)
 |[]=>by simp[inV]
 |d::l=>by
  show((chr d==chr c)||inV (.str (chr c)) (l.map fun d=>V.str (chr d)))=_;rw[Kf c l,Ke]
  by_cases h:c=d <;> simp[h]
theorem PK (c:Nat):inV (.str (chr c)) Kc=decide (c∈PD):=by
 have e:Kc=PD.map fun d=>V.str (chr d):=by lk
 rw[e];exact Kf c PD
theorem NY:Str.ofString "0"=chr 48:=by lk
def R5 (k:Kd)(n:Int):Prop:=inV (.str (k.str++oN n)) ff=false/\(k.str++oN n).length<=64/\Txt.slice (k.str++oN n) none (some 1)=k.str/\Txt.slice (k.str++oN n) (some 1) none=oN n/\inV (.str k.str) hI=true
instance (k:Kd) (n:Int):Decidable (R5 k n):=inferInstanceAs (Decidable (_/\_/\_/\_/\_))
theorem R6:([Kd.G,Kd.D,Kd.s,Kd.d].all fun k=>(List.range 100).all fun n=>decide (R5 k (n:Int)))=true:=by lk
theorem US {k:Kd}(hk:k.gI=true){n:Int}(h0:0<=n)(h1:n<100):R5 k n:=by
 have hm:k∈[Kd.G,Kd.D,Kd.s,Kd.d]:=by cases k <;> first|(cases hk;done)|simp
 have:=G' (all_eq_true.mp (all_eq_true.mp R6 k hm) n.toNat (mem_range.mpr (by omega)));rw[Int.toNat_of_nonneg h0]at this;exact this
end cC
local macro_rules | `(tactic| tm_up) => `(tactic| repeat w_up)
local macro_rules | `(tactic| w_up) => `(tactic| first
 |refine⟨_,rfl,?_⟩
 |refine⟨_,_,rfl,rfl,⟨by decide,by decide⟩,?_⟩
 |refine⟨_,_,rfl,rfl,(by first|decide|(show(0:Int)<_;decide)),?_⟩
 |refine .inl ⟨_,_,rfl,rfl,.inr ⟨by decide,by decide⟩,?_⟩
 |refine⟨_,_,rfl,rfl,?_⟩
 |refine .inl ⟨_,_,rfl,rfl,?_⟩
 |refine .inl ⟨rfl,?_⟩
 |refine .inr ⟨_,_,rfl,rfl,?_⟩
 |refine cC.SY (by assumption) ?_
 |refine cC.YF (by assumption) ?_
 |refine cC.aam (by assumption) ?_
 |refine cC.aan (by assumption) ?_)
namespace cC
open PySem L2
set_option hygiene false
local macro_rules | `(tactic| x_go) => `(tactic| (intro vs H Q E h; first | (cases h; subst_vars; rfl) | (obtain ⟨rfl, _⟩ := h; rfl) | (obtain ⟨_, rfl, _⟩ := h; rfl) | (obtain ⟨_, _, rfl, _⟩ := h; rfl) | (obtain ⟨_, _, _, rfl, _⟩ := h; rfl) | (obtain ⟨_, _, _, _, rfl, _⟩ := h; rfl) | (obtain ⟨_, _, _, _, _, rfl, _⟩ := h; rfl) | (obtain ⟨_, _, _, _, _, _, rfl, _⟩ := h; rfl) | (obtain ⟨_, _, _, _, _, _, _, rfl, _⟩ := h; rfl) | (obtain ⟨_, _, _, _, _, _, _, _, rfl, _⟩ := h; rfl) | (obtain ⟨_, _, _, _, _, _, _, _, _, rfl, _⟩ := h; rfl) | (obtain ⟨_, _, _, _, _, _, _, _, _, _, rfl, _⟩ := h; rfl) | (obtain ⟨_, _, _, _, _, _, _, _, _, _, _, rfl, _⟩ := h; rfl) | (obtain ⟨_, _, _, _, _, _, _, _, _, _, _, _, rfl, _⟩ := h; rfl) | (obtain ⟨_, _, _, _, _, _, _, _, _, _, _, _, _, rfl, _⟩ := h; rfl)); intro cdv A outer s H vs Q E hr h)
local macro_rules | `(tactic| k_go) => `(tactic| exact ⟨rfl, rfl, rfl, by lk, rfl, by lk, by lk⟩)
set_option hygiene true
noncomputable def top (i:Nat):Stmt:=PySem.Challenge.pw_noteworth_k46_whole_books_there_and_back.main.body.getD i (.Pass ⟨0,0,0,0⟩)
noncomputable abbrev oP:Stmt:=inClass (top 63) 0
noncomputable abbrev jO:Stmt:=inClass (top 63) 17
noncomputable abbrev ua:Stmt:=inClass (top 63) 12
noncomputable abbrev Gs:Stmt:=top 25
noncomputable abbrev NZ:Stmt:=top 22
noncomputable abbrev ub:Stmt:=top 70
noncomputable abbrev Gu:Stmt:=top 30
noncomputable abbrev xE:Stmt:=inClass (top 63) 10
noncomputable abbrev rE:Stmt:=top 75
noncomputable abbrev uc:Stmt:=inClass (top 63) 9
noncomputable abbrev ud:Stmt:=top 76
noncomputable abbrev CQ:Stmt:=top 57
noncomputable abbrev lD:Stmt:=inClass (top 63) 16
noncomputable abbrev CS:Stmt:=inClass (top 56) 1
noncomputable abbrev p8:Stmt:=inClass (top 63) 14
noncomputable abbrev oQ:Stmt:=inClass (top 56) 0
noncomputable abbrev rF:Stmt:=inClass (top 63) 15
noncomputable abbrev m9:Stmt:=inClass (top 55) 0
noncomputable abbrev nc:Stmt:=inClass (top 63) 1
noncomputable abbrev iN:Stmt:=top 58
noncomputable abbrev lE:Stmt:=top 59
noncomputable abbrev Kg:Stmt:=top 23
noncomputable abbrev CU:Stmt:=top 60
noncomputable abbrev Am:Stmt:=top 61
noncomputable abbrev p9:Stmt:=top 24
noncomputable abbrev Gv:Stmt:=top 62
noncomputable abbrev km:Stmt:=inClass (top 63) 18
noncomputable abbrev An:Stmt:=inClass (top 63) 4
noncomputable abbrev xF:Stmt:=top 67
noncomputable abbrev CW:Stmt:=top 71
noncomputable abbrev xG:Stmt:=top 72
noncomputable abbrev ue:Stmt:=top 77
noncomputable abbrev eK:Stmt:=inClass (top 63) 2
noncomputable abbrev uf:Stmt:=top 78
noncomputable abbrev Ao:Stmt:=top 79
noncomputable abbrev jP:Stmt:=inClass (top 63) 13
noncomputable abbrev xH:Stmt:=top 80
noncomputable abbrev CY:Stmt:=top 87
noncomputable abbrev xI:Stmt:=top 82
noncomputable abbrev xJ:Stmt:=top 84
noncomputable abbrev cg:Stmt:=top 85
noncomputable abbrev CZ:Stmt:=top 83
noncomputable abbrev C0:Stmt:=top 86
noncomputable abbrev C1:Stmt:=top 90
noncomputable abbrev ng:Stmt:=top 88
noncomputable abbrev lF:Stmt:=top 89
noncomputable abbrev nh:Stmt:=top 91
noncomputable abbrev xK:Stmt:=top 92
noncomputable abbrev Ap:Stmt:=inClass (top 63) 5
noncomputable abbrev xM:Stmt:=inClass (top 63) 6
noncomputable abbrev xN:Stmt:=inClass (top 63) 3
noncomputable abbrev xO:Stmt:=inClass (top 56) 2
noncomputable abbrev xP:Stmt:=inClass (top 63) 7
noncomputable abbrev xQ:Stmt:=inClass (top 63) 8
noncomputable abbrev N0:Stmt:=top 95
noncomputable abbrev wB:Stmt:=top 96
noncomputable abbrev C2:Stmt:=top 103
abbrev C3:Stmt:=top 105
abbrev Gw:Stmt:=top 104
abbrev Aq:Stmt:=top 28
abbrev C4:Stmt:=top 39
abbrev rG:Stmt:=top 38
abbrev iO:Stmt:=top 40
abbrev N1:Stmt:=top 29
abbrev oR:Stmt:=top 41
abbrev nj:Stmt:=top 42
abbrev lG:Stmt:=top 43
abbrev lH:Stmt:=top 44
abbrev ug:Stmt:=top 45
abbrev C5:Stmt:=top 46
abbrev Gx:Stmt:=top 47
abbrev xR:Stmt:=inClass (top 63) 11
abbrev xS:Stmt:=top 97
abbrev Gy:Stmt:=top 99
abbrev C6:Stmt:=top 100
abbrev Kh:Stmt:=top 101
abbrev Gz:Stmt:=top 102
abbrev xV:Stmt:=top 98
abbrev Ar:Stmt:=top 106
abbrev oS:Stmt:=top 93
abbrev As:Stmt:=top 94
abbrev GA:Stmt:=top 108
abbrev Au:Stmt:=top 107
abbrev xW:Stmt:=top 109
abbrev Av:Stmt:=top 110
theorem wC:aA ["self"] ["self"] (aj oP):=by k_go
theorem gj:aA ["self","name","voice"] ["self","name"] (aj jO):=by k_go
theorem rH:aA ["self","name"] ["self","name"] (aj ua):=by k_go
theorem LB:aA ["sign"] ["sign"] (aj Gs):=by k_go
theorem EF:aA ["sign","kind","tone"] ["sign"] (aj NZ):=by k_go
theorem ji:aA ["sign","kind","tone"] ["sign"] (aj ub):=by k_go
theorem LC:aA ["line"] ["line"] (aj Gu):=by k_go
theorem bc:aA ["self","name","terms","leader","later","slow","is_turned","heard"] ["self","name"] (aj xE):=by k_go
theorem dR:aA ["book","name","terms","leader","later","slow","is_turned","way"] ["book","name"] (aj rE):=by k_go
theorem BS:aA ["self"] ["self"] (aj uc):=by k_go
theorem BU:aA ["book"] ["book"] (aj ud):=by k_go
theorem II:aA ["name"] ["name"] (aj CQ):=by k_go
theorem fg:aA ["self","name"] ["self","name"] (aj lD):=by k_go
theorem IJ:aA ["self"] ["self"] (aj CS):=by k_go
theorem zb:aA ["self","deed"] ["self","deed"] (aj p8):=by k_go
theorem wD:aA ["self","things","at","before","after"] ["self","things","at","before","after"] (aj oQ):=by k_go
theorem Aw:aA ["self","voice"] ["self","voice"] (aj rF):=by k_go
theorem uh:aA ["self","name","terms"] ["self","name","terms"] (aj m9):=by k_go
theorem lI:aA ["self","name"] ["self","name"] (aj nc):=by k_go
theorem ix:aA ["at","last"] ["at","last"] (aj iN):=by k_go
theorem kn:aA ["sign"] ["sign"] (aj lE):=by k_go
theorem N2:aA ["sign"] ["sign"] (aj Kg):=by k_go
theorem ou:aA ["line","at","met","place"] ["line","at"] (aj CU):=by k_go
theorem xX:aA ["line","first","kinds","place"] ["line","first","kinds"] (aj Am):=by k_go
theorem zc:aA ["sign"] ["sign"] (aj p9):=by k_go
theorem C7:aA ["line","at","behind","changed","kinds"] ["line","at","behind","changed"] (aj Gv):=by k_go
theorem eA:aA ["self","name","voice"] ["self","name"] (aj km):=by k_go
theorem h9:aA ["self","name","at","sign","signs"] ["self","name","at","sign"] (aj An):=by k_go
theorem EG:aA ["word","most"] ["word","most"] (aj xF):=by k_go
theorem sA:aA ["word","kind","tone"] ["word"] (aj CW):=by k_go
theorem ui:aA ["word","sign"] ["word"] (aj xG):=by k_go
theorem jj:aA ["book","words","name","at","word"] ["book","words"] (aj ue):=by k_go
theorem uj:aA ["self","name","leader","later","slow","is_turned"] ["self","name","leader","later","slow","is_turned"] (aj eK):=by k_go
theorem mJ:aA ["book","words","later","slow"] ["book","words"] (aj uf):=by k_go
theorem xY:aA ["book","row","words"] ["book","row"] (aj Ao):=by k_go
theorem qa:aA ["self"] ["self"] (aj jP):=by k_go
theorem jZ:aA ["text","book","at","row"] ["text"] (aj xH):=by k_go
theorem Ax:aA ["_law_cell","_law_some"] ["_law_cell"] (aj CY):=by k_go
theorem EH:aA ["_law_script","_law_k"] ["_law_script","_law_k"] (aj xI):=by k_go
theorem uk:aA ["_law_number","_law_kind"] ["_law_number"] (aj xJ):=by k_go
theorem bU:aA ["_law_number","_law_names","_law_ways","_law_way","_law_name","_law_leader","_law_sign","_law_later"] ["_law_number"] (aj cg):=by k_go
theorem sC:aA ["_law_seed","_law_k","_law_one","_law_two"] ["_law_seed","_law_k"] (aj CZ):=by k_go
theorem fh:aA ["_law_script","_law_at","_law_many","_law_seed","_law_base_here","_law_row","_law_left","_law_k","_law_cell","_law_number"] ["_law_script","_law_at","_law_many"] (aj C0):=by k_go
theorem Ay:aA ["_law_voices","_law_deed","_law_size"] ["_law_voices","_law_deed"] (aj C1):=by k_go
theorem lJ:aA ["_law_voices","_law_name","_law_sign"] ["_law_voices","_law_name"] (aj ng):=by k_go
theorem ko:aA ["_law_voices","_law_deed","_law_fine"] ["_law_voices","_law_deed"] (aj lF):=by k_go
theorem fP:aA ["_law_voices","_law_deed","_law_way","_law_name","_law_sign","_law_at","_law_fine"] ["_law_voices","_law_deed"] (aj nh):=by k_go
theorem j0:aA ["_law_stand","_law_deed","_law_voices","_law_led","_law_why"] ["_law_stand","_law_deed"] (aj xK):=by k_go
theorem ju:aA ["self","name","at","signs","sign"] ["self","name","at"] (aj Ap):=by k_go
theorem gx:aA ["self","name","at","sign","signs","before"] ["self","name","at","sign"] (aj xM):=by k_go
theorem j1:aA ["self","name","dropped"] ["self","name"] (aj xN):=by k_go
theorem EI:aA ["self"] ["self"] (aj xO):=by k_go
theorem ow:aA ["self","deed"] ["self"] (aj xP):=by k_go
theorem ox:aA ["self","deed"] ["self"] (aj xQ):=by k_go
theorem iy:aA ["_law_book","_law_deed","_law_at","_law_way","_law_name"] ["_law_book","_law_deed","_law_at"] (aj N0):=by k_go
theorem IK:aA ["_law_book","_law_deed","_law_at"] ["_law_book","_law_deed","_law_at"] (aj wB):=by k_go
theorem IL:aA ["_law_found"] ["_law_found"] (aj C2):=by k_go
theorem sE:aA ["_law_found","_law_due","_law_one","_law_other"] ["_law_found","_law_due"] (aj C3):=by k_go
theorem C8:aA ["_law_found","_law_due","_law_k"] ["_law_found","_law_due"] (aj Gw):=by k_go
theorem jv:aA ["line","begin","found","measure","sign"] ["line","begin"] (aj Aq):=by k_go
theorem IM:aA ["line","at"] ["line","at"] (aj C4):=by k_go
theorem Az:aA ["kind","measure"] ["kind","measure"] (aj rG):=by k_go
theorem dB:aA ["line","begin","found","at","measure"] ["line","begin"] (aj iO):=by k_go
theorem oy:aA ["line","begin","found","first","at","sign","measure"] ["line","begin"] (aj N1):=by k_go
theorem wF:aA ["line","found","first"] ["line","found","first"] (aj oR):=by k_go
theorem um:aA ["line","behind"] ["line","behind"] (aj nj):=by k_go
theorem sF:aA ["line","found","first","behind"] ["line","found","first","behind"] (aj lG):=by k_go
theorem sG:aA ["line","found","first","behind"] ["line","found","first","behind"] (aj lH):=by k_go
theorem rJ:aA ["line","found","first","behind","rest"] ["line","found","first","behind"] (aj ug):=by k_go
theorem kq:aA ["line","begin","found","loose_runs","first","behind"] ["line","begin"] (aj C5):=by k_go
theorem LF:aA ["line","begin"] ["line","begin"] (aj Gx):=by k_go
theorem c7:aA ["self","name","terms","leader","later","slow","is_turned","begin"] ["self","name"] (aj xR):=by k_go
theorem iA:aA ["_law_voices","_law_name","_law_thing","_law_told","_law_sign","_law_kind"] ["_law_voices","_law_name"] (aj xS):=by k_go
theorem j4:aA ["_law_line","_law_begin","_law_told","_law_now","_law_at","_law_kind"] ["_law_line","_law_begin"] (aj Gy):=by k_go
theorem kr:aA ["_law_line","_law_begin","_law_told","_law_now","_law_sign"] ["_law_line","_law_begin"] (aj C6):=by k_go
theorem nk:aA ["_law_line","_law_told","_law_low","_law_high","_law_rest","_law_behind_here","_law_after","_law_left","_law_right"] ["_law_line","_law_told","_law_low","_law_high"] (aj Kh):=by k_go
theorem ia:aA ["_law_line","_law_begin","_law_told","_law_three_here","_law_left","_law_low","_law_high"] ["_law_line","_law_begin"] (aj Gz):=by k_go
theorem oz:aA ["_law_voices","_law_name","_law_thing","_law_line"] ["_law_voices","_law_name"] (aj xV):=by k_go
theorem lK:aA ["_law_book","_law_voices","_law_told","_law_name","_law_terms"] ["_law_book","_law_voices"] (aj Ar):=by k_go
theorem wG:aA ["_law_line","_law_deed","_law_at"] ["_law_line","_law_deed","_law_at"] (aj oS):=by k_go
theorem jw:aA ["_law_stand","_law_deed","_law_voices","_law_past","_law_future","_law_other"] ["_law_stand","_law_deed"] (aj As):=by k_go
theorem LG:aA ["_law_found","_law_due"] ["_law_found","_law_due"] (aj GA):=by k_go
theorem d3:aA ["_law_line","_law_deed","_law_at","_law_behind_here","_law_from_on","_law_wide","_law_bars","_law_stops"] ["_law_line","_law_deed","_law_at"] (aj Au):=by k_go
theorem dC:aA ["_law_back","_law_voices","_law_deeds_here","_law_stand","_law_deed","_law_at","_law_why","_law_found","_law_told","_law_k"] ["_law_back","_law_voices","_law_deeds_here"] (aj xW):=by k_go
theorem ku:aA ["_law_script","_law_deeds_here","_law_book","_law_stand","_law_deed","_law_at","_law_why","_law_text","_law_back","_law_way"] ["_law_script"] (aj Av):=by k_go
theorem xZ:(["kind","tone","line"]:List Str).Nodup:=by lk
theorem wH:(["sign","book","name","terms","leader","later","slow","is_turned","way"]:List Str).Nodup:=by lk
theorem zd:(["voice","self"]:List Str).Nodup:=by lk
theorem ze:(["name","book"]:List Str).Nodup:=by lk
theorem EJ:(["letter","name"]:List Str).Nodup:=by lk
theorem GB:(["sign","line","at","behind","changed","kinds"]:List Str).Nodup:=by lk
theorem AA:(["figure","word","most"]:List Str).Nodup:=by lk
theorem EK:(["_law_name","_law_cell","_law_some"]:List Str).Nodup:=by lk
theorem AB:(["_law_name","_law_stand","_law_deed","_law_voices","_law_led","_law_why"]:List Str).Nodup:=by lk
theorem AD:(["voice","self","name","dropped"]:List Str).Nodup:=by lk
theorem zf:(["worth","self","name","terms","leader","later","slow","is_turned","begin"]:List Str).Nodup:=by lk
theorem zg:(["_law_worth","_law_voices","_law_name","_law_thing","_law_line"]:List Str).Nodup:=by lk
theorem qb:(["_law_k","_law_line","_law_deed","_law_at","_law_behind_here","_law_from_on","_law_wide","_law_bars","_law_stops"]:List Str).Nodup:=by lk
noncomputable def qc:List (Str×Pos):=[("ann",⟨394,18,394,23⟩),("bo",⟨394,25,394,29⟩),("cy",⟨394,31,394,35⟩),("dora",⟨394,37,394,43⟩),("a",⟨394,45,394,48⟩),("zzzzzzzz",⟨394,50,394,60⟩),("ann",⟨394,62,394,67⟩),("Ann",⟨394,69,394,74⟩),("",⟨394,76,394,78⟩),("toolongby",⟨394,80,394,91⟩)]
noncomputable def gk:List (Str×Pos):=[("put",⟨395,17,395,22⟩),("put",⟨395,24,395,29⟩),("put",⟨395,31,395,36⟩),("put",⟨395,38,395,43⟩),("put",⟨395,45,395,50⟩),("swap",⟨395,52,395,58⟩),("swap",⟨395,60,395,66⟩),("cut",⟨395,68,395,73⟩),("cut",⟨395,75,395,80⟩),("add",⟨395,82,395,87⟩),("canon",⟨395,89,395,96⟩),("canon",⟨395,98,395,105⟩),("drop",⟨395,107,395,113⟩)]
theorem wI {X:Cx}:qN X [(Expr.Constant (.int 100) 0 ⟨408,27,408,30⟩)] (ax (tC (V.int 100)) ba):=fZ zU mD
theorem wJ {X:Cx}:qN X [(Expr.Constant (.str "G") 0 ⟨408,22,408,25⟩),(Expr.Constant (.int 100) 0 ⟨408,27,408,30⟩)] (ax (tC (V.str "G")) (ax (tC (V.int 100)) ba)):=fZ wo wI
theorem wK {X:Cx}:y9 X (Expr.Tuple [(Expr.Constant (.str "G") 0 ⟨408,22,408,25⟩),(Expr.Constant (.int 100) 0 ⟨408,27,408,30⟩)] 0 ⟨408,21,408,31⟩) (cP (ax (tC (V.str "G")) (ax (tC (V.int 100)) ba))):=sj wJ
theorem wL {X:Cx}:qN X [(Expr.Constant (.int 1) 0 ⟨408,39,408,40⟩)] (ax (tC (V.int 1)) ba):=fZ zU mD
theorem wN {X:Cx}:qN X [(Expr.Constant (.str "R") 0 ⟨408,34,408,37⟩),(Expr.Constant (.int 1) 0 ⟨408,39,408,40⟩)] (ax (tC (V.str "R")) (ax (tC (V.int 1)) ba)):=fZ wo wL
theorem wO {X:Cx}:y9 X (Expr.Tuple [(Expr.Constant (.str "R") 0 ⟨408,34,408,37⟩),(Expr.Constant (.int 1) 0 ⟨408,39,408,40⟩)] 0 ⟨408,33,408,41⟩) (cP (ax (tC (V.str "R")) (ax (tC (V.int 1)) ba))):=sj wN
theorem wQ {X:Cx}:qN X [(Expr.Constant (.int 0) 0 ⟨408,49,408,50⟩)] (ax (tC (V.int 0)) ba):=fZ zU mD
theorem wR {X:Cx}:qN X [(Expr.Constant (.str "g") 0 ⟨408,44,408,47⟩),(Expr.Constant (.int 0) 0 ⟨408,49,408,50⟩)] (ax (tC (V.str "g")) (ax (tC (V.int 0)) ba)):=fZ wo wQ
theorem wU {X:Cx}:y9 X (Expr.Tuple [(Expr.Constant (.str "g") 0 ⟨408,44,408,47⟩),(Expr.Constant (.int 0) 0 ⟨408,49,408,50⟩)] 0 ⟨408,43,408,51⟩) (cP (ax (tC (V.str "g")) (ax (tC (V.int 0)) ba))):=sj wR
theorem uo {X:Cx}:qN X [(Expr.UnaryOp .USub (Expr.Constant (.int 1) 0 ⟨408,60,408,61⟩) ⟨408,59,408,61⟩)] (ax (K2 (rU fun i=>V.int (-i)) (tC (V.int 1))) ba):=Nt RO mD
theorem uq {X:Cx}:qN X [(Expr.Constant (.str "s") 0 ⟨408,54,408,57⟩),(Expr.UnaryOp .USub (Expr.Constant (.int 1) 0 ⟨408,60,408,61⟩) ⟨408,59,408,61⟩)] (ax (tC (V.str "s")) (ax (K2 (rU fun i=>V.int (-i)) (tC (V.int 1))) ba)):=fZ wo uo
theorem ur {X:Cx}:y9 X (Expr.Tuple [(Expr.Constant (.str "s") 0 ⟨408,54,408,57⟩),(Expr.UnaryOp .USub (Expr.Constant (.int 1) 0 ⟨408,60,408,61⟩) ⟨408,59,408,61⟩)] 0 ⟨408,53,408,62⟩) (cP (ax (tC (V.str "s")) (ax (K2 (rU fun i=>V.int (-i)) (tC (V.int 1))) ba))):=sj uq
theorem uv {X:Cx}:qN X [(Expr.Constant (.int 0) 0 ⟨408,69,408,70⟩)] (ax (tC (V.int 0)) ba):=fZ zU mD
theorem uw {X:Cx}:qN X [(Expr.Constant (.str "") 0 ⟨408,65,408,67⟩),(Expr.Constant (.int 0) 0 ⟨408,69,408,70⟩)] (ax (tC (V.str "")) (ax (tC (V.int 0)) ba)):=fZ wo uv
theorem uy {X:Cx}:y9 X (Expr.Tuple [(Expr.Constant (.str "") 0 ⟨408,65,408,67⟩),(Expr.Constant (.int 0) 0 ⟨408,69,408,70⟩)] 0 ⟨408,64,408,71⟩) (cP (ax (tC (V.str "")) (ax (tC (V.int 0)) ba))):=sj uw
theorem uz {X:Cx}:qN X [(Expr.Constant (.int 3) 0 ⟨408,79,408,80⟩)] (ax (tC (V.int 3)) ba):=fZ zU mD
theorem uA {X:Cx}:qN X [(Expr.Constant (.str "3") 0 ⟨408,74,408,77⟩),(Expr.Constant (.int 3) 0 ⟨408,79,408,80⟩)] (ax (tC (V.str "3")) (ax (tC (V.int 3)) ba)):=fZ wo uz
theorem uB {X:Cx}:y9 X (Expr.Tuple [(Expr.Constant (.str "3") 0 ⟨408,74,408,77⟩),(Expr.Constant (.int 3) 0 ⟨408,79,408,80⟩)] 0 ⟨408,73,408,81⟩) (cP (ax (tC (V.str "3")) (ax (tC (V.int 3)) ba))):=sj uA
theorem uC {X:Cx}:qN X [(Expr.Tuple [(Expr.Constant (.str "3") 0 ⟨408,74,408,77⟩),(Expr.Constant (.int 3) 0 ⟨408,79,408,80⟩)] 0 ⟨408,73,408,81⟩)] (ax (cP (ax (tC (V.str "3")) (ax (tC (V.int 3)) ba))) ba):=mW uB mD
theorem uD {X:Cx}:qN X [(Expr.Tuple [(Expr.Constant (.str "") 0 ⟨408,65,408,67⟩),(Expr.Constant (.int 0) 0 ⟨408,69,408,70⟩)] 0 ⟨408,64,408,71⟩),(Expr.Tuple [(Expr.Constant (.str "3") 0 ⟨408,74,408,77⟩),(Expr.Constant (.int 3) 0 ⟨408,79,408,80⟩)] 0 ⟨408,73,408,81⟩)] (ax (cP (ax (tC (V.str "")) (ax (tC (V.int 0)) ba))) (ax (cP (ax (tC (V.str "3")) (ax (tC (V.int 3)) ba))) ba)):=mW uy uC
theorem uE {X:Cx}:qN X [(Expr.Tuple [(Expr.Constant (.str "s") 0 ⟨408,54,408,57⟩),(Expr.UnaryOp .USub (Expr.Constant (.int 1) 0 ⟨408,60,408,61⟩) ⟨408,59,408,61⟩)] 0 ⟨408,53,408,62⟩),(Expr.Tuple [(Expr.Constant (.str "") 0 ⟨408,65,408,67⟩),(Expr.Constant (.int 0) 0 ⟨408,69,408,70⟩)] 0 ⟨408,64,408,71⟩),(Expr.Tuple [(Expr.Constant (.str "3") 0 ⟨408,74,408,77⟩),(Expr.Constant (.int 3) 0 ⟨408,79,408,80⟩)] 0 ⟨408,73,408,81⟩)] (ax (cP (ax (tC (V.str "s")) (ax (K2 (rU fun i=>V.int (-i)) (tC (V.int 1))) ba))) (ax (cP (ax (tC (V.str "")) (ax (tC (V.int 0)) ba))) (ax (cP (ax (tC (V.str "3")) (ax (tC (V.int 3)) ba))) ba))):=mW ur uD
theorem uF {X:Cx}:qN X [(Expr.Tuple [(Expr.Constant (.str "g") 0 ⟨408,44,408,47⟩),(Expr.Constant (.int 0) 0 ⟨408,49,408,50⟩)] 0 ⟨408,43,408,51⟩),(Expr.Tuple [(Expr.Constant (.str "s") 0 ⟨408,54,408,57⟩),(Expr.UnaryOp .USub (Expr.Constant (.int 1) 0 ⟨408,60,408,61⟩) ⟨408,59,408,61⟩)] 0 ⟨408,53,408,62⟩),(Expr.Tuple [(Expr.Constant (.str "") 0 ⟨408,65,408,67⟩),(Expr.Constant (.int 0) 0 ⟨408,69,408,70⟩)] 0 ⟨408,64,408,71⟩),(Expr.Tuple [(Expr.Constant (.str "3") 0 ⟨408,74,408,77⟩),(Expr.Constant (.int 3) 0 ⟨408,79,408,80⟩)] 0 ⟨408,73,408,81⟩)] (ax (cP (ax (tC (V.str "g")) (ax (tC (V.int 0)) ba))) (ax (cP (ax (tC (V.str "s")) (ax (K2 (rU fun i=>V.int (-i)) (tC (V.int 1))) ba))) (ax (cP (ax (tC (V.str "")) (ax (tC (V.int 0)) ba))) (ax (cP (ax (tC (V.str "3")) (ax (tC (V.int 3)) ba))) ba)))):=mW wU uE
theorem uG {X:Cx}:qN X [(Expr.Tuple [(Expr.Constant (.str "R") 0 ⟨408,34,408,37⟩),(Expr.Constant (.int 1) 0 ⟨408,39,408,40⟩)] 0 ⟨408,33,408,41⟩),(Expr.Tuple [(Expr.Constant (.str "g") 0 ⟨408,44,408,47⟩),(Expr.Constant (.int 0) 0 ⟨408,49,408,50⟩)] 0 ⟨408,43,408,51⟩),(Expr.Tuple [(Expr.Constant (.str "s") 0 ⟨408,54,408,57⟩),(Expr.UnaryOp .USub (Expr.Constant (.int 1) 0 ⟨408,60,408,61⟩) ⟨408,59,408,61⟩)] 0 ⟨408,53,408,62⟩),(Expr.Tuple [(Expr.Constant (.str "") 0 ⟨408,65,408,67⟩),(Expr.Constant (.int 0) 0 ⟨408,69,408,70⟩)] 0 ⟨408,64,408,71⟩),(Expr.Tuple [(Expr.Constant (.str "3") 0 ⟨408,74,408,77⟩),(Expr.Constant (.int 3) 0 ⟨408,79,408,80⟩)] 0 ⟨408,73,408,81⟩)] (ax (cP (ax (tC (V.str "R")) (ax (tC (V.int 1)) ba))) (ax (cP (ax (tC (V.str "g")) (ax (tC (V.int 0)) ba))) (ax (cP (ax (tC (V.str "s")) (ax (K2 (rU fun i=>V.int (-i)) (tC (V.int 1))) ba))) (ax (cP (ax (tC (V.str "")) (ax (tC (V.int 0)) ba))) (ax (cP (ax (tC (V.str "3")) (ax (tC (V.int 3)) ba))) ba))))):=mW wO uF
theorem uH {X:Cx}:qN X [(Expr.Tuple [(Expr.Constant (.str "G") 0 ⟨408,22,408,25⟩),(Expr.Constant (.int 100) 0 ⟨408,27,408,30⟩)] 0 ⟨408,21,408,31⟩),(Expr.Tuple [(Expr.Constant (.str "R") 0 ⟨408,34,408,37⟩),(Expr.Constant (.int 1) 0 ⟨408,39,408,40⟩)] 0 ⟨408,33,408,41⟩),(Expr.Tuple [(Expr.Constant (.str "g") 0 ⟨408,44,408,47⟩),(Expr.Constant (.int 0) 0 ⟨408,49,408,50⟩)] 0 ⟨408,43,408,51⟩),(Expr.Tuple [(Expr.Constant (.str "s") 0 ⟨408,54,408,57⟩),(Expr.UnaryOp .USub (Expr.Constant (.int 1) 0 ⟨408,60,408,61⟩) ⟨408,59,408,61⟩)] 0 ⟨408,53,408,62⟩),(Expr.Tuple [(Expr.Constant (.str "") 0 ⟨408,65,408,67⟩),(Expr.Constant (.int 0) 0 ⟨408,69,408,70⟩)] 0 ⟨408,64,408,71⟩),(Expr.Tuple [(Expr.Constant (.str "3") 0 ⟨408,74,408,77⟩),(Expr.Constant (.int 3) 0 ⟨408,79,408,80⟩)] 0 ⟨408,73,408,81⟩)] (ax (cP (ax (tC (V.str "G")) (ax (tC (V.int 100)) ba))) (ax (cP (ax (tC (V.str "R")) (ax (tC (V.int 1)) ba))) (ax (cP (ax (tC (V.str "g")) (ax (tC (V.int 0)) ba))) (ax (cP (ax (tC (V.str "s")) (ax (K2 (rU fun i=>V.int (-i)) (tC (V.int 1))) ba))) (ax (cP (ax (tC (V.str "")) (ax (tC (V.int 0)) ba))) (ax (cP (ax (tC (V.str "3")) (ax (tC (V.int 3)) ba))) ba)))))):=mW wK uG
theorem uI {X:Cx}:y9 X (Expr.List [(Expr.Tuple [(Expr.Constant (.str "G") 0 ⟨408,22,408,25⟩),(Expr.Constant (.int 100) 0 ⟨408,27,408,30⟩)] 0 ⟨408,21,408,31⟩),(Expr.Tuple [(Expr.Constant (.str "R") 0 ⟨408,34,408,37⟩),(Expr.Constant (.int 1) 0 ⟨408,39,408,40⟩)] 0 ⟨408,33,408,41⟩),(Expr.Tuple [(Expr.Constant (.str "g") 0 ⟨408,44,408,47⟩),(Expr.Constant (.int 0) 0 ⟨408,49,408,50⟩)] 0 ⟨408,43,408,51⟩),(Expr.Tuple [(Expr.Constant (.str "s") 0 ⟨408,54,408,57⟩),(Expr.UnaryOp .USub (Expr.Constant (.int 1) 0 ⟨408,60,408,61⟩) ⟨408,59,408,61⟩)] 0 ⟨408,53,408,62⟩),(Expr.Tuple [(Expr.Constant (.str "") 0 ⟨408,65,408,67⟩),(Expr.Constant (.int 0) 0 ⟨408,69,408,70⟩)] 0 ⟨408,64,408,71⟩),(Expr.Tuple [(Expr.Constant (.str "3") 0 ⟨408,74,408,77⟩),(Expr.Constant (.int 3) 0 ⟨408,79,408,80⟩)] 0 ⟨408,73,408,81⟩)] ⟨408,20,408,82⟩) (kW (ax (cP (ax (tC (V.str "G")) (ax (tC (V.int 100)) ba))) (ax (cP (ax (tC (V.str "R")) (ax (tC (V.int 1)) ba))) (ax (cP (ax (tC (V.str "g")) (ax (tC (V.int 0)) ba))) (ax (cP (ax (tC (V.str "s")) (ax (K2 (rU fun i=>V.int (-i)) (tC (V.int 1))) ba))) (ax (cP (ax (tC (V.str "")) (ax (tC (V.int 0)) ba))) (ax (cP (ax (tC (V.str "3")) (ax (tC (V.int 3)) ba))) ba))))))):=Iq uH
@[irreducible] def eL:Expr:=(Expr.List [(Expr.Tuple [(Expr.Constant (.str "G") 0 ⟨408,22,408,25⟩),(Expr.Constant (.int 100) 0 ⟨408,27,408,30⟩)] 0 ⟨408,21,408,31⟩),(Expr.Tuple [(Expr.Constant (.str "R") 0 ⟨408,34,408,37⟩),(Expr.Constant (.int 1) 0 ⟨408,39,408,40⟩)] 0 ⟨408,33,408,41⟩),(Expr.Tuple [(Expr.Constant (.str "g") 0 ⟨408,44,408,47⟩),(Expr.Constant (.int 0) 0 ⟨408,49,408,50⟩)] 0 ⟨408,43,408,51⟩),(Expr.Tuple [(Expr.Constant (.str "s") 0 ⟨408,54,408,57⟩),(Expr.UnaryOp .USub (Expr.Constant (.int 1) 0 ⟨408,60,408,61⟩) ⟨408,59,408,61⟩)] 0 ⟨408,53,408,62⟩),(Expr.Tuple [(Expr.Constant (.str "") 0 ⟨408,65,408,67⟩),(Expr.Constant (.int 0) 0 ⟨408,69,408,70⟩)] 0 ⟨408,64,408,71⟩),(Expr.Tuple [(Expr.Constant (.str "3") 0 ⟨408,74,408,77⟩),(Expr.Constant (.int 3) 0 ⟨408,79,408,80⟩)] 0 ⟨408,73,408,81⟩)] ⟨408,20,408,82⟩)
theorem AE {X:Cx}:y9 X eL (kW (ax (cP (ax (tC (V.str "G")) (ax (tC (V.int 100)) ba))) (ax (cP (ax (tC (V.str "R")) (ax (tC (V.int 1)) ba))) (ax (cP (ax (tC (V.str "g")) (ax (tC (V.int 0)) ba))) (ax (cP (ax (tC (V.str "s")) (ax (K2 (rU fun i=>V.int (-i)) (tC (V.int 1))) ba))) (ax (cP (ax (tC (V.str "")) (ax (tC (V.int 0)) ba))) (ax (cP (ax (tC (V.str "3")) (ax (tC (V.int 3)) ba))) ba))))))):=by unfold eL;exact uI
@[irreducible] def iB:TE:=(kW (ax (cP (ax (tC (V.str "G")) (ax (tC (V.int 100)) ba))) (ax (cP (ax (tC (V.str "R")) (ax (tC (V.int 1)) ba))) (ax (cP (ax (tC (V.str "g")) (ax (tC (V.int 0)) ba))) (ax (cP (ax (tC (V.str "s")) (ax (K2 (rU fun i=>V.int (-i)) (tC (V.int 1))) ba))) (ax (cP (ax (tC (V.str "")) (ax (tC (V.int 0)) ba))) (ax (cP (ax (tC (V.str "3")) (ax (tC (V.int 3)) ba))) ba)))))))
theorem lL:iB=(kW (ax (cP (ax (tC (V.str "G")) (ax (tC (V.int 100)) ba))) (ax (cP (ax (tC (V.str "R")) (ax (tC (V.int 1)) ba))) (ax (cP (ax (tC (V.str "g")) (ax (tC (V.int 0)) ba))) (ax (cP (ax (tC (V.str "s")) (ax (K2 (rU fun i=>V.int (-i)) (tC (V.int 1))) ba))) (ax (cP (ax (tC (V.str "")) (ax (tC (V.int 0)) ba))) (ax (cP (ax (tC (V.str "3")) (ax (tC (V.int 3)) ba))) ba))))))):=by unfold iB;rfl
theorem AF {X:Cx}:y9 X eL iB:=by rw[lL];exact AE
theorem AG {X:Cx}:PE X eL iB:=AF.out
theorem IP {X:Cx}:y9 X (Expr.List [] ⟨690,22,690,24⟩) (kW ba):=Iq mD
theorem IQ {X:Cx}:y9 X (Expr.List [] ⟨690,26,690,28⟩) (kW ba):=Iq mD
theorem IS {X:Cx}:qN X [(Expr.List [] ⟨690,26,690,28⟩)] (ax (kW ba) ba):=FV IQ mD
theorem IT {X:Cx}:qN X [(Expr.List [] ⟨690,22,690,24⟩),(Expr.List [] ⟨690,26,690,28⟩)] (ax (kW ba) (ax (kW ba) ba)):=FV IP IS
theorem IU {X:Cx}:qN X [(Expr.Dict [] [] ⟨690,18,690,20⟩),(Expr.List [] ⟨690,22,690,24⟩),(Expr.List [] ⟨690,26,690,28⟩)] (ax sr (ax (kW ba) (ax (kW ba) ba))):=Nr Pk IT
theorem IV {X:Cx}:y9 X (Expr.Tuple [(Expr.Dict [] [] ⟨690,18,690,20⟩),(Expr.List [] ⟨690,22,690,24⟩),(Expr.List [] ⟨690,26,690,28⟩)] 0 ⟨690,17,690,29⟩) (cP (ax sr (ax (kW ba) (ax (kW ba) ba)))):=sj IU
@[irreducible] def jx:Expr:=(Expr.Tuple [(Expr.Dict [] [] ⟨690,18,690,20⟩),(Expr.List [] ⟨690,22,690,24⟩),(Expr.List [] ⟨690,26,690,28⟩)] 0 ⟨690,17,690,29⟩)
theorem N3 {X:Cx}:y9 X jx (cP (ax sr (ax (kW ba) (ax (kW ba) ba)))):=by unfold jx;exact IV
theorem qX (p:Pos)(l:Nat)(env:Env):swapsWith jx (some (.Name "_law_stand" p)) l env=pure false:=by unfold jx;rfl
@[irreducible] def uJ:TE:=(cP (ax sr (ax (kW ba) (ax (kW ba) ba))))
theorem x3:uJ=(cP (ax sr (ax (kW ba) (ax (kW ba) ba)))):=by unfold uJ;rfl
theorem N4 {X:Cx}:y9 X jx uJ:=by rw[x3];exact N3
theorem N5 {X:Cx}:PE X jx uJ:=N4.out
set_option genInjectivity false in
set_option genSizeOf false in
structure OS where
 oT:Addr
 oU:FuncData
 jQ:Addr
 jR:FuncData
 uK:Addr
 uL:FuncData
 GC:Addr
 GD:FuncData
 N6:Addr
 N7:FuncData
 uM:Addr
 uN:FuncData
 GF:Addr
 GG:FuncData
 qd:Addr
 qe:FuncData
 rK:Addr
 rL:FuncData
 uO:Addr
 uP:FuncData
 uQ:Addr
 uR:FuncData
 C9:Addr
 Dc:FuncData
 lM:Addr
 lN:FuncData
 Df:Addr
 Dg:FuncData
 qf:Addr
 qg:FuncData
 oV:Addr
 oW:FuncData
 rM:Addr
 rN:FuncData
 nq:Addr
 nr:FuncData
 nt:Addr
 nu:FuncData
 iP:Addr
 iQ:FuncData
 lO:Addr
 lP:FuncData
 Ki:Addr
 Kj:FuncData
 Dh:Addr
 Di:FuncData
 AH:Addr
 AI:FuncData
 qh:Addr
 qi:FuncData
 GH:Addr
 GI:FuncData
 kx:Addr
 ky:FuncData
 AJ:Addr
 AK:FuncData
 x6:Addr
 x8:FuncData
 Dj:Addr
 Dk:FuncData
 x9:Addr
 ya:FuncData
 uS:Addr
 uT:FuncData
 eM:Addr
 gy:FuncData
 uU:Addr
 kz:Tok
 kA:Tok
 uV:Addr
 uW:FuncData
 AL:Addr
 AM:FuncData
 jS:Addr
 jT:FuncData
 yb:Addr
 yc:FuncData
 Dl:Addr
 Dm:FuncData
 yd:Addr
 ye:FuncData
 yf:Addr
 yg:FuncData
 yh:Addr
 yi:FuncData
 Dn:Addr
 Dp:FuncData
 Dq:Addr
 Dr:FuncData
 Ds:Addr
 Dt:FuncData
 nC:Addr
 nE:FuncData
 lQ:Addr
 lR:FuncData
 nF:Addr
 nG:FuncData
 yj:Addr
 yk:FuncData
 AN:Addr
 AO:FuncData
 ym:Addr
 yn:FuncData
 yo:Addr
 yp:FuncData
 yq:Addr
 yr:FuncData
 yt:Addr
 yu:FuncData
 yv:Addr
 yw:FuncData
 N8:Addr
 N9:FuncData
 wV:Addr
 Du:FuncData
 Dv:Addr
 Dw:FuncData
 Dx:Addr
 Dy:FuncData
 GJ:Addr
 GK:FuncData
 AQ:Addr
 sH:FuncData
 GL:Addr
 EL:Tok
 Dz:Addr
 DA:FuncData
 rO:Addr
 rP:FuncData
 iR:Addr
 iS:FuncData
 Oa:Addr
 IW:FuncData
 PL:Addr
 Ob:Tok
 oX:Addr
 oY:FuncData
 nH:Addr
 nI:FuncData
 lS:Addr
 lT:FuncData
 lU:Addr
 lV:FuncData
 uX:Addr
 uY:FuncData
 DB:Addr
 DC:FuncData
 GN:Addr
 AR:FuncData
 LH:Addr
 IX:Tok
 yx:Addr
 yy:FuncData
 yz:Addr
 yA:FuncData
 GO:Addr
 GP:FuncData
 DD:Addr
 DE:FuncData
 Kk:Addr
 Kl:FuncData
 GQ:Addr
 GR:FuncData
 yB:Addr
 yC:FuncData
 AS:Addr
 AU:FuncData
 oZ:Addr
 o5:FuncData
 AV:Addr
 AW:FuncData
 GS:Addr
 GU:FuncData
 AX:Addr
 AY:FuncData
 yD:Addr
 yE:FuncData
 Oc:Addr
 Od:FuncData
 jk:Addr
 mK:Addr
 jI:Addr
 gW:Addr
 eN:Addr
 iC:Addr
 AZ:Tok
 kB:Addr
 kC:Addr
 gA:Addr
 EM:Tok
 uZ:Tok
 zh:Tok
 A0:Tok
 LI:Tok
 A1:Tok
 BV:Tok
 EN:Tok
 Oe:Tok
 LJ:Tok
 wW:Addr
 EO:Addr
 qj:Tok
 qk:Tok
 lW:Addr
 cv:Addr
 cw:Addr
 cJ:Addr
 cK:Addr
 cL:Addr
 bS:Addr
 gK:Addr
 cM:Addr
 cb:Addr
 LK:Addr
 cN:Addr
 cO:Addr
 Of:Addr
 du:Addr
 dw:Addr
structure cD (K:Frag)(mg:Str->Option Value)(x:Str)(st:Stmt)(ps:List Str)(f:Addr)(fd:FuncData):Prop extends O6 K x x st f fd where
 g:mg x=some (.ref f)
 b:Binds K fd ps []
abbrev nJ {K:Frag}{x q:Str}{st:Stmt}{f:Addr}{fd:FuncData}{N ps:List Str}(_:O6 K x q st f fd)(_:aA N ps (aj st))(CX:K8)(P:Program)(w:World)(mg:Str->Option Value)(base:Heap)(cdv:Value)(A:Around)(outer:List Env)(s:Shared)(H:Hp)(E:XK):Cx:=mC CX P w K mg base N q (aj st) f cdv A outer s H E
theorem fQ {j k:Nat}{A:Around}(r:fJ k A)(h:j<=k:=by decide):fJ j A:=r.mono h
theorem dG {X:Cx}{k m:Nat}{f:Addr}{fd:FuncData}{ps:List Str}{sp:Sp}{x:Str}{st:Stmt}{p pos:Pos}{e:Expr}{es:List Expr}{t:TA}(F:cD X.K X.mg x st ps f fd)(G:aW X.prog X.w X.K X.mg X.base fA k f fd ps sp)(hr:fJ m X.A)(ha:PA X (e::es) t)(hk:k<=m:=by decide)(hg:Gl X x:=by rfl)(hdb:(x==("__debug__":Str))=false:=by decide)(he:starEach (e::es) X.env=(false,eval e X.env)::starEach es X.env:=by rfl)(hpl:(backTo pos (starEach es X.env)).any (·.1)=false:=by rfl):PE X (.Call (.Name x p) (e::es) [] pos) (Qm sp [] E0 t):=oh G (hr.mono hk) hg F.g F.kp F.b .nil dN ha hdb he hpl
theorem jG {X:Cx}{x:Str}{pos:Pos}(i:Nat)(hN:X.N.Nodup)(hi:X.N[i]? = some x:=by rfl)(hx:Loc X.env.scope x:=by exact Or.inl rfl)(hf:X.fn x=true\/X.env.scope.names.lookup x=some .local:=by first|exact .inl rfl|exact .inr rfl):PG X (.Name x pos) (xp i):=dX hN hi hx hf
theorem dq {X:Cx}{x:Str}{e:Expr}{te:TE}{pos pos':Pos}(i:Nat)(hN:X.N.Nodup)(he:PE X e te)(hs:swapsWith e (some (.Name x pos')) pos.line X.env=pure false:=by rfl)(hi:X.N[i]? = some x:=by rfl)(hx:Loc X.env.scope x:=by exact Or.inl rfl)(hf:X.fn x=true\/X.env.scope.names.lookup x=some .local:=by first|exact .inl rfl|exact .inr rfl):PS X (.Assign [.Name x pos'] e pos) (Mp te (xp i)):=pJ hN hi hx he hs hf
theorem aY {X:Cx}{a:Expr}{ta:TE}{j:Int}{k:Nat}{p pos:Pos}(ha:PE X a ta):PE X (.Subscript a (.Constant (.int j) k p) pos) (TQ (WN X.K) ta (tC (.int j))):=bx aT ha ai (fun _ _=>rfl)
structure nK (K:Frag)(C:Addr)(m q:Str)(st:Stmt)(ps:List Str)(f:Addr)(fd:FuncData):Prop extends O6 K m q st f fd where
 me:Meth K C m f
 b:Binds K fd ps []
structure PM (K:Frag)(C:Addr)(m q:Str)(st:Stmt)(ps:List Str)(f:Addr)(fd:FuncData):Prop extends O6 K m q st f fd where
 PN:Mk K C f
 b:Binds K fd ps []
structure Km (K:Frag)(mg:Str->Option Value)(x:Str)(st:Stmt)(df:Addr)(its:Array Value)(f:Addr)(fd:FuncData):Prop extends Em K x x st f fd (.ref df) where
 g:mg x=some (.ref f)
 dl:∃ c o n s,K.lookup df=some ⟨c,o,.seq its n,s⟩
structure QN (K:Frag)(C:Addr)(m q:Str)(st:Stmt)(df:Addr)(its:Array Value)(f:Addr)(fd:FuncData):Prop extends Em K m q st f fd (.ref df) where
 me:Meth K C m f
 dl:∃ c o n s,K.lookup df=some ⟨c,o,.seq its n,s⟩
theorem GW {us:List Value}{n:Nat}(h:us.length=n+1):∃ a t,us=a::t/\t.length=n:=by
 cases us with
 |nil=>exact S' h (Nat.succ_ne_zero n).symm
 |cons a t=>exact⟨a,t,rfl,Nat.succ.inj h⟩
theorem Kn {us:List Value}(h:us.length=0):us=[]:=List.eq_nil_of_length_eq_zero h
theorem Ko {us:List Value}(h:us.length=1):∃ a0,us=[a0]:=by
 obtain⟨a0,t,rfl,h2⟩:=GW h;obtain rfl:=Kn h2;exact⟨a0,rfl⟩
theorem GX {us:List Value}(h:us.length=2):∃ a0 a1,us=[a0,a1]:=by
 obtain⟨a0,t,rfl,h2⟩:=GW h;obtain⟨a1,rfl⟩:=Ko h2;exact⟨a0,a1,rfl⟩
theorem GY {us:List Value}(h:us.length=3):∃ a0 a1 a2,us=[a0,a1,a2]:=by
 obtain⟨a0,t,rfl,h2⟩:=GW h;obtain⟨a1,a2,rfl⟩:=GX h2;exact⟨a0,a1,a2,rfl⟩
theorem Kp {us:List Value}(h:us.length=4):∃ a0 a1 a2 a3,us=[a0,a1,a2,a3]:=by
 obtain⟨a0,t,rfl,h2⟩:=GW h;obtain⟨a1,a2,a3,rfl⟩:=GY h2;exact⟨a0,a1,a2,a3,rfl⟩
theorem Kq {us:List Value}(h:us.length=5):∃ a0 a1 a2 a3 a4,us=[a0,a1,a2,a3,a4]:=by
 obtain⟨a0,t,rfl,h2⟩:=GW h;obtain⟨a1,a2,a3,a4,rfl⟩:=Kp h2;exact⟨a0,a1,a2,a3,a4,rfl⟩
theorem GZ {us:List Value}(h:us.length=6):∃ a0 a1 a2 a3 a4 a5,us=[a0,a1,a2,a3,a4,a5]:=by
 obtain⟨a0,t,rfl,h2⟩:=GW h;obtain⟨a1,a2,a3,a4,a5,rfl⟩:=Kq h2;exact⟨a0,a1,a2,a3,a4,a5,rfl⟩
theorem Kr {us:List Value}(h:us.length=7):∃ a0 a1 a2 a3 a4 a5 a6,us=[a0,a1,a2,a3,a4,a5,a6]:=by
 obtain⟨a0,t,rfl,h2⟩:=GW h;obtain⟨a1,a2,a3,a4,a5,a6,rfl⟩:=GZ h2;exact⟨a0,a1,a2,a3,a4,a5,a6,rfl⟩
theorem Og {us:List Value}(h:us.length=8):∃ a0 a1 a2 a3 a4 a5 a6 a7,us=[a0,a1,a2,a3,a4,a5,a6,a7]:=by
 obtain⟨a0,t,rfl,h2⟩:=GW h;obtain⟨a1,a2,a3,a4,a5,a6,a7,rfl⟩:=Kr h2;exact⟨a0,a1,a2,a3,a4,a5,a6,a7,rfl⟩
theorem Oh {us:List Value}(h:(us++[]).length=2):∃ a0 a1,us=[a0,a1]:=GX (by rw[append_nil]at h;exact h)
theorem UT {us:List Value}(h:(us++[]).length=6):∃ a0 a1 a2 a3 a4 a5,us=[a0,a1,a2,a3,a4,a5]:=GZ (by rw[append_nil]at h;exact h)
section
variable {K:Frag} {h:Heap} {mg:Str->Option Value} {x m q:Str} {st:Stmt} {ps:List Str} {f C T:Addr} {oc:Value} {od an:Option Addr} {osl:Array (Option Value)} {kV doc pm cdv ct:Value}
theorem gE (X:K.In h)(G:h.Ns mainGlobals mg)(a:nsIn K mainGlobals x=some (some (.ref f)))(l:K.lookup f=some ⟨oc,od,.func (fnOf x x (dj st) (a8 st) (aj st) .none kV doc pm an cdv ct),osl⟩)(c:codeIn K cdv x=true)(k:keepIn K (.ref f)=true)(hb:∀ us:List Value,us.length=ps.length->bindArgs (fnOf x x (dj st) (a8 st) (aj st) .none kV doc pm an cdv ct) ⟨us,[]⟩=pure (ps.zip us)):cD K mg x st ps f (fnOf x x (dj st) (a8 st) (aj st) .none kV doc pm an cdv ct):=⟨Ik l c k,mg_of X G a,.all hb⟩
theorem gDE {dc:Value}{Xw:Option Addr}{dn:Nat}{ds:Array (Option Value)}{its:Array Value}(X:K.In h)(G:h.Ns mainGlobals mg)(a:nsIn K mainGlobals x=some (some (.ref f)))(l:K.lookup f=some ⟨oc,od,.func (fnOf x x (dj st) (a8 st) (aj st) (.ref T) kV doc pm an cdv ct),osl⟩)(c:codeIn K cdv x=true)(k:keepIn K (.ref f)=true)(dl:K.lookup T=some ⟨dc,Xw,.seq its dn,ds⟩):Km K mg x st T its f (fnOf x x (dj st) (a8 st) (aj st) (.ref T) kV doc pm an cdv ct):=⟨JV l c k,mg_of X G a,_,_,_,_,dl⟩
theorem mE (a:findIn K (.ref C) m=some (some (.ref f)))(fn:isFn K (.ref f)=true)(l:K.lookup f=some ⟨oc,od,.func (fnOf m q (dj st) (a8 st) (aj st) .none kV doc pm an cdv ct),osl⟩)(c:codeIn K cdv q=true)(k:keepIn K (.ref f)=true)(hb:∀ us:List Value,us.length=ps.length->bindArgs (fnOf m q (dj st) (a8 st) (aj st) .none kV doc pm an cdv ct) ⟨us,[]⟩=pure (ps.zip us)):nK K C m q st ps f (fnOf m q (dj st) (a8 st) (aj st) .none kV doc pm an cdv ct):=⟨Ik l c k,⟨a,fn,k⟩,.all hb⟩
theorem mDE {dc:Value}{Xw:Option Addr}{dn:Nat}{ds:Array (Option Value)}{its:Array Value}(a:findIn K (.ref C) m=some (some (.ref f)))(fn:isFn K (.ref f)=true)(l:K.lookup f=some ⟨oc,od,.func (fnOf m q (dj st) (a8 st) (aj st) (.ref T) kV doc pm an cdv ct),osl⟩)(c:codeIn K cdv q=true)(k:keepIn K (.ref f)=true)(dl:K.lookup T=some ⟨dc,Xw,.seq its dn,ds⟩):QN K C m q st T its f (fnOf m q (dj st) (a8 st) (aj st) (.ref T) kV doc pm an cdv ct):=⟨JV l c k,⟨a,fn,k⟩,_,_,_,_,dl⟩
theorem iE (mm:makesIn K C=true)(mk:keepIn K (.ref C)=true)(a:findIn K (.ref C) "__init__"=some (some (.ref f)))(fn:isFn K (.ref f)=true)(l:K.lookup f=some ⟨oc,od,.func (fnOf "__init__" q (dj st) (a8 st) (aj st) .none kV doc pm an cdv ct),osl⟩)(c:codeIn K cdv q=true)(k:keepIn K (.ref f)=true)(hb:∀ us:List Value,us.length=ps.length->bindArgs (fnOf "__init__" q (dj st) (a8 st) (aj st) .none kV doc pm an cdv ct) ⟨us,[]⟩=pure (ps.zip us)):PM K C "__init__" q st ps f (fnOf "__init__" q (dj st) (a8 st) (aj st) .none kV doc pm an cdv ct):=⟨Ik l c k,⟨mm,a,fn,mk⟩,.all hb⟩
end
structure Txt (K:Frag)(w:World)(mg:Str->Option Value)(t:OS):Prop where
 G6:mg "Voice"=some (.ref t.lW)
 va:mg "Deed"=some (.ref t.cv)
 Ks:mg "Book"=some (.ref t.cw)
 A2:mg "NoVoice"=some (.ref t.cJ)
 sI:mg "BadSign"=some (.ref t.cK)
 A3:mg "BadName"=some (.ref t.cL)
 vb:mg "NameTaken"=some (.ref t.bS)
 ER:mg "Full"=some (.ref t.gK)
 A4:mg "NoPlace"=some (.ref t.cM)
 yF:mg "NotPlain"=some (.ref t.cb)
 R7:mg "BadWord"=some (.ref t.LK)
 A5:mg "BadTerm"=some (.ref t.cN)
 ES:mg "NoteError"=some (.ref t.cO)
 Td:mg "BadRow"=some (.ref t.Of)
 DF:mg "Leaned"=some (.ref t.du)
 wX:mg "NoMore"=some (.ref t.dw)
 rQ:mg "GREAT_KINDS"=some (.ref t.jk)
 BW:mg "SMALL_KINDS"=some (.ref t.mK)
 zi:mg "PARTING_KINDS"=some (.ref t.jI)
 o6:mg "MEASURE_KINDS"=some (.ref t.gW)
 i6:mg "SOUNDING_KINDS"=some (.ref t.eN)
 qm:mg "SILENT_KINDS"=some (.ref t.iC)
 A6:mg "HIGHEST_TONE"=some (.int 99 t.AZ)
 A7:mg "TURNED_KINDS"=some (.ref t.kB)
 A8:mg "PLAIN_WORTHS"=some (.ref t.kC)
 nM:mg "TWOFOLD_WORTHS"=some (.ref t.gA)
 ET:mg "FULL_WORTH"=some (.int 3 t.EM)
 fR:mg "SHORTENED_WORTH"=some (.int 2 t.uZ)
 zj:mg "DOUBLED_WORTH"=some (.int 2 t.zh)
 A9:mg "DOTTED_WORTH"=some (.int 3 t.A0)
 LL:mg "LETTERS"=some (.str "abcdefghijklmnopqrstuvwxyz" t.LI)
 Ba:mg "LONGEST_NAME"=some (.int 8 t.A1)
 Ca:mg "MOST_VOICES"=some (.int 12 t.BV)
 EU:mg "MOST_SIGNS"=some (.int 200 t.EN)
 Oi:mg "LATEST"=some (.int 999 t.Oe)
 LM:mg "SLOWEST"=some (.int 9 t.LJ)
 LN:mg "FIGURES"=some (.ref t.wW)
 Oj:mg "WAYS"=some (.ref t.EO)
 qo:mg "MOST_FIGURES_texts"=some (.int 2 t.qj)
 jy:mg "MOST_FIGURES_shelf"=some (.int 3 t.qk)
 R8:mg "all"=none
 IY:mg "any"=none
 Kt:mg "bool"=none
 PQ:mg "dict"=none
 j2:mg "enumerate"=none
 qp:mg "int"=none
 bg:mg "isinstance"=none
 bu:mg "len"=none
 fi:mg "list"=none
 R9:mg "max"=none
 Sa:mg "min"=none
 jz:mg "range"=none
 Sb:mg "str"=none
 vc:mg "tuple"=none
 Ol:mg "zip"=none
 G7:cD K mg "sounds" Gs ["sign"] t.GC t.GD
 IZ:cD K mg "good" NZ ["sign"] t.N6 t.N7
 iD:cD K mg "shown_sign" ub ["sign"] t.uM t.uN
 Bb:cD K mg "turned" Gu ["line"] t.GF t.GG
 rR:cD K mg "shown_voice" rE ["book","name"] t.rK t.rL
 j3:cD K mg "shown_book" ud ["book"] t.uQ t.uR
 DG:cD K mg "is_name" CQ ["name"] t.C9 t.Dc
 aU:cD K mg "refuse_other_places" iN ["at","last"] t.iP t.iQ
 cj:cD K mg "refuse_bad_sign" lE ["sign"] t.lO t.lP
 EV:cD K mg "small" Kg ["sign"] t.Ki t.Kj
 DH:cD K mg "low_end" CU ["line","at"] t.Dh t.Di
 Bc:cD K mg "high_end" Am ["line","first","kinds"] t.AH t.AI
 kD:cD K mg "sets_measure" p9 ["sign"] t.qh t.qi
 vd:cD K mg "window" Gv ["line","at","behind","changed"] t.GH t.GI
 lX:cD K mg "number_of" xF ["word","most"] t.x6 t.x8
 DI:cD K mg "sign_of" CW ["word"] t.Dj t.Dk
 yG:cD K mg "read_sign" xG ["word"] t.x9 t.ya
 ve:cD K mg "take_voice" ue ["book","words"] t.uS t.uT
 vf:cD K mg "take_canon" uf ["book","words"] t.uV t.uW
 Bd:cD K mg "take_row" Ao ["book","row"] t.AL t.AM
 yH:cD K mg "read_book" xH ["text"] t.yb t.yc
 DJ:cD K mg "_law_begun" CY ["_law_cell"] t.Dl t.Dm
 jA:cD K mg "_law_cell_at" xI ["_law_script","_law_k"] t.yd t.ye
 yI:cD K mg "_law_sign_by" xJ ["_law_number"] t.yf t.yg
 qq:cD K mg "_law_deed_by" cg ["_law_number"] t.yh t.yi
 qS:cD K mg "_law_mixed" CZ ["_law_seed","_law_k"] t.Dn t.Dp
 wY:cD K mg "_law_deeds" C0 ["_law_script","_law_at","_law_many"] t.Dq t.Dr
 nN:cD K mg "_law_place" C1 ["_law_voices","_law_deed"] t.Ds t.Dt
 nP:cD K mg "_law_name_refused" ng ["_law_voices","_law_name"] t.nC t.nE
 lY:cD K mg "_law_canon_refused" lF ["_law_voices","_law_deed"] t.lQ t.lR
 nQ:cD K mg "_law_line_refused" nh ["_law_voices","_law_deed"] t.nF t.nG
 qr:cD K mg "_law_refused" xK ["_law_stand","_law_deed"] t.yj t.yk
 i7:cD K mg "_law_do" N0 ["_law_book","_law_deed","_law_at"] t.N8 t.N9
 nR:cD K mg "_law_tried" wB ["_law_book","_law_deed","_law_at"] t.wV t.Du
 i8:cD K mg "_law_whole" C2 ["_law_found"] t.Dv t.Dw
 DK:cD K mg "_law_signs" C3 ["_law_found","_law_due"] t.Dx t.Dy
 G8:cD K mg "_law_nums" Gw ["_law_found","_law_due"] t.GJ t.GK
 gB:cD K mg "kind_at" C4 ["line","at"] t.Dz t.DA
 rS:cD K mg "plain_worth" rG ["kind","measure"] t.rO t.rP
 iT:cD K mg "worths_without_runs" iO ["line","begin"] t.iR t.iS
 jJ:cD K mg "has_left_note" oR ["line","found","first"] t.oX t.oY
 i9:cD K mg "has_right_note" nj ["line","behind"] t.nH t.nI
 lZ:cD K mg "settle_one_over" lG ["line","found","first","behind"] t.lS t.lT
 l4:cD K mg "settle_two_over" lH ["line","found","first","behind"] t.lU t.lV
 vg:cD K mg "settle_run" ug ["line","found","first","behind"] t.uX t.uY
 DM:cD K mg "reading" C5 ["line","begin"] t.DB t.DC
 qt:cD K mg "_law_line_of" xS ["_law_voices","_law_name"] t.yz t.yA
 G9:cD K mg "_law_base" Gy ["_law_line","_law_begin"] t.GO t.GP
 DN:cD K mg "_law_three" C6 ["_law_line","_law_begin"] t.DD t.DE
 Ku:cD K mg "_law_run" Kh ["_law_line","_law_told","_law_low","_law_high"] t.Kk t.Kl
 Be:cD K mg "_law_read" Gz ["_law_line","_law_begin"] t.GQ t.GR
 yJ:cD K mg "_law_kept_of" xV ["_law_voices","_law_name"] t.yB t.yC
 kF:cD K mg "_law_stands" Ar ["_law_book","_law_voices"] t.AS t.AU
 o8:cD K mg "_law_line_behind" oS ["_law_line","_law_deed","_law_at"] t.oZ t.o5
 sJ:cD K mg "_law_behind" As ["_law_stand","_law_deed"] t.AV t.AW
 Ha:cD K mg "_law_pair" GA ["_law_found","_law_due"] t.GS t.GU
 Bf:cD K mg "_law_window" Au ["_law_line","_law_deed","_law_at"] t.AX t.AY
 yK:cD K mg "_law_goes_on" xW ["_law_back","_law_voices","_law_deeds_here"] t.yD t.yE
 Om:cD K mg "law" Av ["_law_script"] t.Oc t.Od
 hV:Km K mg "measures" Aq t.GL #[.int 3 t.EL] t.AQ t.sH
 Bg:Km K mg "runs" N1 t.PL #[.int 3 t.Ob] t.Oa t.IW
 kG:Km K mg "worths" Gx t.LH #[.int 3 t.IX] t.GN t.AR
 fE:PM K t.cw "__init__" "Book.__init__" oP ["self"] t.oT t.oU
 bR:PM K t.cv "__init__" "Deed.__init__" oQ ["self","things","at","before","after"] t.oV t.oW
 eO:PM K t.lW "__init__" "Voice.__init__" m9 ["self","name","terms"] t.nq t.nr
 aV:nK K t.cw "voice_called" "Book.voice_called" jO ["self","name"] t.jQ t.jR
 cm:nK K t.cw "canon" "Book.canon" ua ["self","name"] t.uK t.uL
 bB:nK K t.cw "line" "Book.line" xE ["self","name"] t.qd t.qe
 cH:nK K t.cw "names" "Book.names" uc ["self"] t.uO t.uP
 ck:nK K t.cw "refuse_new" "Book.refuse_new" lD ["self","name"] t.lM t.lN
 bX:nK K t.cw "perform" "Book.perform" p8 ["self","deed"] t.qf t.qg
 gR:nK K t.cw "put_in" "Book.put_in" rF ["self","voice"] t.rM t.rN
 dJ:nK K t.cw "add_voice" "Book.add_voice" nc ["self","name"] t.nt t.nu
 bo:nK K t.cw "plain_voice" "Book.plain_voice" km ["self","name"] t.kx t.ky
 fk:nK K t.cw "put" "Book.put" An ["self","name","at","sign"] t.AJ t.AK
 gL:nK K t.cw "forget_deeds" "Book.forget_deeds" jP ["self"] t.jS t.jT
 kH:nK K t.cw "cut" "Book.cut" Ap ["self","name","at"] t.AN t.AO
 ic:nK K t.cw "swap" "Book.swap" xM ["self","name","at","sign"] t.ym t.yn
 jB:nK K t.cw "drop" "Book.drop" xN ["self","name"] t.yo t.yp
 ie:nK K t.cw "undo" "Book.undo" xP ["self"] t.yt t.yu
 l8:nK K t.cw "redo" "Book.redo" xQ ["self"] t.yv t.yw
 eV:nK K t.cw "kept" "Book.kept" xR ["self","name"] t.yx t.yy
 nS:nK K t.cv "do" "Deed.do" CS ["self"] t.Df t.Dg
 qu:nK K t.cv "undo" "Deed.undo" xO ["self"] t.yq t.yr
 cA:QN K t.cw "add_canon" "Book.add_canon" eK t.uU #[.int 0 t.kz,.int 1 t.kA,.bool false] t.eM t.gy
 rT:∀ H,jf K H t.jk [.str "G",.str "D",.str "R"]
 Cb:∀ H,jf K H t.mK [.str "s",.str "d",.str "r"]
 zk:∀ H,jf K H t.jI [.str ".",.str "3",.str "2"]
 o9:∀ H,jf K H t.gW [.str "3",.str "2"]
 ja:∀ H,jf K H t.eN [.str "G",.str "D",.str "s",.str "d"]
 kI:∀ H,jf K H t.iC [.str "R",.str "r",.str ".",.str "3",.str "2"]
 zm:KD K w t.kB [("3",.str "2"),("2",.str "3")]
 zo:KD K w t.kC [("G",.int 3),("D",.int 2),("R",.int 3),("s",.int 1),("d",.int 1),("r",.int 1),(".",.int 0),("3",.int 0),("2",.int 0)]
 l9:KD K w t.gA [("G",.int 2),("R",.int 2)]
 LO:∀ H,jf K H t.wW [.str "0",.str "1",.str "2",.str "3",.str "4",.str "5",.str "6",.str "7",.str "8",.str "9"]
 Kv:KD K w t.EO [("straight",.bl false),("turned",.bl true)]
 d4:HU K t.lW
 d5:HU K t.cv
 aI:HU K t.cw
 mL:gH K t.lW "name"
 gm:gH K t.lW "terms"
 eP:gH K t.lW "signs"
 kJ:gH K t.cv "things"
 kK:gH K t.cv "at"
 kL:gH K t.cv "before"
 mM:gH K t.cv "after"
 dg:gH K t.cw "voices"
 gC:gH K t.cw "done"
 eQ:gH K t.cw "undone"
 Ja:OR K t.cJ
 Bh:OR K t.cK
 Jb:OR K t.cL
 EW:OR K t.bS
 Kw:OR K t.gK
 Jc:OR K t.cM
 Hb:OR K t.cb
 Jd:OR K t.cN
 LP:OR K t.du
 DO:OR K t.dw
 Hc:exmOne K (.ref t.cJ) (.ref t.cO)=some true
 Hd:exmOne K (.ref t.cK) (.ref t.cO)=some true
 He:exmOne K (.ref t.cL) (.ref t.cO)=some true
 EX:exmOne K (.ref t.bS) (.ref t.cO)=some true
 Kx:exmOne K (.ref t.gK) (.ref t.cO)=some true
 Hf:exmOne K (.ref t.cM) (.ref t.cO)=some true
 Ft:exmOne K (.ref t.cb) (.ref t.cO)=some true
 Hg:exmOne K (.ref t.cN) (.ref t.cO)=some true
 HJ:exmOne K (.ref t.du) (.ref t.cO)=some true
 HK:exmOne K (.ref t.dw) (.ref t.cO)=some true
 sL:exmOne K (.ref t.cJ) (.ref t.cL)=some false
 qv:exmOne K (.ref t.cJ) (.ref t.bS)=some false
 zp:exmOne K (.ref t.cJ) (.ref t.gK)=some false
 sM:exmOne K (.ref t.cJ) (.ref t.cJ)=some true
 sN:exmOne K (.ref t.cK) (.ref t.cL)=some false
 qw:exmOne K (.ref t.cK) (.ref t.bS)=some false
 zq:exmOne K (.ref t.cK) (.ref t.gK)=some false
 sO:exmOne K (.ref t.cK) (.ref t.cJ)=some false
 qY:exmOne K (.ref t.cK) (.ref t.cb)=some false
 sP:exmOne K (.ref t.cK) (.ref t.cM)=some false
 sQ:exmOne K (.ref t.cK) (.ref t.cK)=some true
 sR:exmOne K (.ref t.cL) (.ref t.cL)=some true
 qx:exmOne K (.ref t.bS) (.ref t.cL)=some false
 oB:exmOne K (.ref t.bS) (.ref t.bS)=some true
 zr:exmOne K (.ref t.gK) (.ref t.cL)=some false
 vh:exmOne K (.ref t.gK) (.ref t.bS)=some false
 EY:exmOne K (.ref t.gK) (.ref t.gK)=some true
 sS:exmOne K (.ref t.cM) (.ref t.cL)=some false
 qy:exmOne K (.ref t.cM) (.ref t.bS)=some false
 zt:exmOne K (.ref t.cM) (.ref t.gK)=some false
 sU:exmOne K (.ref t.cM) (.ref t.cJ)=some false
 qZ:exmOne K (.ref t.cM) (.ref t.cb)=some false
 sV:exmOne K (.ref t.cM) (.ref t.cM)=some true
 q0:exmOne K (.ref t.cb) (.ref t.cL)=some false
 pF:exmOne K (.ref t.cb) (.ref t.bS)=some false
 wZ:exmOne K (.ref t.cb) (.ref t.gK)=some false
 q8:exmOne K (.ref t.cb) (.ref t.cJ)=some false
 qz:exmOne K (.ref t.cb) (.ref t.cb)=some true
 sW:exmOne K (.ref t.cN) (.ref t.cL)=some false
 qA:exmOne K (.ref t.cN) (.ref t.bS)=some false
 zu:exmOne K (.ref t.cN) (.ref t.gK)=some false
 sX:exmOne K (.ref t.cN) (.ref t.cJ)=some false
 q9:exmOne K (.ref t.cN) (.ref t.cb)=some false
 sY:exmOne K (.ref t.cN) (.ref t.cM)=some false
 sZ:exmOne K (.ref t.cN) (.ref t.cK)=some false
 tf:exmOne K (.ref t.cN) (.ref t.cN)=some true
 vi:exmOne K (.ref t.du) (.ref t.cL)=some false
 rb:exmOne K (.ref t.du) (.ref t.bS)=some false
 Bi:exmOne K (.ref t.du) (.ref t.gK)=some false
 vj:exmOne K (.ref t.du) (.ref t.cJ)=some false
 tq:exmOne K (.ref t.du) (.ref t.cb)=some false
 vk:exmOne K (.ref t.du) (.ref t.cM)=some false
 vm:exmOne K (.ref t.du) (.ref t.cK)=some false
 vo:exmOne K (.ref t.du) (.ref t.cN)=some false
 w6:exmOne K (.ref t.du) (.ref t.du)=some true
 vq:exmOne K (.ref t.dw) (.ref t.cL)=some false
 rf:exmOne K (.ref t.dw) (.ref t.bS)=some false
 Bj:exmOne K (.ref t.dw) (.ref t.gK)=some false
 vt:exmOne K (.ref t.dw) (.ref t.cJ)=some false
 tw:exmOne K (.ref t.dw) (.ref t.cb)=some false
 vv:exmOne K (.ref t.dw) (.ref t.cM)=some false
 vy:exmOne K (.ref t.dw) (.ref t.cK)=some false
 vz:exmOne K (.ref t.dw) (.ref t.cN)=some false
 xa:exmOne K (.ref t.dw) (.ref t.du)=some false
 xc:exmOne K (.ref t.dw) (.ref t.dw)=some true
variable (P:Program) {w:World} {K:Frag} {mg:Str->Option Value} (base:Heap) {t:OS}
theorem Txt.nV {K:Frag}{w:World}{mg:Str->Option Value}{t:OS}(T:Txt K w mg t):Binds K t.gy ["self","name","leader","later","slow","is_turned"] []:=by
 obtain⟨_,_,_,_,dl⟩:=T.cA.dl;exact T.cA.binds (ds:=[]) dl rfl fun _ _ _ _ _ _ us hl=>by obtain⟨_,_,_,_,_,_,rfl⟩:=UT hl;exact⟨_,rfl,rfl⟩
theorem Txt.vA {K:Frag}{w:World}{mg:Str->Option Value}{t:OS}(T:Txt K w mg t):Binds K t.gy ["self","name","leader","later","slow","is_turned"] [.int 0 t.kz,.int 1 t.kA,.bool false]:=by
 obtain⟨_,_,_,_,dl⟩:=T.cA.dl;exact T.cA.binds dl rfl fun _ _ _ _ _ _ us hl=>by have hl:us.length=3:=(by simpa using hl);obtain⟨_,_,_,rfl⟩:=GY hl;exact⟨_,rfl,rfl⟩
theorem Txt.Bl {K:Frag}{w:World}{mg:Str->Option Value}{t:OS}(T:Txt K w mg t):Binds K t.sH ["line","begin"] []:=by
 obtain⟨_,_,_,_,dl⟩:=T.hV.dl;exact T.hV.binds (ds:=[]) dl rfl fun _ _ _ _ _ _ us hl=>by obtain⟨_,_,rfl⟩:=Oh hl;exact⟨_,rfl,rfl⟩
theorem Txt.Sd {K:Frag}{w:World}{mg:Str->Option Value}{t:OS}(T:Txt K w mg t):Binds K t.IW ["line","begin"] []:=by
 obtain⟨_,_,_,_,dl⟩:=T.Bg.dl;exact T.Bg.binds (ds:=[]) dl rfl fun _ _ _ _ _ _ us hl=>by obtain⟨_,_,rfl⟩:=Oh hl;exact⟨_,rfl,rfl⟩
theorem Txt.Hh {K:Frag}{w:World}{mg:Str->Option Value}{t:OS}(T:Txt K w mg t):Binds K t.AR ["line","begin"] []:=by
 obtain⟨_,_,_,_,dl⟩:=T.kG.dl;exact T.kG.binds (ds:=[]) dl rfl fun _ _ _ _ _ _ us hl=>by obtain⟨_,_,rfl⟩:=Oh hl;exact⟨_,rfl,rfl⟩
noncomputable def cs (t:OS):Cs:=⟨t.cw,t.lW,t.cv,true,fun r=>match r with
 |.lz=>t.cK
 |.zE=>t.cL
 |.qQ=>t.bS
 |.Full=>t.gK
 |.dm=>t.cJ
 |.eJ=>t.cb
 |.jY=>t.cM
 |.lB=>t.cN
 |.p5=>t.du
 |.gi=>t.dw⟩
inductive vB (C:Addr)(vs:List V)(H:Hp)(Q:VK)(E:XK):Prop
 |mk (x dx:Addr) (cT:vs=[.ref x]) (cU:H x=some (.ins C dx [])) (dH:∀(L D U:Addr)(H':Hp),(∀ y o,H y=some o->y≠x->H' y=some o)->H L=none->H D=none->H U=none->L≠D->L≠U->D≠U->H' x=some (.ins C dx (pY L D U))->H' L=some (.lst [])->H' D=some (.lst [])->H' U=some (.lst [])->Q .non H'):vB C vs H Q E
theorem nW (T:Txt K w mg t):aW P w K mg base fA (0+1) t.oT t.oU ["self"] (vB t.cw):=by
 refine T.fE.ok wC ?_ ?_
 x_go
 obtain⟨x,dx,rfl,hx,q⟩:=h;refine aJ (ae (mB (pv 0) (a9 ag) rfl) (ae (mB (pv 0) (a9 ag) rfl) (ah (mB (pv 0) (a9 ag) rfl)))) ?_;refine⟨big (by show 0<=1000;omega),fun L hL=>?_⟩;have xL:x≠L:=au hx hL;refine⟨_,rfl,x,_,dx,_,rfl,by rw[ak xL];exact hx,T.aI,T.dg,by show 0<1000;decide,?_⟩;refine⟨big (by show 0<=1000;omega),fun D hD=>?_⟩;have xD:x≠D:=au af hD;have DL:L≠D:=au (show upd (upd H L (.lst [])) x _ L=some (.lst []) by rw[ak (Zh' xL)];exact af) hD;have Mm:H D=none:=by rw[ak (Zh' xD),ak (Zh' DL)]at hD;exact hD
 refine⟨_,rfl,x,_,dx,_,rfl,by rw[ak xD];exact af,T.aI,T.gC,by rw[EA];show 1<1000;decide,?_⟩;refine⟨big (by show 0<=1000;omega),fun U hU=>?_⟩;have xU:x≠U:=au af hU;have DU:D≠U:=by
  rintro rfl;rw[ak (Zh' xU),af]at hU;cases hU
 have LU:L≠U:=by
  rintro rfl;rw[ak (Zh' xU),ak DL,ak (Zh' xU),af]at hU;cases hU
 have Fp:H U=none:=by rw[ak (Zh' xU),ak (Zh' DU),ak (Zh' xU),ak (Zh' LU)]at hU;exact hU
 refine⟨_,rfl,x,_,dx,_,rfl,by rw[ak xU];exact af,T.aI,T.eQ,by rw[EA,J5];show 2<1000;decide,?_⟩;rw[EA,J5,Pp];refine q L D U _ (fun y o hy ny=>?_) hL Mm Fp DL LU DU af ?_ ?_ ?_
 ·rw[ak ny,ak (au hy Fp),ak ny,ak (au hy Mm),ak ny,ak (au hy hL)];exact hy
 ·rw[ak (Zh' xL),ak LU,ak (Zh' xL),ak DL,ak (Zh' xL)];exact af
 ·rw[ak (Zh' xD),ak DU,ak (Zh' xD)];exact af
 ·rw[ak (Zh' xU)];exact af
inductive jC (c:Cs)(vs:List V)(H:Hp)(Q:VK)(E:XK):Prop
 |mk (x dx L D U:Addr) (xs:List V) (vx:List Vx) (n:Str) (cT:vs=[.ref x,.str n]) (cU:H x=some (.ins c.B dx (pY L D U))) (dH:H L=some (.lst xs)) (fL:Paired (Pq c.V H) xs vx) (jF:match vx.find? (fun a=>decide (a.n=n)) with
 |none=>RX E c .dm H
 |some a=>Q (.ref a.o) H):jC c vs H Q E
theorem LQ {vx:List Vx}{n:Str}:∀{i:Nat},(∀ j a,j<i->vx[j]? = some a->a.n≠n)->∀{b},vx[i]? = some b->b.n=n->vx.find? (fun a=>decide (a.n=n))=some b:=by
 induction vx with
 |nil=>intro i _ b h;simp at h
 |cons v vs ih =>
  intro i hi b hb he;cases i with
  |zero =>
   simp at hb;subst hb;exact List.find?_cons_of_pos (A' he)
  |succ i =>
   have h0:=hi 0 v (by omega) rfl;have h1:(v::vs).find? (fun a=>decide (a.n=n))=vs.find? (fun a=>decide (a.n=n)):=List.find?_cons_of_neg (fun z=>h0 (G' z));rw[h1];exact ih (i:=i) (fun j a hj ha=>hi (j+1) a (Nat.succ_lt_succ hj) (by simpa using ha)) (by simpa using hb) he
theorem dh (T:Txt K w mg t):aW P w K mg base (eU P w) (0+1) t.jQ t.jR ["self","name"] (jC (cs t)):=by
 refine T.aV.CF gj ?_ ?_
 x_go
 obtain⟨x,dx,L,D,U,xs,vx,n,rfl,hx,hL,g,q⟩:=h;refine aJ (ae (RS (d8 PassesOwn.never rfl (dz (bQ (pv 0) rfl)) (jG 2 gj.nd) (ah (aH (aq (aS.or (aK (az hr))) (bQ (pv 2) rfl) (pv 1) (aw _)) (ah (ar (pv 2))) ay)))) (ah (eI (X:=(nJ T.aV.1 gj (eU P w) P w mg base cdv A outer s H E)) (fun _ _ z=>z) rfl T.Ja.exc rfl T.A2 (aa av ag)))) ?_;have xl:=bM g;refine⟨_,rfl,x,_,dx,_,_,rfl,hx,T.aI,T.dg,g9 _ _ _,L,rfl,⟨_,aM.of hL⟩,ij (K:=K) (xs:=xs) (fun i σ H'=>∃ v,σ=[some (.ref x),some (.str n),v]/\H'=H/\∀ j a,j<i->vx[j]? = some a->a.n≠n) ⟨none,rfl,rfl,fun j a hj=>by omega⟩ ?_ ?_ ?_⟩
 ·rintro i σ H1 _ ⟨v,rfl,eH,_⟩;rw[eH];exact aM.of hL
 ·rintro i y σ H1 hy ⟨v,rfl,eH,hi⟩;have eH:=eH.symm;subst eH;obtain⟨b,e1,rfl,hb⟩:=oo g hy;refine⟨_,rfl,b.o,_,b.d,_,_,rfl,hb,T.d4,T.mL,Gd _ _ _,?_⟩;refine⟨_,rfl,.inl ⟨rfl,_,rfl,?_⟩⟩;refine aN (fun h=>?_) (fun h=>?_)
  ·have e:b.n=n:=V.str.inj (G' h);rw[LQ hi e1 e]at q;exact⟨_,rfl,q⟩
  ·refine⟨_,rfl,rfl,fun j a hj ha=>?_⟩;rcases Nat.lt_or_ge j i with z|z
   ·exact hi j a z ha
   ·have hij:j=i:=by omega
    rw[hij,e1]at ha;cases ha;exact fun z=>h (A' (Zj' V.str z))
 ·rintro σ H1 ⟨v,rfl,eH,hi⟩;have eH:=eH.symm;subst eH;have hn:vx.find? (fun a=>decide (a.n=n))=none:=List.find?_eq_none.mpr fun a ha z=>by
   obtain⟨j,hj⟩:=getElem?_of_mem ha;have hjl:j<vx.length:=(K'.mp hj).1;exact hi j a (by omega) hj (G' z)
  rw[hn]at q;exact⟨by show 1<=sizeLine;decide,q.2⟩
inductive rV (c:Cs)(vs:List V)(H:Hp)(Q:VK)(E:XK):Prop
 |mk (x:Addr) (F:Addr->Prop) (vw:Vw) (ps fs:List Vw) (n:Str) (cT:vs=[.ref x,.str n]) (cU:n6 c H x F vw ps fs) (dH:match aO vw n with
 |none=>RX E c .dm H
 |some (.pl _)=>Q .non H
 |some (.cn ld lt sl tn)=>∀ p,H p=some (.tup [.str ld,.int lt,.int sl,.bl tn])->Q (.ref p) H):rV c vs H Q E
theorem gS (T:Txt K w mg t):aW P w K mg base (eU P w) (0+2) t.uK t.uL ["self","name"] (rV (cs t)):=by
 have bI:=dh P base T;refine T.cm.CF rH ?_ ?_
 x_go
 obtain⟨x,F,vw,ps,fs,n,rfl,B,q⟩:=h;refine aJ (ah (ar (bQ (bT (X:=(nJ T.cm.1 rH (eU P w) P w mg base cdv A outer s H E)) (pv 0) T.aI T.aV.me bI (fQ hr) T.aV.b .nil (fun _ _ z=>Or.inl z) (aa (pv 1) ag)) rfl))) ?_;obtain⟨L,D,U,all,M,Ps,Fs,es,us,b,iM,pp,pf,f⟩:=B.ex;obtain⟨dx,hx⟩:=b.hx;obtain⟨vx,g,gv⟩:=b.oq iM;refine⟨_,rfl,x,dx,_,rfl,hx,dt _ _ _,_,rfl,x,dx,L,D,U,M L,vx,n,rfl,hx,b.hL,g,?_⟩;rcases xC gv (fun _ _ r=>r.2.1) n with ⟨f1,f2⟩|⟨a,th,j,f1,f2,r,an,fj,fw⟩
 ·rw[f1];rw[f2]at q;exact q
 rw[f1];rw[f2]at q;refine⟨a.o,_,a.d,_,_,rfl,(b.ha a r.1).1,T.d4,T.gm,qP _ _ _,?_⟩;cases th with
 |pl ss=>rw[r.2.2.1];exact q
 |cn ld lt sl tn =>
  obtain⟨p,e1,e2⟩:=r.2.2;rw[e1];exact q p e2
inductive DP (vs:List V)(H:Hp)(Q:VK)(E:XK):Prop
 |mk (p:Addr) (s:Sg) (cT:vs=[.ref p]) (cU:H p=some (.tup [.str s.1.str,.int s.2])) (dH:Q (.bl s.1.gI) H):DP vs H Q E
theorem LR (k:Kd):inV (.str k.str) [.str "G",.str "D",.str "s",.str "d"]=k.gI:=by cases k <;> decide +kernel
theorem LS (T:Txt K w mg t):aW P w K mg base fA (0+1) t.GC t.GD ["sign"] DP:=by
 refine T.G7.ok LB ?_ ?_
 x_go
 obtain⟨p,s,rfl,hp,q⟩:=h;rw[<-LR]at q;refine aJ (ah (ar (aZ (bO.or bN) (aY (pv 0)) (bA (v:=.ref t.eN) rfl T.i6 rfl) rfl))) ?_;tm_up;exact .inl ⟨_,_,rfl,.inr (T.ja _),rfl,rfl,q⟩
inductive Ky (vs:List V)(H:Hp)(Q:VK)(E:XK):Prop
 |mk (p:Addr) (s:Sn) (cT:vs=[.ref p]) (cU:H p=some (.tup [.str s.1,.int s.2])) (dH:Q (.bl (dO s)) H):Ky vs H Q E
theorem Kz (T:Txt K w mg t):aW P w K mg base fA (0+1) t.N6 t.N7 ["sign"] Ky:=by
 refine T.IZ.ok EF ?_ ?_
 x_go
 obtain⟨p,s,rfl,hp,q⟩:=h;unfold dO at q;refine aJ (ae (fI (pv 0) (gG rfl (aQ (jG 1 EF.nd) (aQ (jG 2 EF.nd) eo)))) (ae (aH (aq (bO.or bN) (pv 1) (bA (v:=.ref t.eN) rfl T.i6 rfl) rfl) (ah (ar (FD j6 j6 ai (pv 2) (bA (v:=.int 99) rfl T.A6 ⟨_,rfl⟩)))) ay) (ah (ar (bL (dy (aZ (bO.or bN) (pv 1) (bA (v:=.ref t.iC) rfl T.qm rfl) rfl) (eD (aZ (aS.or (aK (az hr))) (pv 2) ai (aw _))))))))) ?_;refine⟨_,rfl,_,_,rfl,jf.of hp,rfl,_,_,rfl,_,_,rfl,rfl,_,rfl,.inl ⟨_,_,rfl,.inr (T.ja _),rfl,rfl,_,rfl,?_⟩⟩;refine aN (fun h=>?_) (fun h=>?_)
 ·rw[X' (show inV (.str s.1) hI=true from h)]at q;refine⟨_,rfl,_,_,rfl,rfl,_,rfl,?_⟩;refine aN (fun h2=>?_) (fun h2=>?_)
  ·rw[X' h2]at q;exact⟨_,_,rfl,rfl,q⟩
  ·rw[T' h2]at q;exact q
 ·rw[T' (show ¬ inV (.str s.1) hI=true from h)]at q;refine⟨fun v H'=>v=.bl (if inV (V.str s.fst) ff=true then decide (s.snd=0) else false)/\H'=H,?_,fun _ _ ⟨e1,e2⟩=>by rw[e1,e2];exact q⟩;refine⟨_,rfl,.inl ⟨_,_,rfl,.inr (T.kI _),rfl,rfl,_,rfl,?_⟩⟩;refine aN (fun h2=>?_) (fun h2=>?_)
  ·rw[X' (show inV (.str s.1) ff=true from h2)];refine⟨_,rfl,.inl ⟨rfl,?_⟩⟩;rw[eG];exact⟨rfl,rfl⟩
  ·rw[T' (show ¬ inV (.str s.1) ff=true from h2)];exact⟨rfl,rfl⟩
inductive rW (vs:List V)(H:Hp)(Q:VK)(E:XK):Prop
 |mk (p:Addr) (s:Sg) (cT:vs=[.ref p]) (cU:H p=some (.tup [.str s.1.str,.int s.2])) (dH:jM s) (fL:Q (.str (cG s)) H):rW vs H Q E
theorem Cc (T:Txt K w mg t):aW P w K mg base (eU P w) (0+2) t.uM t.uN ["sign"] rW:=by
 have Oo:=LS P base T;have Je:=Kz P base T;refine T.iD.CF ji ?_ ?_
 x_go
 obtain⟨p,g,rfl,hp,gt,q⟩:=h;refine aJ (ae (aH (bW (aR (dG T.IZ Je hr (aa (pv 0) ag)))) (ah (eI (X:=(nJ T.iD.1 ji (eU P w) P w mg base cdv A outer s H E)) (fun _ _ z=>z) rfl T.Bh.exc rfl T.sI (aa av ag))) ay) (ae (fI (pv 0) (gG rfl (aQ (jG 1 ji.nd) (aQ (jG 2 ji.nd) eo)))) (ae (aH (aR (dG T.G7 Oo hr (aa (pv 0) ag))) (ah (ar (JS (fB (sd (pv 1)) (fB (sd (pv 2)) JR))))) ay) (ah (ar (pv 1)))))) ?_;refine⟨_,rfl,p,(g.1.str,g.2),rfl,hp,_,rfl,?_⟩;rw[J8 gt];have wl:=CO gt;unfold cG at q wl;refine aX ⟨_,rfl,_,_,rfl,jf.of hp,rfl,_,_,rfl,_,_,rfl,rfl,_,rfl,p,g,rfl,hp,_,rfl,?_⟩;refine aN (fun h=>?_) (fun h=>?_)
 ·rw[X' h]at q wl;have hn:=gt.1 h;have big:∀{n:Nat},n<=4->n<=sizeLine:=fun h=>Zb' h (by decide);have k1:=NN g.1;refine⟨_,rfl,.inl ⟨_,rfl,big (by omega),?_,_,rfl,.inr ⟨_,rfl,Lu hn.1 hn.2,?_,?_,?_⟩⟩⟩
  all_goals rw[PySem.Str.empty_append]
  ·exact big (by omega)
  ·exact big (Nat.le_succ_of_le wl)
  ·exact big (Nat.le_succ_of_le wl)
  ·exact q
 ·rw[T' h]at q;exact⟨_,rfl,q⟩
theorem Oq (k:Kd):(([(Str.ofString "3",V.str "2"),(Str.ofString "2",V.str "3")]:List (Str×V)).lookup k.str).getD (.str k.str)=.str (CM k).str:=by cases k <;> decide +kernel
inductive DQ (K:Frag)(vs:List V)(H:Hp)(Q:VK)(E:XK):Prop
 |mk (l:Addr) (xs:List V) (ss:List Sg) (cT:vs=[.ref l]) (cU:aM K H l xs) (dH:ig H xs ss) (fL:ss.length<=400) (jF:∀(f:Addr)(ys:List V)(H':Hp),ao H H'->H f=none->H' f=some (.lst ys)->ig H' ys (ss.map lC)->Q (.ref f) H'):DQ K vs H Q E
theorem DR (T:Txt K w mg t):aW P w K mg base fA (0+1) t.GF t.GG ["line"] (DQ K):=by
 refine T.Bb.ok LC ?_ ?_
 x_go
 obtain⟨l,xs,ss,rfl,hS,hg,hn,q⟩:=h;refine aJ (ah (ar (iq (cn:=["kind","tone"]) rfl (cY.of rfl) (dz (pv 0)) (fun _=>(gG rfl (aQ (dX (i:=0) xZ rfl (Or.inl rfl)) (aQ (dX (i:=1) xZ rfl (Or.inl rfl)) eo)))) (fun _=>j9) (fun _=>(bJ (aa (M7 (bA (v:=.ref t.kB) rfl T.A7 rfl) (pv 0) (pv 0)) (aa (pv 1) ag))))))) ?_;tm_up;refine⟨⟨xs,hS⟩,fun D b hD=>?_⟩;refine fH (K:=K) (xs:=xs) (fun i ys σ H'=>∃(v w:Option V),σ=[v,w,some (.ref l)]/\ao H H'/\H' D=some (.lst ys)/\ig H' ys ((ss.take i).map lC))
  ⟨none,none,rfl,ao.upd hD,af,.nil⟩ ?_ ?_ ?_
 ·rintro i ys σ H' ⟨v,w,rfl,s2,_⟩;exact s2.seq hS
 ·rintro i ys x σ H' hx ⟨v,w,rfl,s2,DS,hsg⟩ N hN;obtain⟨s,hs,p,rfl,hp⟩:=oo hg hx;have hi:i<ss.length:=(K'.mp hs).1;refine⟨p,_,rfl,jf.of (s2 _ _ hp),rfl,_,_,rfl,_,_,rfl,rfl,?_⟩;refine⟨_,_,rfl,T.zm,?_⟩;tm_up;rw[Oq];refine⟨by show 2<=sizeLine;decide,fun z hz=>?_⟩;have sz:=ao.upd (o:=.tup [.str (CM s.1).str,.int s.2]) hz;have Xx:=sz _ _ DS;refine⟨Xx,?_,?_⟩
  ·rw[bM hsg,L',Zo'];exact aL (by omega)
  ·refine hN _ _ _ ⟨_,_,rfl,cZ (s2.trans sz) hD,af,?_⟩;rw[take_succ,hs,map_append];exact gN (Nx Xx (hsg.same sz)) (Nw Xx ⟨z,rfl,af⟩)
 ·rintro ys σ H' ⟨v,w,rfl,s2,DS,hsg⟩;rw[bM hg,take_length]at hsg;exact q D ys H' s2 hD DS hsg
inductive rX (c:Cs)(vs:List V)(H:Hp)(Q:VK)(E:XK):Prop
 |mk (x:Addr) (F:Addr->Prop) (vw:Vw) (ps fs:List Vw) (n:Str) (ss:List Sg) (cT:vs=[.ref x,.str n]) (cU:n6 c H x F vw ps fs) (dH:aO vw n=some (.pl ss)) (fL:∀(l:Addr)(ys:List V)(H':Hp),H l=none->ao H H'->H' l=some (.lst ys)->ig H' ys ss->Q (.ref l) H'):rX c vs H Q E
theorem Cd (T:Txt K w mg t):aW P w K mg base (eU P w) (0+3) t.qd t.qe ["self","name"] (rX (cs t)):=by
 have dD:=gS P base T;have Bm:=DR P base T;have bI:=dh P base T;refine T.bB.CF bc ?_ ?_
 x_go
 obtain⟨x,F,vw,ps,fs,n,ss,rfl,B,hf,q⟩:=h;refine aJ (ae (dq 2 bc.nd (bT (X:=(nJ T.bB.1 bc (eU P w) P w mg base cdv A outer s H E)) (pv 0) T.aI T.cm.me dD (fQ hr) T.cm.b .nil (fun _ _ z=>Or.inl z) (aa (pv 1) ag))) (ae (aH (aq pL (pv 2) c8 (aw _)) (ah (ar (di tP rfl T.fi eZ (aa (bQ (bT (X:=(nJ T.bB.1 bc (eU P w) P w mg base cdv A outer s H E)) (pv 0) T.aI T.aV.me bI (fQ hr) T.aV.b .nil (fun _ _ z=>Or.inl z) (aa (pv 1) ag)) rfl) ag)))) ay) (ae (fI (pv 2) (gG rfl (aQ (jG 3 bc.nd) (aQ (jG 4 bc.nd) (aQ (jG 5 bc.nd) (aQ (jG 6 bc.nd) eo)))))) (ae (dq 7 bc.nd Ng) (ah (ar (bL (cz (aR (pv 6)) (dG T.Bb Bm hr (aa (pv 7) ag)) (pv 7))))))))) ?_;obtain⟨L,D,U,all,M,Ps,Fs,es,us,b,iM,pp,pf,f⟩:=B.ex;obtain⟨dx,hx⟩:=b.hx;obtain⟨vx,g,gv⟩:=b.oq iM;refine⟨_,rfl,x,dx,_,rfl,hx,iu _ _ _,_,rfl,x,F,vw,ps,fs,n,rfl,B,?_⟩;rw[hf];refine⟨_,rfl,rfl,_,rfl,?_⟩;refine aN (fun _=>?_) (fun h=>S' (by decide) h);refine⟨_,rfl,x,dx,_,rfl,hx,dt _ _ _,_,rfl,x,dx,L,D,U,M L,vx,n,rfl,hx,b.hL,g,?_⟩;rcases xC gv (fun _ _ r=>r.2.1) n with ⟨f1,f2⟩|⟨a,th,j,f1,f2,r,an,fj,fw⟩
 ·rw[f2]at hf;cases hf
 rw[f1];rw[f2]at hf;cases hf;refine⟨a.o,_,a.d,_,_,rfl,(b.ha a r.1).1,T.d4,T.eP,m6 _ _ _,?_⟩;refine⟨_,_,rfl,.inl (aM.of (b.ha a r.1).2),fun l hl=>?_⟩;exact q l _ _ hl (ao.upd hl) af (r.2.2.2.same (ao.upd hl))
inductive vC (c:Cs)(vs:List V)(H:Hp)(Q:VK)(E:XK):Prop
 |mk (x:Addr) (F:Addr->Prop) (vw:Vw) (ps fs:List Vw) (n:Str) (cT:vs=[.ref x,.str n]) (cU:n6 c H x F vw ps fs) (dH:match aO vw n with
 |none=>RX E c .dm H
 |some _=>∀(l:Addr)(ys:List V)(H':Hp),H l=none->ao H H'->H' l=some (.lst ys)->ig H' ys (tX vw n)->Q (.ref l) H'):vC c vs H Q E
theorem oC (T:Txt K w mg t):aW P w K mg base (eU P w) (0+4) t.qd t.qe ["self","name"] (vC (cs t)):=by
 have EZ:=Cd P base T;have dD:=gS P base T;have Bm:=DR P base T;have bI:=dh P base T;refine T.bB.CF bc ?_ ?_
 x_go
 obtain⟨x,F,vw,ps,fs,n,rfl,B,q⟩:=h;refine aJ (ae (dq 2 bc.nd (bT (X:=(nJ T.bB.1 bc (eU P w) P w mg base cdv A outer s H E)) (pv 0) T.aI T.cm.me dD (fQ hr) T.cm.b .nil (fun _ _ z=>Or.inl z) (aa (pv 1) ag))) (ae (aH (aq pL (pv 2) c8 (aw _)) (ah (ar (di tP rfl T.fi eZ (aa (bQ (bT (X:=(nJ T.bB.1 bc (eU P w) P w mg base cdv A outer s H E)) (pv 0) T.aI T.aV.me bI (fQ hr) T.aV.b .nil (fun _ _ z=>Or.inl z) (aa (pv 1) ag)) rfl) ag)))) ay) (ae (fI (pv 2) (gG rfl (aQ (jG 3 bc.nd) (aQ (jG 4 bc.nd) (aQ (jG 5 bc.nd) (aQ (jG 6 bc.nd) eo)))))) (ae (dq 7 bc.nd (bT (X:=(nJ T.bB.1 bc (eU P w) P w mg base cdv A outer s H E)) (pv 0) T.aI T.bB.me EZ (fQ hr) T.bB.b .nil (fun _ _ z=>Or.inl z) (aa (pv 3) ag))) (ah (ar (bL (cz (aR (pv 6)) (dG T.Bb Bm hr (aa (pv 7) ag)) (pv 7))))))))) ?_;obtain⟨L,D,U,all,M,Ps,Fs,es,us,b,iM,pp,pf,f⟩:=B.ex;obtain⟨dx,hx⟩:=b.hx;obtain⟨vx,g,gv⟩:=b.oq iM;have wv:=B.wv vw (.inr (.inl rfl));refine⟨_,rfl,x,dx,_,rfl,hx,iu _ _ _,_,rfl,x,F,vw,ps,fs,n,rfl,B,?_⟩;cases hf:aO vw n with
 |none =>
  rw[hf]at q;exact q
 |some th =>
  rw[hf]at q;cases th with
  |pl ss =>
   refine⟨_,rfl,rfl,_,rfl,?_⟩;refine aN (fun _=>?_) (fun h=>S' (by decide) h);refine⟨_,rfl,x,dx,_,rfl,hx,dt _ _ _,_,rfl,x,dx,L,D,U,M L,vx,n,rfl,hx,b.hL,g,?_⟩;rcases xC gv (fun _ _ r=>r.2.1) n with ⟨f1,f2⟩|⟨a,th,j,f1,f2,r,an,fj,fw⟩
   ·rw[f2]at hf;cases hf
   rw[f1];rw[f2]at hf;cases hf;refine⟨a.o,_,a.d,_,_,rfl,(b.ha a r.1).1,T.d4,T.eP,m6 _ _ _,?_⟩;refine⟨_,_,rfl,.inl (aM.of (b.ha a r.1).2),fun l hl=>?_⟩;exact q l _ _ hl (ao.upd hl) af (by rw[m8 f2];exact r.2.2.2.same (ao.upd hl))
  |cn ld lt sl tn =>
   intro p hp;refine⟨_,rfl,rfl,_,rfl,?_⟩;refine aN (fun h=>by have:=G' h;cases this) (fun _=>?_);obtain⟨⟨ss,rD⟩,_⟩:=wv.ld n ld lt sl tn (bP hf);have hfl:=wv.find rD;have gl:=(wv.gd _ _ rD).1;rw[p6 hf hfl]at q;refine⟨_,rfl,p,_,rfl,jf.of hp,rfl,_,_,rfl,_,_,rfl,_,_,rfl,_,_,rfl,rfl,?_⟩;refine⟨_,rfl,x,dx,_,rfl,hx,h8 _ _ _,_,rfl,x,F,vw,ps,fs,ld,ss,rfl,B,hfl,fun l ys H1 hl s1 h1 g1=>?_⟩;refine⟨fun v H'=>∃ l' ys',v=.ref l'/\H l'=none/\ao H H'/\H' l'=some (.lst ys')/\ig H' ys' (if tn=true then ss.map lC else ss),?_,?_⟩
   ·refine⟨_,rfl,_,rfl,?_⟩;cases tn with
    |true =>
     refine bV ⟨_,rfl,l,ys,ss,rfl,aM.of h1,g1,by omega,fun f' ys' H2 s2 hf' h2 g2=>⟨f',ys',rfl,s1.free hf',s1.trans s2,h2,g2⟩⟩
    |false=>exact aX ⟨_,rfl,l,ys,rfl,hl,s1,h1,g1⟩
   ·rintro v H' ⟨l',ys',rfl,a1,a2,a3,a4⟩;exact q l' ys' H' a1 a2 a3 a4
inductive qB (c:Cs)(vs:List V)(H:Hp)(Q:VK)(E:XK):Prop
 |mk (x:Addr) (F:Addr->Prop) (vw:Vw) (ps fs:List Vw) (n:Str) (th:Th) (cT:vs=[.ref x,.str n]) (cU:n6 c H x F vw ps fs) (dH:aO vw n=some th) (fL:n.length<=1000) (jF:(∀ ld lt sl tn,th=.cn ld lt sl tn->ld.length<=1000)) (zB:∀ H',ao H H'->Q (.str (i5 (n,th))) H'):qB c vs H Q E
theorem Bn (T:Txt K w mg t):aW P w K mg base fA (0+5) t.rK t.rL ["book","name"] (qB (cs t)):=by
 have dD:=gS P base T;have E2:=Cc P base T;have gn:=oC P base T;refine T.rR.ok dR ?_ ?_
 x_go
 obtain⟨x,F,vw,ps,fs,n,th,rfl,B,hf,hn,rD,q⟩:=h;refine aJ (ae (dq 2 dR.nd (dZ (pv 0) T.aI T.cm.me dD (fQ hr) T.cm.b .nil oK (aa (pv 1) ag))) (ae (aH (aq pL (pv 2) c8 (aw _)) (ah (ar (eE plainAttrs_str slot_str_join type_str_join JT av (aa (aE (bp.or (aF.or bq)) (a9 (aa av (aa (pv 1) ag))) (iq (cn:=["sign"]) rfl (cY.of rfl) (dz (dZ (pv 0) T.aI T.bB.me gn (fQ hr) T.bB.b .nil oK (aa (pv 1) ag))) (fun _=>(dX (i:=0) wH rfl (Or.inl rfl))) (fun _=>j9) (fun _=>(oh E2 (fQ hr) rfl T.iD.g T.iD.kp T.iD.b .nil oK (aa (pv 0) ag))))) ag)))) ay) (ae (fI (pv 2) (gG rfl (aQ (jG 3 dR.nd) (aQ (jG 4 dR.nd) (aQ (jG 5 dR.nd) (aQ (jG 6 dR.nd) eo)))))) (ae (dq 7 dR.nd (bL (cz (aR (pv 6)) av av))) (ah (ar (JS (fB pP (fB (sd (pv 1)) (fB pP (fB (sd (pv 3)) (fB pP (fB (sd (pv 4)) (fB pP (fB (sd (pv 5)) (fB pP (fB (sd (pv 7)) JR))))))))))))))))) ?_;have wv:=B.wv vw (.inr (.inl rfl));have hx:∃ dx L D U,H x=some (.ins t.cw dx (pY L D U)):=by
  obtain⟨L,D,U,all,M,Ps,Fs,es,us,b,_⟩:=B.ex;obtain⟨dx,e⟩:=b.hx;exact⟨dx,L,D,U,e⟩
 obtain⟨dx,L,D,U,hx⟩:=hx;refine⟨_,rfl,x,dx,_,rfl,hx,iu _ _ _,_,rfl,x,F,vw,ps,fs,n,rfl,B,?_⟩;rw[hf];cases th with
 |pl ss =>
  refine⟨_,rfl,rfl,_,rfl,?_⟩;refine aN (fun _=>?_) (fun h=>S' (by decide) h);have gd:=wv.gd _ _ (bP hf);have w3:=sy gd.2;refine⟨rfl,_,rfl,by show 2<=sizeLine;decide,fun d0 hd0=>?_⟩;have s0:=ao.upd (o:=.lst [V.str "voice",V.str n]) hd0;have h0:=af (H:=H) (a:=d0) (o:=.lst [V.str "voice",V.str n]);generalize upd H d0 (.lst [V.str "voice",V.str n])=H0 at s0 h0;have B0:=B.same s0;refine⟨_,rfl,x,dx,_,rfl,s0 _ _ hx,h8 _ _ _,_,rfl,x,F,vw,ps,fs,n,rfl,B0,?_⟩;rw[hf,m8 hf];intro l ys H1 hl s1 h1 g1;have yl:=bM g1;have YL:=s1 _ _ h0;refine⟨l,rfl,⟨_,aM.of h1⟩,fun D b hD=>?_⟩;refine fH (K:=K) (xs:=ys) (fun i zs σ H'=>∃ v,σ=[v,some (.ref x),some (.str n),some .non,none,none,none,none,none]/\H'=upd H1 D (.lst zs)/\zs=((ss.take i).map cG).map V.str) ⟨none,rfl,rfl,by simp⟩ ?_ ?_ ?_
  ·rintro i zs σ H' ⟨v,rfl,rfl,rfl⟩;exact fM (aM.of h1) hD
  ·rintro i zs y σ H' hy ⟨v,rfl,rfl,rfl⟩ N hN;obtain⟨sg,e1,p,rfl,hp⟩:=oo g1 hy;have hi:i<ss.length:=(K'.mp e1).1;refine ee ?_;refine⟨_,rfl,p,sg,rfl,(by rw[ak (au hp hD)];exact hp),gd.2 sg (Zf' e1),af,?_,?_⟩
   ·rw[L',L',Zo'];exact aL (by omega)
   ·refine hN _ _ _ ⟨_,rfl,cR,?_⟩;rw[take_succ,e1];simp
  ·rintro zs σ H' ⟨v,rfl,rfl,rfl⟩;rw[yl,take_length];have hdD:(upd H1 D (.lst ((ss.map cG).map V.str))) d0=some (.lst [V.str "voice",V.str n]):=by rw[ak (au YL hD)];exact YL
   refine .inr (.inr ⟨d0,D,_,_,rfl,rfl,hdD,af,?_,fun c hc=>?_⟩)
   ·rw[L',L'];exact Nat.le_of_lt (aL (by show 2+_<=_;omega))
   have sD:=ao.upd (o:=.lst ((ss.map cG).map V.str)) hD;generalize upd H1 D (.lst ((ss.map cG).map V.str))=H2 at hc sD;refine⟨_,c,"voice" :: n::ss.map cG,rfl,rfl,aM.of af,?_,q _ (((s0.trans s1).trans sD).trans (ao.upd hc))⟩;have e:(Str.ofString " ").length=1:=by lk
   have e5:(Str.ofString "voice").length=5:=by lk
   simp only [map_cons,List.sum_cons,Ya',L'];rw[e,e5];omega
 |cn ld lt sl tn =>
  intro p hp;refine⟨_,rfl,rfl,_,rfl,?_⟩;refine aN (fun h=>by have:=G' h;cases this) (fun _=>?_);refine⟨_,rfl,p,_,rfl,jf.of hp,rfl,_,_,rfl,_,_,rfl,_,_,rfl,_,_,rfl,rfl,?_⟩;refine⟨fun v H'=>v=.str (wA tn)/\H'=H,?_,?_⟩
  ·refine⟨_,rfl,_,rfl,?_⟩;unfold wA;cases tn
   ·exact aX ⟨rfl,rfl⟩
   ·exact bV ⟨rfl,rfl⟩
  intro v H' e;obtain⟨e1,e2⟩:=e;subst e1 e2;obtain⟨_,a1,a2,a3,a4⟩:=wv.ld n ld lt sl tn (bP hf);have ln:=rD ld lt sl tn rfl;have f4:(Str.ofString (toString lt)).length<=3:=Px a1 (by omega);have f5:(Str.ofString (toString sl)).length<=3:=Px (by omega) (by omega);have f7:(wA tn).length<=8:=by cases tn <;> decide +kernel
  have e6:(Str.ofString "canon ").length=6:=by lk
  have e1:(Str.ofString " ").length=1:=by lk
  have e0:Str.empty.length=0:=by lk
  have big:∀{n:Nat},n<=3000->n<=sizeLine:=fun h=>Zb' h (by decide);refine⟨?_,_,rfl,.inl ⟨_,rfl,?_,?_,?_,_,rfl,.inl ⟨_,rfl,?_,?_,?_,_,rfl,.inr ⟨_,rfl,UP a1 (by omega),?_,?_,_,rfl,.inr ⟨_,rfl,UP (by omega) (by omega),?_,?_,_,rfl,.inl ⟨_,rfl,?_,?_,?_,?_⟩⟩⟩⟩⟩⟩
  all_goals try (refine big ?_;(try simp only [PySem.Str.length_append]);omega)
  rw[PySem.Str.empty_append];exact q _ (ao.refl _)
inductive rY (c:Cs)(vs:List V)(H:Hp)(Q:VK)(E:XK):Prop
 |mk (x:Addr) (F:Addr->Prop) (vw:Vw) (ps fs:List Vw) (cT:vs=[.ref x]) (cU:n6 c H x F vw ps fs) (dH:∀(l:Addr)(H':Hp),H l=none->ao H H'->H' l=some (.lst (vw.map fun a=>V.str a.1))->Q (.ref l) H'):rY c vs H Q E
theorem jm (T:Txt K w mg t):aW P w K mg base fA (0+1) t.uO t.uP ["self"] (rY (cs t)):=by
 refine T.cH.ok BS ?_ ?_
 x_go
 obtain⟨x,F,vw,ps,fs,rfl,B,q⟩:=h;refine aJ (ah (ar (iq (cn:=["voice"]) rfl (cY.of rfl) (dz (bQ (pv 0) rfl)) (fun _=>(dX (i:=0) zd rfl (Or.inl rfl))) (fun _=>j9) (fun _=>(bQ (pv 0) rfl))))) ?_;obtain⟨L,D,U,all,M,Ps,Fs,es,us,b,i,pp,pf,f⟩:=B.ex;obtain⟨dx,hx⟩:=b.hx;obtain⟨vx,g,gv⟩:=b.oq i;have hL:=b.hL;have xl:=bM g;have vl:=bM gv;have ln:=(b.wf M (.inr (.inl rfl))).len;have hn:=RZ gv fun _ _ r=>r.2.1;refine⟨_,rfl,x,_,dx,_,_,rfl,hx,T.aI,T.dg,g9 _ _ _,L,rfl,⟨_,aM.of hL⟩,fun D' b' hD'=>?_⟩;refine fH (K:=K) (xs:=M L) (fun i ys σ H'=>∃ v,σ=[v,some (.ref x)]/\H'=upd H D' (.lst ys)/\ys=(vx.take i).map fun a=>V.str a.n) ⟨none,rfl,rfl,by simp⟩ ?_ ?_ ?_
 ·rintro i ys σ H' ⟨v,rfl,rfl,_⟩;exact fM (aM.of hL) hD'
 ·rintro i ys y σ H' hy ⟨v,rfl,rfl,rfl⟩ N hN;obtain⟨a,e1,rfl,ha⟩:=oo g hy;have hi:i<vx.length:=(K'.mp e1).1;refine ee ?_;refine⟨_,rfl,a.o,_,a.d,_,_,rfl,by rw[ak (au ha hD')];exact ha,T.d4,T.mL,Gd _ _ _,af,?_,?_⟩
  ·rw[L',Zo'];exact aL (by omega)
  ·refine hN _ _ _ ⟨_,rfl,cR,?_⟩;rw[take_succ,e1];simp
 ·rintro ys σ H' ⟨v,rfl,rfl,rfl⟩;rw[xl,take_length,hn];exact q D' _ hD' (ao.upd hD') af
theorem Bo (d:Str):∀ xs:List Str,(Str.join d xs).length<=(xs.map (·.length)).sum+xs.length * d.length
 |[]=>by show(0:Nat)<=_;omega
 |[a]=>by
  show a.length<=a.length+0+1 * d.length;omega
 |a::b::t=>by
  have ih:=Bo d (b::t);rw[join_cons,PySem.Str.length_append,PySem.Str.length_append];simp only [map_cons,List.sum_cons,Ya']at ih ⊢;rw[Nat.add_mul,Nat.one_mul];omega
theorem Hi {vw:Vw}(w:mQ vw)(hn:∀ q∈vw,q.1.length<=1000){q:Str×Th}(hq:q∈vw):(i5 q).length<=10000:=by
 obtain⟨n,th⟩:=q;have h1:=hn _ hq;cases th with
 |pl ss =>
  have g:=w.gd _ _ hq;have w3:=sy g.2;have j:=Bo " " ("voice" :: n::ss.map cG);have e:(Str.ofString " ").length=1:=by lk
  have e5:(Str.ofString "voice").length=5:=by lk
  simp only [map_cons,List.sum_cons,Ya',L',e,e5]at j;show(Str.join " " ("voice" :: n::ss.map cG)).length<=_;have h1:n.length<=1000:=h1;omega
 |cn ld lt sl tn =>
  obtain⟨⟨ss,rD⟩,a1,a2,a3,a4⟩:=w.ld n ld lt sl tn hq;have h1:n.length<=1000:=h1;have h2:ld.length<=1000:=hn _ rD;have f4:(oN lt).length<=3:=Px a1 (by omega);have f5:(oN sl).length<=3:=Px (by omega) (by omega);have f7:(wA tn).length<=8:=by cases tn <;> decide +kernel
  have e6:(Str.ofString "canon ").length=6:=by lk
  have e1:(Str.ofString " ").length=1:=by lk
  show(Str.ofString "canon " ++ n++Str.ofString " " ++ ld++Str.ofString " " ++ oN lt++Str.ofString " " ++ oN sl++Str.ofString " " ++ wA tn).length<=_;simp only [PySem.Str.length_append];omega
theorem Bp {vw:Vw}(w:mQ vw)(hn:∀ q∈vw,q.1.length<=1000):∀ us:Vw,(∀ q∈us,q∈vw)->((us.map i5).map (·.length)).sum<=10000 * us.length
 |[],_=>R' _
 |q::us,h=>by
  have h1:=Hi w hn (h q mem_cons_self);have h2:=Bp w hn us fun x hx=>h x (Yc' _ hx);simp only [map_cons,List.sum_cons,Ya'];omega
inductive rZ (c:Cs)(vs:List V)(H:Hp)(Q:VK)(E:XK):Prop
 |mk (x:Addr) (F:Addr->Prop) (vw:Vw) (ps fs:List Vw) (cT:vs=[.ref x]) (cU:n6 c H x F vw ps fs) (dH:(∀ q∈vw,q.1.length<=1000)) (fL:∀ H',ao H H'->Q (.str (rC vw)) H'):rZ c vs H Q E
theorem Ce (T:Txt K w mg t):aW P w K mg base fA (0+6) t.uQ t.uR ["book"] (rZ (cs t)):=by
 have Cf:=Bn P base T;have d6:=jm P base T;refine T.j3.ok BU ?_ ?_
 x_go
 obtain⟨x,F,vw,ps,fs,rfl,B,hn,q⟩:=h;refine aJ (ah (ar (eE plainAttrs_str slot_str_join type_str_join JT av (aa (iq (cn:=["name"]) rfl (cY.of rfl) (dz (gM (pv 0) T.aI T.cH.me d6 (fQ hr) T.cH.b .nil dN)) (fun _=>(dX (i:=0) ze rfl (Or.inl rfl))) (fun _=>j9) (fun _=>(dG T.rR Cf hr (aa (pv 1) (aa (pv 0) ag))))) ag)))) ?_;have wv:=B.wv vw (.inr (.inl rfl));have hx:∃ dx L D U,H x=some (.ins t.cw dx (pY L D U)):=by
  obtain⟨L,D,U,all,M,Ps,Fs,es,us,b,_⟩:=B.ex;obtain⟨dx,e⟩:=b.hx;exact⟨dx,L,D,U,e⟩
 obtain⟨dx,L,D,U,hx⟩:=hx;have wl:=wv.len;refine⟨rfl,_,rfl,x,dx,_,rfl,hx,ir _ _ _,x,F,vw,ps,fs,rfl,B,fun l1 H1 Xy s1 h1=>?_⟩;refine⟨l1,rfl,⟨_,aM.of h1⟩,fun D b hD=>?_⟩;refine fH (K:=K) (xs:=vw.map fun a=>V.str a.1) (fun i zs σ H'=>∃ v,σ=[v,some (.ref x)]/\ao H1 H'/\H' D=some (.lst zs)/\zs=((vw.take i).map i5).map V.str) ⟨none,rfl,ao.upd hD,af,by simp⟩ ?_ ?_ ?_
 ·rintro i zs σ H' ⟨v,rfl,s2,hD2,rfl⟩;exact aM.of (s2 _ _ h1)
 ·rintro i zs y σ H' hy ⟨v,rfl,s2,hD2,rfl⟩ N hN;obtain⟨qn,hq,rfl⟩:∃ qn,vw[i]? = some qn/\y=.str qn.1:=by
   rw[Zd']at hy;cases e:vw[i]? with
   |none=>rw[e]at hy;cases hy
   |some z=>rw[e]at hy;exact⟨z,rfl,(Z' hy).symm⟩
  obtain⟨n,th⟩:=qn;have hm:=Zf' hq;have hf:=wv.find hm;have hi:i<vw.length:=(K'.mp hq).1;refine ee ?_;refine⟨_,rfl,_,rfl,x,F,vw,ps,fs,n,th,rfl,B.same (s1.trans s2),hf,hn _ hm,?_,fun H3 s3=>⟨s3 _ _ hD2,?_,?_⟩⟩
  ·rintro ld lt sl tn rfl;obtain⟨⟨ss,rD⟩,_⟩:=wv.ld n ld lt sl tn hm;exact hn _ rD
  ·rw[L',L',Zo'];exact aL (by omega)
  ·refine hN _ _ _ ⟨_,rfl,cZ (s2.trans s3) hD,af,?_⟩;rw[take_succ,hq];simp
 ·rintro zs σ H' ⟨v,rfl,s2,hD2,rfl⟩;rw[L',take_length]at hD2;refine⟨_,D,vw.map i5,rfl,rfl,aM.of hD2,?_,q _ (s1.trans s2)⟩;have e:(Str.ofString "\n").length=1:=by lk
  have z:=Bp wv hn vw fun _ h=>h;rw[e,L'];omega
inductive Br (vs:List V)(H:Hp)(Q:VK)(E:XK):Prop
 |mk (x:Str) (cT:vs=[.str x]) (cU:x.length<=1000) (dH:∀ H',ao H H'->Q (.bl (nameB x)) H'):Br vs H Q E
theorem Jf (T:Txt K w mg t):aW P w K mg base fA (0+1) t.C9 t.Dc ["name"] Br:=by
 refine T.DG.ok II ?_ ?_
 x_go
 obtain⟨x,rfl,hx,q⟩:=h;refine aJ (ah (ar (bL (dy (FD j6 j6 ai (aD (aB.or aC) rfl T.bu br (aa (pv 0) ag)) (bA (v:=.int 8) rfl T.Ba ⟨_,rfl⟩)) (eD (aD Nd rfl T.R8 Rx (aa (iq (cn:=["letter"]) rfl (cY.of rfl) (Io (pv 0)) (fun _=>(dX (i:=0) EJ rfl (Or.inl rfl))) (fun _=>j9) (fun _=>(aZ (bO.or bN) (pv 0) (bA (v:=.str "abcdefghijklmnopqrstuvwxyz") rfl T.LL ⟨_,rfl⟩) rfl))) ag))))))) ?_;have xb:x.length<=sizeLine:=Zb' hx (by decide);refine⟨fun v H'=>v=.bl (nameB x)/\ao H H',?_,fun _ _ ⟨e1,e2⟩=>by rw[e1];exact q _ e2⟩;unfold nameB;refine⟨_,rfl,.inr ⟨_,rfl,xb,_,_,rfl,rfl,_,rfl,?_⟩⟩;refine aN (fun h1=>?_) (fun h1=>?_)
 rotate_left
 ·have e1:decide (1<=x.length)=false:=J' fun z=>h1 (A' (by omega));rw[e1];exact⟨_,rfl,aX ⟨rfl,ao.refl _⟩⟩
 have e1:decide (1<=x.length)=true:=A' (by have:=G' h1;omega);rw[e1,Bool.true_and];refine⟨_,_,rfl,rfl,_,rfl,?_⟩;refine aN (fun h2=>?_) (fun h2=>?_)
 rotate_left
 ·have e2:decide (x.length<=8)=false:=J' fun z=>h2 (A' (by omega));rw[e2];exact⟨rfl,ao.refl _⟩
 have n2:x.length<=8:=by have:=G' h2;omega
 have e2:decide (x.length<=8)=true:=A' n2;rw[e2,Bool.true_and];refine⟨_,rfl,_,rfl,fun D b hD=>?_⟩;refine FQ (fun i ys σ H'=>∃ v,σ=[v,some (.str x)]/\H'=upd H D (.lst ys)/\ys=((x.cps.toList.take i).map fun c=>wu ⟨#[c]⟩ "abcdefghijklmnopqrstuvwxyz").map V.bl/\i<=x.cps.size) ⟨none,rfl,rfl,rfl,Zq' _⟩ ?_ ?_
 ·rintro i ys c σ H' hc ⟨v,rfl,rfl,rfl,hi⟩ N hN;have hi2:i<x.cps.size:=(Array.getElem?_eq_some_iff.mp hc).1;have hcm:x.cps.toList[i]? = some c:=by simpa using hc
  have sz:x.cps.size<=8:=n2;refine ee ?_;refine⟨_,rfl,.inr ⟨_,_,rfl,rfl,af,?_,?_⟩⟩
  ·rw[L',L',Zo'];exact aL (by omega)
  ·refine hN _ _ _ ⟨_,rfl,cR,?_,hi2⟩;rw[take_succ,hcm,map_append,map_append];rfl
 ·rintro ys σ H' ⟨v,rfl,rfl,rfl,hi⟩;refine⟨rfl,D,_,rfl,aM.of af,?_,ao.upd hD⟩;rw[show x.cps.size=x.cps.toList.length from rfl,take_length];refine Zj' V.bl ?_;rw[List.all_map];rfl
theorem Ot {x:Str}{l:List V}(h:inV (.str x) l=true):V.str x∈l:=by
 unfold inV at h;obtain⟨y,hy,e⟩:=any_eq_true.mp h;cases y with
 |str z =>
  have:z=x:=by simpa [JL] using e
  rw[<-this];exact hy
 |_=>simp[JL]at e
theorem Jg {x:Str}{l:List V}(h:V.str x∈l):inV (.str x) l=true:=by
 unfold inV;exact any_eq_true.mpr ⟨_,h,by simp[JL]⟩
theorem yL {vw:Vw}{n:Str}(h:bY vw n=none):nameB n=true/\aO vw n=none/\vw.length<12:=by
 unfold bY at h;split at h
 ·cases h
 ·next h1 =>
  split at h
  ·cases h
  ·next h2 =>
   split at h
   ·cases h
   ·next h3=>exact⟨by simpa using h1,by cases e:aO vw n with|none=>rfl|some _=>rw[e]at h2;exact S' rfl h2,by omega⟩
inductive kM (c:Cs)(vs:List V)(H:Hp)(Q:VK)(E:XK):Prop
 |mk (x:Addr) (F:Addr->Prop) (vw:Vw) (ps fs:List Vw) (n:Str) (cT:vs=[.ref x,.str n]) (cU:n6 c H x F vw ps fs) (dH:n.length<=1000) (fL:match bY vw n with
 |some r=>∀ H',ao H H'->RX E c r H'
 |none=>∀ H',ao H H'->Q .non H'):kM c vs H Q E
theorem kO (T:Txt K w mg t):aW P w K mg base (eU P w) (0+2) t.lM t.lN ["self","name"] (kM (cs t)):=by
 have LV:=Jf P base T;have d6:=jm P base T;refine T.ck.CF fg ?_ ?_
 x_go
 obtain⟨x,F,vw,ps,fs,n,rfl,B,hlen,q⟩:=h;refine aJ (ae (aH (bW (aR (dG T.DG LV hr (aa (pv 1) ag)))) (ah (eI (X:=(nJ T.ck.1 fg (eU P w) P w mg base cdv A outer s H E)) (fun _ _ z=>z) rfl T.Jb.exc rfl T.A3 (aa av ag))) ay) (ae (aH (aq (bO.or bN) (pv 1) (gM (pv 0) T.aI T.cH.me d6 (fQ hr) T.cH.b .nil dN) rfl) (ah (eI (X:=(nJ T.ck.1 fg (eU P w) P w mg base cdv A outer s H E)) (fun _ _ z=>z) rfl T.EW.exc rfl T.vb (aa av ag))) ay) (ah (aH (aq JG (aD (aB.or aC) rfl T.bu br (aa (bQ (pv 0) rfl) ag)) (bA (v:=.int 12) rfl T.Ca ⟨_,rfl⟩) (aw _)) (ah (eI (X:=(nJ T.ck.1 fg (eU P w) P w mg base cdv A outer s H E)) (fun _ _ z=>z) rfl T.Kw.exc rfl T.ER (aa av ag))) ay)))) ?_;refine⟨_,rfl,n,rfl,hlen,fun H1 s1=>?_⟩;unfold bY at q;refine⟨_,rfl,?_⟩;cases hnb:nameB n with
 |false =>
  rw[X' hnb]at q;have q:=q H1 s1;exact bV ⟨by show 1<=sizeLine;decide,q.2⟩
 |true =>
  rw[T' (by rw[hnb];decide)]at q;refine aX ?_;have B1:=B.same s1;obtain⟨L,D,U,all,M,Ps,Fs,es,us,b,i,pp,pf,f⟩:=B1.ex;obtain⟨dx,hx⟩:=b.hx;refine⟨_,rfl,_,rfl,x,dx,_,rfl,hx,ir _ _ _,?_⟩;refine⟨x,F,vw,ps,fs,rfl,B1,fun l H2 hl s2 hl2=>?_⟩;refine .inl ⟨l,_,rfl,.inl (aM.of hl2),rfl,?_,_,rfl,?_⟩
  ·rw[List.all_map];exact all_eq_true.mpr fun _ _=>rfl
  have mem:inV (.str n) (vw.map fun a=>V.str a.1)=true ↔ (aO vw n).isSome=true:=by
   constructor
   ·intro h;obtain⟨a,ha,e⟩:=mem_map.mp (Ot h);cases e2:aO vw n with
    |some _=>rfl
    |none=>exact S' (V.str.inj e) (iZ e2 a ha)
   ·intro h;cases e2:aO vw n with
    |none=>rw[e2]at h;cases h
    |some th=>exact Jg (mem_map.mpr ⟨_,bP e2,rfl⟩)
  refine aN (fun h=>?_) (fun h=>?_)
  ·rw[X' (mem.mp h)]at q;have q:=q H2 (s1.trans s2);exact⟨by show 1<=sizeLine;decide,q.2⟩
  rw[T' (fun z=>h (mem.mpr z))]at q;refine⟨_,rfl,x,_,dx,_,_,rfl,s2 _ _ hx,T.aI,T.dg,g9 _ _ _,?_⟩;refine .inl ⟨L,M L,rfl,.inl (aM.of (s2 _ _ b.hL)),?_⟩;refine⟨_,_,rfl,rfl,_,rfl,?_⟩;have ll:=bM i;refine aN (fun h=>?_) (fun h=>?_)
  ·have h':=G' h;rw[X' (by omega)]at q;have q:=q H2 (s1.trans s2);exact⟨by show 1<=sizeLine;decide,q.2⟩
  ·rw[T' (fun z=>h (A' (by omega)))]at q;exact q _ (s1.trans s2)
inductive Bs (C:Addr)(vs:List V)(H:Hp)(Q:VK)(E:XK):Prop
 |mk (x dx T_ B A:Addr) (i:Nat) (xs bs as:List V) (cT:vs=[.ref x]) (cU:H x=some (.ins C dx (xy T_ (i:Int) B A))) (dH:H T_=some (.lst xs)) (fL:H B=some (.lst bs)) (jF:H A=some (.lst as)) (zB:T_≠A) (KA:i+bs.length<=xs.length) (PR:xs.length+as.length<=1000) (PU:Q .non (upd H T_ (.lst (xs.take i++as++xs.drop (i+bs.length))))):Bs C vs H Q E
theorem Bt (T:Txt K w mg t):aW P w K mg base fA (0+1) t.Df t.Dg ["self"] (Bs t.cv):=by
 refine T.nS.ok IJ ?_ ?_
 x_go
 obtain⟨x,dx,T_,B,A_,i,xs,bs,as,rfl,hx,hT,hB,hA,hne,hi,hz,q⟩:=h;refine aJ (ah (fI (bQ (pv 0) rfl) (FW (bQ (pv 0) rfl) (dA (bQ (pv 0) rfl)) (dA (aE (bp.or (aF.or bq)) (bQ (pv 0) rfl) (aD (aB.or aC) rfl T.bu br (aa (bQ (pv 0) rfl) ag))))))) ?_;refine⟨_,rfl,x,_,dx,_,_,rfl,hx,T.d5,T.mM,CJ _ _ _ _,?_⟩;refine⟨_,rfl,x,_,dx,_,_,rfl,hx,T.d5,T.kJ,Ab _ _ _ _,?_⟩;refine⟨_,rfl,x,_,dx,_,_,rfl,hx,T.d5,T.kK,Ey _ _ _ _,_,rfl,?_⟩;refine⟨_,rfl,x,_,dx,_,_,rfl,hx,T.d5,T.kK,Ey _ _ _ _,?_⟩;refine⟨_,rfl,x,_,dx,_,_,rfl,hx,T.d5,T.kL,Ac _ _ _ _,?_⟩;refine .inl ⟨B,bs,rfl,.inl (aM.of hB),.inl ⟨_,_,rfl,rfl,_,rfl,?_⟩⟩;refine⟨T_,A_,xs,as,(i:Int),((i+bs.length:Nat):Int),rfl,rfl,rfl,by simp,hT,hA,hne,by omega,by omega,by omega,Zb' hz (by decide),?_⟩;rw[Int.toNat_natCast,Int.toNat_natCast];exact q
inductive pb (CB CD:Addr)(vs:List V)(H:Hp)(Q:VK)(E:XK):Prop
 |mk (x dx L D U d dd T_ B A:Addr) (i:Nat) (ds us xs bs as:List V) (cT:vs=[.ref x,.ref d]) (cU:H x=some (.ins CB dx (pY L D U))) (dH:H D=some (.lst ds)) (fL:H U=some (.lst us)) (jF:H d=some (.ins CD dd (xy T_ (i:Int) B A))) (zB:H T_=some (.lst xs)) (KA:H B=some (.lst bs)) (PR:H A=some (.lst as)) (PU:T_≠A) (Te:T_≠D) (Xz:T_≠U) (aaq:D≠U) (aar:i+bs.length<=xs.length) (aas:xs.length+as.length<=1000) (aat:ds.length<=900) (aau:Q .non (upd (upd (upd H T_ (.lst (xs.take i++as++xs.drop (i+bs.length)))) D (.lst (ds++[.ref d]))) U (.lst []))):pb CB CD vs H Q E
theorem fF (T:Txt K w mg t):aW P w K mg base fA (0+2) t.qf t.qg ["self","deed"] (pb t.cw t.cv):=by
 have xf:=Bt P base T;refine T.bX.ok zb ?_ ?_
 x_go
 obtain⟨x,dx,L,D,U,d,dd,T_,B,A_,i,ds,us,xs,bs,as,rfl,hx,hD,hU,hd,hT,hB,hA,n1,n2,n3,n4,hi,hz,hds,q⟩:=h;refine aJ (ae (aP (gM (pv 1) T.d5 T.nS.me xf (fQ hr) T.nS.b .nil dN)) (ae (aP (eE Zc' Zl' Zk' bK (bQ (pv 0) rfl) (aa (pv 1) ag))) (ah (aP (wk Zc' slot_list_clear type_list_clear zN (bQ (pv 0) rfl)))))) ?_;have xT:x≠T_:=fX hx hT (by intro z;cases z);have xD:x≠D:=fX hx hD (by intro z;cases z);refine⟨_,rfl,d,dd,_,rfl,hd,CK _ _ _ _,?_⟩;refine⟨d,dd,T_,B,A_,i,xs,bs,as,rfl,hd,hT,hB,hA,n1,hi,hz,?_⟩;refine⟨_,rfl,x,_,dx,_,_,rfl,by rw[ak xT];exact hx,T.aI,T.gC,pZ _ _ _,?_⟩;refine⟨.inl ⟨rfl,_,aM.of (show upd H T_ _ D=some (.lst ds) by rw[ak (Zh' n2)];exact hD)⟩,_,rfl,D,_,_,rfl,rfl,by rw[ak (Zh' n2)];exact hD,aL (by omega),?_⟩;refine⟨_,rfl,x,_,dx,_,_,rfl,by rw[ak xD,ak xT];exact hx,T.aI,T.eQ,kf _ _ _,?_⟩;have ND:upd (upd H T_ (.lst (xs.take i++as++xs.drop (i+bs.length)))) D (.lst (ds++[.ref d])) U=some (.lst us):=by rw[ak (Zh' n4),ak (Zh' n3)];exact hU
 exact⟨.inl ⟨rfl,_,aM.of ND⟩,U,_,rfl,rfl,ND,q⟩
inductive vD (C:Addr)(vs:List V)(H:Hp)(Q:VK)(E:XK):Prop
 |mk (x dx:Addr) (T_:Addr) (i:Int) (B A:Addr) (cT:vs=[.ref x,.ref T_,.int i,.ref B,.ref A]) (cU:H x=some (.ins C dx [])) (dH:Q .non (upd H x (.ins C dx (xy T_ i B A)))):vD C vs H Q E
theorem eR (T:Txt K w mg t):aW P w K mg base fA (0+1) t.oV t.oW ["self","things","at","before","after"] (vD t.cv):=by
 refine T.bR.ok wD ?_ ?_
 x_go
 obtain⟨x,dx,T_,i,B,A_,rfl,hx,q⟩:=h;refine aJ (ae (mB (pv 0) (pv 1) rfl) (ae (mB (pv 0) (pv 2) rfl) (ae (mB (pv 0) (pv 3) rfl) (ah (mB (pv 0) (pv 4) rfl))))) ?_;refine⟨_,rfl,_,rfl,x,_,dx,_,rfl,hx,T.d5,T.kJ,by show 0<1000;decide,?_⟩;refine⟨_,rfl,_,rfl,x,_,dx,_,rfl,af,T.d5,T.kK,by rw[zD];show 1<1000;decide,?_⟩;refine⟨_,rfl,_,rfl,x,_,dx,_,rfl,af,T.d5,T.kL,by rw[zD,Ez];show 2<1000;decide,?_⟩;refine⟨_,rfl,_,rfl,x,_,dx,_,rfl,af,T.d5,T.mM,by rw[zD,Ez,J4];show 3<1000;decide,?_⟩;rw[zD,Ez,J4,Po];simp only [cR];exact q
inductive qC (c:Cs)(vs:List V)(H:Hp)(Q:VK)(E:XK):Prop
 |mk (x dx L D U v:Addr) (xs ds us:List V) (cT:vs=[.ref x,.ref v]) (cU:H x=some (.ins c.B dx (pY L D U))) (dH:H L=some (.lst xs)) (fL:H D=some (.lst ds)) (jF:H U=some (.lst us)) (zB:L≠D) (KA:L≠U) (PR:D≠U) (PU:xs.length<=12) (Te:ds.length<=900) (Xz:∀(e:Dd)(H1 H':Hp),e.T=L->e.i=xs.length->e.bs=[]->e.as=[.ref v]->ao H H1->H e.B=none->H e.A=none->js c.D H1 (.ref e.o) e->(∀ y o,H1 y=some o->y≠L->y≠D->y≠U->H' y=some o)->H' L=some (.lst (xs++[.ref v]))->H' D=some (.lst (ds++[.ref e.o]))->H' U=some (.lst [])->Q .non H'):qC c vs H Q E
theorem qD (T:Txt K w mg t):aW P w K mg base fA (0+3) t.rM t.rN ["self","voice"] (qC (cs t)):=by
 have cI:=fF P base T;have cq:=eR P base T;refine T.gR.ok Aw ?_ ?_
 x_go
 obtain⟨x,dx,L,D,U,v,xs,ds,us,rfl,hx,hL,hD,hU,n1,n2,n3,hxs,hds,q⟩:=h;refine aJ (ah (aP (dZ (pv 0) T.aI T.bX.me cI (fQ hr) T.bX.b .nil dN (aa (oi T.bR.PN cq (fQ hr) rfl T.va T.bR.b .nil dN (aa (bQ (pv 0) rfl) (aa (aD (aB.or aC) rfl T.bu br (aa (bQ (pv 0) rfl) ag)) (aa (a9 ag) (aa (a9 (aa (pv 1) ag)) ag))))) ag)))) ?_;refine⟨_,rfl,x,dx,_,rfl,hx,gh _ _ _,?_⟩;refine⟨_,rfl,x,_,dx,_,_,rfl,hx,T.aI,T.dg,g9 _ _ _,?_⟩;refine⟨_,rfl,x,_,dx,_,_,rfl,hx,T.aI,T.dg,g9 _ _ _,?_⟩;refine .inl ⟨L,xs,rfl,.inl (aM.of hL),?_⟩;refine⟨big (by show 0<=1000;omega),fun B hB=>?_⟩;refine⟨_,rfl,big (by show 1<=1000;omega),fun A_ hA=>?_⟩;have Jh:=tY hA;have LA:L≠A_:=au (ao.upd (o:=.lst []) hB _ _ hL) hA;have sB:=(ao.upd (o:=.lst []) hB).trans (ao.upd (o:=.lst [V.ref v]) hA);have hB2:=ao.upd (o:=.lst [V.ref v]) hA _ _ (af (H:=H) (a:=B) (o:=.lst []));have E3:=af (H:=upd H B (.lst [])) (a:=A_) (o:=.lst [V.ref v]);generalize upd (upd H B (.lst [])) A_ (.lst [V.ref v])=H2 at sB hB2 E3;intro d dd nd PV ne;refine⟨d,dd,L,(xs.length:Int),B,A_,rfl,af,rfl,?_⟩;rw[cR];have s3:ao H2 (upd (upd H2 dd (.own d)) d (.ins t.cv dd (xy L (xs.length:Int) B A_))):=fun y o hy=>by
  rw[ak (au hy nd),ak (au hy PV)];exact hy
 have E4:=af (H:=upd H2 dd (.own d)) (a:=d) (o:=.ins t.cv dd (xy L (xs.length:Int) B A_));generalize upd (upd H2 dd (.own d)) d (.ins t.cv dd (xy L (xs.length:Int) B A_))=H3 at s3 E4;have s4:=sB.trans s3;refine⟨x,dx,L,D,U,d,dd,L,B,A_,xs.length,ds,us,xs,[],[.ref v],rfl,s4 _ _ hx,s4 _ _ hD,s4 _ _ hU,E4,s4 _ _ hL,s3 _ _ hB2,s3 _ _ E3,LA,n1,n2,n3,by simp,by simp;omega,hds,?_⟩;refine q ⟨d,dd,L,xs.length,B,A_,[],[.ref v]⟩ H3 _ rfl rfl rfl rfl s4 hB Jh ⟨rfl,E4,s3 _ _ hB2,s3 _ _ E3⟩ (fun y o hy y1 y2 y3=>?_) ?_ ?_ af
 ·rw[ak y3,ak y2,ak y1];exact hy
 ·rw[ak n2,ak n1,af];simp
 ·rw[ak n3,af]
inductive r0 (C:Addr)(vs:List V)(H:Hp)(Q:VK)(E:XK):Prop
 |mk (x dx:Addr) (n:Str) (tm:V) (cT:vs=[.ref x,.str n,tm]) (cU:H x=some (.ins C dx [])) (dH:∀(L:Addr)(H':Hp),(∀ y o,H y=some o->y≠x->H' y=some o)->H L=none->L≠x->H' x=some (.ins C dx (QI n tm L))->H' L=some (.lst [])->Q .non H'):r0 C vs H Q E
theorem ma (T:Txt K w mg t):aW P w K mg base fA (0+1) t.nq t.nr ["self","name","terms"] (r0 t.lW):=by
 refine T.eO.ok uh ?_ ?_
 x_go
 obtain⟨x,dx,n,tm,rfl,hx,q⟩:=h;refine aJ (ae (mB (pv 0) (pv 1) rfl) (ae (mB (pv 0) (pv 2) rfl) (ah (mB (pv 0) (a9 ag) rfl)))) ?_;refine⟨_,rfl,_,rfl,x,_,dx,_,rfl,hx,T.d4,T.mL,by show 0<1000;decide,?_⟩;refine⟨_,rfl,_,rfl,x,_,dx,_,rfl,af,T.d4,T.gm,by rw[Ex];show 1<1000;decide,?_⟩;refine⟨big (by show 0<=1000;omega),fun L hL=>?_⟩;rw[cR]at hL;have nx:x≠L:=fun e=>by rw[<-e,af]at hL;cases hL
 have hL0:H L=none:=by rw[ak (Zh' nx)]at hL;exact hL
 refine⟨_,rfl,x,_,dx,_,rfl,by rw[ak nx,cR];exact af,T.d4,T.eP,by rw[Ex,J3];show 2<1000;decide,?_⟩;rw[Ex,J3,Pn];simp only [cR];refine q L _ (fun y o hy ny=>?_) hL0 (Zh' nx) af ?_
 ·rw[ak ny,ak (au hy hL0),ak ny];exact hy
 ·rw[ak (Zh' nx)];exact af
inductive md (c:Cs)(vs:List V)(H:Hp)(Q:VK)(E:XK):Prop
 |mk (x:Addr) (F:Addr->Prop) (vw:Vw) (ps fs:List Vw) (n:Str) (cT:vs=[.ref x,.str n]) (cU:n6 c H x F vw ps fs) (dH:n.length<=1000) (fL:ps.length<=900) (jF:match bY vw n with
 |some r=>∀ H',ao H H'->RX E c r H'
 |none=>∀ F' H',Gr F F' H->Fr F H H'->n6 c H' x F' (vw++[(n,.pl [])]) (ps++[vw]) []->Q .non H'):md c vs H Q E
theorem mf (T:Txt K w mg t):aW P w K mg base (eU P w) (0+4) t.nt t.nu ["self","name"] (md (cs t)):=by
 have iF:=kO P base T;have mO:=qD P base T;have jb:=ma P base T;refine T.dJ.CF lI ?_ ?_
 x_go
 obtain⟨x,F,vw,ps,fs,n,rfl,B,hlen,hps,q⟩:=h;refine aJ (ae (aP (bT (X:=(nJ T.dJ.1 lI (eU P w) P w mg base cdv A outer s H E)) (pv 0) T.aI T.ck.me iF (fQ hr) T.ck.b .nil (fun _ _ z=>Or.inl z) (aa (pv 1) ag))) (ah (aP (dZ (pv 0) T.aI T.gR.me mO (fQ hr) T.gR.b .nil dN (aa (oi T.eO.PN jb (fQ hr) rfl T.G6 T.eO.b .nil dN (aa (pv 1) (aa c8 ag))) ag))))) ?_;obtain⟨L,D,U,all,M,Ps,Fs,es,us,b,i,pp,pf,f⟩:=B.ex;obtain⟨dx,hx⟩:=b.hx;refine⟨_,rfl,x,dx,_,rfl,hx,ly _ _ _,_,rfl,x,F,vw,ps,fs,n,rfl,B,hlen,?_⟩;cases ho:bY vw n with
 |some r =>
  rw[ho]at q;intro H' s';have q:=q H' s';exact q
 |none =>
  rw[ho]at q;obtain⟨_,hf,Se⟩:=yL ho;intro H1 s1;have b1:=b.kept f (.same s1);obtain⟨ds,hD,pD⟩:=b1.hD;obtain⟨ux,hU,pU⟩:=b1.hU;have ll:=bM i;have dl:=bM pD;have pl:=bM pp;have pe:=b.past.len;refine⟨_,rfl,x,dx,_,rfl,s1 _ _ hx,rA _ _ _,_,rfl,?_⟩;intro v dv nv XA ne;refine⟨v,dv,n,.non,rfl,af,fun l H2 kp hl hlv hv2 hl2=>⟨rfl,?_⟩⟩;have s2:ao H1 H2:=fun y o hy=>kp y o (by rw[ak (au hy nv),ak (au hy XA)];exact hy) (au hy nv);have hl1:H1 l=none:=p7 hl;refine⟨x,dx,L,D,U,v,M L,ds,ux,rfl,s2 _ _ (s1 _ _ hx),s2 _ _ b1.hL,s2 _ _ hD,s2 _ _ hU,b.LD,b.LU,b.DU,by omega,by omega,fun e H3 H' eT ei eb ea s3 nB nA hd fr hL' hD' hU'=>?_⟩;obtain⟨F',g,fr',B'⟩:=Bk.added b1 (Is.kept (F:=F) (.same s1) i) (bZ (fun _ _ q=>Is.kept (F:=F) (.same s1) q) pp) f B.wv (a:=⟨v,dv,n,.non,l⟩) (th:=.pl []) s2 nv hl1 hv2 hl2 (fun M' h0=>⟨rfl,by rw[h0];exact .nil⟩) ((B.wv vw (.inr (.inl rfl))).UL (iZ hf) Se) eT ei eb ea s3 nB nA hd hD pD fr hL' hD' hU';exact q F' H' (g.old s1) (fun y o hy hn=>fr' y o (s1 y o hy) hn) B'
inductive iG (c:Cs)(vs:List V)(H:Hp)(Q:VK)(E:XK):Prop
 |mk (i n:Int) (cT:vs=[.int i,.int n]) (cU:((0<=i/\i<=n->Q .non H)/\(¬(0<=i/\i<=n)->RX E c .jY H))):iG c vs H Q E
theorem fm (T:Txt K w mg t):aW P w K mg base (eU P w) (0+1) t.iP t.iQ ["at","last"] (iG (cs t)):=by
 refine T.aU.CF ix ?_ ?_
 x_go
 obtain⟨i,n,rfl,q1,q2⟩:=h;refine aJ (ah (aH (bW (pM j6 j6 ai (pv 0) (pv 1))) (ah (eI (X:=(nJ T.aU.1 ix (eU P w) P w mg base cdv A outer s H E)) (fun _ _ z=>z) rfl T.Jc.exc rfl T.A4 (aa av ag))) ay)) ?_;refine⟨_,rfl,_,_,rfl,rfl,_,rfl,?_⟩;refine aN (fun h0=>?_) (fun h0=>?_)
 ·refine⟨_,rfl,_,_,rfl,rfl,_,rfl,?_⟩;refine aN (fun h=>?_) (fun h=>?_)
  ·have h':(!decide (i<=n))=true:=h;have q:=q2 fun z=>by rw[A' z.2]at h';cases h'
   exact⟨by show 1<=sizeLine;decide,q.2⟩
  ·have h':¬(!decide (i<=n))=true:=h;refine q1 ⟨G' h0,?_⟩
   by_cases z:i<=n
   ·exact z
   ·exact S' (by rw[J' z];rfl) h'
 ·have q:=q2 fun z=>h0 (A' z.1);exact⟨_,rfl,bV ⟨by show 1<=sizeLine;decide,q.2⟩⟩
inductive kP (c:Cs)(vs:List V)(H:Hp)(Q:VK)(E:XK):Prop
 |mk (p:Addr) (s:Sn) (cT:vs=[.ref p]) (cU:H p=some (.tup [.str s.1,.int s.2])) (dH:((dO s=true->Q .non H)/\(dO s=false->RX E c .lz H))):kP c vs H Q E
theorem kQ (T:Txt K w mg t):aW P w K mg base (eU P w) (0+2) t.lO t.lP ["sign"] (kP (cs t)):=by
 have Je:=Kz P base T;refine T.cj.CF kn ?_ ?_
 x_go
 obtain⟨p,g,rfl,hp,q1,q2⟩:=h;refine aJ (ah (aH (bW (aR (dG T.IZ Je hr (aa (pv 0) ag)))) (ah (eI (X:=(nJ T.cj.1 kn (eU P w) P w mg base cdv A outer s H E)) (fun _ _ z=>z) rfl T.Bh.exc rfl T.sI (aa av ag))) ay)) ?_;refine⟨_,rfl,p,g,rfl,hp,_,rfl,?_⟩;cases hg:dO g with
 |true=>exact aX (q1 hg)
 |false =>
  have q:=q2 hg;exact bV ⟨by show 1<=sizeLine;decide,q.2⟩
inductive Hj (vs:List V)(H:Hp)(Q:VK)(E:XK):Prop
 |mk (p:Addr) (s:Sg) (cT:vs=[.ref p]) (cU:H p=some (.tup [.str s.1.str,.int s.2])) (dH:Q (.bl s.1.small) H):Hj vs H Q E
theorem PX (k:Kd):inV (.str k.str) [.str "s",.str "d",.str "r"]=k.small:=by cases k <;> decide +kernel
theorem Hk (T:Txt K w mg t):aW P w K mg base fA (0+1) t.Ki t.Kj ["sign"] Hj:=by
 refine T.EV.ok N2 ?_ ?_
 x_go
 obtain⟨p,s,rfl,hp,q⟩:=h;rw[<-PX]at q;refine aJ (ah (ar (aZ (bO.or bN) (aY (pv 0)) (bA (v:=.ref t.mK) rfl T.BW rfl) rfl))) ?_;tm_up;exact .inl ⟨_,_,rfl,.inr (T.Cb _),rfl,rfl,q⟩
theorem Ji (ks:List Kd)(p met:Nat):gQ ks (p+1) met=if(if(ks.getD p .dot).small=true then met else met+1)=2 then p else gQ ks p (if(ks.getD p .dot).small=true then met else met+1):=rfl
inductive Bu (K:Frag)(vs:List V)(H:Hp)(Q:VK)(E:XK):Prop
 |mk (l:Addr) (xs:List V) (ss:List Sg) (i:Nat) (cT:vs=[.ref l,.int (i:Int)]) (cU:aM K H l xs) (dH:ig H xs ss) (fL:ss.length<=200) (jF:i<=ss.length) (zB:Q (.int (gQ (bj ss) i 0:Nat)) H):Bu K vs H Q E
theorem Jj (T:Txt K w mg t):aW P w K mg base fA (0+2) t.Dh t.Di ["line","at"] (Bu K):=by
 have E5:=Hk P base T;refine T.DH.ok ou ?_ ?_
 x_go
 obtain⟨l,xs,ss,i,rfl,hS,g,hl,hi,q⟩:=h;refine aJ (ae (dq 2 ou.nd ai) (ae (d8 PassesOwn.never rfl (Lk rfl T.jz (aa (aE eW (pv 1) ai) (aa (rh mz ai) (aa (rh mz ai) ag)))) (jG 3 ou.nd) (ae (g7 (aH (bW (aR (dG T.EV E5 hr (aa (bx aT (pv 0) (pv 3) (fun _ _=>rfl)) ag)))) (ah (Q7 (i:=2) ou.nd rfl (Or.inl rfl) ai Q8)) ay)) (ah (aH (aq (aS.or (aK (az hr))) (pv 2) ai (aw _)) (ah (ar (pv 3))) ay)))) (ah (ar ai)))) ?_;tm_up;have xl:=bM g;refine⟨(i:Int)-1,-1,rfl,⟨by omega,by omega,by omega,by omega⟩,Nf (fun j σ H'=>∃(met:Nat)(v:Option V),σ=[some (.ref l),some (.int (i:Int)),some (.int (met:Int)),v]/\H'=H/\met<2/\gQ (bj ss) i 0=gQ (bj ss) (i-j) met) ⟨0,none,rfl,rfl,by decide,rfl⟩ ?_ ?_⟩
 ·rintro j σ H1 hj ⟨met,v,rfl,eH,hm2,hgo⟩;have eH:=eH.symm;subst eH;obtain⟨sg,hsg⟩:∃ sg,ss[i-1-j]? = some sg:=⟨_,N' (by omega)⟩;have hk:(bj ss).getD (i-1-j) .dot=sg.1:=by rw[List.getD_eq_getElem?_getD,Zd',hsg];rfl
  have hij:i-j=(i-1-j)+1:=by omega
  refine⟨fun σ H'=>σ=[some (.ref l),some (.int (i:Int)),some (.int ((if sg.1.small=true then met else met+1:Nat):Int)),some (.int ((i:Int)-1-(j:Int)))]/\H'=H,?_,?_⟩
  ·tm_up;refine za hS g (n:=i-1-j) (by omega) hsg fun b hb=>?_;refine⟨b,sg,rfl,hb,?_⟩;refine⟨_,rfl,?_⟩;refine aN (fun hc=>?_) (fun hc=>?_)
   ·have hc':sg.1.small=false:=by simpa using hc
    rw[hc'];tm_up;exact⟨by simp,rfl⟩
   ·have hc':sg.1.small=true:=by simpa using hc
    rw[hc'];exact⟨rfl,rfl⟩
  ·rintro _ H1 ⟨rfl,eH⟩;have eH:=eH.symm;subst eH;tm_up;have Ou:gQ (bj ss) i 0=if(if sg.1.small=true then met else met+1)=2 then i-1-j else gQ (bj ss) (i-1-j) (if sg.1.small=true then met else met+1):=by
    rw[hgo,hij,Ji,hk]
   have hle:(if sg.1.small=true then met else met+1)<=2:=by split <;> omega
   generalize (if sg.1.small=true then met else met+1)=Sf at Ou hle;refine aN (fun hc=>?_) (fun hc=>?_)
   ·have e2:Sf=2:=by have:=V.int.inj (G' hc);omega
    rw[X' e2]at Ou;refine⟨_,rfl,?_⟩;rw[Ou]at q;have:((i:Int)-1-(j:Int))=((i-1-j:Nat):Int):=by omega
    rw[this];exact q
   ·have e2:¬ Sf=2:=fun z=>hc (A' (Zj' V.int (by omega)));rw[T' e2]at Ou;exact⟨Sf,_,rfl,rfl,by omega,by rw[Ou];congr 1;omega⟩
 ·rintro σ H1 ⟨met,v,rfl,eH,hm2,hgo⟩;have eH:=eH.symm;subst eH;have:gQ (bj ss) i 0=0:=by
   rw[hgo];have e:i-(↑i-1 - -1:Int).toNat=0:=by omega
   rw[e];rfl
  rw[this]at q;exact q
inductive yM (K:Frag)(vs:List V)(H:Hp)(Q:VK)(E:XK):Prop
 |mk (l kp:Addr) (xs:List V) (ss:List Sg) (i:Nat) (wide:Bool) (cT:vs=[.ref l,.int (i:Int),.ref kp]) (cU:aM K H l xs) (dH:ig H xs ss) (fL:ss.length<=200) (jF:jf K H kp (IF wide)) (zB:i<=ss.length) (KA:Q (.int (tZ (bj ss) i wide:Nat)) H):yM K vs H Q E
theorem Hl (T:Txt K w mg t):aW P w K mg base fA (0+1) t.AH t.AI ["line","first","kinds"] (yM K):=by
 refine T.Bc.ok xX ?_ ?_
 x_go
 obtain⟨l,kp,xs,ss,i,wide,rfl,hS,g,hl,hT,hi,q⟩:=h;refine aJ (ae (d8 PassesOwn.never rfl (Co rfl T.jz (aa (pv 1) (aa (aD (aB.or aC) rfl T.bu br (aa (pv 0) ag)) ag))) (jG 3 xX.nd) (ah (aH (aq (bO.or bN) (bx aT (bx aT (pv 0) (pv 3) (fun _ _=>rfl)) ai (fun _ _=>rfl)) (pv 2) rfl) (ah (ar (pv 3))) ay))) (ah (ar (aD (aB.or aC) rfl T.bu br (aa (pv 0) ag))))) ?_;have xl:=bM g;tm_up;refine .inl ⟨l,xs,rfl,.inl hS,?_⟩;refine⟨(i:Int),(xs.length:Int),rfl,⟨by omega,by omega,by omega,by omega⟩,mS (fun j σ H'=>∃(v:Option V),σ=[some (.ref l),some (.int (i:Int)),some (.ref kp),v]/\H'=H/\∀ m x,m<j->(bj ss)[i+m]? = some x->rB wide x=false) ⟨none,rfl,rfl,fun m x hm=>by omega⟩ ?_ ?_⟩
 ·rintro j σ H1 hj ⟨v,rfl,eH,hno⟩;have eH:=eH.symm;subst eH;obtain⟨sg,hsg⟩:∃ sg,ss[i+j]? = some sg:=⟨_,N' (by omega)⟩;tm_up;refine za hS g (n:=i+j) (by omega) hsg fun b hb=>?_;tm_up;refine .inl ⟨kp,_,rfl,.inr hT,rfl,by cases wide <;> rfl,_,rfl,?_⟩;have hk:(bj ss)[i+j]? = some sg.1:=by rw[Zd',hsg];rfl
  rw[NK];refine aN (fun hc=>?_) (fun hc=>?_)
  ·rw[J9 hno hk hc]at q;refine⟨_,rfl,?_⟩;have e:((i+j:Nat):Int)=(i:Int)+(j:Int):=by omega
   rw[e]at q;exact q
  ·refine⟨_,rfl,rfl,fun m x hm hx=>?_⟩;rcases Nat.lt_or_ge m j with z|z
   ·exact hno m x z hx
   ·have e:m=j:=by omega
    subst e;rw[hk]at hx;cases hx
    simpa using hc
 ·rintro σ H1 ⟨v,rfl,eH,hno⟩;have eH:=eH.symm;subst eH;refine⟨_,rfl,.inl ⟨l,_,rfl,.inl hS,?_⟩⟩;have kl:(bj ss).length=ss.length:=L' ..;rw[Gk (by omega) fun m x hx=>hno m x (by have:=(K'.mp hx).1;omega) hx,kl,<-xl]at q;exact q
inductive ph (vs:List V)(H:Hp)(Q:VK)(E:XK):Prop
 |mk (p:Addr) (s:Sg) (cT:vs=[.ref p]) (cU:H p=some (.tup [.str s.1.str,.int s.2])) (dH:Q (.bl s.1.meas) H):ph vs H Q E
theorem Sh (k:Kd):inV (.str k.str) [.str "3",.str "2"]=k.meas:=by cases k <;> decide +kernel
theorem pj (T:Txt K w mg t):aW P w K mg base fA (0+1) t.qh t.qi ["sign"] ph:=by
 refine T.kD.ok zc ?_ ?_
 x_go
 obtain⟨p,s,rfl,hp,q⟩:=h;rw[<-Sh]at q;refine aJ (ah (ar (aZ (bO.or bN) (aY (pv 0)) (bA (v:=.ref t.gW) rfl T.o6 rfl) rfl))) ?_;tm_up;exact .inl ⟨_,_,rfl,.inr (T.o9 _),rfl,rfl,q⟩
inductive DT (K:Frag)(vs:List V)(H:Hp)(Q:VK)(E:XK):Prop
 |mk (l ch:Addr) (xs cx:List V) (ss cs:List Sg) (i b:Nat) (cT:vs=[.ref l,.int (i:Int),.int (b:Int),.ref ch]) (cU:aM K H l xs) (dH:ig H xs ss) (fL:ss.length<=200) (jF:i<=ss.length) (zB:b<=ss.length) (KA:aM K H ch cx) (PR:ig H cx cs) (PU:cs.length<=100) (Te:∀(p:Addr)(H':Hp),ao H H'->H' p=some (.tup (ED ss i b cs))->Q (.ref p) H'):DT K vs H Q E
theorem xg (T:Txt K w mg t):aW P w K mg base fA (0+3) t.GH t.GI ["line","at","behind","changed"] (DT K):=by
 have LW:=Jj P base T;have Jk:=Hl P base T;have kR:=pj P base T;refine T.vd.ok C7 ?_ ?_
 x_go
 obtain⟨l,ch,xs,cx,ss,cs,i,b,rfl,hS,g,hl,hi,hb,hC,gc,hcl,q⟩:=h;refine aJ (ae (dq 4 C7.nd (bL (cz (aR (aD zQ rfl T.IY Ip (aa (iq (cn:=["sign"]) rfl (cY.of rfl) (dz (pv 3)) (fun _=>(dX (i:=0) GB rfl (Or.inl rfl))) (fun _=>j9) (fun _=>(dG T.kD kR hr (aa (pv 0) ag)))) ag))) (bA (v:=.ref t.gW) rfl T.o6 rfl) (bA (v:=.ref t.jI) rfl T.zi rfl)))) (ah (ar (bJ (aa (dG T.DH LW hr (aa (pv 0) (aa (pv 1) ag))) (aa (dG T.Bc Jk hr (aa (pv 0) (aa (pv 2) (aa (pv 4) ag)))) ag)))))) ?_;have cl:=bM gc;refine⟨fun v H'=>∃ kp,v=.ref kp/\(∀ zw ,jf K zw kp (IF (cs.any fun s=>s.1.meas)))/\ao H H',?_,?_⟩
 ·refine⟨_,rfl,ch,rfl,⟨_,hC⟩,fun D b2 hD=>?_⟩;refine fH (K:=K) (xs:=cx) (fun ii ys σ H'=>∃ v,σ=[v,some (.ref l),some (.int (i:Int)),some (.int (b:Int)),some (.ref ch),none]/\H'=upd H D (.lst ys)/\ys=((cs.take ii).map fun s=>s.1.meas).map V.bl) ⟨none,rfl,rfl,rfl⟩ ?_ ?_ ?_
  ·rintro ii ys σ H' ⟨v,rfl,rfl,_⟩;exact fM hC hD
  ·rintro ii ys x σ H' hx ⟨v,rfl,rfl,rfl⟩ N hN;obtain⟨sg,e1,p,rfl,hp⟩:=oo gc hx;have hii:ii<cs.length:=(K'.mp e1).1;refine ee ?_;refine⟨_,rfl,p,sg,rfl,(by rw[ak (au hp hD)];exact hp),af,?_,?_⟩
   ·rw[L',L',Zo'];exact aL (by omega)
   ·refine hN _ _ _ ⟨_,rfl,cR,?_⟩;rw[take_succ,e1];simp
  ·rintro ys σ H' ⟨v,rfl,rfl,rfl⟩;refine⟨rfl,D,_,rfl,aM.of af,_,rfl,?_⟩;rw[cl,take_length,List.any_map];refine aN (fun hc=>?_) (fun hc=>?_)
   ·have e:(cs.any fun s=>s.1.meas)=true:=hc;refine⟨_,rfl,fun zw=>?_,ao.upd hD⟩;rw[e];exact T.o9 zw
   ·have e:(cs.any fun s=>s.1.meas)=false:=by
     cases z:(cs.any fun s=>s.1.meas) with
     |false=>rfl
     |true=>exact S' z hc
    refine⟨_,rfl,fun zw=>?_,ao.upd hD⟩;rw[e];exact T.zk zw
 ·rintro _ H1 ⟨kp,rfl,hk,s1⟩;refine⟨_,rfl,_,rfl,l,xs,ss,i,rfl,s1.seq hS,g.same s1,hl,hi,?_⟩;refine⟨_,rfl,_,rfl,_,rfl,l,kp,xs,ss,b,_,rfl,s1.seq hS,g.same s1,hl,hk _,hb,?_⟩;refine⟨by show 2<=sizeLine;decide,fun p hp=>q p _ (s1.trans (ao.upd hp)) af⟩
inductive jU (c:Cs)(vs:List V)(H:Hp)(Q:VK)(E:XK):Prop
 |mk (x dx L D U:Addr) (xs:List V) (vx:List Vx) (n:Str) (cT:vs=[.ref x,.str n]) (cU:H x=some (.ins c.B dx (pY L D U))) (dH:H L=some (.lst xs)) (fL:Paired (Pq c.V H) xs vx) (jF:match vx.find? (fun a=>decide (a.n=n)) with
 |none=>RX E c .dm H
 |some a=>(a.tm=.non->Q (.ref a.o) H)/\(∀ p,a.tm=.ref p->RX E c .eJ H)/\(a.tm=.non\/∃ p,a.tm=.ref p)):jU c vs H Q E
theorem eB (T:Txt K w mg t):aW P w K mg base (eU P w) (0+2) t.kx t.ky ["self","name"] (jU (cs t)):=by
 have bI:=dh P base T;refine T.bo.CF eA ?_ ?_
 x_go
 obtain⟨x,dx,L,D,U,xs,vx,n,rfl,hx,hL,g,q⟩:=h;refine aJ (ae (dq 2 eA.nd (bT (X:=(nJ T.bo.1 eA (eU P w) P w mg base cdv A outer s H E)) (pv 0) T.aI T.aV.me bI (fQ hr) T.aV.b .nil (fun _ _ z=>Or.inl z) (aa (pv 1) ag))) (ae (aH (aq Ed (bQ (pv 2) rfl) c8 (aw _)) (ah (eI (X:=(nJ T.bo.1 eA (eU P w) P w mg base cdv A outer s H E)) (fun _ _ z=>z) rfl T.Hb.exc rfl T.yF (aa av ag))) ay) (ah (ar (pv 2))))) ?_;refine⟨_,rfl,x,dx,_,rfl,hx,dt _ _ _,_,rfl,x,dx,L,D,U,xs,vx,n,rfl,hx,hL,g,?_⟩;cases hf:vx.find? (fun a=>decide (a.n=n)) with
 |none =>
  rw[hf]at q;exact q
 |some a =>
  rw[hf]at q;obtain⟨q1,q2,q3⟩:=q;obtain⟨j,hj⟩:=getElem?_of_mem (List.mem_of_find?_eq_some hf);obtain⟨v,hv,rfl,ha⟩:=lq g hj;refine⟨_,rfl,a.o,_,a.d,_,_,rfl,ha,T.d4,T.gm,qP _ _ _,?_⟩;rcases q3 with e|⟨p,e⟩
  ·rw[e];refine⟨rfl,_,rfl,?_⟩;exact aN (fun h=>S' h (by decide)) (fun _=>⟨_,rfl,q1 e⟩)
  ·have q:=q2 p e;rw[e];refine⟨rfl,_,rfl,?_⟩;exact aN (fun _=>⟨by show 1<=sizeLine;decide,q.2⟩) (fun h=>S' (show(!decide (V.ref p=V.non))=true by rw[J' (fun z=>nomatch z)];rfl) h)
inductive yN (c:Cs)(vs:List V)(H:Hp)(Q:VK)(E:XK):Prop
 |mk (x:Addr) (F:Addr->Prop) (vw:Vw) (ps fs:List Vw) (n:Str) (i:Int) (p:Addr) (sn:Sn) (cT:vs=[.ref x,.str n,.int i,.ref p]) (cU:n6 c H x F vw ps fs) (dH:H p=some (.tup [.str sn.1,.int sn.2])) (fL:ps.length<=900) (jF:match aO vw n with
 |none=>RX E c .dm H
 |some (.cn _ _ _ _)=>RX E c .eJ H
 |some (.pl ss)=>(¬(0<=i/\i<=(ss.length:Int))->RX E c .jY H)/\((0<=i/\i<=(ss.length:Int))->dO sn=false->RX E c .lz H)/\((0<=i/\i<=(ss.length:Int))->dO sn=true->200<=ss.length->RX E c .Full H) /\
  ((0<=i/\i<=(ss.length:Int))->dO sn=true->ss.length<200->∀(s:Sg)(w:Addr) F' H',s.1.str=sn.1->s.2=sn.2->H' w=some (.tup (ED (ss.take i.toNat++[s]++ss.drop i.toNat) i.toNat (i.toNat+1) [s]))->Gr F F' H->Fr F H H'->n6 c H' x F' (kg vw n (.pl (ss.take i.toNat++[s]++ss.drop i.toNat))) (ps++[vw]) []->Q (.ref w) H')):yN c vs H Q E
theorem yO (T:Txt K w mg t):aW P w K mg base (eU P w) (0+4) t.AJ t.AK ["self","name","at","sign"] (yN (cs t)):=by
 have cS:=fm P base T;have iH:=kQ P base T;have cI:=fF P base T;have qF:=xg P base T;have cy:=eB P base T;have cq:=eR P base T;refine T.fk.CF h9 ?_ ?_
 x_go
 obtain⟨x,F,vw,ps,fs,n,iz,p,sn,rfl,B,hp,hps,q⟩:=h;refine aJ (ae (dq 4 h9.nd (bQ (bT (X:=(nJ T.fk.1 h9 (eU P w) P w mg base cdv A outer s H E)) (pv 0) T.aI T.bo.me cy (fQ hr) T.bo.b .nil (fun _ _ z=>Or.inl z) (aa (pv 1) ag)) rfl)) (ae (aP (mX (X:=(nJ T.fk.1 h9 (eU P w) P w mg base cdv A outer s H E)) cS (fQ hr) rfl T.aU.g T.aU.kp T.aU.b .nil (fun _ _ z=>Or.inl z) (aa (pv 2) (aa (aD (aB.or aC) rfl T.bu br (aa (pv 4) ag)) ag)))) (ae (aP (mX (X:=(nJ T.fk.1 h9 (eU P w) P w mg base cdv A outer s H E)) iH (fQ hr) rfl T.cj.g T.cj.kp T.cj.b .nil (fun _ _ z=>Or.inl z) (aa (pv 3) ag))) (ae (aH (aq JG (aD (aB.or aC) rfl T.bu br (aa (pv 4) ag)) (bA (v:=.int 200) rfl T.EU ⟨_,rfl⟩) (aw _)) (ah (eI (X:=(nJ T.fk.1 h9 (eU P w) P w mg base cdv A outer s H E)) (fun _ _ z=>z) rfl T.Kw.exc rfl T.ER (aa av ag))) ay) (ae (aP (dZ (pv 0) T.aI T.bX.me cI (fQ hr) T.bX.b .nil dN (aa (oi T.bR.PN cq (fQ hr) rfl T.va T.bR.b .nil dN (aa (pv 4) (aa (pv 2) (aa (a9 ag) (aa (a9 (aa (pv 3) ag)) ag))))) ag))) (ah (ar (dG T.vd qF hr (aa (pv 4) (aa (pv 2) (aa (aE (bp.or (aF.or bq)) (pv 2) ai) (aa (a9 (aa (pv 3) ag)) ag)))))))))))) ?_;obtain⟨L,D,U,all,M,Ps,Fs,es,us,b,iM,pp,pf,f⟩:=B.ex;obtain⟨dx,hx⟩:=b.hx;obtain⟨vx,g,gv⟩:=b.oq iM;obtain⟨ds,hD,pD⟩:=b.hD;obtain⟨ux,hU,pU⟩:=b.hU;have dl:=bM pD;have pl:=bM pp;have pe:=b.past.len;refine⟨_,rfl,x,dx,_,rfl,hx,fc _ _ _,_,rfl,x,dx,L,D,U,M L,vx,n,rfl,hx,b.hL,g,?_⟩;rcases xC gv (fun _ _ r=>r.2.1) n with ⟨f1,f2⟩|⟨a,th,j,f1,f2,r,an,fj,fw⟩
 ·rw[f1];rw[f2]at q;exact q
 rw[f1];rw[f2]at q;subst an;cases th with
 |cn ld lt sl tn =>
  obtain⟨pt,DV,_⟩:=r.2.2;refine⟨fun z=>?_,fun _ _=>q,.inr ⟨pt,DV⟩⟩;rw[DV]at z;cases z
 |pl ss =>
  obtain⟨Fq,hg⟩:=r.2.2;obtain⟨q1,q2,q3,q4⟩:=q;have haa:=r.1;obtain⟨ha,hl⟩:=b.ha a haa;have yl:=bM hg;have hj:(M L)[j]? = some (.ref a.o):=by
   obtain⟨v,hv,e1,_⟩:=lq g fj;rw[<-e1];exact hv
  refine⟨fun _=>?_,(fun pz z=>by rw[Fq]at z;cases z),.inl Fq⟩;refine⟨a.o,_,a.d,_,_,rfl,ha,T.d4,T.eP,m6 _ _ _,?_⟩;refine⟨_,rfl,_,rfl,.inl ⟨a.l,M a.l,rfl,.inl (aM.of hl),?_⟩⟩;refine⟨iz,((M a.l).length:Int),rfl,fun hi=>?_,fun hi=>?_⟩
  rotate_left
  ·have q:=q1 (by rw[<-yl];exact hi);exact q
  rw[yl]at hi;refine⟨_,rfl,p,sn,rfl,hp,fun hgd=>?_,fun hgd=>?_⟩
  rotate_left
  ·have q:=q2 hi hgd;exact q
  refine⟨_,rfl,.inl ⟨a.l,M a.l,rfl,.inl (aM.of hl),?_⟩⟩;refine⟨_,_,rfl,rfl,_,rfl,?_⟩;refine aN (fun h=>?_) (fun h=>?_)
  ·have h':=G' h;have q:=q3 hi hgd (by omega);exact⟨by show 1<=sizeLine;decide,q.2⟩
  have hlt:ss.length<200:=by
   rcases Nat.lt_or_ge ss.length 200 with z|z
   ·exact z
   ·exact S' (A' (by omega)) h
  obtain⟨sg,e1,e2,gt⟩:=EB hgd;rw[<-e1,<-e2]at hp;obtain⟨i,rfl⟩:∃ i:Nat,iz=(i:Int):=⟨iz.toNat,by omega⟩;have hi:i<=ss.length:=by omega
  have q4:=q4 (by omega) hgd hlt sg;rw[Int.toNat_natCast]at q4;refine⟨_,rfl,x,dx,_,rfl,hx,gh _ _ _,?_⟩;refine⟨_,rfl,_,rfl,big (by show 0<=1000;omega),fun B' hB=>?_⟩;refine⟨_,rfl,big (by show 1<=1000;omega),fun A_ hA=>?_⟩;have Jh:=tY hA;have sB:=(ao.upd (o:=.lst []) hB).trans (ao.upd (o:=.lst [V.ref p]) hA);have hB2:=ao.upd (o:=.lst [V.ref p]) hA _ _ (af (H:=H) (a:=B') (o:=.lst []));have E3:=af (H:=upd H B' (.lst [])) (a:=A_) (o:=.lst [V.ref p]);have lA:a.l≠A_:=au hl Jh;generalize upd (upd H B' (.lst [])) A_ (.lst [V.ref p])=H2 at sB hB2 E3;intro d dd nd PV ne;refine⟨d,dd,a.l,(i:Int),B',A_,rfl,af,rfl,?_⟩;rw[cR];have s3:ao H2 (upd (upd H2 dd (.own d)) d (.ins t.cv dd (xy a.l (i:Int) B' A_))):=fun y o hy=>by
   rw[ak (au hy nd),ak (au hy PV)];exact hy
  have E4:=af (H:=upd H2 dd (.own d)) (a:=d) (o:=.ins t.cv dd (xy a.l (i:Int) B' A_));generalize upd (upd H2 dd (.own d)) d (.ins t.cv dd (xy a.l (i:Int) B' A_))=H3 at s3 E4;have s4:=sB.trans s3;obtain⟨_,d1,d2⟩:=b.lists (.inr ⟨a,haa,rfl⟩);refine⟨x,dx,L,D,U,d,dd,a.l,B',A_,i,ds,ux,M a.l,[],[.ref p],rfl,s4 _ _ hx,s4 _ _ hD,s4 _ _ hU,E4,s4 _ _ hl,s3 _ _ hB2,s3 _ _ E3,lA,d1,d2,b.DU,by simp;omega,by simp;omega,by omega,?_⟩;have hM:n5 ⟨d,dd,a.l,i,B',A_,[],[.ref p]⟩ M a.l=(M a.l).take i++[.ref p]++(M a.l).drop (i+0):=eh;have keep:∀ y o,H3 y=some o->y≠a.l->y≠D->y≠U->(upd (upd (upd H3 a.l (.lst ((M a.l).take i++[.ref p]++(M a.l).drop (i+0)))) D (.lst (ds++[.ref d]))) U (.lst [])) y=some o:=fun y o hy y1 y2 y3=>by
   rw[ak y3,ak y2,ak y1];exact hy
  have k1:(upd (upd (upd H3 a.l (.lst ((M a.l).take i++[.ref p]++(M a.l).drop (i+0)))) D (.lst (ds++[.ref d]))) U (.lst [])) a.l=some (.lst ((M a.l).take i++[.ref p]++(M a.l).drop (i+0))):=by
   rw[ak d2,ak d1,af]
  have k2:(upd (upd (upd H3 a.l (.lst ((M a.l).take i++[.ref p]++(M a.l).drop (i+0)))) D (.lst (ds++[.ref d]))) U (.lst [])) D=some (.lst (ds++[.ref d])):=by
   rw[ak b.DU,af]
  have k3:(upd (upd (upd H3 a.l (.lst ((M a.l).take i++[.ref p]++(M a.l).drop (i+0)))) D (.lst (ds++[.ref d]))) U (.lst [])) U=some (.lst []):=af;generalize (upd (upd (upd H3 a.l (.lst ((M a.l).take i++[.ref p]++(M a.l).drop (i+0)))) D (.lst (ds++[.ref d]))) U (.lst []))=H4 at keep k1 k2 k3;have g3:=hg.same s4;have QO:ig H3 ((M a.l).take i++[.ref p]++(M a.l).drop (i+0)) (ss.take i++[sg]++ss.drop i):=qU (qU (pW i g3) (.cons ⟨p,rfl,s4 _ _ hp⟩ .nil)) (rq i g3);obtain⟨F',gr,fr,B4⟩:=Bk.NI b iM pp f B.wv haa hj fw Fq (e:=⟨d,dd,a.l,i,B',A_,[],[.ref p]⟩) rfl ⟨by simp;omega,by simp⟩ (by simp) (by simp) s4 hB Jh ⟨rfl,E4,s3 _ _ hB2,s3 _ _ E3⟩ (by rw[hM];exact QO) (by simp;omega) (fun s hs=>by
   have wg:=((B.wv vw (.inr (.inl rfl))).gd _ _ (Zf' fw)).2;rcases Zp'.mp hs with hs|hs
   ·rcases Zp'.mp hs with hs|hs
    ·exact wg s (List.mem_of_mem_take hs)
    ·rw[Zg'.mp hs];exact gt
   ·exact wg s (List.mem_of_mem_drop hs)) hD pD keep (by rw[hM];exact k1) k2 k3
  have nT:∀{y us},H3 y=some (.tup us)->H4 y=some (.tup us):=fun {y us} hy=>keep y _ hy (fX hy (s4 _ _ hl) (by intro z;cases z)) (fX hy (s4 _ _ hD) (by intro z;cases z)) (fX hy (s4 _ _ hU) (by intro z;cases z));have UU:ig H4 ((M a.l).take i++[.ref p]++(M a.l).drop (i+0)) (ss.take i++[sg]++ss.drop i):=bZ (fun _ _ ⟨z,e1,e2⟩=>⟨z,e1,nT e2⟩) QO;refine⟨_,rfl,_,rfl,_,rfl,.inl ⟨_,_,rfl,rfl,_,rfl,big (by show 1<=1000;omega),fun lc UW=>?_⟩⟩;have sc:=ao.upd (o:=.lst [V.ref p]) UW;refine⟨a.l,lc,_,[.ref p],ss.take i++[sg]++ss.drop i,[sg],i,i+1,rfl,aM.of (sc _ _ k1),UU.same sc,by simp;omega,by simp;omega,by simp;omega,aM.of af,.cons ⟨p,rfl,sc _ _ (nT (s4 _ _ hp))⟩ .nil,by simp,fun w H5 s5 UX=>?_⟩;have s6:=sc.trans s5;exact q4 w F' H5 e1 e2 UX gr (fun y o hy hn=>s6 _ _ (fr y o hy hn)) (B4.same s6)
inductive vE (vs:List V)(H:Hp)(Q:VK)(E:XK):Prop
 |mk (z:Str) (n m:Int) (cT:vs=[.str z,.int m]) (cU:PJ z n) (dH:(z.length:Int)<=m) (fL:∀ H',ao H H'->Q (.int n) H'):vE vs H Q E
theorem vF (T:Txt K w mg t):aW P w K mg base fA (0+1) t.x6 t.x8 ["word","most"] vE:=by
 refine T.lX.ok EG ?_ ?_
 x_go
 obtain⟨z,n,m,rfl,⟨l1,l3,hf,h0,hit⟩,hm,q⟩:=h;have big:z.length<=sizeLine:=Zb' l3 (by decide);have hlen:z.cps.toList.length=z.length:=Array.length_toList;refine aJ (ae (aH (bW (pM j6 j6 ai (aD (aB.or aC) rfl T.bu br (aa (pv 0) ag)) (pv 1))) (ah (ar c8)) ay) (ae (aH (aR (aD zQ rfl T.IY Ip (aa (iq (cn:=["figure"]) rfl (cY.of rfl) (Io (pv 0)) (fun _=>(dX (i:=0) AA rfl (Or.inl rfl))) (fun _=>j9) (fun _=>(aZ (gp.or gq) (pv 0) (bA (v:=.ref t.wW) rfl T.LN rfl) rfl))) ag))) (ah (ar c8)) ay) (ae (aH (bE (PW.pt (cB (aq Cp (aD (aB.or aC) rfl T.bu br (aa (pv 0) ag)) ai (aw _)) (cX (aq (aS.or (aK (az hr))) (aY (pv 0)) av (aw _)))))) (ah (ar c8)) ay) (ah (ar (di (iW.or d9) rfl T.qp pR (aa (pv 0) ag))))))) ?_;refine⟨_,rfl,.inr ⟨_,rfl,big,_,_,rfl,rfl,_,rfl,?_⟩⟩;refine aN (fun _=>?_) (fun h=>S' (A' (by omega)) h);tm_up;refine aN (fun h=>?_) (fun _=>?_)
 ·have h:(!decide (((z.length:Nat):Int)<=m))=true:=h;rw[A' hm]at h;cases h
 refine⟨_,rfl,_,rfl,fun D b hD=>?_⟩;refine FQ (fun i ys σ H'=>∃ v,σ=[v,some (.str z),some (.int m)]/\H'=upd H D (.lst ys)/\ys=((z.cps.toList.take i).map fun _=>false).map V.bl/\i<=z.cps.size) ⟨none,rfl,rfl,rfl,Zq' _⟩ ?_ ?_
 ·rintro i ys c σ H' hc ⟨v,rfl,rfl,rfl,hi⟩ N hN;have hi2:i<z.cps.size:=(Array.getElem?_eq_some_iff.mp hc).1;have hcl:z.cps.toList[i]? = some c:=by simpa using hc
  have hcf:=hf c (Zf' hcl);refine ee ?_;refine⟨_,rfl,.inl ⟨_,_,rfl,.inr (T.LO _),rfl,rfl,af,?_,?_⟩⟩
  ·rw[L',L',Zo'];exact aL (by omega)
  ·refine hN _ _ _ ⟨_,rfl,cR,?_,hi2⟩;have:inV (.str ⟨#[c]⟩) Kc=true:=(PK c).trans (A' hcf);show(((z.cps.toList.take i).map fun _=>false).map V.bl)++[V.bl (!inV (.str ⟨#[c]⟩) Kc)]=_;rw[this,take_succ,hcl];simp
 ·rintro ys σ H' ⟨v,rfl,rfl,rfl,hi⟩;refine⟨rfl,D,_,rfl,aM.of af,_,rfl,?_⟩;refine aN (fun h3=>?_) (fun h3=>?_)
  ·have h3:(((z.cps.toList.take z.cps.size).map fun _=>false).any id)=true:=h3;rw[List.any_map]at h3;obtain⟨c,_,hh⟩:=any_eq_true.mp h3;cases hh
  ·refine fV false ?_ ?_
   ·refine⟨_,rfl,.inr ⟨_,rfl,big,_,_,rfl,rfl,_,rfl,?_⟩⟩;refine aN (fun h=>?_) (fun h=>dr rfl);have hgt:1<z.length:=by have:=G' h;omega
    obtain⟨c0,hc0⟩:∃ c0,z.cps.toList[0]? = some c0:=⟨_,N' (by rw[hlen];omega)⟩;refine⟨_,rfl,.inr (.inr ⟨_,_,c0,rfl,rfl,big,qM (j:=0) hc0,.inl ⟨rfl,_,rfl,dr ?_⟩⟩)⟩;refine J' fun e=>?_
    injection e with e
    rw[NY]at e;have e:=(Ke c0 48).symm.trans (beq_iff_eq.mpr e);have e:=G' e;exact h0 ⟨hgt,by rw[hc0,<-e]⟩
   ·exact aX ⟨_,rfl,.inr ⟨_,_,rfl,hit,by omega,q _ (ao.upd hD)⟩⟩
inductive Bv (vs:List V)(H:Hp)(Q:VK)(E:XK):Prop
 |mk (s:Sg) (cT:vs=[.str (cG s)]) (cU:jM s) (dH:∀ p H',ao H H'->H' p=some (.tup [.str s.1.str,.int s.2])->Q (.ref p) H'):Bv vs H Q E
theorem Jl (T:Txt K w mg t):aW P w K mg base fA (0+2) t.Dj t.Dk ["word"] Bv:=by
 have mh:=vF P base T;refine T.DI.ok sA ?_ ?_
 x_go
 obtain⟨s,rfl,hg,q⟩:=h;refine aJ (ae (aH (aq (bO.or bN) (pv 0) (bA (v:=.ref t.iC) rfl T.qm rfl) rfl) (ah (ar (bJ (aa (pv 0) (aa ai ag))))) ay) (ae (dq 1 sA.nd (dM (eY.or (gY.or gZ)) (pv 0) eX (dA ai))) (ae (dq 2 sA.nd (dG T.lX mh hr (aa (dM (eY.or (gY.or gZ)) (pv 0) (dA ai) eX) (aa (bA (v:=.int 2) rfl T.qo ⟨_,rfl⟩) ag)))) (ae (aH (bE (PW.pt (fq (aq (gp.or gq) (pv 1) (bA (v:=.ref t.eN) rfl T.i6 rfl) rfl) (d7 (aq pL (pv 2) c8 (aw _)))))) (ah (ar c8)) ay) (ah (ar (bJ (aa (pv 1) (aa (pv 2) ag))))))))) ?_;cases e:s.1.gI with
 |false =>
  have ew:cG s=s.1.str:=by unfold cG;rw[e];rfl
  have e0:s.2=0:=hg.2 e;rw[ew];refine⟨_,rfl,.inl ⟨_,_,rfl,.inr (T.kI _),rfl,rfl,_,rfl,?_⟩⟩;refine aN (fun _=>?_) (fun h=>S' (show inV (.str s.1.str) ff=true by rw[NG,e];rfl) h);refine⟨_,rfl,(by show 2<=sizeLine;decide),fun p hp=>?_⟩;exact q p _ (ao.upd hp) (by rw[e0];exact af)
 |true =>
  obtain⟨h0,h1⟩:=hg.1 e;have ew:cG s=s.1.str++oN s.2:=by unfold cG;rw[e];rfl
  rw[ew];obtain⟨w1,w2,w3,w4,w5⟩:=US e h0 h1;obtain⟨f1,f2⟩:=NX h0 (show s.2<1000 by omega);have big:(s.1.str++oN s.2).length<=sizeLine:=Zb' w2 (by decide);refine⟨_,rfl,.inl ⟨_,_,rfl,.inr (T.kI _),rfl,rfl,_,rfl,?_⟩⟩;refine aN (fun h=>S' (show inV (.str (s.1.str++oN s.2)) ff=true from h) (by rw[w1];decide)) (fun _=>?_);refine⟨_,rfl,_,rfl,.inr (.inr ⟨_,rfl,big,?_⟩)⟩;refine⟨_,rfl,_,rfl,.inr (.inr ⟨_,rfl,big,?_⟩)⟩;rw[w3,w4];tm_up;refine⟨_,s.2,2,rfl,f1,by have:=f2 h1;omega,fun H1 s1=>?_⟩;refine fV false ?_ (aX ?_)
  ·refine⟨_,rfl,.inl ⟨_,_,rfl,.inr (T.ja _),rfl,rfl,_,rfl,?_⟩⟩;refine aN (fun h=>?_) (fun _=>?_)
   ·have h:(!inV (.str s.1.str) hI)=true:=h;rw[w5]at h;cases h
   ·exact⟨_,rfl,rfl,_,rfl,dr rfl⟩
  ·refine⟨_,rfl,_,rfl,(by show 2<=sizeLine;decide),fun p hp=>?_⟩;exact q p _ (s1.trans (ao.upd hp)) af
inductive vG (vs:List V)(H:Hp)(Q:VK)(E:XK):Prop
 |mk (s:Sg) (cT:vs=[.str (cG s)]) (cU:jM s) (dH:∀ p H',ao H H'->H' p=some (.tup [.str s.1.str,.int s.2])->Q (.ref p) H'):vG vs H Q E
theorem E6 (T:Txt K w mg t):aW P w K mg base fA (0+3) t.x9 t.ya ["word"] vG:=by
 have LX:=Jl P base T;refine T.yG.ok ui ?_ ?_
 x_go
 obtain⟨s,rfl,hg,q⟩:=h;refine aJ (ae (dq 1 ui.nd (dG T.DI LX hr (aa (pv 0) ag))) (ae (aH (aq pL (pv 1) c8 (aw _)) (ah Fz) ay) (ah (ar (pv 1))))) ?_;refine⟨_,rfl,s,rfl,hg,fun p H1 s1 hp=>?_⟩;refine⟨_,rfl,rfl,_,rfl,aX ?_⟩;exact⟨_,rfl,q p H1 s1 hp⟩
structure Bw (c:Cs)(H0 H:Hp)(x:Addr)(own:List Addr)(vw:Vw)(ps fs:List Vw):Prop where
 ex:∃ F,n6 c H x F vw ps fs/\(∀ y,F y->∃ xs,H y=some (.lst xs))/\(∀ y,F y->H0 y=none)/\∀ a∈own,¬ F a/\∃ o,H a=some o
 sm:ao H0 H
section
variable {c:Cs} {H0 H H' H1:Hp} {x:Addr} {own:List Addr} {vw J6:Vw} {ps ps' fs fs':List Vw} {F F':Addr->Prop}
theorem Bw.mk' (b:n6 c H' x F' J6 ps' fs')(sm:ao H0 H)(hF:∀ y,F y->∃ xs,H y=some (.lst xs))(h0:∀ y,F y->H0 y=none)(ho:∀ a∈own,¬ F a/\∃ o,H a=some o)(g:Gr F F' H)(fr:Fr F H H'):Bw c H0 H' x own J6 ps' fs'/\Xt own H H':=by
 obtain⟨F0,h1,h2,b0⟩:=b.UO;refine⟨⟨⟨F0,b0,h2,fun y z=>?_,fun a ha=>?_⟩,fun y o e=>fr y o (sm y o e) fun z=>?_⟩,fun y o e k=>fr y o e fun z=>?_⟩
 ·rcases g y (h1 y z) with q|q
  ·exact h0 y q
  ·exact sm.free q
 ·obtain⟨n,o,e⟩:=ho a ha;refine⟨fun z=>?_,o,fr a o e n⟩;rcases g a (h1 a z) with q|q
  ·exact n q
  ·rw[e]at q;cases q
 ·rw[h0 y z]at e;cases e
 ·rcases k with k|k
  ·obtain⟨xs,q⟩:=hF y z;rw[e]at q;cases q;exact k _ rfl
  ·exact(ho y k).1 z
theorem Bw.same (h:Bw c H0 H x own vw ps fs)(s:ao H H'):Bw c H0 H' x own vw ps fs:=by
 obtain⟨F,b,hF,h0,ho⟩:=h.ex;exact⟨⟨F,b.same s,fun y z=>let ⟨xs,e⟩:=hF y z;⟨xs,s _ _ e⟩,h0,fun a ha=>⟨(ho a ha).1,let ⟨o,e⟩:=(ho a ha).2;⟨o,s _ _ e⟩⟩⟩,h.sm.trans s⟩
theorem Bw.add (h:Bw c H0 H x own vw ps fs)(s:ao H H'){l:Addr}(n:H l=none){o:HO}(e:H' l=some o):Bw c H0 H' x (l::own) vw ps fs:=by
 obtain⟨F,b,hF,h0,ho⟩:=h.ex;refine⟨⟨F,b.same s,fun y z=>let ⟨xs,e⟩:=hF y z;⟨xs,s _ _ e⟩,h0,fun a ha=>?_⟩,h.sm.trans s⟩;rcases List.mem_cons.mp ha with rfl|ha
 ·refine⟨fun z=>?_,o,e⟩;obtain⟨xs,q⟩:=hF _ z;rw[n]at q;cases q
 ·exact⟨(ho a ha).1,let ⟨o,e⟩:=(ho a ha).2;⟨o,s _ _ e⟩⟩
theorem Bw.wv (h:Bw c H0 H x own vw ps fs):mQ vw:=by
 obtain⟨F,b,_⟩:=h.ex;exact b.wv vw (.inr (.inl rfl))
theorem Bw.hx (h:Bw c H0 H x own vw ps fs):∃ dx L D U,H x=some (.ins c.B dx (pY L D U)):=by
 obtain⟨F,b,_⟩:=h.ex;obtain⟨L,D,U,all,M,Ps,Fs,es,us,b,_⟩:=b.ex;obtain⟨dx,e⟩:=b.hx;exact⟨dx,L,D,U,e⟩
theorem Bw.new {dx L D U:Addr}(hx:H' x=some (.ins c.B dx (pY L D U)))(hL:H' L=some (.lst []))(hD:H' D=some (.lst []))(hU:H' U=some (.lst []))(LD:L≠D)(LU:L≠U)(DU:D≠U)(s:ao H H')(nL:H L=none)(nD:H D=none)(nU:H U=none):Bw c H H' x [] [] [] []:=by
 refine⟨⟨_,Bk.new hx hL hD hU LD LU DU,fun y hy=>?_,fun y hy=>?_,fun a ha=>nomatch ha⟩,s⟩
 ·rcases hy with rfl|rfl|rfl
  ·exact⟨_,hL⟩
  ·exact⟨_,hD⟩
  ·exact⟨_,hU⟩
 ·rcases hy with rfl|rfl|rfl
  ·exact nL
  ·exact nD
  ·exact nU
end
theorem Bw.down {c:Cs}{H0 H1 H:Hp}{x:Addr}{vw:Vw}{ps fs:List Vw}(h:Bw c H1 H x [] vw ps fs)(s:ao H0 H1):Bw c H0 H x [] vw ps fs:=by
 obtain⟨F,b,hF,h0,ho⟩:=h.ex;exact⟨⟨F,b,hF,fun y z=>s.free (h0 y z),ho⟩,s.trans h.sm⟩
theorem Bw.fresh {c:Cs}{H0 H H':Hp}{x:Addr}{vw:Vw}{ps fs:List Vw}(h:Bw c H0 H x [] vw ps fs)(s:ao H H'){l:Addr}(n:H l=none){o:HO}(e:H' l=some o):∃ H1,Bw c H1 H' x [] vw ps fs/\ao H0 H1/\H1 l=some o:=by
 obtain⟨F,b,hF,h0,ho⟩:=(h.add s n e).ex;have sm:=h.sm.trans s
 classical
 refine⟨fun y=>if F y then none else H' y,⟨⟨F,b,hF,fun y hy=>X' hy,fun a ha=>nomatch ha⟩,fun y o e=>?_⟩,fun y o e=>?_,?_⟩
 ·have e:(if F y then none else H' y)=some o:=e
  by_cases hy:F y
  ·rw[X' hy]at e;exact nomatch e
  ·rwa [T' hy]at e
 ·show(if F y then none else H' y)=some o;rw[T' (fun hy=>by rw[h0 y hy]at e;exact nomatch e)];exact sm _ _ e
 ·show(if F l then none else H' l)=some o;rw[T' (ho l mem_cons_self).1];exact e
theorem LY {vw:Vw}{n:Str}{a b:Th}(h:∀ q∈vw,q.1≠n):kg (vw++[(n,a)]) n b=vw++[(n,b)]:=by
 unfold kg;rw[map_append];have e1:vw.map (fun q=>if q.1=n then(n,b) else q)=vw:=by
  conv=>rhs;rw[<-List.map_id vw]
  exact List.map_congr_left fun q hq=>T' (h q hq)
 have e2:[(n,a)].map (fun q:Str×Th=>if q.1=n then(n,b) else q)=[(n,b)]:=by
  show [if n=n then(n,b) else(n,a)]=_;rw[X' rfl]
 rw[e2];exact Zj' (· ++ [(n,b)]) e1
theorem DW {vw:Vw}{n:Str}(h:nameB n=true)(hn:∀ q∈vw,q.1≠n)(hl:vw.length<12):bY vw n=none:=by
 have hf:aO vw n=none:=by
  cases e:aO vw n with
  |none=>rfl
  |some th=>exact S' rfl (hn _ (bP e))
 unfold bY;rw[T' (by rw[h];decide),hf,T' (by simp),T' (by omega)]
theorem LZ {vw:Vw}{n:Str}{a:Th}(h:∀ q∈vw,q.1≠n):aO (vw++[(n,a)]) n=some a:=by
 unfold aO;rw[List.find?_append,List.find?_eq_none.mpr (fun q hq e=>h q hq (G' e))];rw[Option.none_or,List.find?_cons_of_pos (p:=fun q:Str×Th=>decide (q.1=n)) (A' rfl)];rfl
theorem Ov {ss:List Sg}{i:Nat}{s:Sg}(h:ss[i]? = some s):(ss.take i).take i++[s]++(ss.take i).drop i=ss.take (i+1):=by
 rw[List.take_take,Nat.min_self,List.drop_eq_nil_of_le (by rw[Zo'];omega),append_nil,take_succ,h];rfl
inductive r6 (c:Cs)(vs:List V)(H:Hp)(Q:VK)(E:XK):Prop
 |mk (x wl:Addr) (H0:Hp) (vw:Vw) (ps:List Vw) (n:Str) (ss:List Sg) (cT:vs=[.ref x,.ref wl]) (cU:Bw c H0 H x [] vw ps []) (dH:H0 wl=some (.lst ((kj (n,.pl ss)).map V.str))) (fL:nameB n=true) (jF:(∀ q∈vw,q.1≠n)) (zB:vw.length<12) (KA:(∀ s∈ss,jM s)) (PR:ss.length<=200) (PU:ps.length+ss.length<=800) (Te:∀(H':Hp)(ps':List Vw),Bw c H0 H' x [] (vw++[(n,.pl ss)]) ps' []->ps'.length=ps.length+1+ss.length->Q (.bl true) H'):r6 c vs H Q E
theorem Cg (T:Txt K w mg t):aW P w K mg base fA (0+5) t.uS t.uT ["book","words"] (r6 (cs t)):=by
 have jc:=mf P base T;have tD:=yO P base T;have Hm:=E6 P base T;refine T.ve.ok jj ?_ ?_
 x_go
 obtain⟨x,wl,H0,vw,ps,n,ss,rfl,B,hw,nb,nn,vl,gd,sl,pl,q⟩:=h;refine aJ (ae (aH (aq jq (aD (aB.or aC) rfl T.bu br (aa (pv 1) ag)) ai (aw _)) (ah (ar cE)) ay) (ae (dq 2 jj.nd (aY (pv 1))) (ae (aP (dZ (pv 0) T.aI T.dJ.me jc (fQ hr) T.dJ.b .nil oK (aa (pv 2) ag))) (ae (d8 PassesOwn.never rfl (El rfl T.j2 (dM (eY.or (gY.or gZ)) (pv 1) (dA ai) eX)) (gG rfl (aQ (jG 3 jj.nd) (aQ (jG 4 jj.nd) eo))) (ah (aP (dZ (pv 0) T.aI T.fk.me tD (fQ hr) T.fk.b .nil oK (aa (pv 2) (aa (pv 3) (aa (dG T.yG Hm hr (aa (pv 4) ag)) ag))))))) (ah (ar cE)))))) ?_;have hw':=B.sm _ _ hw;have no:=DW nb nn vl;have n8:n.length<=8:=by
  have Si:=nb;unfold nameB at Si;rw[Bool.and_eq_true,Bool.and_eq_true]at Si;have z:decide (n.length<=8)=true:=Si.2.1;exact G' z
 tm_up;refine .inl ⟨wl,_,rfl,.inl (aM.of hw'),?_⟩;tm_up;have hw2:H wl=some (.lst (V.str "voice" :: V.str n::(ss.map cG).map V.str)):=hw';refine tS (aM.of hw2) (n:=1) rfl rfl ?_;obtain⟨dx,L,D,U,hx⟩:=B.hx;obtain⟨F1,b1,f1,z1,o1⟩:=B.ex;tm_up;refine⟨x,dx,_,rfl,hx,m7 _ _ _,_,rfl,?_⟩;refine⟨x,F1,_,ps,[],n,rfl,b1,by omega,by omega,?_⟩;rw[no];intro F2 H2 YM YN b2;obtain⟨B2,k2⟩:=Bw.mk' b2 B.sm f1 z1 o1 YM YN;clear b1 f1 z1 o1 YM YN b2 k2 hx hw' hw2;have hw3:H2 wl=some (.lst (V.str "voice" :: V.str n::(ss.map cG).map V.str)):=B2.sm _ _ hw;tm_up;have XB:j7 (V.str "voice" :: V.str n::(ss.map cG).map V.str) (some (2:Int)) none=(ss.map cG).map V.str:=by
  have:=zC (V.str "voice" :: V.str n::(ss.map cG).map V.str) 2 (by simp);rw[show(((2:Nat):Int))=2 from rfl]at this;rw[this];rfl
 refine .inl ⟨wl,_,rfl,aM.of hw3,fun k hk=>?_⟩;have s4:=ao.upd (o:=.lst (j7 (V.str "voice" :: V.str n::(ss.map cG).map V.str) (some (2:Int)) none)) hk;have h4:=af (H:=H2) (a:=k) (o:=.lst (j7 (V.str "voice" :: V.str n::(ss.map cG).map V.str) (some (2:Int)) none));generalize upd H2 k (.lst (j7 (V.str "voice" :: V.str n::(ss.map cG).map V.str) (some (2:Int)) none))=H4 at s4 h4;rw[XB]at h4;obtain⟨H1,B4,s1,V0⟩:=B2.fresh s4 hk h4;have sll:((ss.map cG).map V.str).length=ss.length:=by simp
 refine⟨k,rfl,⟨_,aM.of h4⟩,zS (K:=K) (xs:=(ss.map cG).map V.str) (fun j σ H'=>∃(v4 v5:Option V)(ps':List Vw),σ=[some (.ref x),some (.ref wl),some (.str n),v4,v5]/\Bw (cs t) H1 H' x [] (vw++[(n,.pl (ss.take j))]) ps' []/\ps'.length=ps.length+1+j/\j<=ss.length)
  ⟨none,none,_,rfl,B4,by rw[V'];rfl,Zq' _⟩ ?_ ?_ ?_⟩
 ·rintro j σ H5 ⟨_,_,ps',rfl,B5,_⟩;exact aM.of (B5.sm _ _ V0)
 ·rintro j y τ σ H5 hy ⟨_,_,ps',rfl,B5,XC,jl⟩ hτ;obtain⟨sg,hsg,rfl⟩:∃ sg,ss[j]? = some sg/\y=.str (cG sg):=by
   rw[Zd',Zd']at hy;cases e:ss[j]? with
   |none=>rw[e]at hy;cases hy
   |some z=>rw[e]at hy;exact⟨z,rfl,(Z' hy).symm⟩
  have hj:j<ss.length:=(K'.mp hsg).1;have YO:=gd sg (Zf' hsg);have s6:=ao.upd (o:=.tup [.int (j:Int),.str (cG sg)]) hτ;have UY:=af (H:=H5) (a:=τ) (o:=.tup [.int (j:Int),.str (cG sg)]);generalize upd H5 τ (.tup [.int (j:Int),.str (cG sg)])=H6 at s6 UY;have B6:=B5.same s6;have YQ:(ss.take j).length=j:=by rw[Zo'];omega
  refine⟨τ,_,rfl,jf.of UY,rfl,_,_,rfl,_,_,rfl,rfl,?_⟩;obtain⟨XD,L6,D6,U6,XE⟩:=B6.hx;refine⟨_,rfl,x,XD,_,rfl,XE,Ad _ _ _,_,rfl,_,rfl,?_⟩;refine⟨_,rfl,sg,rfl,YO,fun pp H7 s7 hpp=>?_⟩;have B7:=B6.same s7;obtain⟨F7,b7,f7,z7,o7⟩:=B7.ex;refine⟨x,F7,_,ps',[],n,(j:Int),pp,(sg.1.str,sg.2),rfl,b7,hpp,by omega,?_⟩;rw[LZ nn];have gg:=J8 YO;refine⟨(fun z=>S' ⟨by omega,by rw[YQ];omega⟩ z),(fun _ z=>by rw[gg]at z;cases z),(fun _ _ z=>by rw[YQ]at z;omega),fun _ _ _ s9 w F9 H9 e1 e2 _ gr9 fr9 b9=>?_⟩;have es:s9=sg:=Prod.ext (str_inj.mp e1) e2;subst es;rw[Int.toNat_natCast,Ov hsg,LY nn]at b9;obtain⟨B9,k9⟩:=Bw.mk' b9 B7.sm f7 z7 o7 gr9 fr9;exact⟨_,_,_,rfl,B9,by rw[V'];show ps'.length+1=_;omega,hj⟩
 ·rintro σ H5 ⟨_,_,ps',rfl,B5,XC,jl⟩;rw[sll]at XC B5;rw[take_length]at B5;tm_up;exact q H5 ps' (B5.down s1) XC
inductive mi (c:Cs)(vs:List V)(H:Hp)(Q:VK)(E:XK):Prop
 |mk (x:Addr) (F:Addr->Prop) (vw:Vw) (ps fs:List Vw) (n ld:Str) (lt sl:Int) (tn:Bool) (cT:vs=[.ref x,.str n,.str ld,.int lt,.int sl,.bl tn]) (cU:n6 c H x F vw ps fs) (dH:n.length<=1000) (fL:ps.length<=900) (jF:match bY vw n with
 |some r=>∀ H',ao H H'->RX E c r H'
 |none=>match aO vw ld with
  |none=>∀ H',ao H H'->RX E c .dm H'
  |some (.cn _ _ _ _)=>∀ H',ao H H'->RX E c .eJ H'
  |some (.pl _)=>(¬ en lt sl->∀ H',ao H H'->RX E c .lB H')/\(en lt sl->∀ F' H',Gr F F' H->Fr F H H'->n6 c H' x F' (vw++[(n,.cn ld lt sl tn)]) (ps++[vw]) []->Q .non H')):mi c vs H Q E
theorem mj (T:Txt K w mg t):aW P w K mg base (eU P w) (0+4) t.eM t.gy ["self","name","leader","later","slow","is_turned"] (mi (cs t)):=by
 have iF:=kO P base T;have cy:=eB P base T;have mO:=qD P base T;have jb:=ma P base T;refine T.cA.CF uj ?_ ?_
 x_go
 obtain⟨x,F,vw,ps,fs,n,ld,lt,sl,tn,rfl,B,hlen,hps,q⟩:=h;refine aJ (ae (aP (bT (X:=(mC (eU P w) P w K mg base ["self","name","leader","later","slow","is_turned"] "Book.add_canon" (aj eK) t.eM cdv A outer s H E)) (pv 0) T.aI T.ck.me iF (fQ hr) T.ck.b .nil (fun _ _ z=>Or.inl z) (aa (pv 1) ag))) (ae (aP (bT (X:=(mC (eU P w) P w K mg base ["self","name","leader","later","slow","is_turned"] "Book.add_canon" (aj eK) t.eM cdv A outer s H E)) (pv 0) T.aI T.bo.me cy (fQ hr) T.bo.b .nil (fun _ _ z=>Or.inl z) (aa (pv 2) ag))) (ae (aH (bW (bE (PW.pt (cB (pM j6 j6 ai (pv 3) (bA (v:=.int 999) rfl T.Oi ⟨_,rfl⟩)) (cX (pM j6 j6 ai (pv 4) (bA (v:=.int 9) rfl T.LM ⟨_,rfl⟩))))))) (ah (eI (X:=(mC (eU P w) P w K mg base ["self","name","leader","later","slow","is_turned"] "Book.add_canon" (aj eK) t.eM cdv A outer s H E)) (fun _ _ z=>z) rfl T.Jd.exc rfl T.A5 (aa av ag))) ay) (ah (aP (dZ (pv 0) T.aI T.gR.me mO (fQ hr) T.gR.b .nil dN (aa (oi T.eO.PN jb (fQ hr) rfl T.G6 T.eO.b .nil dN (aa (pv 1) (aa (bJ (aa (pv 2) (aa (pv 3) (aa (pv 4) (aa (pv 5) ag))))) ag))) ag))))))) ?_;obtain⟨L,D,U,all,M,Ps,Fs,es,us,b,i,pp,pf,f⟩:=B.ex;obtain⟨dx,hx⟩:=b.hx;have wv:=B.wv vw (.inr (.inl rfl));refine⟨_,rfl,x,dx,_,rfl,hx,ly _ _ _,_,rfl,x,F,vw,ps,fs,n,rfl,B,hlen,?_⟩;cases ho:bY vw n with
 |some r =>
  rw[ho]at q;intro H' s';have q:=q H' s';exact q
 |none =>
  rw[ho]at q;obtain⟨_,hf,Se⟩:=yL ho;intro H1 s1;have b1:=b.kept f (.same s1);have i1:Is H1 L all M vw:=Is.kept (F:=F) (.same s1) i;obtain⟨vx,g,gv⟩:=b1.oq i1;have hx1:=s1 _ _ hx;refine⟨_,rfl,x,dx,_,rfl,hx1,fc _ _ _,_,rfl,x,dx,L,D,U,M L,vx,ld,rfl,hx1,b1.hL,g,?_⟩;rcases xC gv (fun _ _ r=>r.2.1) ld with ⟨f1,f2⟩|⟨a,th,j,f1,f2,r,an,fj,fw⟩
  ·rw[f1];rw[f2]at q;have q:=q H1 s1;exact q
  rw[f1];rw[f2]at q;cases th with
  |cn ld2 lt2 sl2 tn2 =>
   obtain⟨pt,DV,_⟩:=r.2.2;have q:=q H1 s1;refine⟨(fun z=>by rw[DV]at z;cases z),(fun _ _=>q),.inr ⟨pt,DV⟩⟩
  |pl ss =>
   obtain⟨Fq,hg⟩:=r.2.2;obtain⟨q1,q2⟩:=q;refine⟨fun _=>?_,(fun pz z=>by rw[Fq]at z;cases z),.inl Fq⟩;refine⟨fun bb H'=>bb=decide (en lt sl)/\H'=H1,?_,?_⟩
   ·refine⟨_,rfl,_,_,rfl,rfl,_,rfl,?_⟩;refine aN (fun h1=>?_) (fun h1=>?_)
    rotate_left
    ·have e:decide (en lt sl)=false:=J' fun z=>h1 (A' z.1);rw[e];exact⟨_,rfl,aX ⟨rfl,rfl⟩⟩
    refine⟨_,_,rfl,rfl,_,rfl,?_⟩;refine aN (fun h2=>?_) (fun h2=>?_)
    rotate_left
    ·have e:decide (en lt sl)=false:=J' fun z=>h2 (A' z.2.1);rw[e];exact⟨rfl,rfl⟩
    refine⟨_,rfl,_,_,rfl,rfl,_,rfl,?_⟩;refine aN (fun h3=>?_) (fun h3=>?_)
    rotate_left
    ·have e:decide (en lt sl)=false:=J' fun z=>h3 (A' z.2.2.1);rw[e];exact⟨_,rfl,rfl,rfl⟩
    refine⟨_,_,rfl,rfl,_,rfl,?_,rfl⟩;refine decide_eq_decide.mpr ⟨fun z=>⟨G' h1,G' h2,G' h3,z⟩,fun z=>z.2.2.2⟩
   intro bb H1' ⟨e1,e2⟩;rw[e1,e2]
   by_cases hok:en lt sl
   rotate_left
   ·rw[J' hok];have q:=q1 hok H1 s1;exact bV ⟨by show 1<=sizeLine;decide,q.2⟩
   rw[A' hok];refine aX ?_;obtain⟨ds,hD,pD⟩:=b1.hD;obtain⟨ux,hU,pU⟩:=b1.hU;have ll:=bM i;have dl:=bM pD;have pl:=bM pp;have pe:=b.past.len;refine⟨_,rfl,x,dx,_,rfl,hx1,rA _ _ _,_,rfl,_,rfl,_,rfl,_,rfl,_,rfl,(by show 4<=sizeLine;decide),fun tp htp=>?_⟩;have st:=ao.upd (o:=.tup [V.str ld,V.int lt,V.int sl,V.bl tn]) htp;have UZ:=af (H:=H1) (a:=tp) (o:=.tup [V.str ld,V.int lt,V.int sl,V.bl tn]);generalize upd H1 tp (.tup [V.str ld,V.int lt,V.int sl,V.bl tn])=H1t at st UZ;intro v dv nv XA ne;refine⟨v,dv,n,.ref tp,rfl,af,fun l H2 kp hl hlv hv2 hl2=>⟨rfl,?_⟩⟩;have YR:ao H1t H2:=fun y o hy=>kp y o (by rw[ak (au hy nv),ak (au hy XA)];exact hy) (au hy nv);have s2:=st.trans YR;have hl1:H1 l=none:=st.free (p7 hl);refine⟨x,dx,L,D,U,v,M L,ds,ux,rfl,s2 _ _ hx1,s2 _ _ b1.hL,s2 _ _ hD,s2 _ _ hU,b.LD,b.LU,b.DU,by omega,by omega,fun e H3 H' eT ei eb ea s3 nB nA hd fr hL' hD' hU'=>?_⟩;obtain⟨F',gr,fr',B'⟩:=Bk.added b1 i1 (bZ (fun _ _ q=>Is.kept (F:=F) (.same s1) q) pp) f B.wv (a:=⟨v,dv,n,.ref tp,l⟩) (th:=.cn ld lt sl tn) s2 (st.free nv) hl1 hv2 hl2 (fun M' h0=>⟨tp,rfl,YR _ _ UZ⟩) (wv.UM (iZ hf) Se (bP f2) hok.1 hok.2.1 hok.2.2.1 hok.2.2.2) eT ei eb ea s3 nB nA hd hD pD fr hL' hD' hU';exact q2 hok F' H' (gr.old s1) (fun y o hy hn=>fr' y o (s1 y o hy) hn) B'
inductive r9 (c:Cs)(vs:List V)(H:Hp)(Q:VK)(E:XK):Prop
 |mk (x wl:Addr) (H0:Hp) (vw:Vw) (ps:List Vw) (n ld:Str) (lt sl:Int) (tn:Bool) (ss:List Sg) (cT:vs=[.ref x,.ref wl]) (cU:Bw c H0 H x [] vw ps []) (dH:H0 wl=some (.lst ((kj (n,.cn ld lt sl tn)).map V.str))) (fL:nameB n=true) (jF:(∀ q∈vw,q.1≠n)) (zB:vw.length<12) (KA:aO vw ld=some (.pl ss)) (PR:en lt sl) (PU:ps.length<=900) (Te:∀(H':Hp)(ps':List Vw),Bw c H0 H' x [] (vw++[(n,.cn ld lt sl tn)]) ps' []->ps'.length=ps.length+1->Q (.bl true) H'):r9 c vs H Q E
theorem Ci (T:Txt K w mg t):aW P w K mg base fA (0+5) t.uV t.uW ["book","words"] (r9 (cs t)):=by
 have mh:=vF P base T;have gD:=mj P base T;refine T.vf.ok mJ ?_ ?_
 x_go
 obtain⟨x,wl,H0,vw,ps,n,ld,lt,sl,tn,ss,rfl,B,hw,nb,nn,vl,rD,tk,pl,q⟩:=h;refine aJ (ae (aH (aq (hX.or (eF (az hr))) (aD (aB.or aC) rfl T.bu br (aa (pv 1) ag)) ai (aw _)) (ah (ar cE)) ay) (ae (dq 2 mJ.nd (dG T.lX mh hr (aa (aY (pv 1)) (aa (bA (v:=.int 3) rfl T.jy ⟨_,rfl⟩) ag)))) (ae (dq 3 mJ.nd (dG T.lX mh hr (aa (aY (pv 1)) (aa (bA (v:=.int 3) rfl T.jy ⟨_,rfl⟩) ag)))) (ae (aH (bE (PW.pt (fq (aq pL (pv 2) c8 (aw _)) (fq (aq pL (pv 3) c8 (aw _)) (d7 (aq FU (aY (pv 1)) (bA (v:=.ref t.EO) rfl T.Oj rfl) rfl)))))) (ah (ar cE)) ay) (ae (aP (dZ (pv 0) T.aI T.cA.me gD (fQ hr) T.nV .nil oK (aa (aY (pv 1)) (aa (aY (pv 1)) (aa (pv 2) (aa (pv 3) (aa (bx M6 (bA (v:=.ref t.EO) rfl T.Oj rfl) (aY (pv 1)) (fun _ _=>rfl)) ag))))))) (ah (ar cE))))))) ?_;have hw':H wl=some (.lst [.str "canon",.str n,.str ld,.str (oN lt),.str (oN sl),.str (wA tn)]):=B.sm _ _ hw;have no:=DW nb nn vl;have n8:n.length<=8:=by
  have Si:=nb;unfold nameB at Si;rw[Bool.and_eq_true,Bool.and_eq_true]at Si;have z:decide (n.length<=8)=true:=Si.2.1;exact G' z
 tm_up;refine .inl ⟨wl,_,rfl,.inl (aM.of hw'),?_⟩;tm_up;obtain⟨l0,l1,YS,YT⟩:0<=lt/\lt<=999/\1<=sl/\sl<=9:=⟨tk.1,tk.2.1,tk.2.2.1,tk.2.2.2⟩;have fl:=(NX l0 (show lt<1000 by omega)).1;have fs:=(NX (show 0<=sl by omega) (show sl<1000 by omega)).1;refine tS (aM.of hw') (n:=3) rfl rfl ?_;refine⟨_,lt,3,rfl,fl,by have:=fl.2.1;omega,fun H1 s1=>?_⟩;have hw1:=s1 _ _ hw';have B1:=B.same s1;tm_up;refine tS (aM.of hw1) (n:=4) rfl rfl ?_;refine⟨_,sl,3,rfl,fs,by have:=fs.2.1;omega,fun H2 s2=>?_⟩;have hw2:=s2 _ _ hw1;have B2:=B1.same s2;refine fV false ?_ (aX ?_)
 ·tm_up;refine⟨rfl,_,rfl,?_⟩;tm_up;refine⟨rfl,_,rfl,?_⟩;tm_up;refine tS (aM.of hw2) (n:=5) rfl rfl ?_;refine⟨_,_,_,rfl,rfl,T.Kv,_,rfl,dr ?_⟩;cases tn <;> decide +kernel
 obtain⟨dx,L,D,U,hx⟩:=B2.hx;obtain⟨F2,b2,f2,z2,o2⟩:=B2.ex;refine⟨_,rfl,x,dx,_,rfl,hx,iY _ _ _,?_⟩;tm_up;refine tS (aM.of hw2) (n:=1) rfl rfl ?_;tm_up;refine tS (aM.of hw2) (n:=2) rfl rfl ?_;tm_up;refine tS (aM.of hw2) (n:=5) rfl rfl ?_;refine⟨_,_,_,.bl tn,rfl,rfl,T.Kv,by cases tn <;> decide +kernel,?_⟩;refine⟨x,F2,_,ps,[],n,ld,lt,sl,tn,rfl,b2,by omega,by omega,?_⟩;rw[no,rD];refine⟨fun z=>S' tk z,fun _ F7 H7 gr7 fr7 b7=>?_⟩;obtain⟨B7,k7⟩:=Bw.mk' b7 B2.sm f2 z2 o2 gr7 fr7;exact q H7 _ B7 (by rw[V'];rfl)
structure QP (vw:Vw)(q:Str×Th)(m:Nat):Prop where
 sp:Txt.split (i5 q) " "=kj q
 wl:(kj q).length<=1000
 rl:(i5 q).length<=10000
 nb:nameB q.1=true
 nn:∀ p∈vw,p.1≠q.1
 ln:vw.length<12
 pl:∀ ss,q.2=.pl ss->(∀ s∈ss,jM s)/\ss.length<=200/\m+ss.length<=800
 cn:∀ ld lt sl tn,q.2=.cn ld lt sl tn->m<=900/\en lt sl/\∃ ss,aO vw ld=some (.pl ss)
noncomputable def sgn (q:Str×Th):Nat:=match q.2 with
 |.pl ss=>ss.length
 |.cn _ _ _ _=>0
theorem KC {X:Cx}{K:Frag}(h:X.K=K):MC X (WN K):=h ▸ aT
inductive yP (c:Cs)(vs:List V)(H:Hp)(Q:VK)(E:XK):Prop
 |mk (x:Addr) (H0:Hp) (vw:Vw) (ps:List Vw) (q:Str×Th) (cT:vs=[.ref x,.str (i5 q)]) (cU:Bw c H0 H x [] vw ps []) (dH:QP vw q ps.length) (fL:∀(H':Hp)(ps':List Vw),Bw c H0 H' x [] (vw++[q]) ps' []->ps'.length=ps.length+1+sgn q->Q (.bl true) H'):yP c vs H Q E
theorem Hn (T:Txt K w mg t):aW P w K mg base fA (0+6) t.AL t.AM ["book","row"] (yP (cs t)):=by
 have E7:=Cg P base T;have E8:=Ci P base T;refine T.Bd.ok xY ?_ ?_
 x_go
 obtain⟨x,H0,vw,ps,⟨n,th⟩,rfl,B,⟨sp,wl,rl,nb,nn,ln,pl,cn⟩,q⟩:=h;refine aJ (ae (dq 2 xY.nd (eE plainAttrs_str slot_str_split type_str_split FL (pv 1) (aa av ag))) (ah (JZ (fun pn XS=>(ae (aH (aq aS (bx (KC (K:=K) rfl) (pv 2) ai (fun _ _=>rfl)) av (aw _)) (ah (ar (dG T.ve E7 hr (aa (pv 0) (aa (pv 2) ag))))) ay) (ah (ar (bL (dy (aZ aS (bx (KC (K:=K) rfl) (pv 2) ai (fun _ _=>rfl)) av (aw _)) (eD (dG T.vf E8 hr (aa (pv 0) (aa (pv 2) ag)))))))))) (f6 (CT:=t.cO) (fun pn a=>(ah (ar cE))) rfl T.ES JY) rfl rfl))) ?_;have Ow:1000<=sizeLine:=by decide
 have Sj:10000<=sizeLine:=by decide
 tm_up;refine⟨rfl,_,_,rfl,rfl,by lk,Zb' rl Sj,by rw[sp];exact Zb' wl Ow,fun k hk=>?_⟩;rw[sp];have s4:=ao.upd (o:=.lst ((kj (n,th)).map V.str)) hk;have h4:=af (H:=H) (a:=k) (o:=.lst ((kj (n,th)).map V.str));generalize upd H k (.lst ((kj (n,th)).map V.str))=H4 at s4 h4;obtain⟨H1,B4,s1,V0⟩:=B.fresh s4 hk h4;cases th with
 |pl ss =>
  obtain⟨gd,sl,pl⟩:=pl ss rfl;have h4':H4 k=some (.lst (.str "voice" :: .str n::(ss.map cG).map V.str)):=h4;tm_up;refine tS (aM.of h4') (n:=0) rfl rfl ?_;refine⟨rfl,_,rfl,bV ?_⟩;refine⟨_,rfl,_,rfl,x,k,H1,vw,ps,n,ss,rfl,B4,V0,nb,nn,ln,gd,sl,pl,fun H' ps' B' e=>?_⟩;exact q H' ps' (B'.down s1) e
 |cn ld lt sl tn =>
  obtain⟨pl,tk,ss,hf⟩:=cn ld lt sl tn rfl;have h4':H4 k=some (.lst [.str "canon",.str n,.str ld,.str (oN lt),.str (oN sl),.str (wA tn)]):=h4;tm_up;refine tS (aM.of h4') (n:=0) rfl rfl ?_;refine⟨rfl,_,rfl,aN (fun h=>S' h (by lk)) (fun _=>?_)⟩;refine⟨fun v H'=>v=.bl true/\∃ ps',Bw (cs t) H1 H' x [] (vw++[(n,.cn ld lt sl tn)]) ps' []/\ps'.length=ps.length+1,?_,?_⟩
  ·tm_up;refine tS (aM.of h4') (n:=0) rfl rfl ?_;refine⟨rfl,_,rfl,bV ?_⟩;refine⟨_,rfl,_,rfl,x,k,H1,vw,ps,n,ld,lt,sl,tn,ss,rfl,B4,V0,nb,nn,ln,hf,tk,pl,fun H' ps' B' e=>?_⟩;exact⟨rfl,ps',B',e⟩
  ·rintro _ H' ⟨rfl,ps',B',e⟩;exact q H' ps' (B'.down s1) e
theorem n6.forgot {c:Cs}{H:Hp}{x:Addr}{F:Addr->Prop}{vw:Vw}{ps fs:List Vw}(h:n6 c H x F vw ps fs):∃ dx L D U xs us,H x=some (.ins c.B dx (pY L D U))/\H D=some (.lst xs)/\H U=some (.lst us)/\D≠U/\F D/\F U/\n6 c (upd (upd H D (.lst [])) U (.lst [])) x F vw [] []:=by
 obtain⟨L,D,U,all,M,Ps,Fs,es,us,b,iM,pp,pf,f⟩:=h.ex;obtain⟨dx,hx⟩:=b.hx;obtain⟨xs,hD,_⟩:=b.hD;obtain⟨ys,hU,_⟩:=b.hU;refine⟨dx,L,D,U,xs,ys,hx,hD,hU,b.DU,f.D,f.U,?_⟩;have keep:∀ y o,H y=some o->y≠D->y≠U->upd (upd H D (.lst [])) U (.lst []) y=some o:=fun y o e n1 n2=>by rw[ak n2,ak n1];exact e
 have kN:∀ y o,H y=some o->(∀ zs,o≠.lst zs)->upd (upd H D (.lst [])) U (.lst []) y=some o:=fun y o e n=>keep y o e (fun w=>by rw[w,hD]at e;exact n _ (Z' e).symm) (fun w=>by rw[w,hU]at e;exact n _ (Z' e).symm);have k:Kept (fun y=>y≠D/\y≠U) H (upd (upd H D (.lst [])) U (.lst [])):=fun y o e z=>z.elim (fun z=>keep y o e z.1 z.2) (kN y o e);have one:∀{α:Type} {P:α->Prop} {S m:α},P m->(S∈([]:List α)\/S=m\/S∈([]:List α))->P S:=fun p z=>by
  rcases z with z|rfl|z
  ·cases z
  ·exact p
  ·cases z
 exact⟨⟨L,D,U,all,M,[],[],[],[],{ b with hx:=⟨dx,kN _ _ hx fun _ z=>nomatch z⟩,hL:=keep _ _ b.hL b.LD b.LU,hD:=⟨[],(by rw[ak b.DU];exact af),.nil⟩,hU:=⟨[],af,.nil⟩,ha:=fun a ha=>⟨kN _ _ (b.ha a ha).1 (fun _ z=>nomatch z),keep _ _ (b.ha a ha).2 (b.nl a ha).2.1 (b.nl a ha).2.2⟩,dd:=fun e z=>(by rcases z with z|z <;> cases z),past:=.nil,fut:=.nil,wf:=fun S z=>one (P:=WF _ L all) (WF.kept k (b.wf M (.inr (.inl rfl)))) z },Is.kept k iM,.nil,.nil,⟨f.L,f.D,f.U,f.l,fun e z=>(by rcases z with z|z <;> cases z)⟩⟩,fun v z=>one (P:=mQ) (h.wv vw (.inr (.inl rfl))) z⟩
inductive jD (c:Cs)(vs:List V)(H:Hp)(Q:VK)(E:XK):Prop
 |mk (x:Addr) (H0:Hp) (vw:Vw) (ps fs:List Vw) (cT:vs=[.ref x]) (cU:Bw c H0 H x [] vw ps fs) (dH:∀ H',Bw c H0 H' x [] vw [] []->Q .non H'):jD c vs H Q E
theorem qG (T:Txt K w mg t):aW P w K mg base fA (0+1) t.jS t.jT ["self"] (jD (cs t)):=by
 refine T.gL.ok qa ?_ ?_
 x_go
 obtain⟨x,H0,vw,ps,fs,rfl,B,q⟩:=h;refine aJ (ae (aP (wk Zc' slot_list_clear type_list_clear zN (bQ (pv 0) rfl))) (ah (aP (wk Zc' slot_list_clear type_list_clear zN (bQ (pv 0) rfl))))) ?_;obtain⟨F,b,hF,h0,ho⟩:=B.ex;obtain⟨dx,L,D,U,xs,us,hx,hD,hU,DU,fD,fU,b2⟩:=b.forgot;have xD:x≠D:=fX hx hD (by intro z;cases z);have ND:upd H D (.lst []) U=some (.lst us):=by rw[ak (Zh' DU)];exact hU
 refine⟨_,rfl,x,_,dx,_,_,rfl,hx,T.aI,T.gC,pZ _ _ _,?_⟩;refine⟨.inl ⟨rfl,_,aM.of hD⟩,D,_,rfl,rfl,hD,?_⟩;refine⟨_,rfl,x,_,dx,_,_,rfl,by rw[ak xD];exact hx,T.aI,T.eQ,kf _ _ _,?_⟩;refine⟨.inl ⟨rfl,_,aM.of ND⟩,U,_,rfl,rfl,ND,?_⟩;refine q _ (Bw.mk' b2 B.sm hF h0 ho (fun y hy=>.inl hy) (fun y o e n=>?_)).1;rw[ak (fun w:y=U=>n (by rw[w];exact fU)),ak (fun w:y=D=>n (by rw[w];exact fD))];exact e
def Led (vw:Vw):Prop:=∀ a n ld lt sl tn b,vw=a++(n,Th.cn ld lt sl tn)::b->∃ ss,(ld,Th.pl ss)∈a
structure Rk (m:Nat)(vw:Vw):Prop where
 nm:∀ q∈vw,nameB q.1=true
 le:Led vw
 sg:(vw.map sgn).sum<=m
theorem Rk.nil (m:Nat):Rk m []:=⟨fun _ h=>(nomatch h),fun a n ld lt sl tn b h=>(by cases a <;> cases h),Zq' _⟩
theorem Rk.mono {m m':Nat}{vw:Vw}(h:Rk m vw)(l:m<=m'):Rk m' vw:=⟨h.nm,h.le,Zb' h.sg l⟩
theorem Rk.snoc {m:Nat}{vw:Vw}(h:Rk m vw){e:Str×Th}(hn:nameB e.1=true)(hl:∀ ld lt sl tn,e.2=.cn ld lt sl tn->∃ ss,(ld,Th.pl ss)∈vw)(hs:sgn e=0):Rk (m+1) (vw++[e]) where
 nm:=fun q hq=>by
  rcases Zp'.mp hq with hq|hq
  ·exact h.nm q hq
  ·rw[Zg'.mp hq];exact hn
 le:=fun a n ld lt sl tn b eq=>by
  rcases List.eq_nil_or_concat b with rfl|⟨b',z,rfl⟩
  ·obtain⟨rfl,rfl⟩:=p3 eq;exact hl ld lt sl tn rfl
  ·have:vw++[e]=(a++(n,Th.cn ld lt sl tn)::b')++[z]:=by rw[eq];simp
   exact h.le a n ld lt sl tn b' (p3 this).1
 sg:=by
  rw[map_append,List.sum_append];show _+(sgn e+0)<=_;have:=h.sg;omega
theorem Rk.drop {m:Nat}{vw:Vw}(h:Rk m vw){x:Str}(hl:leans vw x=false):Rk m (iL vw x) where
 nm:=fun q hq=>h.nm q (qR.mp hq).1
 le:=fun a n ld lt sl tn b eq=>by
  unfold iL at eq;obtain⟨l1,l2,e1,f1,f2⟩:=List.filter_eq_append_iff.mp eq;obtain⟨m1,m2,e2,f3,f4,f5⟩:=List.filter_eq_cons_iff.mp f2;obtain⟨ss,hs⟩:=h.le (l1++m1) n ld lt sl tn m2 (by rw[e1,e2];simp);have nx:ld≠x:=fun e=>by
   have:(n,Th.cn ld lt sl tn)∈vw:=by rw[e1,e2];simp
   have h2:leans vw x=true:=any_eq_true.mpr ⟨_,this,by rw[e];exact A' rfl⟩;rw[hl]at h2;cases h2
  refine⟨ss,?_⟩;rcases Zp'.mp hs with hs|hs
  ·rw[<-f1];exact List.mem_filter.mpr ⟨hs,by rw[J' nx];rfl⟩
  ·exact S' (by rw[J' nx];rfl) (f3 _ hs)
 sg:=by
  refine Zb' ?_ h.sg;have go:∀ l:Vw,((iL l x).map sgn).sum<=(l.map sgn).sum:=fun l=>by
   induction l with
   |nil=>exact R' _
   |cons q l ih =>
    unfold iL at ih ⊢;rw[List.filter_cons];split <;> simp only [map_cons,List.sum_cons] <;> omega
  exact go vw
theorem Rk.set {m:Nat}{vw:Vw}(h:Rk m vw)(nd:(vw.map (·.1)).Nodup){x:Str}{s0 ss:List Sg}(hx:(x,Th.pl s0)∈vw)(hs:ss.length<=s0.length+1):Rk (m+1) (kg vw x (.pl ss)) where
 nm:=fun q hq=>by
  rcases Ag hq with ⟨rfl,q',h1,h2⟩|⟨h1,_⟩
  ·rw[show((x,Th.pl ss):Str×Th).1=q'.1 from h2.symm];exact h.nm q' h1
  ·exact h.nm q h1
 le:=fun a n ld lt sl tn b eq=>by
  unfold kg at eq;obtain⟨l1,l2,e1,f1,f2⟩:=List.map_eq_append_iff.mp eq;obtain⟨q,m2,e2,f3,f4⟩:=List.map_eq_cons_iff.mp f2;split at f3
  ·cases f3
  ·subst f3;obtain⟨s1,h1⟩:=h.le l1 n ld lt sl tn m2 (by rw[e1,e2]);rw[<-f1]
   by_cases e:ld=x
   ·exact⟨ss,mem_map.mpr ⟨_,h1,by rw[X' (show(ld,Th.pl s1).1=x from e),e]⟩⟩
   ·exact⟨s1,mem_map.mpr ⟨_,h1,T' e⟩⟩
 sg:=by
  obtain⟨a,b,rfl⟩:=List.append_of_mem hx;have e:kg (a++(x,Th.pl s0)::b) x (.pl ss)=a++(x,Th.pl ss)::b:=by
   rw[map_append,map_cons,List.nodup_append]at nd;obtain⟨_,n2,n3⟩:=nd;have n4:=(List.nodup_cons.mp n2).1;unfold kg;rw[map_append,map_cons,X' rfl];have ea:a.map (fun q=>if q.1=x then(x,Th.pl ss) else q)=a:=by
    conv=>rhs;rw[<-List.map_id a]
    exact List.map_congr_left fun q hq=>T' fun z=>n3 _ (mem_map.mpr ⟨q,hq,rfl⟩) _ mem_cons_self z
   have eb:b.map (fun q=>if q.1=x then(x,Th.pl ss) else q)=b:=by
    conv=>rhs;rw[<-List.map_id b]
    exact List.map_congr_left fun q hq=>T' fun z=>n4 (mem_map.mpr ⟨q,hq,z⟩)
   rw[ea,eb]
  have:=h.sg;rw[e];simp only [map_append,map_cons,List.sum_append,List.sum_cons]at this ⊢;have e1:sgn (x,Th.pl s0)=s0.length:=rfl;have e2:sgn (x,Th.pl ss)=ss.length:=rfl;omega
theorem DX {vw:Vw}{n:Str}(h:bY vw n=none):nameB n=true:=by
 unfold bY at h;cases e:nameB n with
 |true=>rfl
 |false=>rw[e,X' rfl]at h;cases h
theorem Rk.beh {m:Nat}{st:Std}{d:De}{a:Int}(w:mQ st.vw)(h:∀ v,v∈st.ps\/v=st.vw\/v∈st.fs->Rk m v)(o:dS st d a=none):∀ v,v∈(dQ st d a).ps\/v=(dQ st d a).vw\/v∈(dQ st d a).fs->Rk (m+1) v:=by
 have up:∀ v,v∈st.ps\/v=st.vw\/v∈st.fs->Rk (m+1) v:=fun v z=>(h v z).mono (Nat.le_succ m);have h0:=h st.vw (.inr (.inl rfl));have last:∀ l:List Vw,(∀ v∈l,Rk (m+1) v)->Rk (m+1) (l.getLast?.getD []):=fun l hl=>by
  cases e:l.getLast? with
  |none=>exact Rk.nil _
  |some v=>exact hl v (List.mem_of_getLast? e)
 have new:∀ J6,Rk (m+1) J6->∀ v,v∈st.ps++[st.vw]\/v=J6\/v∈([]:List Vw)->Rk (m+1) v:=fun J6 r v z=>by
  rcases z with z|rfl|z
  ·rcases Zp'.mp z with z|z
   ·exact up v (.inl z)
   ·exact up v (.inr (.inl (Zg'.mp z)))
  ·exact r
  ·cases z
 have line:∀ wy,iw st.vw wy d.n a d.sg=none->Rk (m+1) (kg st.vw d.n (.pl (bC (gJ st.vw d.n) wy d.sg a.toNat))):=fun wy o=>by
  unfold iw at o;cases e:aO st.vw d.n with
  |none=>rw[e]at o;cases o
  |some th =>
   cases th with
   |cn _ _ _ _=>rw[e]at o;cases o
   |pl s0 =>
    refine h0.set w.nd (bP e) ?_;have ep:gJ st.vw d.n=s0:=by unfold gJ;rw[e]
    rw[ep];cases wy <;> (unfold bC;simp only [V',Zo',Yd',List.length_nil,Ya'];omega)
 unfold dS at o;unfold dQ;cases hw:d.wy with
 |undo =>
  intro v z;rcases z with z|z|z
  ·exact up v (.inl (List.dropLast_subset _ z))
  ·rw[show v=_ from z];exact last _ fun v hv=>up v (.inl hv)
  ·rcases Zp'.mp z with z|z
   ·exact up v (.inr (.inr z))
   ·exact up v (.inr (.inl (Zg'.mp z)))
 |lh =>
  intro v z;rcases z with z|z|z
  ·rcases Zp'.mp z with z|z
   ·exact up v (.inl z)
   ·exact up v (.inr (.inl (Zg'.mp z)))
  ·rw[show v=_ from z];exact last _ fun v hv=>up v (.inr (.inr hv))
  ·exact up v (.inr (.inr (List.dropLast_subset _ z)))
 |drop =>
  rw[hw]at o;refine new _ ?_;have o:gU st.vw d.n=none:=o;unfold gU at o;cases e:aO st.vw d.n with
  |none=>rw[e]at o;cases o
  |some th =>
   rw[e]at o;cases el:leans st.vw d.n with
   |false=>exact(h0.drop el).mono (Nat.le_succ m)
   |true =>
    have o:(if leans st.vw d.n=true then some Rf.p5 else none)=none:=o;rw[X' el]at o;cases o
 |add =>
  rw[hw]at o;exact new _ (h0.snoc (DX o) (fun _ _ _ _ z=>nomatch z) rfl)
 |canon =>
  rw[hw]at o;have o:(match bY st.vw d.n with|some r=>some r|none=>dP st.vw d.ld d.lt d.sl)=none:=o;cases e:bY st.vw d.n with
  |some r=>rw[e]at o;cases o
  |none =>
   rw[e]at o;have o:dP st.vw d.ld d.lt d.sl=none:=o;refine new _ (h0.snoc (DX e) (fun ld lt sl tn z=>?_) rfl);cases z;unfold dP at o;cases ef:aO st.vw d.ld with
   |none=>rw[ef]at o;cases o
   |some th =>
    cases th with
    |cn _ _ _ _=>rw[ef]at o;cases o
    |pl ss=>exact⟨ss,bP ef⟩
 |put=>rw[hw]at o;exact new _ (line .put o)
 |cut=>rw[hw]at o;exact new _ (line .cut o)
 |swap=>rw[hw]at o;exact new _ (line .swap o)
inductive vH (c:Cs)(vs:List V)(H:Hp)(Q:VK)(E:XK):Prop
 |mk (vw:Vw) (cT:vs=[.str (rC vw)]) (cU:mQ vw) (dH:Rk 100 vw) (fL:∀ x H',Bw c H H' x [] vw [] []->Q (.ref x) H'):vH c vs H Q E
theorem E9 (T:Txt K w mg t):aW P w K mg base fA (0+7) t.yb t.yc ["text"] (vH (cs t)):=by
 have jK:=nW P base T;have Jm:=Hn P base T;have rg:=qG P base T;refine T.yH.ok jZ ?_ ?_
 x_go
 obtain⟨vw,rfl,w,rd,q⟩:=h
 skip
 refine aJ (ae (dq 1 jZ.nd (FF T.fE.PN jK (fQ hr) rfl T.Ks T.fE.b .nil dN)) (ae (aH (aq (aS.or (aK (az hr))) (pv 0) av (aw _)) (ah (ar (pv 1))) ay) (ae (d8 PassesOwn.never rfl (El rfl T.j2 (eE plainAttrs_str slot_str_split type_str_split FL (pv 0) (aa av ag))) (gG rfl (aQ (jG 2 jZ.nd) (aQ (jG 3 jZ.nd) eo))) (ah (aH (bW (aR (dG T.Bd Jm hr (aa (pv 1) (aa (pv 3) ag))))) (ah Fz) ay))) (ae (aP (gM (pv 1) T.aI T.gL.me rg (fQ hr) T.gL.b .nil dN)) (ah (ar (pv 1))))))) ?_;refine cQ fun N hN=>?_;intro x dx nx ndx _;refine⟨x,dx,rfl,af,fun L D U H4 U0 nL nD nU LD LU DU U1 U2 U3 U4=>⟨rfl,?_⟩⟩;have s4:=NH nx ndx U0;have B4:Bw (cs t) H H4 x [] [] [] []:=Bw.new U1 U2 U3 U4 LD LU DU s4 (p7 nL) (p7 nD) (p7 nU);clear U0 nL nD nU LD LU DU U2 U3 U4 s4 nx ndx U1;refine hN _ _ ?_;clear hN N;have YU:Lx vw:=⟨w,rd.nm⟩;have n8:∀ q∈vw,q.1.length<=1000:=fun q hq=>by
  have nb:=rd.nm q hq;unfold nameB at nb;rw[Bool.and_eq_true,Bool.and_eq_true]at nb;have z:decide (q.1.length<=8)=true:=nb.2.1;have:=G' z;omega
 refine cQ fun N hN=>?_
 by_cases e0:vw=[]
 ·subst e0;tm_up;exact q x H4 B4
 obtain⟨ne,YV⟩:=IH YU e0;tm_up;refine aN (fun h=>S' (V.str.inj (G' h)) (by rw[show Str.ofString ""=Str.empty from by lk];exact ne)) (fun _=>?_);refine hN _ _ ?_;clear hN N;have bl:(rC vw).length<=1000000:=by
  have j:=Bo "\n" (vw.map i5);have r:=Bp w n8 vw fun _ h=>h;have e:(Str.ofString "\n").length=1:=by lk
  have l:=w.len;rw[e,L']at j;unfold rC;omega
 have vl:(vw.map i5).length=vw.length:=L' _;have l12:=w.len;have Ow:1000<=sizeLine:=by decide
 have Ox:1000000<=sizeLine:=by decide
 tm_up;refine⟨rfl,_,_,rfl,rfl,by lk,Zb' bl Ox,by rw[YV,vl];exact Zb' (by omega) Ow,fun k hk=>?_⟩;rw[YV];have s5:=ao.upd (o:=.lst ((vw.map i5).map V.str)) hk;have h5:=af (H:=H4) (a:=k) (o:=.lst ((vw.map i5).map V.str));generalize upd H4 k (.lst ((vw.map i5).map V.str))=H5 at s5 h5;obtain⟨H1,B5,s1,h51⟩:=B4.fresh s5 hk h5;refine⟨k,rfl,⟨_,aM.of h5⟩,zS (K:=K) (xs:=(vw.map i5).map V.str) (fun j σ H'=>∃(v2 v3:Option V)(ps:List Vw),σ=[some (.str (rC vw)),some (.ref x),v2,v3]/\Bw (cs t) H1 H' x [] (vw.take j) ps []/\ps.length=j+((vw.take j).map sgn).sum)
  ⟨none,none,_,rfl,B5,rfl⟩ ?_ ?_ ?_⟩
 ·rintro j σ H6 ⟨_,_,ps,rfl,B6,_⟩;exact aM.of (B6.sm _ _ h51)
 ·rintro j y τ σ H6 hy ⟨_,_,ps,rfl,B6,pl⟩ hτ;obtain⟨sq,hq,rfl⟩:∃ sq,vw[j]? = some sq/\y=.str (i5 sq):=by
   rw[Zd',Zd']at hy;cases e:vw[j]? with
   |none=>rw[e]at hy;cases hy
   |some z=>rw[e]at hy;exact⟨z,rfl,(Z' hy).symm⟩
  have hj:j<vw.length:=(K'.mp hq).1;have mq:=Zf' hq;have s6:=ao.upd (o:=.tup [.int (j:Int),.str (i5 sq)]) hτ;have UY:=af (H:=H6) (a:=τ) (o:=.tup [.int (j:Int),.str (i5 sq)]);generalize upd H6 τ (.tup [.int (j:Int),.str (i5 sq)])=H7 at s6 UY;have B7:=B6.same s6;have XF:vw.take (j+1)=vw.take j++[sq]:=by rw[take_succ,hq];rfl
  have cut:vw=vw.take j++sq::vw.drop (j+1):=by
   conv=>lhs;rw[<-take_append_drop (j+1) vw,XF]
   rw[List.append_assoc];rfl
  have aaF:((vw.take (j+1)).map sgn).sum=((vw.take j).map sgn).sum+sgn sq:=by
   rw[XF,map_append,List.sum_append];rfl
  have sum2:((vw.take (j+1)).map sgn).sum<=100:=by
   have:=rd.sg;rw[<-take_append_drop (j+1) vw,map_append,List.sum_append]at this;omega
  have nd:(((vw.take j).map (·.1))++sq.1::(vw.drop (j+1)).map (·.1)).Nodup:=by
   have:=w.nd;rw[cut,map_append]at this;exact this
  have nd2:=List.nodup_append.mp nd;have ro:QP (vw.take j) sq ps.length:=by
   refine⟨Ly YU mq,?_,Hi w n8 mq,rd.nm _ mq,fun p hp e=>nd2.2.2 _ (mem_map.mpr ⟨p,hp,rfl⟩) _ mem_cons_self e,by rw[Zo'];omega,fun ss e=>?_,fun ld lt sl tn e=>?_⟩
   ·obtain⟨n,th⟩:=sq;cases th with
    |pl ss =>
     have:=(w.gd n ss mq).1;show(Str.ofString "voice" :: n::ss.map cG).length<=1000;simp only [Ya',L'];omega
    |cn ld lt sl tn=>show 6<=1000;decide
   ·obtain⟨n,th⟩:=sq;have e:th=.pl ss:=e;subst e;have g:=w.gd n ss mq;have:sgn (n,.pl ss)=ss.length:=rfl;exact⟨g.2,g.1,by omega⟩
   ·obtain⟨n,th⟩:=sq;have e:th=.cn ld lt sl tn:=e;subst e;obtain⟨ss,hs⟩:=rd.le _ n ld lt sl tn _ cut;refine⟨by omega,(w.ld n ld lt sl tn mq).2,ss,?_⟩;cases ef:aO (vw.take j) ld with
    |none=>exact S' rfl (iZ ef _ hs)
    |some th =>
     have:=w.uniq (List.mem_of_mem_take (bP ef)) (List.mem_of_mem_take hs) rfl;rw[Prod.mk.injEq]at this;rw[this.2]
  refine⟨τ,_,rfl,jf.of UY,rfl,_,_,rfl,_,_,rfl,rfl,?_⟩;refine⟨_,rfl,_,rfl,x,H1,_,ps,sq,rfl,B7,ro,fun H8 ps' B8 e8=>⟨_,rfl,aX ?_⟩⟩;rw[<-XF]at B8;exact⟨_,_,ps',rfl,B8,by omega⟩
 ·rintro σ H6 ⟨_,_,ps,rfl,B6,_⟩;rw[L',vl,take_length]at B6;obtain⟨XD,L6,D6,U6,XE⟩:=B6.hx;tm_up;refine⟨x,XD,_,rfl,XE,qV _ _ _,?_⟩;exact⟨x,H1,_,_,_,rfl,B6,fun H7 B7=>⟨_,rfl,q x H7 (B7.down s1)⟩⟩
theorem ot.write {H:Hp}{l:Addr}{xs:List V}{o:HO}(hl:H l=some (.lst xs)){y:V}{d:De}(h:ot H y d):ot (upd H l o) y d:=by
 obtain⟨p,ps,e,h1,h2⟩:=h;exact⟨p,ps,e,by rw[ak (fX h1 hl (by intro z;cases z))];exact h1,by rw[ak (fX h2 hl (by intro z;cases z))];exact h2⟩
def fG (H:Hp)(xs:List V)(gX:List De):Prop:=Paired (ot H) xs gX/\∀ d∈gX,Lw d
theorem fG.same {H H':Hp}(s:ao H H'){xs:List V}{gX:List De}(h:fG H xs gX):fG H' xs gX:=⟨bZ (fun _ _ q=>q.same s) h.1,h.2⟩
theorem fG.write {H:Hp}{l:Addr}{zs:List V}{o:HO}(hl:H l=some (.lst zs)){xs:List V}{gX:List De}(h:fG H xs gX):fG (upd H l o) xs gX:=⟨bZ (fun _ _ q=>q.write hl) h.1,h.2⟩
theorem fG.snoc {H:Hp}{xs:List V}{gX:List De}{v:V}{d:De}(h:fG H xs gX)(e:ot H v d)(ok:Lw d):fG H (xs++[v]) (gX++[d]):=⟨gN h.1 e,fun x hx=>by
 rcases Zp'.mp hx with hx|hx
 ·exact h.2 x hx
 ·rw[Zg'.mp hx];exact ok⟩
theorem fG.app {H:Hp}{xs ys:List V}{gX YW:List De}(h:fG H xs gX)(k:fG H ys YW):fG H (xs++ys) (gX++YW):=⟨qU h.1 k.1,fun x hx=>by
 rcases Zp'.mp hx with hx|hx
 ·exact h.2 x hx
 ·exact k.2 x hx⟩
theorem fG.nil {H:Hp}:fG H [] []:=⟨.nil,fun _ h=>nomatch h⟩
noncomputable def Jn:List Str:=["ann","cy","bo"]
theorem PY {n:Str}(h:n∈Jn):n.length<=1000:=by
 have:Jn.all (fun n=>decide (n.length<=1000))=true:=by lk
 exact G' (all_eq_true.mp this n h)
theorem U7:(Str.ofString "").length<=1000:=by lk
theorem UK:Str.ofString "s" ∈ jh:=by lk
inductive Bx (vs:List V)(H:Hp)(Q:VK)(E:XK):Prop
 |mk (c:Int) (cT:vs=[.int c]) (cU:∀(l:Addr)(xs:List V)(gX:List De)(H':Hp),H l=none->ao H H'->H' l=some (.lst xs)->fG H' xs gX->gX.length<=3->Q (.ref l) H'):Bx vs H Q E
theorem Jo (T:Txt K w mg t):aW P w K mg base fA (0+1) t.Dl t.Dm ["_law_cell"] Bx:=by
 refine T.DJ.ok Ax ?_ ?_
 x_go
 obtain⟨c,rfl,q⟩:=h;refine aJ (ae (dq 1 Ax.nd (dM (eY.or (gY.or gZ)) (a9 (aa av (aa av (aa av ag)))) eX (dA (aE cV (pv 0) ai)))) (ah (ar (iq (cn:=["_law_name"]) rfl (cY.of rfl) (dz (pv 1)) (fun _=>(dX (i:=0) EK rfl (Or.inl rfl))) (fun _=>j9) (fun _=>(bJ (aa av (aa (pv 0) (aa av (aa ai (aa (bJ (aa av (aa ai ag))) (aa ai (aa ai (aa cE ag)))))))))))))) ?_;refine⟨by show 3<=sizeLine;decide,fun m0 hm0=>?_⟩;have e3:[V.str "ann",V.str "cy",V.str "bo"]=Jn.map V.str:=rfl;rw[e3];have S1:=ao.upd (o:=.lst (Jn.map V.str)) hm0;have k1:=af (H:=H) (a:=m0) (o:=.lst (Jn.map V.str));generalize upd H m0 (.lst (Jn.map V.str))=H1 at S1 k1;tm_up;obtain⟨m,hm,U8⟩:=EC c (k:=4) (by decide);rw[hm];refine .inl ⟨m0,_,rfl,aM.of k1,fun m1 hm1=>?_⟩;rw[CI,<-List.map_take];have S2:=ao.upd (o:=.lst ((Jn.take m).map V.str)) hm1;have k2:=af (H:=H1) (a:=m1) (o:=.lst ((Jn.take m).map V.str));generalize upd H1 m1 (.lst ((Jn.take m).map V.str))=H2 at S2 k2;have Sk:=S1.trans S2;have l3:(Jn.take m).length<=3:=by rw[Zo'];show min m 3<=3;omega
 refine⟨_,rfl,m1,rfl,⟨_,aM.of k2⟩,fun D b hD=>?_⟩;refine fH (K:=K) (xs:=(Jn.take m).map V.str) (fun i ys σ H'=>∃(v:Option V)(gX:List De),σ=[v,some (.int c),some (.ref m1)]/\ao H2 H'/\H' D=some (.lst ys)/\fG H' ys gX/\gX.length=i) ⟨none,[],rfl,ao.upd hD,af,fG.nil,rfl⟩ ?_ ?_ ?_
 ·rintro i ys σ H' ⟨v,gX,rfl,s2,_⟩;exact aM.of (s2 _ _ k2)
 ·rintro i ys y σ H' hy ⟨v,gX,rfl,s2,DS,dd,dl⟩ N hN;obtain⟨n,hn,rfl⟩:∃ n,n∈Jn/\y=.str n:=by
   rw[Zd']at hy;cases e:(Jn.take m)[i]? with
   |none=>rw[e]at hy;cases hy
   |some z=>rw[e]at hy;exact⟨z,List.mem_of_mem_take (Zf' e),(Z' hy).symm⟩
  have hi:i<(Jn.take m).length:=by
   have:=(K'.mp hy).1
   rwa [L']at this
  have yl:=bM dd.1;refine ee ?_;refine⟨_,rfl,by show 2<=sizeLine;decide,fun p0 hp0=>?_⟩;have S3:=ao.upd (o:=.tup [V.str "s",V.int 0]) hp0;have k3:=af (H:=H') (a:=p0) (o:=.tup [V.str "s",V.int 0]);generalize upd H' p0 (.tup [V.str "s",V.int 0])=H3 at S3 k3;refine⟨by show 8<=sizeLine;decide,fun p1 hp1=>?_⟩;have S4:=ao.upd (o:=.tup [V.str "add",V.str n,V.str "",V.int 0,V.ref p0,V.int 0,V.int 1,V.bl false]) hp1;have k4:=af (H:=H3) (a:=p1) (o:=.tup [V.str "add",V.str n,V.str "",V.int 0,V.ref p0,V.int 0,V.int 1,V.bl false]);generalize upd H3 p1 (.tup [V.str "add",V.str n,V.str "",V.int 0,V.ref p0,V.int 0,V.int 1,V.bl false])=H4 at S4 k4;have V1:=S3.trans S4;refine⟨V1 _ _ DS,aL (by omega),hN _ _ _ ⟨_,gX++[⟨.add,n,"",0,("s",0),0,1,false⟩],rfl,cZ (s2.trans V1) hD,af,?_,by rw[V',dl];rfl⟩⟩;refine fG.write (V1 _ _ DS) (fG.snoc (dd.same V1) ⟨p1,p0,rfl,k4,S4 _ _ k3⟩ ⟨PY hn,U7,UK,all_eq_true.mp (by lk:Jn.all Xv=true) _ hn⟩)
 ·rintro ys σ H' ⟨v,gX,rfl,s2,DS,dd,dl⟩;rw[L']at dl;exact q D ys gX H' (Sk.free hD) (Sk.trans s2) DS dd (by omega)
noncomputable def vI (ns:List Int)(k:Nat):Int:=ns.getD k 0
inductive vJ (K:Frag)(vs:List V)(H:Hp)(Q:VK)(E:XK):Prop
 |mk (a:Addr) (ns:List Int) (k:Nat) (cT:vs=[.ref a,.int (k:Int)]) (cU:aM K H a (ns.map V.int)) (dH:ns.length<=63) (fL:Q (.int (vI ns k)) H):vJ K vs H Q E
theorem vK (T:Txt K w mg t):aW P w K mg base fA (0+1) t.yd t.ye ["_law_script","_law_k"] (vJ K):=by
 refine T.jA.ok EH (fun vs H Q E h=>?_) (fun cdv A outer s H vs Q E hr h=>?_)
 ·obtain⟨a,ns,k,rfl,_⟩:=h;rfl
 ·obtain⟨a,ns,k,rfl,hS,hl,q⟩:=h;refine aJ (ae (aH (aq jq (pv 1) (aD (K4 rfl) rfl T.Sa Ru (aa ai (aa (aD (aB.or aC) rfl T.bu br (aa (pv 0) ag)) ag))) (aw _)) (ah (ar (bx aT (pv 0) (pv 1) (fun _ _=>rfl)))) ay) (ah (ar ai))) ?_;refine⟨_,rfl,_,rfl,.inl ⟨_,_,rfl,.inl hS,_,_,rfl,_,_,rfl,rfl,_,rfl,?_⟩⟩;rw[L'];refine aN (fun h=>?_) (fun h=>?_)
  ·have hk:k<ns.length:=by
    have:=G' h;split at this <;> omega
   have e:(ns.map V.int)[k]? = some (V.int (vI ns k)):=by
    rw[Zd',N' hk];unfold vI;rw[List.getD_eq_getElem?_getD,N' hk];rfl
   exact⟨_,rfl,_,rfl,.inl ⟨_,_,_,_,rfl,rfl,hS,qM e,q⟩⟩
  ·have hk:ns.length<=k:=by
    have h':¬((k:Int)<if(ns.length:Int)<63 then(ns.length:Int) else 63):=fun z=>h (A' z);split at h' <;> omega
   have e:vI ns k=0:=by
    unfold vI;rw[List.getD_eq_getElem?_getD,List.getElem?_eq_none hk];rfl
   rw[e]at q;exact q
noncomputable def XG:List Kd:=[.G,.G,.G,.G,.G,.s,.s,.s,.s,.s,.s,.s,.s,.s,.d,.d,.r,.r,.D,.R,.dot,.dot,.three,.two]
theorem U9:(Str.ofString "GGGGGsssssssssddrrDR..32").cps.toList=XG.map Kd.cp:=by lk
theorem Ho (k:Kd):wu k.str "GDsd"=k.gI:=by cases k <;> decide +kernel
inductive vL (vs:List V)(H:Hp)(Q:VK)(E:XK):Prop
 |mk (m:Int) (cT:vs=[.int m]) (cU:∀(p:Addr)(s:Sg),jM s->H p=none->Q (.ref p) (upd H p (.tup [.str s.1.str,.int s.2]))):vL vs H Q E
theorem Fb (T:Txt K w mg t):aW P w K mg base fA (0+1) t.yf t.yg ["_law_number"] vL:=by
 refine T.yI.ok uk ?_ ?_
 x_go
 obtain⟨m,rfl,q⟩:=h;refine aJ (ae (dq 1 uk.nd (bx aT av (aE cV (pv 0) ai) (fun _ _=>rfl))) (ae (aH (aq (bO.or bN) (pv 1) av rfl) (ah (ar (bJ (aa (pv 1) (aa (aE cV (aE dY (pv 0) ai) ai) ag))))) ay) (ah (ar (bJ (aa (pv 1) (aa ai ag))))))) ?_;obtain⟨k,hk⟩:∃ k,XG[(m % 24).toNat]? = some k:=by
  have h1:(m % 24).toNat<XG.length:=by
   show _<24;omega
  exact⟨_,N' h1⟩
 have hat:Mj (Str.ofString "GGGGGsssssssssddrrDR..32").cps.toList (m % 24)=some k.cp:=by
  have e0:m % 24=(((m % 24).toNat:Nat):Int):=by omega
  rw[e0,U9];exact qM (by rw[Zd',hk];rfl)
 refine⟨_,rfl,_,_,rfl,rfl,(by decide:(0:Int)<24),.inr (.inr ⟨_,_,_,rfl,rfl,(by lk),hat,?_⟩)⟩;rw[<-UC k];tm_up;refine aN (fun h=>?_) (fun h=>?_)
 ·have h4:k.gI=true:=by rw[<-Ho];exact h
  tm_up;refine⟨(by show 2<=sizeLine;decide),fun p hp=>?_⟩;exact q p (k,m / 24 % 100) ⟨fun _=>by show 0<=m / 24 % 100/\m / 24 % 100<100;omega,fun z=>by rw[h4]at z;cases z⟩ hp
 ·have h4:k.gI=false:=by
   rw[<-Ho];exact Y'.mpr h
  tm_up;refine⟨(by show 2<=sizeLine;decide),fun p hp=>?_⟩;exact q p (k,0) ⟨(fun z=>by rw[h4]at z;cases z),fun _=>rfl⟩ hp
theorem KG {a b:TS}{D:Ends}{σ:St}{H:Hp}{rt:VK}{bk ct:St->Hp->Prop}(h:OX a b D σ H):Ends.nx { nx:=OX a b D,rt:=rt,bk:=bk,ct:=ct } σ H:=h
noncomputable def xh:List Str:=["ann","bo","cy","dora","a","zzzzzzzz","ann","Ann","","toolongby"]
theorem Hq {n:Str}(h:n∈xh):n.length<=1000:=by
 have:xh.all (fun n=>decide (n.length<=1000))=true:=by lk
 exact G' (all_eq_true.mp this n h)
noncomputable def L0:List Wy:=[.put,.put,.put,.put,.put,.swap,.swap,.cut,.cut,.add,.canon,.canon,.drop,.undo,.undo,.lh]
theorem strAtD {l:List Str}{m:Nat}(h:m<l.length):∃ n,n∈l/\(l.map V.str)[m]? = some (.str n):=⟨l[m],List.getElem_mem h,by rw[Zd',N' h];rfl⟩
theorem Va (k:Kd):k.str∈jh:=by
 have:jh.contains k.str=true:=by cases k <;> decide +kernel
 exact List.contains_iff_mem.mp this
inductive vM (vs:List V)(H:Hp)(Q:VK)(E:XK):Prop
 |mk (m:Int) (cT:vs=[.int m]) (cU:∀(p:Addr)(de:De)(H':Hp),ao H H'->ot H' (.ref p) de->Lw de->Q (.ref p) H'):vM vs H Q E
set_option maxHeartbeats 8000000 in
theorem Fc (T:Txt K w mg t):aW P w K mg base fA (0+2) t.yh t.yi ["_law_number"] vM:=by
 have Hr:=Fb P base T;refine T.qq.ok bU ?_ ?_
 x_go
 obtain⟨m,rfl,q⟩:=h;obtain⟨pq,pA⟩:∃ v:List (Str×Pos),v=qc:=⟨_,rfl⟩;obtain⟨pB,pC⟩:∃ v:List (Str×Pos),v=gk:=⟨_,rfl⟩;have hbody:a8 cg=Stmt.Assign [Expr.Name "_law_names" ⟨394,4,394,14⟩] (Expr.List (pq.map fun c=>Expr.Constant (.str c.1) 0 c.2) ⟨394,17,394,92⟩) ⟨394,4,394,92⟩::Stmt.Assign [Expr.Name "_law_ways" ⟨395,4,395,13⟩] (Expr.List (pB.map fun c=>Expr.Constant (.str c.1) 0 c.2) ⟨395,16,395,114⟩) ⟨395,4,395,114⟩::(a8 cg).getD 2 (.Pass ⟨0,0,0,0⟩)::(a8 cg).getD 3 (.Pass ⟨0,0,0,0⟩)::(a8 cg).getD 4 (.Pass ⟨0,0,0,0⟩)::(a8 cg).getD 5 (.Pass ⟨0,0,0,0⟩)::(a8 cg).getD 6 (.Pass ⟨0,0,0,0⟩)::(a8 cg).getD 7 (.Pass ⟨0,0,0,0⟩)::(a8 cg).getD 8 (.Pass ⟨0,0,0,0⟩)::(a8 cg).getD 9 (.Pass ⟨0,0,0,0⟩)::(a8 cg).getD 10 (.Pass ⟨0,0,0,0⟩)::RP ((a8 cg).getD 11 (.Pass ⟨0,0,0,0⟩)) eL::(a8 cg).drop 12:=by subst pA;subst pC;unfold eL;rfl
 rw[hbody];refine aJ (ae (FP (i:=1) pq bU.nd rfl (Or.inl rfl)) (ae (FP (i:=2) pB bU.nd rfl (Or.inl rfl)) (ae (dq 3 bU.nd (bx aT (aE (bp.or (aF.or bq)) (pv 2) (a9 (aa av (aa av (aa av ag))))) (aE cV (pv 0) ai) (fun _ _=>rfl))) (ae (dq 0 bU.nd (aE dY (pv 0) ai)) (ae (dq 4 bU.nd (bx aT (pv 1) (aE cV (pv 0) ai) (fun _ _=>rfl))) (ae (g7 (aH (aq (aS.or (aK (az hr))) (aE cV (aE dY (pv 0) ai) ai) ai (aw _)) (ah (dq 4 bU.nd (bx aT (pv 1) (aE cV (aE dY (pv 0) ai) ai) (fun _ _=>rfl)))) ay)) (ae (dq 0 bU.nd (aE dY (pv 0) ai)) (ae (dq 5 bU.nd (bx aT (pv 1) (aE cV (pv 0) ai) (fun _ _=>rfl))) (ae (g7 (aH (aq (aS.or (aK (az hr))) (aE cV (aE dY (pv 0) ai) ai) ai (aw _)) (ah (dq 5 bU.nd (bx aT (pv 1) (aE cV (aE dY (pv 0) ai) ai) (fun _ _=>rfl)))) ay)) (ae (dq 0 bU.nd (aE dY (pv 0) ai)) (ae (dq 6 bU.nd (dG T.yI Hr hr (aa (pv 0) ag))) (ae (g7 (aH (aq (aS.or (aK (az hr))) (aE cV (aE dY (pv 0) ai) ai) ai (aw _)) (ah (dq 6 bU.nd (bx aT AG (aE cV (aE dY (pv 0) ai) ai) (fun _ _=>rfl)))) ay)) (ae (dq 7 bU.nd (aE eW (aE cV (aE dY (pv 0) ai) ai) ai)) (ah (ar (bJ (aa (pv 3) (aa (pv 4) (aa (pv 5) (aa (aE dY (pv 0) ai) (aa (pv 6) (aa (pv 7) (aa (aE cV (aE dY (pv 0) ai) ai) (aa (aZ (aS.or (aK (az hr))) (aE cV (pv 0) ai) ai (aw _)) ag)))))))))))))))))))))))) ?_;subst pA;subst pC;refine cQ fun N hN=>?_;refine⟨by show 10<=sizeLine;decide,fun m0 hm0=>?_⟩;have e10:(qc.map fun c=>V.str c.1)=xh.map V.str:=rfl;rw[e10];have S1:=ao.upd (o:=.lst (xh.map V.str)) hm0;have k1:=af (H:=H) (a:=m0) (o:=.lst (xh.map V.str));generalize upd H m0 (.lst (xh.map V.str))=H1 at S1 k1;refine hN _ _ ?_;clear hN N;refine cQ fun N hN=>?_;refine⟨by show 13<=sizeLine;decide,fun m1 hm1=>?_⟩;have S2:=ao.upd (o:=.lst (gk.map fun c=>V.str c.1)) hm1;have k2:=af (H:=H1) (a:=m1) (o:=.lst (gk.map fun c=>V.str c.1));generalize upd H1 m1 (.lst (gk.map fun c=>V.str c.1))=H2 at S2 k2;refine hN _ _ ?_;clear hN N;refine cQ fun N hN=>?_;refine⟨_,rfl,big (by show 3<=1000;omega),fun m2 hm2=>?_⟩;have S3:=ao.upd (o:=.lst [V.str "undo",V.str "undo",V.str "redo"]) hm2;have k3:=af (H:=H2) (a:=m2) (o:=.lst [V.str "undo",V.str "undo",V.str "redo"]);generalize upd H2 m2 (.lst [V.str "undo",V.str "undo",V.str "redo"])=H3 at S3 k3;refine .inr (.inr ⟨m1,m2,_,_,rfl,rfl,S3 _ _ k2,k3,by show 16<=sizeLine;decide,fun m3 V2=>?_⟩);have YX:(gk.map fun c=>V.str c.1)++[V.str "undo",V.str "undo",V.str "redo"]=L0.map fun w=>V.str w.str:=rfl;rw[YX];have S4:=ao.upd (o:=.lst (L0.map fun w=>V.str w.str)) V2;have k4:=af (H:=H3) (a:=m3) (o:=.lst (L0.map fun w=>V.str w.str));generalize upd H3 m3 (.lst (L0.map fun w=>V.str w.str))=H4 at S4 k4;have S14:=((S1.trans S2).trans S3).trans S4;have k5:=S4 _ _ (S3 _ _ (S2 _ _ k1));tm_up;obtain⟨j,hj,aaI⟩:=EC m (k:=16) (by decide);obtain⟨wy,ewy⟩:∃ wy:Wy,(L0.map fun w=>V.str w.str)[j]? = some (.str wy.str):=⟨_,by rw[Zd',N' (show j<L0.length by show j<16;omega)];rfl⟩;refine tS (aM.of k4) (n:=j) hj ewy ?_;refine hN _ _ ?_;clear hN N S1 S2 S3 S4 k1 k2 k3 k4 hm0 hm1 hm2 V2 e10 YX;refine cQ fun N hN=>?_;tm_up;refine hN _ _ ?_;clear hN N;generalize m / 16=n1;refine cQ fun N hN=>?_;tm_up;obtain⟨i1,hi1,Sl⟩:=EC n1 (k:=7) (by decide);obtain⟨nm,hnm,YY⟩:=strAtD (l:=xh) (m:=i1) (by show i1<10;omega);refine tS (aM.of k5) (n:=i1) hi1 YY ?_;refine hN _ _ ?_;clear hN N;refine⟨fun σ H'=>∃ nm,nm∈xh/\σ=[some (.int n1),some (.ref m0),some (.ref m1),some (.str wy.str),some (.str nm),none,none,none]/\H'=H4,?_,?_⟩
 ·tm_up;refine aN (fun _=>?_) (fun _=>?_)
  ·tm_up;obtain⟨i2,hi2,Oy⟩:=EC (n1 / 56) (k:=10) (by decide);obtain⟨nm',hnm',XH⟩:=strAtD (l:=xh) (m:=i2) (by show i2<10;omega);exact tS (aM.of k5) (n:=i2) hi2 XH ⟨nm',hnm',rfl,rfl⟩
  ·exact⟨nm,hnm,rfl,rfl⟩
 clear hnm YY hi1 Sl i1 nm;rintro _ H' ⟨nm,hnm,rfl,eH⟩;have eH:=eH.symm;subst eH;refine KG ?_;refine cQ fun N hN=>?_;tm_up;refine hN _ _ ?_;clear hN N;generalize n1 / 560=n2;refine cQ fun N hN=>?_;tm_up;obtain⟨i1,hi1,Sl⟩:=EC n2 (k:=4) (by decide);obtain⟨ld,rD,YZ⟩:=strAtD (l:=xh) (m:=i1) (by show i1<10;omega);refine tS (aM.of k5) (n:=i1) hi1 YZ ?_;refine hN _ _ ?_;clear hN N;refine⟨fun σ H'=>∃ ld,ld∈xh/\σ=[some (.int n2),some (.ref m0),some (.ref m1),some (.str wy.str),some (.str nm),some (.str ld),none,none]/\H'=H4,?_,?_⟩
 ·tm_up;refine aN (fun _=>?_) (fun _=>?_)
  ·tm_up;obtain⟨i2,hi2,Oy⟩:=EC (n2 / 24) (k:=10) (by decide);obtain⟨ld',XI,XJ⟩:=strAtD (l:=xh) (m:=i2) (by show i2<10;omega);exact tS (aM.of k5) (n:=i2) hi2 XJ ⟨ld',XI,rfl,rfl⟩
  ·exact⟨ld,rD,rfl,rfl⟩
 clear rD YZ hi1 Sl i1 ld;rintro _ H' ⟨ld,rD,rfl,eH⟩;have eH:=eH.symm;subst eH;refine KG ?_;refine cQ fun N hN=>?_;tm_up;refine hN _ _ ?_;clear hN N;generalize n2 / 240=n3;refine cQ fun N hN=>?_;tm_up;intro p0 s0 g0 hp0;have S5:=ao.upd (o:=.tup [V.str s0.1.str,V.int s0.2]) hp0;have k6:=af (H:=H4) (a:=p0) (o:=.tup [V.str s0.1.str,V.int s0.2]);generalize upd H4 p0 (.tup [V.str s0.1.str,V.int s0.2])=H5 at S5 k6;refine hN _ _ ?_;clear hN N;refine⟨fun σ H'=>∃(ps:Addr)(sg:Sn),σ=[some (.int n3),some (.ref m0),some (.ref m1),some (.str wy.str),some (.str nm),some (.str ld),some (.ref ps),none]/\ao H5 H'/\H' ps=some (.tup [.str sg.1,.int sg.2])/\sg.1∈jh,?_,?_⟩
 ·tm_up;refine aN (fun _=>?_) (fun _=>?_)
  ·rw[lL];refine⟨by show 2<=sizeLine;decide,fun c0 hc0=>?_⟩;have T0:=ao.upd (o:=.tup [V.str "G",V.int (100)]) hc0;have t0:=af (H:=H5) (a:=c0) (o:=.tup [V.str "G",V.int (100)]);generalize upd H5 c0 (.tup [V.str "G",V.int (100)])=G0 at T0 t0;refine⟨by show 2<=sizeLine;decide,fun c1 hc1=>?_⟩;have T1:=ao.upd (o:=.tup [V.str "R",V.int (1)]) hc1;have t1:=af (H:=G0) (a:=c1) (o:=.tup [V.str "R",V.int (1)]);generalize upd G0 c1 (.tup [V.str "R",V.int (1)])=G1 at T1 t1;refine⟨by show 2<=sizeLine;decide,fun c2 hc2=>?_⟩;have T2:=ao.upd (o:=.tup [V.str "g",V.int (0)]) hc2;have t2:=af (H:=G1) (a:=c2) (o:=.tup [V.str "g",V.int (0)]);generalize upd G1 c2 (.tup [V.str "g",V.int (0)])=G2 at T2 t2;refine⟨1,rfl,by show 2<=sizeLine;decide,fun c3 hc3=>?_⟩;have T3:=ao.upd (o:=.tup [V.str "s",V.int (-1)]) hc3;have t3:=af (H:=G2) (a:=c3) (o:=.tup [V.str "s",V.int (-1)]);generalize upd G2 c3 (.tup [V.str "s",V.int (-1)])=G3 at T3 t3;refine⟨by show 2<=sizeLine;decide,fun c4 hc4=>?_⟩;have T4:=ao.upd (o:=.tup [V.str "",V.int (0)]) hc4;have t4:=af (H:=G3) (a:=c4) (o:=.tup [V.str "",V.int (0)]);generalize upd G3 c4 (.tup [V.str "",V.int (0)])=G4 at T4 t4;refine⟨by show 2<=sizeLine;decide,fun c5 hc5=>?_⟩;have T5:=ao.upd (o:=.tup [V.str "3",V.int (3)]) hc5;have t5:=af (H:=G4) (a:=c5) (o:=.tup [V.str "3",V.int (3)]);generalize upd G4 c5 (.tup [V.str "3",V.int (3)])=G5 at T5 t5;refine⟨by show 6<=sizeLine;decide,fun l hl=>?_⟩;have T6:=ao.upd (o:=.lst [V.ref c0,V.ref c1,V.ref c2,V.ref c3,V.ref c4,V.ref c5]) hl;tm_up;obtain⟨i2,hi2,Oy⟩:=EC (n3 / 21600) (k:=6) (by decide);have SS:=(((((T0.trans T1).trans T2).trans T3).trans T4).trans T5).trans T6
   match i2,hi2,Oy with
   |0,hi2,_=>exact tS (aM.of af) (n:=0) hi2 rfl ⟨c0,("G",100),rfl,SS,T6 _ _ (T5 _ _ (T4 _ _ (T3 _ _ (T2 _ _ (T1 _ _ t0))))),by lk⟩
   |1,hi2,_=>exact tS (aM.of af) (n:=1) hi2 rfl ⟨c1,("R",1),rfl,SS,T6 _ _ (T5 _ _ (T4 _ _ (T3 _ _ (T2 _ _ t1)))),by lk⟩
   |2,hi2,_=>exact tS (aM.of af) (n:=2) hi2 rfl ⟨c2,("g",0),rfl,SS,T6 _ _ (T5 _ _ (T4 _ _ (T3 _ _ t2))),by lk⟩
   |3,hi2,_=>exact tS (aM.of af) (n:=3) hi2 rfl ⟨c3,("s",-1),rfl,SS,T6 _ _ (T5 _ _ (T4 _ _ t3)),by lk⟩
   |4,hi2,_=>exact tS (aM.of af) (n:=4) hi2 rfl ⟨c4,("",0),rfl,SS,T6 _ _ (T5 _ _ t4),by lk⟩
   |5,hi2,_=>exact tS (aM.of af) (n:=5) hi2 rfl ⟨c5,("3",3),rfl,SS,T6 _ _ t5,by lk⟩
   |i2+6,_,Oy=>exact S' Oy (by omega)
  ·exact⟨p0,(s0.1.str,s0.2),rfl,ao.refl _,k6,Va _⟩
 rintro _ H6 ⟨ps,sg,rfl,S6,hps,hsk⟩;tm_up;refine⟨by show 8<=sizeLine;decide,fun pd hpd=>?_⟩;have S7:=ao.upd (o:=.tup [V.str wy.str,V.str nm,V.str ld,V.int (n3 / 129600),V.ref ps,V.int (n3 / 7 % 1003-1),V.int (n3 / 7021 % 11),V.bl (decide (V.int (n3 % 2)=V.int 1))]) hpd;exact q pd ⟨wy,nm,ld,n3 / 129600,sg,n3 / 7 % 1003-1,n3 / 7021 % 11,decide (V.int (n3 % 2)=V.int 1)⟩ _ (((S14.trans S5).trans S6).trans S7) ⟨pd,ps,rfl,af,S7 _ _ hps⟩ ⟨Hq hnm,Hq rD,hsk,all_eq_true.mp (by lk:xh.all Xv=true) _ hnm⟩
inductive By (vs:List V)(H:Hp)(Q:VK)(E:XK):Prop
 |mk (seed k:Int) (cT:vs=[.int seed,.int k]) (cU:∀ r:Int,0<=r->r<65521->Q (.int r) H):By vs H Q E
theorem Jp (T:Txt K w mg t):aW P w K mg base fA (0+1) t.Dn t.Dp ["_law_seed","_law_k"] By:=by
 refine T.qS.ok sC ?_ ?_
 x_go
 obtain⟨seed,k,rfl,q⟩:=h;refine aJ (ae (dq 2 sC.nd (aE cV (aE (bp.or (aF.or bq)) (aE (bp.or (aF.or bq)) (aE (iV.or iX) (aE cV (pv 0) ai) ai) (aE (iV.or iX) (pv 1) ai)) ai) ai)) (ae (dq 3 sC.nd (aE cV (aE (bp.or (aF.or bq)) (aE (bp.or (aF.or bq)) (aE (iV.or iX) (pv 2) (pv 2)) (aE (iV.or iX) (pv 1) ai)) (aE cV (aE dY (pv 0) ai) ai)) ai)) (ah (ar (aE cV (aE (bp.or (aF.or bq)) (aE dY (aE (iV.or iX) (pv 3) (pv 3)) ai) (pv 3)) ai))))) ?_;have p2:(2:Int) ^ 64=18446744073709551616:=by decide
 refine⟨_,rfl,_,_,rfl,rfl,(by decide:(0:Int)<1000003),.inl ⟨_,_,rfl,rfl,.inr ⟨by decide,by decide⟩,_,rfl,.inl ⟨_,_,rfl,rfl,.inr ⟨by decide,by decide⟩,.inl ⟨_,_,rfl,rfl,.inl ⟨_,_,rfl,rfl,_,_,rfl,rfl,(by decide:(0:Int)<1000033),?_⟩⟩⟩⟩⟩;generalize hone:(seed % 1000003 * 48271+k * 30011+17) % 1000033=one;have b1:0<=one/\one<1000033:=by omega
 refine⟨_,rfl,_,rfl,.inl ⟨_,_,rfl,rfl,.inl ⟨by rw[p2];omega,by rw[p2];omega⟩,_,rfl,.inl ⟨_,_,rfl,rfl,.inr ⟨by decide,by decide⟩,.inl ⟨_,_,rfl,rfl,_,rfl,_,_,rfl,rfl,⟨by decide,by decide⟩,_,_,rfl,rfl,(by decide:(0:Int)<997),.inl ⟨_,_,rfl,rfl,_,_,rfl,rfl,(by decide:(0:Int)<999983),?_⟩⟩⟩⟩⟩;generalize aaL:(one * one+k * 613+seed / 1000003 % 997) % 999983=two;have b2:0<=two/\two<999983:=by omega
 refine⟨_,rfl,_,rfl,.inl ⟨_,_,rfl,rfl,.inl ⟨by rw[p2];omega,by rw[p2];omega⟩,_,_,rfl,rfl,⟨by decide,by decide⟩,_,rfl,.inl ⟨_,_,rfl,rfl,_,_,rfl,rfl,(by decide:(0:Int)<65521),?_⟩⟩⟩;exact q _ (by omega) (by omega)
inductive Bz (K:Frag)(vs:List V)(H:Hp)(Q:VK)(E:XK):Prop
 |mk (a:Addr) (ns:List Int) (k m:Nat) (cT:vs=[.ref a,.int (k:Int),.int (m:Int)]) (cU:aM K H a (ns.map V.int)) (dH:ns.length<=63) (fL:m<=48) (jF:∀(l:Addr)(xs:List V)(gX:List De)(H':Hp),H l=none->ao H H'->H' l=some (.lst xs)->fG H' xs gX->gX.length<=88->Q (.ref l) H'):Bz K vs H Q E
theorem Jq (T:Txt K w mg t):aW P w K mg base fA (0+3) t.Dq t.Dr ["_law_script","_law_at","_law_many"] (Bz K):=by
 have jE:=vK P base T;have yQ:=Fc P base T;have xi:=Jp P base T;refine T.wY.ok fh ?_ ?_
 x_go
 obtain⟨a,ns,k,m,rfl,hS,hl,hm,q⟩:=h;refine aJ (ae (dq 3 fh.nd (dG T.jA jE hr (aa (pv 0) (aa (pv 1) ag)))) (ae (dq 4 fh.nd (aE (iV.or iX) (aE (iV.or iX) ai ai) ai)) (ae (dq 5 fh.nd (a9 ag)) (ae (dq 6 fh.nd (aE eW (pv 3) (aE HR ai ai))) (ae (zJ PassesOwn.never (bE (PW.pt (cB (aq Cp (pv 6) ai (aw _)) (cX (aq jq (aD (aB.or aC) rfl T.bu br (aa (pv 5) ag)) ai (aw _)))))) (ae (aP (eE Zc' Zl' Zk' bK (pv 5) (aa (dG T.qq yQ hr (aa (aE cV (pv 6) (pv 4)) ag)) ag))) (ah (dq 6 fh.nd (aE Nq (pv 6) (pv 4)))))) (ae (aH (aq JG (pv 3) (aE HR ai ai) (aw _)) (ah (ar (pv 5))) ay) (ae (d8 PassesOwn.never rfl (mR rfl T.jz (aa (pv 2) ag)) (jG 7 fh.nd) (ae (dq 8 fh.nd (aE (bp.or (aF.or bq)) (pv 3) (aE (iV.or iX) ai (dG T.jA jE hr (aa (pv 0) (aa (aE (bp.or (aF.or bq)) (aE (bp.or (aF.or bq)) (pv 1) ai) (pv 7)) ag)))))) (ae (dq 9 fh.nd (aE (bp.or (aF.or bq)) (dG T.qS xi hr (aa (pv 8) (aa (pv 7) ag))) (aE (iV.or iX) ai (dG T.qS xi hr (aa (pv 8) (aa (aE (bp.or (aF.or bq)) (pv 7) ai) ag)))))) (ah (aP (eE Zc' Zl' Zk' bK (pv 5) (aa (dG T.qq yQ hr (aa (aE (bp.or (aF.or bq)) (pv 9) (aE (iV.or iX) (aE (iV.or iX) ai ai) (dG T.qS xi hr (aa (pv 8) (aa (aE (bp.or (aF.or bq)) (pv 7) ai) ag))))) ag)) ag))))))) (ah (ar (pv 5)))))))))) ?_;refine⟨_,rfl,_,rfl,a,ns,k,rfl,hS,hl,?_⟩;tm_up;refine⟨big (by show 0<=1000;omega),fun l hl0=>?_⟩;tm_up;refine⟨fun mm σ H'=>∃(left:Int)(xs:List V)(gX:List De),σ=[some (.ref a),some (.int (k:Int)),some (.int (m:Int)),some (.int (vI ns k)),some (.int (65521 * 65521 * 65521)),some (.ref l),some (.int left),none,none,none]/\ao H H'/\H' l=some (.lst xs)/\fG H' xs gX/\mm=40-gX.length/\gX.length<=40,
  ⟨40,_,[],[],rfl,ao.upd hl0,af,fG.nil,rfl,Zq' _⟩,?_⟩
 rintro mm σ H' ⟨left,xs,gX,rfl,s1,h1,dd,rfl,hlen⟩;have xl:=bM dd.1;refine fV (decide (0<left)&&decide ((gX.length:Int)<40)) ?_ ?_
 ·tm_up;refine aN (fun h=>?_) (fun h=>?_)
  ·refine⟨_,rfl,.inl ⟨l,_,rfl,.inl (aM.of h1),?_⟩⟩;tm_up;rw[xl];exact⟨by rw[h,Bool.true_and],rfl⟩
  ·exact⟨by rw[Y'.mpr h];rfl,rfl⟩
 refine aN (fun h40=>?_) (fun _=>?_)
 ·have aaN:gX.length<40:=by
   have:=G' (Bool.and_eq_true_iff.mp h40).2;omega
  refine⟨fun σ' H'=>∃ m',m'<40-gX.length/\∃(left:Int)(xs:List V)(gX:List De),σ'=[some (.ref a),some (.int (k:Int)),some (.int (m:Int)),some (.int (vI ns k)),some (.int (65521 * 65521 * 65521)),some (.ref l),some (.int left),none,none,none]/\ao H H'/\H' l=some (.lst xs)/\fG H' xs gX/\m'=40-gX.length/\gX.length<=40,fun _ _ h=>h,?_⟩;refine⟨_,rfl,.inl ⟨rfl,_,aM.of h1⟩,?_⟩;tm_up;intro p de H2 s2 hde ok;refine⟨l,_,_,rfl,rfl,s2 _ _ h1,aL (by omega),?_⟩;tm_up;refine⟨40-(gX.length+1),by omega,_,xs++[.ref p],gX++[de],rfl,cZ (s1.trans s2) hl0,af,fG.write (s2 _ _ h1) (fG.snoc (dd.same s2) hde ok),by rw[V'];rfl,by rw[V'];show _+1<=_;omega⟩
 ·refine KG ?_;tm_up;refine aN (fun _=>?_) (fun _=>?_)
  ·exact⟨_,rfl,q l xs gX H' hl0 s1 h1 dd (by omega)⟩
  tm_up;refine⟨by omega,by omega,?_⟩;refine mS (n:=((m:Int)).toNat) (fun i σ H'=>∃(u v x:Option V)(xs:List V)(gX:List De),σ=[some (.ref a),some (.int (k:Int)),some (.int (m:Int)),some (.int (vI ns k)),some (.int (65521 * 65521 * 65521)),some (.ref l),some (.int left),u,v,x]/\ao H H'/\H' l=some (.lst xs)/\fG H' xs gX/\gX.length<=40+i) ⟨none,none,none,xs,gX,rfl,s1,h1,dd,by omega⟩ ?_ ?_
  ·clear xl hlen h1 s1 dd;rintro i σ H1 hi ⟨u,v,x,xs,gX,rfl,s1,h1,dd,dl⟩;have xl:=bM dd.1;tm_up;refine⟨a,ns,k+1+i,?_,s1.seq hS,hl,?_⟩
   ·show [V.ref a,V.int ((k:Int)+1+(0+(i:Int)))]=[V.ref a,V.int ((k+1+i:Nat):Int)];have e:(k:Int)+1+(0+(i:Int))=((k+1+i:Nat):Int):=by omega
    rw[e]
   tm_up;refine⟨.inl ⟨by decide,by decide⟩,.inl ⟨_,_,rfl,rfl,?_⟩⟩;tm_up;refine⟨_,_,rfl,fun r1 h10 h11=>?_⟩;tm_up;refine⟨_,_,rfl,fun r2 h20 h21=>?_⟩;refine .inl ⟨_,_,rfl,rfl,.inl ⟨by decide,by decide⟩,.inl ⟨_,_,rfl,rfl,?_⟩⟩;refine⟨_,rfl,.inl ⟨rfl,_,aM.of h1⟩,?_⟩;tm_up;refine⟨_,_,rfl,fun r3 h30 h31=>?_⟩;refine .inl ⟨_,_,rfl,rfl,.inl ⟨by decide,by decide⟩,.inl ⟨_,_,rfl,rfl,?_⟩⟩;refine⟨_,rfl,fun p de H2 s2 hde ok=>?_⟩;refine⟨l,_,_,rfl,rfl,s2 _ _ h1,aL (by omega),?_⟩;refine⟨_,_,_,xs++[.ref p],gX++[de],rfl,cZ (s1.trans s2) hl0,af,fG.write (s2 _ _ h1) (fG.snoc (dd.same s2) hde ok),by rw[V'];show _+1<=_;omega⟩
  ·rintro σ H1 ⟨u,v,x,xs,gX,rfl,s1,h1,dd,dl⟩;exact⟨_,rfl,q l xs gX H1 hl0 s1 h1 dd (by omega)⟩
inductive BA (vs:List V)(H:Hp)(Q:VK)(E:XK):Prop
 |mk (d:Addr) (v:V) (vw:Vw) (de:De) (cT:vs=[.ref d,v]) (cU:lg H d vw) (dH:ot H v de) (fL:∀ H',ao H H'->Q (.int (bH vw de)) H'):BA vs H Q E
theorem oE (T:Txt K w mg t):aW P w K mg base fA (0+1) t.Ds t.Dt ["_law_voices","_law_deed"] BA:=by
 refine T.nN.ok Ay ?_ ?_
 x_go
 obtain⟨d,v,vw,de,rfl,hd,⟨p,ps,rfl,hp,hps⟩,q⟩:=h;refine aJ (ae (dq 2 Ay.nd (bL (cz (aR (aD c9 rfl T.bg bf (aa (Nm (fY hr) (pv 0) (aY (pv 1)) (bJ ag) ⟨rfl,rfl,rfl,rfl⟩) (aa (dW (v:=.ty "list") rfl T.fi eZ rfl) ag)))) (aD (aB.or aC) rfl T.bu br (aa (e9 (fY hr) (pv 0) (aY (pv 1)) (fun _ _=>rfl)) ag)) ai))) (ae (aH (aq (aS.or (aK (az hr))) (aE cV (aY (pv 1)) ai) ai (aw _)) (ah (ar (bx aT (a9 (aa (rh mz ai) (aa (aE eW (rh mz (pv 2)) ai) (aa (aE (bp.or (aF.or bq)) (pv 2) ai) (aa (aE HR ai ai) ag))))) (aE cV (aE dY (aY (pv 1)) ai) ai) (fun _ _=>rfl)))) ay) (ah (ar (aE cV (aE dY (aY (pv 1)) ai) (aE (bp.or (aF.or bq)) (pv 2) ai)))))) ?_;refine⟨fun v H'=>v=.int (t7 vw de.n)/\ao H H',?_,?_⟩
 ·refine⟨_,rfl,d,rfl,.inl (let ⟨kvs,e,_⟩:=hd;⟨kvs,.inl e⟩),_,rfl,bD (i:=1) hp rfl ?_⟩;refine⟨by show 0<=sizeLine;decide,fun t0 ht0=>?_⟩;have s0:=ao.upd (o:=.tup []) ht0;have h0:=af (H:=H) (a:=t0) (o:=.tup []);generalize upd H t0 (.tup [])=H1 at s0 h0;unfold t7;rcases (hd.same s0).look de.n with ⟨f1,g1⟩|⟨th,v1,f1,g1,t1⟩
  ·rw[f1];exact⟨_,g1,_,_,_,_,rfl,fu.tup h0,rfl,_,rfl,aX ⟨rfl,s0⟩⟩
  rw[f1];cases th with
  |cn ld lt sl tn =>
   obtain⟨pt,rfl,DV⟩:=t1;exact⟨_,g1,_,_,_,_,rfl,fu.tup DV,rfl,_,rfl,aX ⟨rfl,s0⟩⟩
  |pl ss =>
   obtain⟨l,ys,rfl,hl,g⟩:=t1;refine⟨_,g1,_,_,_,_,rfl,fu.lst hl,rfl,_,rfl,bV ?_⟩;refine⟨_,rfl,_,rfl,bD (i:=1) (s0 _ _ hp) rfl ⟨d,_,rfl,g1,.inl ⟨l,ys,rfl,.inl (aM.of hl),?_,s0⟩⟩⟩;rw[bM g]
 ·rintro _ H1 ⟨rfl,s1⟩;have sz0:0<=t7 vw de.n:=by
   unfold t7;split
   ·omega
   ·decide
  have hp1:=s1 _ _ hp;unfold bH at q;refine⟨_,rfl,bD (i:=3) hp1 rfl ?_⟩;tm_up;refine aN (fun h1=>?_) (fun h1=>?_)
  ·rw[X' (V.int.inj (G' h1))]at q;tm_up;refine⟨by show 4<=sizeLine;decide,fun l hl=>?_⟩;refine⟨_,rfl,bD (i:=3) (ao.upd hl _ _ hp1) rfl ?_⟩;tm_up;obtain⟨m,hm,U8⟩:=EC (de.pl / 16) (k:=4) (by decide);rw[hm,Int.toNat_natCast]at q;have sl:=ao.upd (o:=.lst [V.int (-1),V.int (-t7 vw de.n-1),V.int (t7 vw de.n+40),V.int (10 ^ 12)]) hl;refine tS (aM.of af) (n:=m) hm ?_ (q _ (s1.trans sl))
   match m,U8 with
   |0,_=>rfl
   |1,_=>rfl
   |2,_=>rfl
   |3,_=>rfl
   |m+4,h=>exact S' h (by omega)
  ·rw[T' (fun z=>h1 (A' (Zj' V.int z)))]at q;refine⟨_,rfl,bD (i:=3) hp1 rfl ?_⟩;tm_up;exact⟨by omega,q _ s1⟩
inductive mn (vs:List V)(H:Hp)(Q:VK)(E:XK):Prop
 |mk (d:Addr) (vw:Vw) (n:Str) (cT:vs=[.ref d,.str n]) (cU:lg H d vw) (dH:n.length<=1000) (fL:vw.length<=12) (jF:Q (.str (qW (bY vw n))) H):mn vs H Q E
theorem vN (T:Txt K w mg t):aW P w K mg base fA (0+1) t.nC t.nE ["_law_voices","_law_name"] mn:=by
 refine T.nP.ok lJ ?_ ?_
 x_go
 obtain⟨d,vw,n,rfl,hd,hn,hw,q⟩:=h;refine aJ (ae (aH (bE (PW.pt (fq (aq jq (aD (aB.or aC) rfl T.bu br (aa (pv 1) ag)) ai (aw _)) (d7 (aq Cp (aD (aB.or aC) rfl T.bu br (aa (pv 1) ag)) ai (aw _)))))) (ah (ar av)) ay) (ae (d8 PassesOwn.never rfl (Io (pv 1)) (jG 2 lJ.nd) (ah (aH (aq (gp.or gq) (pv 2) av rfl) (ah (ar av)) ay))) (ae (aH (Eb (RK (fY hr) (pv 1) (pv 0))) (ah (ar av)) ay) (ah (ar (bL (cz (aq (aS.or (aK (az hr))) (aD Lo rfl T.bu br (aa (pv 0) ag)) ai (aw _)) av av))))))) ?_;have xb:n.length<=sizeLine:=Zb' hn (by decide);unfold bY at q;refine fV (!(decide (1<=n.length)&&decide (n.length<=8))) ?_ ?_
 ·refine⟨_,rfl,.inr ⟨_,rfl,xb,?_⟩⟩;tm_up;refine aN (fun h1=>?_) (fun h1=>?_)
  ·have h1:=G' h1;rw[J' (show ¬ 1<=n.length by omega)];exact⟨rfl,rfl⟩
  ·have h1:1<=n.length:=Nat.lt_of_not_le fun z=>h1 (A' (by omega));rw[A' h1];refine⟨_,rfl,.inr ⟨_,rfl,xb,?_⟩⟩;tm_up;refine⟨?_,rfl⟩;rw[Bool.true_and,<-decide_not];exact decide_eq_decide.mpr (by omega)
 refine aN (fun h1=>?_) (fun h1=>?_)
 ·have hb:nameB n=false:=by
   unfold nameB;cases e1:decide (1<=n.length) with
   |false=>rfl
   |true =>
    rw[e1]at h1;cases e2:decide (n.length<=8) with
    |false=>rfl
    |true=>rw[e2]at h1;cases h1
  rw[X' hb]at q;exact q
 have hb1:(decide (1<=n.length)&&decide (n.length<=8))=true:=by
  cases z:(decide (1<=n.length)&&decide (n.length<=8)) with
  |true=>rfl
  |false=>rw[z]at h1;exact S' rfl h1
 obtain⟨hb2,hb3⟩:=Bool.and_eq_true_iff.mp hb1;tm_up;refine Pu (z:=n) (fun i σ H'=>∃ v,σ=[some (.ref d),some (.str n),v]/\H'=H/\∀(j:Nat) c,j<i->n.cps[j]? = some c->wu ⟨#[c]⟩ "abcdefghijklmnopqrstuvwxyz"=true) ⟨none,rfl,rfl,fun j c hj=>by omega⟩ ?_ ?_
 ·rintro i c σ H1 hc ⟨v,rfl,eH,hin⟩;have eH:=eH.symm;subst eH;tm_up;refine aN (fun h2=>?_) (fun h2=>?_)
  ·have hb:nameB n=false:=by
    unfold nameB;rw[hb2,hb3,Bool.true_and,Bool.true_and];refine List.all_eq_false.mpr ⟨c,?_,?_⟩
    ·exact Zf' (i:=i) (by simpa using hc)
    ·show ¬(!(Builtin.Str.occurrences _ _ 0 _ 1).isEmpty)=true;intro z;rw[z]at h2;cases h2
   rw[X' hb]at q;exact q
  ·refine⟨_,rfl,rfl,fun j c' hj hc'=>?_⟩;rcases Nat.lt_or_ge j i with z|z
   ·exact hin j c' z hc'
   ·have e:j=i:=by omega
    subst e;rw[hc]at hc';cases hc';show(!(Builtin.Str.occurrences _ _ 0 _ 1).isEmpty)=true;cases z:(Builtin.Str.occurrences (Str.ofString "abcdefghijklmnopqrstuvwxyz") ⟨#[c]⟩ 0 (Str.ofString "abcdefghijklmnopqrstuvwxyz").length 1).isEmpty with
    |false=>rfl
    |true=>exact S' (show(!!(Builtin.Str.occurrences (Str.ofString "abcdefghijklmnopqrstuvwxyz") ⟨#[c]⟩ 0 (Str.ofString "abcdefghijklmnopqrstuvwxyz").length 1).isEmpty)=true by rw[z];rfl) h2
 ·rintro σ H1 ⟨v,rfl,eH,hin⟩;have eH:=eH.symm;subst eH;have hb:¬ nameB n=false:=by
   unfold nameB;rw[hb2,hb3,Bool.true_and,Bool.true_and];intro z;obtain⟨c,hc,hc2⟩:=List.all_eq_false.mp z;obtain⟨j,hj⟩:=getElem?_of_mem hc;have hj':n.cps[j]? = some c:=by simpa using hj
   exact hc2 (hin j c (Array.getElem?_eq_some_iff.mp hj').1 hj')
  rw[T' hb]at q;tm_up;rcases hd.look n with ⟨f1,g1⟩|⟨th,v1,f1,g1,_⟩
  ·rw[f1,T' (by simp)]at q;refine⟨d,_,rfl,g1,_,rfl,aX ?_⟩;obtain⟨kvs,hk,kl⟩:=hd.len;refine mV (.str (if 12<=vw.length then "Full" else "")) ?_ ?_
   ·tm_up;refine⟨d,kvs,rfl,hk,?_⟩;tm_up;refine aN (fun h2=>?_) (fun h2=>?_)
    ·have:=V.int.inj (G' h2);rw[X' (by omega)];exact⟨rfl,rfl⟩
    ·rw[T' (fun z=>h2 (A' (Zj' V.int (by omega))))];exact⟨rfl,rfl⟩
   ·by_cases hl:12<=vw.length
    ·rw[X' hl]at q ⊢;exact q
    ·rw[T' hl]at q ⊢;exact q
  ·rw[f1,X' (show(some th).isSome=true from rfl)]at q;exact⟨d,_,rfl,g1,_,rfl,bV q⟩
inductive kS (vs:List V)(H:Hp)(Q:VK)(E:XK):Prop
 |mk (d:Addr) (v:V) (vw:Vw) (de:De) (cT:vs=[.ref d,v]) (cU:lg H d vw) (dH:ot H v de) (fL:Q (.str (qW (dP vw de.ld de.lt de.sl))) H):kS vs H Q E
theorem tE (T:Txt K w mg t):aW P w K mg base fA (0+1) t.lQ t.lR ["_law_voices","_law_deed"] kS:=by
 refine T.lY.ok ko ?_ ?_
 x_go
 obtain⟨d,v,vw,de,rfl,hd,⟨p,ps,rfl,hp,hps⟩,q⟩:=h;refine aJ (ae (aH (Eb (wt (fY hr) (aY (pv 1)) (pv 0))) (ah (ar av)) ay) (ae (aH (bW (aR (aD c9 rfl T.bg bf (aa (e9 (fY hr) (pv 0) (aY (pv 1)) (fun _ _=>rfl)) (aa (dW (v:=.ty "list") rfl T.fi eZ rfl) ag))))) (ah (ar av)) ay) (ae (dq 2 ko.nd (bL (dy (aZ j6 ai (aY (pv 1)) (aw _)) (dy (aZ jq (aY (pv 1)) ai (aw _)) (dy (aZ jq ai (aY (pv 1)) (aw _)) (eD (aZ jq (aY (pv 1)) ai (aw _)))))))) (ah (ar (bL (cz (aR (pv 2)) av av))))))) ?_;unfold dP at q;refine⟨_,rfl,bD (i:=2) hp rfl ?_⟩;rcases hd.look de.ld with ⟨f1,g1⟩|⟨th,v1,f1,g1,t1⟩
 ·rw[f1]at q;exact⟨_,rfl,d,_,rfl,g1,_,rfl,bV q⟩
 rw[f1]at q;refine⟨_,rfl,d,_,rfl,g1,_,rfl,aX ?_⟩;refine⟨_,rfl,_,rfl,bD (i:=2) hp rfl ?_⟩;refine⟨d,_,rfl,g1,?_⟩;cases th with
 |cn ld lt sl tn =>
  obtain⟨pt,rfl,DV⟩:=t1;exact⟨_,_,_,_,rfl,fu.tup DV,rfl,_,rfl,bV q⟩
 |pl ss =>
  obtain⟨l,ys,rfl,hl,_⟩:=t1;refine⟨_,_,_,_,rfl,fu.lst hl,rfl,_,rfl,aX ?_⟩;refine mV (.bl (decide (en de.lt de.sl))) ?_ ?_
  ·refine⟨_,rfl,bD (i:=5) hp rfl ?_⟩;tm_up;refine aN (fun h1=>?_) (fun h1=>?_)
   rotate_left
   ·rw[J' (fun z:en de.lt de.sl=>h1 (A' z.1))];exact⟨rfl,rfl⟩
   refine⟨_,rfl,bD (i:=5) hp rfl ?_⟩;tm_up;refine aN (fun h2=>?_) (fun h2=>?_)
   rotate_left
   ·rw[J' (fun z:en de.lt de.sl=>h2 (A' (by have:=z.2.1;omega)))];exact⟨rfl,rfl⟩
   refine⟨_,rfl,bD (i:=6) hp rfl ?_⟩;tm_up;refine aN (fun h3=>?_) (fun h3=>?_)
   rotate_left
   ·rw[J' (fun z:en de.lt de.sl=>h3 (A' (by have:=z.2.2.1;omega)))];exact⟨rfl,rfl⟩
   refine⟨_,rfl,bD (i:=6) hp rfl ?_⟩;tm_up;refine⟨Zj' V.bl (decide_eq_decide.mpr ⟨fun z=>⟨G' h1,?_,?_,?_⟩,fun z=>?_⟩),rfl⟩
   ·have:=G' h2;omega
   ·have:=G' h3;omega
   ·omega
   ·have:=z.2.2.2;omega
  ·refine mV (.str (qW (if en de.lt de.sl then none else some .lB))) ?_ q;refine⟨_,rfl,_,rfl,?_⟩
   by_cases z:en de.lt de.sl
   ·rw[A' z,X' z];exact bV ⟨rfl,rfl⟩
   ·rw[J' z,T' z];exact aX ⟨rfl,rfl⟩
inductive mr (vs:List V)(H:Hp)(Q:VK)(E:XK):Prop
 |mk (d:Addr) (v:V) (vw:Vw) (de:De) (cT:vs=[.ref d,v]) (cU:lg H d vw) (dH:ot H v de) (fL:Lw de) (jF:(de.wy=.put\/de.wy=.cut\/de.wy=.swap)) (zB:(∀ n ss,(n,Th.pl ss)∈vw->ss.length<=200)) (KA:∀ H',ao H H'->Q (.str (qW (iw vw de.wy de.n (bH vw de) de.sg))) H'):mr vs H Q E
theorem vO (T:Txt K w mg t):aW P w K mg base fA (0+2) t.nF t.nG ["_law_voices","_law_deed"] mr:=by
 have jd:=oE P base T;refine T.nQ.ok fP ?_ ?_
 x_go
 obtain⟨d,v,vw,de,rfl,hd,⟨p,ps,rfl,hp,hps⟩,ok,Tf,Jr,q⟩:=h;refine aJ (ae (Pl (i:=2) (j:=3) (k:=4) rfl fP.nd rfl rfl rfl (by decide) (by decide) (by decide) rfl rfl rfl (aa (aY (pv 1)) (aa (aY (pv 1)) (aa (aY (pv 1)) ag))) rfl) (ae (aH (Eb (wt (fY hr) (pv 3) (pv 0))) (ah (ar av)) ay) (ae (aH (bW (aR (aD c9 rfl T.bg bf (aa (e9 (fY hr) (pv 0) (pv 3) (fun _ _=>rfl)) (aa (dW (v:=.ty "list") rfl T.fi eZ rfl) ag))))) (ah (ar av)) ay) (ae (dq 5 fP.nd (dG T.nN jd hr (aa (pv 0) (aa (pv 1) ag)))) (ae (aH (bE (PW.pt (fq (aq jq (pv 5) ai (aw _)) (d7 (aq JG (pv 5) (aE (bp.or (aF.or bq)) (aD (aB.or aC) rfl T.bu br (aa (e9 (fY hr) (pv 0) (pv 3) (fun _ _=>rfl)) ag)) (di (iW.or d9) rfl T.qp pR (aa (aZ (aS.or (aK (az hr))) (pv 2) av (aw _)) ag))) (aw _)))))) (ah (ar av)) ay) (ae (dq 6 fP.nd (bL (dy (aZ (aS.or (aK (az hr))) (aD (aB.or aC) rfl T.bu br (aa (aY (pv 4)) ag)) ai (aw _)) (dy (aZ (bO.or bN) (aY (pv 4)) av rfl) (dy (aZ j6 ai (aY (pv 4)) (aw _)) (eD (aZ jq (aY (pv 4)) ai (aw _)))))))) (ae (aH (bE (PW.pt (cB (aq (hX.or (eF (az hr))) (pv 2) av (aw _)) (cX (bE (PW.pt (fq (bW (aR (pv 6))) (d7 (bE (PW.pt (cB (aq (hX.or (eF (az hr))) (aY (pv 4)) ai (aw _)) (cX (aq (bO.or bN) (aY (pv 4)) av rfl))))))))))))) (ah (ar av)) ay) (ah (ar (bL (cz (bE (PW.pt (cB (aq (aS.or (aK (az hr))) (pv 2) av (aw _)) (cX (aq (aS.or (aK (az hr))) (aD (aB.or aC) rfl T.bu br (aa (e9 (fY hr) (pv 0) (pv 3) (fun _ _=>rfl)) ag)) ai (aw _)))))) av av))))))))))) ?_;refine⟨_,rfl,bD (i:=0) hp rfl ⟨_,rfl,bD (i:=1) hp rfl ⟨_,rfl,bD (i:=4) hp rfl ⟨_,_,_,rfl,?_⟩⟩⟩⟩;rcases hd.look de.n with ⟨f1,g1⟩|⟨th,v1,f1,g1,t1⟩
 ·rw[gw f1]at q;exact⟨_,rfl,_,rfl,d,_,rfl,g1,_,rfl,bV (q _ (ao.refl _))⟩
 refine⟨_,rfl,_,rfl,d,_,rfl,g1,_,rfl,aX ?_⟩;refine⟨_,rfl,_,rfl,d,_,rfl,g1,?_⟩;cases th with
 |cn ld lt sl tn =>
  obtain⟨pt,rfl,DV⟩:=t1;rw[i0 f1]at q;exact⟨_,_,_,_,rfl,fu.tup DV,rfl,_,rfl,bV (q _ (ao.refl _))⟩
 |pl ss =>
  obtain⟨l,ys,rfl,hl,g⟩:=t1;rw[i4 f1]at q;have yl:=bM g;refine⟨_,_,_,_,rfl,fu.lst hl,rfl,_,rfl,aX ?_⟩;refine⟨_,rfl,_,rfl,d,_,vw,de,rfl,hd,⟨p,ps,rfl,hp,hps⟩,fun H1 s1=>?_⟩;have hl1:=s1 _ _ hl;have L1:=s1 _ _ hps;have g2:=Gn s1 g1;refine fV (decide (bH vw de<0\/(ss.length:Int)+(if de.wy=.put then 1 else 0)<=bH vw de)) ?_ ?_
  ·tm_up;refine aN (fun h1=>?_) (fun h1=>?_)
   ·rw[A' (show bH vw de<0\/_ from .inl (G' h1))];exact⟨rfl,rfl⟩
   refine⟨_,rfl,_,rfl,_,rfl,d,_,rfl,g2,.inl ⟨l,ys,rfl,.inl (aM.of hl1),?_⟩⟩;tm_up;refine .inl (.inr ⟨_,rfl,?_⟩);tm_up;refine⟨?_,rfl⟩;rw[show decide (V.str de.wy.str=V.str (Str.ofString "put"))=decide (de.wy=.put) from fO de.wy .put,yl];have h1':¬ bH vw de<0:=fun z=>h1 (A' z);refine decide_eq_decide.mpr ?_
   by_cases z:de.wy=.put
   ·rw[A' z,X' rfl,X' z];exact⟨.inr,fun y=>y.resolve_left h1'⟩
   ·rw[J' z,T' (by decide),T' z];exact⟨.inr,fun y=>y.resolve_left h1'⟩
  refine aN (fun h1=>?_) (fun h1=>?_)
  ·rw[X' (G' h1)]at q;exact q _ s1
  rw[T' (fun z=>h1 (A' z))]at q;refine mV (.bl (Gp de.sg)) ?_ ?_
  ·refine⟨_,rfl,bD (i:=0) L1 rfl (.inr ⟨_,rfl,Zb' (R1 ok.sk) (by decide),?_⟩)⟩;unfold Gp;refine .inl ⟨rfl,_,rfl,?_⟩;have e1:decide (V.int (de.sg.1.length:Int)=V.int 1)=decide (de.sg.1.length=1):=decide_eq_decide.mpr ⟨fun z=>by have:=V.int.inj z;omega,fun z=>Zj' V.int (by omega)⟩;rw[e1];cases b1:decide (de.sg.1.length=1) with
   |false=>exact aX ⟨rfl,rfl⟩
   |true =>
    refine bV ?_;refine⟨_,rfl,bD (i:=0) L1 rfl ?_⟩;tm_up;show(if wu de.sg.1 "GDRsdr.32" = true then _ else _);cases b2:wu de.sg.1 "GDRsdr.32" with
    |false=>exact aX ⟨rfl,rfl⟩
    |true =>
     refine bV ?_;refine⟨_,rfl,bD (i:=1) L1 rfl ?_⟩;tm_up;cases b3:decide (0<=de.sg.2) with
     |false=>exact aX ⟨rfl,rfl⟩
     |true =>
      refine bV ?_;refine⟨_,rfl,bD (i:=1) L1 rfl ?_⟩;tm_up;exact⟨rfl,rfl⟩
  refine fV (decide (de.wy≠.cut/\dO de.sg=false)) ?_ ?_
  ·tm_up;rw[show decide (V.str de.wy.str=V.str (Str.ofString "cut"))=decide (de.wy=.cut) from fO de.wy .cut]
   by_cases z:de.wy=.cut
   ·rw[A' z,J' (show ¬(de.wy≠.cut/\dO de.sg=false) from fun y=>y.1 z)];exact aX ⟨rfl,rfl⟩
   rw[J' z];refine bV ?_;refine fV (!dO de.sg) ?_ ?_
   ·rw[<-Lv ok.sk];refine⟨_,rfl,_,rfl,?_⟩;cases b1:Gp de.sg with
    |false=>exact bV ⟨rfl,rfl⟩
    |true =>
     refine aX ?_;refine fV (!decide (de.sg.2=0)&&wu de.sg.1 "Rr.32") ?_ ⟨rfl,rfl⟩;refine⟨_,rfl,bD (i:=1) L1 rfl ?_⟩;tm_up;have e1:decide (V.int de.sg.2=V.int 0)=decide (de.sg.2=0):=decide_eq_decide.mpr ⟨fun z=>V.int.inj z,fun z=>Zj' V.int z⟩;rw[e1];cases b2:decide (de.sg.2=0) with
     |true=>exact aX ⟨rfl,rfl⟩
     |false =>
      refine bV ?_;refine⟨_,rfl,bD (i:=0) L1 rfl ?_⟩;tm_up;exact⟨rfl,rfl⟩
   ·refine⟨?_,rfl⟩;cases hg:dO de.sg with
    |true=>exact(J' (fun y=>nomatch y.2)).symm
    |false=>exact(A' (show de.wy≠.cut/\_ from⟨z,rfl⟩)).symm
  refine aN (fun h2=>?_) (fun h2=>?_)
  ·rw[X' (G' h2)]at q;exact q _ s1
  rw[T' (fun z=>h2 (A' z))]at q;refine mV (.str (qW (if de.wy=.put/\200<=ss.length then some .Full else none))) ?_ (q _ s1);refine fV (decide (de.wy=.put/\200<=ss.length)) ?_ ?_
  ·tm_up;rw[show decide (V.str de.wy.str=V.str (Str.ofString "put"))=decide (de.wy=.put) from fO de.wy .put]
   by_cases z:de.wy=.put
   ·rw[A' z];refine bV ?_;refine⟨_,rfl,_,rfl,d,_,rfl,g2,.inl ⟨l,ys,rfl,.inl (aM.of hl1),?_⟩⟩;tm_up;refine⟨decide_eq_decide.mpr ⟨fun y=>⟨z,?_⟩,fun y=>Zj' V.int ?_⟩,rfl⟩
    ·have:=V.int.inj y;omega
    ·have h2:=Jr _ _ (bP f1);have:=y.2;omega
   ·rw[J' z,J' (fun y=>z y.1)];exact aX ⟨rfl,rfl⟩
  by_cases z:de.wy=.put/\200<=ss.length
  ·rw[A' z,X' z];exact bV ⟨rfl,rfl⟩
  ·rw[J' z,T' z];exact aX ⟨rfl,rfl⟩
theorem j5 {st:Std}{d:De}{a:Int}(h:d.wy=.put\/d.wy=.cut\/d.wy=.swap):dS st d a=iw st.vw d.wy d.n a d.sg:=by
 unfold dS;rcases h with h|h|h <;> rw[h]
theorem zG (o:Option Rf):(decide (V.str (qW o)=V.str (Str.ofString "")))=o.isNone:=by
 cases o with
 |none=>decide +kernel
 |some r=>cases r <;> decide +kernel
theorem Oz {H:Hp}{xs:List V}{ws:List Vw}(h:Paired (Tc H) xs ws):xs.isEmpty=decide (ws=[]):=by
 cases h with
 |nil=>rfl
 |cons _ _=>exact(J' (fun z=>nomatch z)).symm
inductive vP (vs:List V)(H:Hp)(Q:VK)(E:XK):Prop
 |mk (v1 v2:V) (st:Std) (de:De) (cT:vs=[v1,v2]) (cU:BR H v1 st) (dH:ot H v2 de) (fL:Lw de) (jF:mQ st.vw) (zB:∀ H',ao H H'->Q (.str (qW (dS st de (bH st.vw de)))) H'):vP vs H Q E
theorem vQ (T:Txt K w mg t):aW P w K mg base fA (0+3) t.yj t.yk ["_law_stand","_law_deed"] vP:=by
 have xj:=vN P base T;have vR:=tE P base T;have xk:=vO P base T;refine T.qr.ok j0 ?_ ?_
 x_go
 obtain⟨v1,v2,st,de,rfl,⟨p,d,a,b,xs,ys,rfl,hp,hd,ha,px,hb,py⟩,hde,ok,w,q⟩:=h;obtain⟨p2,ps2,rfl,hp2,Cj⟩:=id hde;refine aJ (ae (pJ (i:=2) j0.nd rfl (Or.inr rfl) (aY (pv 0))) (ae (aH (aq (aS.or (aK (az hr))) (aY (pv 1)) av (aw _)) (ah (ar (bL (cz (aq (zT (az hr)) (aY (pv 0)) (a9 ag) (aw _)) av av)))) ay) (ae (aH (aq (aS.or (aK (az hr))) (aY (pv 1)) av (aw _)) (ah (ar (bL (cz (aq (zT (az hr)) (aY (pv 0)) (a9 ag) (aw _)) av av)))) ay) (ae (aH (aq (aS.or (aK (az hr))) (aY (pv 1)) av (aw _)) (ae (aH (Eb (wt (fY hr) (aY (pv 1)) (pv 2))) (ah (ar av)) ay) (ae (si (i:=3) j0.nd rfl rfl (cn:=["_law_name"]) rfl (cY.of rfl) (dz (di om rfl T.fi eZ (aa (pv 2) ag))) (fun _=>(dX (i:=0) AB rfl (Or.inl rfl))) (fun _=>(Il (bE (PW.pt (cB (aR (aD c9 rfl T.bg bf (aa (e9 (fY hr) (pv 3) (pv 0) (fun _ _=>rfl)) (aa (dW (v:=.ty "tuple") rfl T.vc tR rfl) ag)))) (cX (aq (aS.or (aK (az hr))) (bx aT (e9 (fY hr) (pv 3) (pv 0) (fun _ _=>rfl)) ai (fun _ _=>rfl)) (aY (pv 2)) (aw _)))))))) (fun _=>(pv 0))) (ah (ar (bL (cz (aq (zT (az hr)) (pv 3) (a9 ag) (aw _)) av av)))))) ay) (ae (aH (aq (bO.or bN) (aY (pv 1)) (a9 (aa av (aa av (aa av ag)))) rfl) (ah (ar (dG T.nQ xk hr (aa (pv 2) (aa (pv 1) ag))))) ay) (ae (dq 4 j0.nd (dG T.nP xj hr (aa (pv 2) (aa (aY (pv 1)) ag)))) (ae (aH (bE (PW.pt (fq (aq (hX.or (eF (az hr))) (pv 4) av (aw _)) (d7 (aq (aS.or (aK (az hr))) (aY (pv 1)) av (aw _)))))) (ah (ar (pv 4))) ay) (ah (ar (dG T.lY vR hr (aa (pv 2) (aa (pv 1) ag)))))))))))) ?_;have wl:=w.len;refine⟨_,rfl,bD (i:=0) hp rfl ?_⟩;refine⟨_,rfl,bD (i:=0) hp2 rfl ?_⟩;tm_up;rw[show decide (V.str de.wy.str=V.str (Str.ofString "undo"))=decide (de.wy=.undo) from fO de.wy .undo]
 by_cases z1:de.wy=.undo
 ·rw[A' z1];refine bV ?_;have e0:dS st de (bH st.vw de)=if st.ps=[] then some .gi else none:=by unfold dS;rw[z1]
  rw[e0]at q;refine⟨fun v H'=>v=.str (qW (if st.ps=[] then some .gi else none))/\ao H H',?_,fun v H' ⟨e1,e2⟩=>by rw[e1];exact q _ e2⟩;refine⟨_,rfl,bD (i:=1) hp rfl ?_⟩;refine⟨big (by show 0<=1000;omega),fun e1 Vb=>?_⟩;have s0:=ao.upd (o:=.lst []) Vb;refine⟨a,e1,xs,rfl,rfl,aM.of (s0 _ _ ha),aM.of af,_,rfl,?_⟩;rw[Oz px]
  by_cases zz:st.ps=[]
  ·rw[A' zz,X' zz];exact bV ⟨rfl,s0⟩
  ·rw[J' zz,T' zz];exact aX ⟨rfl,s0⟩
 rw[J' z1];refine aX ?_;refine⟨_,rfl,bD (i:=0) hp2 rfl ?_⟩;tm_up;rw[show decide (V.str de.wy.str=V.str (Str.ofString "redo"))=decide (de.wy=.lh) from fO de.wy .lh]
 by_cases z2:de.wy=.lh
 ·rw[A' z2];refine bV ?_;have e0:dS st de (bH st.vw de)=if st.fs=[] then some .gi else none:=by unfold dS;rw[z2]
  rw[e0]at q;refine⟨fun v H'=>v=.str (qW (if st.fs=[] then some .gi else none))/\ao H H',?_,fun v H' ⟨e1,e2⟩=>by rw[e1];exact q _ e2⟩;refine⟨_,rfl,bD (i:=2) hp rfl ?_⟩;refine⟨big (by show 0<=1000;omega),fun e1 Vb=>?_⟩;have s0:=ao.upd (o:=.lst []) Vb;refine⟨b,e1,ys,rfl,rfl,aM.of (s0 _ _ hb),aM.of af,_,rfl,?_⟩;rw[Oz py]
  by_cases zz:st.fs=[]
  ·rw[A' zz,X' zz];exact bV ⟨rfl,s0⟩
  ·rw[J' zz,T' zz];exact aX ⟨rfl,s0⟩
 rw[J' z2];refine aX ?_;refine⟨_,rfl,bD (i:=0) hp2 rfl ?_⟩;tm_up;rw[show decide (V.str de.wy.str=V.str (Str.ofString "drop"))=decide (de.wy=.drop) from fO de.wy .drop]
 by_cases z3:de.wy=.drop
 ·rw[A' z3];refine bV ?_;have e0:dS st de (bH st.vw de)=gU st.vw de.n:=by unfold dS;rw[z3]
  rw[e0]at q;unfold gU at q;refine⟨_,rfl,bD (i:=1) hp2 rfl ?_⟩;rcases hd.look de.n with ⟨f1,g1⟩|⟨th,v1,f1,g1,t1⟩
  ·rw[f1]at q;exact⟨_,rfl,d,_,rfl,g1,_,rfl,bV (q _ (ao.refl _))⟩
  rw[f1]at q;refine⟨_,rfl,d,_,rfl,g1,_,rfl,aX ?_⟩;obtain⟨kvs,hk,ek⟩:=hd.keys;refine⟨_,rfl,rfl,d,kvs,rfl,.inl hk,fun l0 hl0=>?_⟩;rw[ek];have s1:=ao.upd (o:=.lst (st.vw.map fun q=>V.str q.1)) hl0;have h1:=af (H:=H) (a:=l0) (o:=.lst (st.vw.map fun q=>V.str q.1));generalize upd H l0 (.lst (st.vw.map fun q=>V.str q.1))=H1 at s1 h1;refine⟨l0,rfl,⟨_,aM.of h1⟩,fun D b0 hD=>?_⟩;refine fH (K:=K) (xs:=st.vw.map fun q=>V.str q.1) (fun i zs σ H'=>∃ v,σ=[v,some (.ref p),some (.ref p2),some (.ref d),none,none]/\ao H1 H'/\H' D=some (.lst zs)/\zs=((st.vw.take i).filter (kh de.n)).map fun q=>V.str q.1) ⟨none,rfl,ao.upd hD,af,rfl⟩ ?_ ?_ ?_
  ·rintro i zs σ H' ⟨v,rfl,s2,_⟩;exact aM.of (s2 _ _ h1)
  ·rintro i zs y σ H' hy ⟨v,rfl,s2,DS,rfl⟩ N hN;obtain⟨⟨m,th⟩,hq,rfl⟩:∃ qn,st.vw[i]? = some qn/\y=.str qn.1:=by
    rw[Zd']at hy;cases e:st.vw[i]? with
    |none=>rw[e]at hy;cases hy
    |some z=>rw[e]at hy;exact⟨z,rfl,(Z' hy).symm⟩
   have hm:=Zf' hq;have hi:i<st.vw.length:=(K'.mp hq).1;have s12:=s1.trans s2;obtain⟨v',g',t'⟩:=(hd.same s12).get (w.find hm);unfold xu;refine fV (kh de.n (m,th)) ?_ ?_
   ·refine⟨_,rfl,_,rfl,d,_,rfl,g',?_⟩;cases th with
    |pl ss =>
     obtain⟨l,zs,rfl,hl,_⟩:=t';exact⟨_,_,_,_,rfl,fu.lst hl,rfl,_,rfl,aX ⟨rfl,rfl⟩⟩
    |cn ld lt sl tn =>
     obtain⟨pt,rfl,DV⟩:=t';refine⟨_,_,_,_,rfl,fu.tup DV,rfl,_,rfl,bV ?_⟩;refine⟨_,rfl,_,rfl,d,_,rfl,g',bD (i:=0) DV rfl ?_⟩;refine⟨_,rfl,bD (i:=1) (s12 _ _ hp2) rfl ?_⟩;refine .inl ⟨rfl,_,rfl,?_,rfl⟩;exact decide_eq_decide.mpr ⟨fun z=>V.str.inj z,fun z=>Zj' V.str z⟩
   have e4:(st.vw.take (i+1)).filter (kh de.n)=(st.vw.take i).filter (kh de.n)++(if kh de.n (m,th)=true then [(m,th)] else []):=by
    rw[take_succ,hq,List.filter_append]
    congr 1
    show List.filter _ [(m,th)]=_;cases hb3:kh de.n (m,th) with
    |true=>rw[List.filter_cons_of_pos hb3];rfl
    |false=>rw[List.filter_cons_of_neg (by rw[hb3];decide)];rfl
   cases hb2:kh de.n (m,th) with
   |true =>
    rw[hb2,X' rfl]at e4;refine bV ⟨_,rfl,DS,?_,hN _ _ _ ⟨_,rfl,cZ s2 hD,af,?_⟩⟩
    ·rw[L'];refine aL (Zb' (List.length_filter_le _ _) ?_);rw[Zo'];omega
    ·rw[e4,map_append];rfl
   |false =>
    rw[hb2,T' (by decide),append_nil]at e4;exact aX (hN _ _ _ ⟨_,rfl,s2,DS,by rw[e4]⟩)
  ·rintro zs σ H' ⟨v,rfl,s2,DS,rfl⟩;rw[L',take_length]at DS;refine⟨fun v zw=>v=.str (qW (if leans st.vw de.n=true then some .p5 else none))/\ao H' zw,?_,fun v zw ⟨e1,e2⟩=>by rw[e1];exact q _ ((s1.trans s2).trans e2)⟩;refine⟨_,rfl,big (by show 0<=1000;omega),fun e1 Vb=>?_⟩;have s0:=ao.upd (o:=.lst []) Vb;refine⟨D,e1,_,rfl,rfl,aM.of (s0 _ _ DS),aM.of af,_,rfl,?_⟩;have e5:(((st.vw.filter (kh de.n)).map fun q=>V.str q.1).isEmpty=true) ↔ leans st.vw de.n=false:=by
    rw[List.isEmpty_iff,List.map_eq_nil_iff,List.filter_eq_nil_iff];exact⟨fun z=>List.any_eq_false.mpr z,fun z=>List.any_eq_false.mp z⟩
   refine aN (fun z=>?_) (fun z=>?_)
   ·rw[e5.mp z];exact⟨rfl,s0⟩
   ·cases zl:leans st.vw de.n with
    |false=>exact S' (e5.mpr zl) z
    |true=>exact⟨rfl,s0⟩
 rw[J' z3];refine aX ?_;refine⟨_,rfl,bD (i:=0) hp2 rfl ?_⟩;refine⟨big (by show 3<=1000;omega),fun l0 hl0=>?_⟩;have s1:=ao.upd (o:=.lst [V.str "put",V.str "cut",V.str "swap"]) hl0;have h1:=af (H:=H) (a:=l0) (o:=.lst [V.str "put",V.str "cut",V.str "swap"]);generalize upd H l0 (.lst [V.str "put",V.str "cut",V.str "swap"])=H1 at s1 h1;refine .inl ⟨l0,_,rfl,.inl (aM.of h1),rfl,rfl,_,rfl,?_⟩;have hd1:=hd.same s1;have Vc:=hde.same s1;have Vd:=s1 _ _ hp2;rw[show inV (V.str de.wy.str) [V.str "put",V.str "cut",V.str "swap"]=decide (de.wy=.put\/de.wy=.cut\/de.wy=.swap) by cases de.wy <;> decide +kernel]
 by_cases z4:de.wy=.put\/de.wy=.cut\/de.wy=.swap
 ·rw[A' z4];refine bV ?_;rw[j5 z4]at q;refine⟨_,rfl,_,rfl,d,_,st.vw,de,rfl,hd1,Vc,ok,z4,fun n ss hm=>(w.gd n ss hm).1,fun H2 s2=>q _ (s1.trans s2)⟩
 rw[J' z4];refine aX ?_;refine⟨_,rfl,_,rfl,bD (i:=1) Vd rfl ?_⟩;refine⟨d,st.vw,de.n,rfl,hd1,ok.nl,wl,?_⟩;have z5:de.wy=.add\/de.wy=.canon:=by
  cases hw:de.wy with
  |put=>exact S' (.inl hw) z4
  |cut=>exact S' (.inr (.inl hw)) z4
  |swap=>exact S' (.inr (.inr hw)) z4
  |add=>exact .inl rfl
  |canon=>exact .inr rfl
  |drop=>exact S' hw z3
  |undo=>exact S' hw z1
  |lh=>exact S' hw z2
 refine fV (!(bY st.vw de.n).isNone||decide (de.wy=.add)) ?_ ?_
 ·tm_up;rw[zG];cases hn:(bY st.vw de.n).isNone with
  |false=>exact bV ⟨rfl,rfl⟩
  |true =>
   refine aX ?_;refine⟨_,rfl,bD (i:=0) Vd rfl ?_⟩;tm_up;exact⟨fO de.wy .add,rfl⟩
 cases hn:bY st.vw de.n with
 |some r =>
  have e0:dS st de (bH st.vw de)=some r:=by
   unfold dS;rcases z5 with z|z <;> rw[z]
   ·exact hn
   ·show(match bY st.vw de.n with|some r=>some r|none=>_)=_;rw[hn]
  rw[e0]at q;exact bV ⟨_,rfl,q _ s1⟩
 |none =>
  rcases z5 with z|z
  ·have e0:dS st de (bH st.vw de)=none:=by
    unfold dS;rw[z];exact hn
   rw[e0]at q;rw[A' z];exact bV ⟨_,rfl,q _ s1⟩
  ·have e0:dS st de (bH st.vw de)=dP st.vw de.ld de.lt de.sl:=by
    unfold dS;rw[z];show(match bY st.vw de.n with|some r=>some r|none=>_)=_;rw[hn]
   rw[e0]at q;rw[J' (show ¬ de.wy=.add by rw[z];decide)];exact aX ⟨_,rfl,_,rfl,d,_,st.vw,de,rfl,hd1,Vc,q _ s1⟩
inductive yR (c:Cs)(vs:List V)(H:Hp)(Q:VK)(E:XK):Prop
 |mk (x:Addr) (F:Addr->Prop) (vw:Vw) (ps fs:List Vw) (n:Str) (i:Int) (cT:vs=[.ref x,.str n,.int i]) (cU:n6 c H x F vw ps fs) (dH:ps.length<=900) (fL:match aO vw n with
 |none=>RX E c .dm H
 |some (.cn _ _ _ _)=>RX E c .eJ H
 |some (.pl ss)=>(¬(0<=i/\i<=(ss.length:Int)-1)->RX E c .jY H) /\
  ((0<=i/\i<=(ss.length:Int)-1)->∀(s:Sg)(w:Addr) F' H',ss[i.toNat]? = some s->H' w=some (.tup (ED (ss.take i.toNat++[]++ss.drop (i.toNat+1)) i.toNat i.toNat [s]))->Gr F F' H->Fr F H H'->n6 c H' x F' (kg vw n (.pl (ss.take i.toNat++[]++ss.drop (i.toNat+1)))) (ps++[vw]) []->Q (.ref w) H')):yR c vs H Q E
theorem Sm {α:Type}{xs:List α}{i:Nat}{y:α}(h:xs[i]? = some y):xs.drop i=y::xs.drop (i+1):=by
 obtain⟨h1,h2⟩:=K'.mp h;rw[List.drop_eq_getElem_cons h1,h2]
theorem Hs (T:Txt K w mg t):aW P w K mg base (eU P w) (0+4) t.AN t.AO ["self","name","at"] (yR (cs t)):=by
 have cS:=fm P base T;have cI:=fF P base T;have qF:=xg P base T;have cy:=eB P base T;have cq:=eR P base T;refine T.kH.CF ju ?_ ?_
 x_go
 obtain⟨x,F,vw,ps,fs,n,iz,rfl,B,hps,q⟩:=h;refine aJ (ae (dq 3 ju.nd (bQ (bT (X:=(nJ T.kH.1 ju (eU P w) P w mg base cdv A outer s H E)) (pv 0) T.aI T.bo.me cy (fQ hr) T.bo.b .nil (fun _ _ z=>Or.inl z) (aa (pv 1) ag)) rfl)) (ae (aP (mX (X:=(nJ T.kH.1 ju (eU P w) P w mg base cdv A outer s H E)) cS (fQ hr) rfl T.aU.g T.aU.kp T.aU.b .nil (fun _ _ z=>Or.inl z) (aa (pv 2) (aa (aE eW (aD (aB.or aC) rfl T.bu br (aa (pv 3) ag)) ai) ag)))) (ae (dq 4 ju.nd (bx aT (pv 3) (pv 2) (fun _ _=>rfl))) (ae (aP (dZ (pv 0) T.aI T.bX.me cI (fQ hr) T.bX.b .nil dN (aa (oi T.bR.PN cq (fQ hr) rfl T.va T.bR.b .nil dN (aa (pv 3) (aa (pv 2) (aa (a9 (aa (pv 4) ag)) (aa (a9 ag) ag))))) ag))) (ah (ar (dG T.vd qF hr (aa (pv 3) (aa (pv 2) (aa (pv 2) (aa (a9 (aa (pv 4) ag)) ag))))))))))) ?_;obtain⟨L,D,U,all,M,Ps,Fs,es,us,b,iM,pp,pf,f⟩:=B.ex;obtain⟨dx,hx⟩:=b.hx;obtain⟨vx,g,gv⟩:=b.oq iM;obtain⟨ds,hD,pD⟩:=b.hD;obtain⟨ux,hU,pU⟩:=b.hU;have dl:=bM pD;have pl:=bM pp;have pe:=b.past.len;refine⟨_,rfl,x,dx,_,rfl,hx,fc _ _ _,_,rfl,x,dx,L,D,U,M L,vx,n,rfl,hx,b.hL,g,?_⟩;rcases xC gv (fun _ _ r=>r.2.1) n with ⟨f1,f2⟩|⟨a,th,j,f1,f2,r,an,fj,fw⟩
 ·rw[f1];rw[f2]at q;exact q
 rw[f1];rw[f2]at q;subst an;cases th with
 |cn ld lt sl tn =>
  obtain⟨pt,DV,_⟩:=r.2.2;refine⟨fun z=>?_,fun _ _=>q,.inr ⟨pt,DV⟩⟩;rw[DV]at z;cases z
 |pl ss =>
  obtain⟨Fq,hg⟩:=r.2.2;obtain⟨q1,q4⟩:=q;have haa:=r.1;obtain⟨ha,hl⟩:=b.ha a haa;have yl:=bM hg;have hj:(M L)[j]? = some (.ref a.o):=by
   obtain⟨v,hv,e1,_⟩:=lq g fj;rw[<-e1];exact hv
  refine⟨fun _=>?_,(fun pz z=>by rw[Fq]at z;cases z),.inl Fq⟩;refine⟨a.o,_,a.d,_,_,rfl,ha,T.d4,T.eP,m6 _ _ _,?_⟩;refine⟨_,rfl,_,rfl,.inl ⟨a.l,M a.l,rfl,.inl (aM.of hl),?_⟩⟩;refine⟨_,_,rfl,rfl,?_⟩;refine⟨iz,((M a.l).length:Int)-1,rfl,fun hi=>?_,fun hi=>?_⟩
  rotate_left
  ·have q:=q1 (by rw[<-yl];exact hi);exact q
  rw[yl]at hi;obtain⟨i,rfl⟩:∃ i:Nat,iz=(i:Int):=⟨iz.toNat,by omega⟩;have hi:i<ss.length:=by omega
  have hlt:ss.length<=200:=((B.wv vw (.inr (.inl rfl))).gd _ _ (Zf' fw)).1;have q4:=q4 (by omega);rw[Int.toNat_natCast]at q4;obtain⟨Ve,hsg⟩:∃ sg,ss[i]? = some sg:=⟨_,N' hi⟩;obtain⟨vp,So,p0,rfl,hp0⟩:=lq hg hsg;refine⟨_,rfl,_,rfl,tS (aM.of hl) (n:=i) rfl So ?_⟩;refine⟨_,rfl,x,dx,_,rfl,hx,gh _ _ _,?_⟩;refine⟨_,rfl,_,rfl,_,rfl,big (by show 1<=1000;omega),fun B' hB=>?_⟩;refine⟨big (by show 0<=1000;omega),fun A_ hA=>?_⟩;have Jh:=tY hA;have sB:=(ao.upd (o:=.lst [V.ref p0]) hB).trans (ao.upd (o:=.lst []) hA);have hB2:=ao.upd (o:=.lst []) hA _ _ (af (H:=H) (a:=B') (o:=.lst [V.ref p0]));have E3:=af (H:=upd H B' (.lst [V.ref p0])) (a:=A_) (o:=.lst []);have lA:a.l≠A_:=au hl Jh;generalize upd (upd H B' (.lst [V.ref p0])) A_ (.lst [])=H2 at sB hB2 E3;intro d dd nd PV ne;refine⟨d,dd,a.l,(i:Int),B',A_,rfl,af,rfl,?_⟩;rw[cR];have s3:ao H2 (upd (upd H2 dd (.own d)) d (.ins t.cv dd (xy a.l (i:Int) B' A_))):=fun y o hy=>by
   rw[ak (au hy nd),ak (au hy PV)];exact hy
  have E4:=af (H:=upd H2 dd (.own d)) (a:=d) (o:=.ins t.cv dd (xy a.l (i:Int) B' A_));generalize upd (upd H2 dd (.own d)) d (.ins t.cv dd (xy a.l (i:Int) B' A_))=H3 at s3 E4;have s4:=sB.trans s3;obtain⟨_,d1,d2⟩:=b.lists (.inr ⟨a,haa,rfl⟩);refine⟨x,dx,L,D,U,d,dd,a.l,B',A_,i,ds,ux,M a.l,[.ref p0],[],rfl,s4 _ _ hx,s4 _ _ hD,s4 _ _ hU,E4,s4 _ _ hl,s3 _ _ hB2,s3 _ _ E3,lA,d1,d2,b.DU,by simp;omega,by simp;omega,by omega,?_⟩;have hM:n5 ⟨d,dd,a.l,i,B',A_,[.ref p0],[]⟩ M a.l=(M a.l).take i++[]++(M a.l).drop (i+1):=eh;have keep:∀ y o,H3 y=some o->y≠a.l->y≠D->y≠U->(upd (upd (upd H3 a.l (.lst ((M a.l).take i++[]++(M a.l).drop (i+1)))) D (.lst (ds++[.ref d]))) U (.lst [])) y=some o:=fun y o hy y1 y2 y3=>by
   rw[ak y3,ak y2,ak y1];exact hy
  have k1:(upd (upd (upd H3 a.l (.lst ((M a.l).take i++[]++(M a.l).drop (i+1)))) D (.lst (ds++[.ref d]))) U (.lst [])) a.l=some (.lst ((M a.l).take i++[]++(M a.l).drop (i+1))):=by
   rw[ak d2,ak d1,af]
  have k2:(upd (upd (upd H3 a.l (.lst ((M a.l).take i++[]++(M a.l).drop (i+1)))) D (.lst (ds++[.ref d]))) U (.lst [])) D=some (.lst (ds++[.ref d])):=by
   rw[ak b.DU,af]
  have k3:(upd (upd (upd H3 a.l (.lst ((M a.l).take i++[]++(M a.l).drop (i+1)))) D (.lst (ds++[.ref d]))) U (.lst [])) U=some (.lst []):=af;generalize (upd (upd (upd H3 a.l (.lst ((M a.l).take i++[]++(M a.l).drop (i+1)))) D (.lst (ds++[.ref d]))) U (.lst []))=H4 at keep k1 k2 k3;have g3:=hg.same s4;have QO:ig H3 ((M a.l).take i++[]++(M a.l).drop (i+1)) (ss.take i++[]++ss.drop (i+1)):=qU (qU (pW i g3) .nil) (rq (i+1) g3);obtain⟨F',gr,fr,B4⟩:=Bk.NI b iM pp f B.wv haa hj fw Fq (e:=⟨d,dd,a.l,i,B',A_,[.ref p0],[]⟩) rfl ⟨by show i+1<=(M a.l).length;omega,by rw[show([V.ref p0]:List V).length=1 from rfl,Sm So];rfl⟩ (by simp) (by simp) s4 hB Jh ⟨rfl,E4,s3 _ _ hB2,s3 _ _ E3⟩ (by rw[hM];exact QO) (by simp;omega) (fun s hs=>by
   have wg:=((B.wv vw (.inr (.inl rfl))).gd _ _ (Zf' fw)).2;rcases Zp'.mp hs with hs|hs
   ·rcases Zp'.mp hs with hs|hs
    ·exact wg s (List.mem_of_mem_take hs)
    ·cases hs
   ·exact wg s (List.mem_of_mem_drop hs)) hD pD keep (by rw[hM];exact k1) k2 k3
  have nT:∀{y us},H3 y=some (.tup us)->H4 y=some (.tup us):=fun {y us} hy=>keep y _ hy (fX hy (s4 _ _ hl) (by intro z;cases z)) (fX hy (s4 _ _ hD) (by intro z;cases z)) (fX hy (s4 _ _ hU) (by intro z;cases z));have UU:ig H4 ((M a.l).take i++[]++(M a.l).drop (i+1)) (ss.take i++[]++ss.drop (i+1)):=bZ (fun _ _ ⟨z,e1,e2⟩=>⟨z,e1,nT e2⟩) QO;refine⟨_,rfl,_,rfl,_,rfl,_,rfl,big (by show 1<=1000;omega),fun lc UW=>?_⟩;have sc:=ao.upd (o:=.lst [V.ref p0]) UW;refine⟨a.l,lc,_,[.ref p0],ss.take i++[]++ss.drop (i+1),[Ve],i,i,rfl,aM.of (sc _ _ k1),UU.same sc,by simp;omega,by simp;omega,by simp;omega,aM.of af,.cons ⟨p0,rfl,sc _ _ (nT (s4 _ _ hp0))⟩ .nil,by simp,fun w H5 s5 UX=>?_⟩;have s6:=sc.trans s5;exact q4 Ve w F' H5 hsg UX gr (fun y o hy hn=>s6 _ _ (fr y o hy hn)) (B4.same s6)
inductive vS (c:Cs)(vs:List V)(H:Hp)(Q:VK)(E:XK):Prop
 |mk (x:Addr) (F:Addr->Prop) (vw:Vw) (ps fs:List Vw) (n:Str) (i:Int) (p:Addr) (sn:Sn) (cT:vs=[.ref x,.str n,.int i,.ref p]) (cU:n6 c H x F vw ps fs) (dH:H p=some (.tup [.str sn.1,.int sn.2])) (fL:ps.length<=900) (jF:match aO vw n with
 |none=>RX E c .dm H
 |some (.cn _ _ _ _)=>RX E c .eJ H
 |some (.pl ss)=>(¬(0<=i/\i<=(ss.length:Int)-1)->RX E c .jY H)/\((0<=i/\i<=(ss.length:Int)-1)->dO sn=false->RX E c .lz H) /\
  ((0<=i/\i<=(ss.length:Int)-1)->dO sn=true->∀(s s0:Sg)(w:Addr) F' H',s.1.str=sn.1->s.2=sn.2->ss[i.toNat]? = some s0->H' w=some (.tup (ED (ss.take i.toNat++[s]++ss.drop (i.toNat+1)) i.toNat (i.toNat+1) [s0,s]))->Gr F F' H->Fr F H H'->n6 c H' x F' (kg vw n (.pl (ss.take i.toNat++[s]++ss.drop (i.toNat+1)))) (ps++[vw]) []->Q (.ref w) H')):vS c vs H Q E
theorem Vf {α:Type}{xs:List α}{i:Nat}{y:α}(h:xs[i]? = some y):xs.drop i=y::xs.drop (i+1):=by
 obtain⟨h1,h2⟩:=K'.mp h;rw[List.drop_eq_getElem_cons h1,h2]
theorem Fd (T:Txt K w mg t):aW P w K mg base (eU P w) (0+4) t.ym t.yn ["self","name","at","sign"] (vS (cs t)):=by
 have cS:=fm P base T;have iH:=kQ P base T;have cI:=fF P base T;have qF:=xg P base T;have cy:=eB P base T;have cq:=eR P base T;refine T.ic.CF gx ?_ ?_
 x_go
 obtain⟨x,F,vw,ps,fs,n,iz,p,sn,rfl,B,hp,hps,q⟩:=h;refine aJ (ae (dq 4 gx.nd (bQ (bT (X:=(nJ T.ic.1 gx (eU P w) P w mg base cdv A outer s H E)) (pv 0) T.aI T.bo.me cy (fQ hr) T.bo.b .nil (fun _ _ z=>Or.inl z) (aa (pv 1) ag)) rfl)) (ae (aP (mX (X:=(nJ T.ic.1 gx (eU P w) P w mg base cdv A outer s H E)) cS (fQ hr) rfl T.aU.g T.aU.kp T.aU.b .nil (fun _ _ z=>Or.inl z) (aa (pv 2) (aa (aE eW (aD (aB.or aC) rfl T.bu br (aa (pv 4) ag)) ai) ag)))) (ae (aP (mX (X:=(nJ T.ic.1 gx (eU P w) P w mg base cdv A outer s H E)) iH (fQ hr) rfl T.cj.g T.cj.kp T.cj.b .nil (fun _ _ z=>Or.inl z) (aa (pv 3) ag))) (ae (dq 5 gx.nd (bx aT (pv 4) (pv 2) (fun _ _=>rfl))) (ae (aP (dZ (pv 0) T.aI T.bX.me cI (fQ hr) T.bX.b .nil dN (aa (oi T.bR.PN cq (fQ hr) rfl T.va T.bR.b .nil dN (aa (pv 4) (aa (pv 2) (aa (a9 (aa (pv 5) ag)) (aa (a9 (aa (pv 3) ag)) ag))))) ag))) (ah (ar (dG T.vd qF hr (aa (pv 4) (aa (pv 2) (aa (aE (bp.or (aF.or bq)) (pv 2) ai) (aa (a9 (aa (pv 5) (aa (pv 3) ag))) ag)))))))))))) ?_;obtain⟨L,D,U,all,M,Ps,Fs,es,us,b,iM,pp,pf,f⟩:=B.ex;obtain⟨dx,hx⟩:=b.hx;obtain⟨vx,g,gv⟩:=b.oq iM;obtain⟨ds,hD,pD⟩:=b.hD;obtain⟨ux,hU,pU⟩:=b.hU;have dl:=bM pD;have pl:=bM pp;have pe:=b.past.len;refine⟨_,rfl,x,dx,_,rfl,hx,fc _ _ _,_,rfl,x,dx,L,D,U,M L,vx,n,rfl,hx,b.hL,g,?_⟩;rcases xC gv (fun _ _ r=>r.2.1) n with ⟨f1,f2⟩|⟨a,th,j,f1,f2,r,an,fj,fw⟩
 ·rw[f1];rw[f2]at q;exact q
 rw[f1];rw[f2]at q;subst an;cases th with
 |cn ld lt sl tn =>
  obtain⟨pt,DV,_⟩:=r.2.2;refine⟨fun z=>?_,fun _ _=>q,.inr ⟨pt,DV⟩⟩;rw[DV]at z;cases z
 |pl ss =>
  obtain⟨Fq,hg⟩:=r.2.2;obtain⟨q1,q2,q4⟩:=q;have haa:=r.1;obtain⟨ha,hl⟩:=b.ha a haa;have yl:=bM hg;have hj:(M L)[j]? = some (.ref a.o):=by
   obtain⟨v,hv,e1,_⟩:=lq g fj;rw[<-e1];exact hv
  refine⟨fun _=>?_,(fun pz z=>by rw[Fq]at z;cases z),.inl Fq⟩;refine⟨a.o,_,a.d,_,_,rfl,ha,T.d4,T.eP,m6 _ _ _,?_⟩;refine⟨_,rfl,_,rfl,.inl ⟨a.l,M a.l,rfl,.inl (aM.of hl),?_⟩⟩;refine⟨_,_,rfl,rfl,?_⟩;refine⟨iz,((M a.l).length:Int)-1,rfl,fun hi=>?_,fun hi=>?_⟩
  rotate_left
  ·have q:=q1 (by rw[<-yl];exact hi);exact q
  rw[yl]at hi;refine⟨_,rfl,p,sn,rfl,hp,fun hgd=>?_,fun hgd=>?_⟩
  rotate_left
  ·have q:=q2 hi hgd;exact q
  obtain⟨sg,e1,e2,gt⟩:=EB hgd;rw[<-e1,<-e2]at hp;obtain⟨i,rfl⟩:∃ i:Nat,iz=(i:Int):=⟨iz.toNat,by omega⟩;have hi:i<ss.length:=by omega
  have hlt:ss.length<=200:=((B.wv vw (.inr (.inl rfl))).gd _ _ (Zf' fw)).1;have q4:=q4 (by omega) hgd sg;rw[Int.toNat_natCast]at q4;obtain⟨Ve,hsg⟩:∃ sg,ss[i]? = some sg:=⟨_,N' hi⟩;obtain⟨vp,So,p0,rfl,hp0⟩:=lq hg hsg;refine⟨_,rfl,_,rfl,tS (aM.of hl) (n:=i) rfl So ?_⟩;refine⟨_,rfl,x,dx,_,rfl,hx,gh _ _ _,?_⟩;refine⟨_,rfl,_,rfl,_,rfl,big (by show 1<=1000;omega),fun B' hB=>?_⟩;refine⟨_,rfl,big (by show 1<=1000;omega),fun A_ hA=>?_⟩;have Jh:=tY hA;have sB:=(ao.upd (o:=.lst [V.ref p0]) hB).trans (ao.upd (o:=.lst [V.ref p]) hA);have hB2:=ao.upd (o:=.lst [V.ref p]) hA _ _ (af (H:=H) (a:=B') (o:=.lst [V.ref p0]));have E3:=af (H:=upd H B' (.lst [V.ref p0])) (a:=A_) (o:=.lst [V.ref p]);have lA:a.l≠A_:=au hl Jh;generalize upd (upd H B' (.lst [V.ref p0])) A_ (.lst [V.ref p])=H2 at sB hB2 E3;intro d dd nd PV ne;refine⟨d,dd,a.l,(i:Int),B',A_,rfl,af,rfl,?_⟩;rw[cR];have s3:ao H2 (upd (upd H2 dd (.own d)) d (.ins t.cv dd (xy a.l (i:Int) B' A_))):=fun y o hy=>by
   rw[ak (au hy nd),ak (au hy PV)];exact hy
  have E4:=af (H:=upd H2 dd (.own d)) (a:=d) (o:=.ins t.cv dd (xy a.l (i:Int) B' A_));generalize upd (upd H2 dd (.own d)) d (.ins t.cv dd (xy a.l (i:Int) B' A_))=H3 at s3 E4;have s4:=sB.trans s3;obtain⟨_,d1,d2⟩:=b.lists (.inr ⟨a,haa,rfl⟩);refine⟨x,dx,L,D,U,d,dd,a.l,B',A_,i,ds,ux,M a.l,[.ref p0],[.ref p],rfl,s4 _ _ hx,s4 _ _ hD,s4 _ _ hU,E4,s4 _ _ hl,s3 _ _ hB2,s3 _ _ E3,lA,d1,d2,b.DU,by simp;omega,by simp;omega,by omega,?_⟩;have hM:n5 ⟨d,dd,a.l,i,B',A_,[.ref p0],[.ref p]⟩ M a.l=(M a.l).take i++[.ref p]++(M a.l).drop (i+1):=eh;have keep:∀ y o,H3 y=some o->y≠a.l->y≠D->y≠U->(upd (upd (upd H3 a.l (.lst ((M a.l).take i++[.ref p]++(M a.l).drop (i+1)))) D (.lst (ds++[.ref d]))) U (.lst [])) y=some o:=fun y o hy y1 y2 y3=>by
   rw[ak y3,ak y2,ak y1];exact hy
  have k1:(upd (upd (upd H3 a.l (.lst ((M a.l).take i++[.ref p]++(M a.l).drop (i+1)))) D (.lst (ds++[.ref d]))) U (.lst [])) a.l=some (.lst ((M a.l).take i++[.ref p]++(M a.l).drop (i+1))):=by
   rw[ak d2,ak d1,af]
  have k2:(upd (upd (upd H3 a.l (.lst ((M a.l).take i++[.ref p]++(M a.l).drop (i+1)))) D (.lst (ds++[.ref d]))) U (.lst [])) D=some (.lst (ds++[.ref d])):=by
   rw[ak b.DU,af]
  have k3:(upd (upd (upd H3 a.l (.lst ((M a.l).take i++[.ref p]++(M a.l).drop (i+1)))) D (.lst (ds++[.ref d]))) U (.lst [])) U=some (.lst []):=af;generalize (upd (upd (upd H3 a.l (.lst ((M a.l).take i++[.ref p]++(M a.l).drop (i+1)))) D (.lst (ds++[.ref d]))) U (.lst []))=H4 at keep k1 k2 k3;have g3:=hg.same s4;have QO:ig H3 ((M a.l).take i++[.ref p]++(M a.l).drop (i+1)) (ss.take i++[sg]++ss.drop (i+1)):=qU (qU (pW i g3) (.cons ⟨p,rfl,s4 _ _ hp⟩ .nil)) (rq (i+1) g3);obtain⟨F',gr,fr,B4⟩:=Bk.NI b iM pp f B.wv haa hj fw Fq (e:=⟨d,dd,a.l,i,B',A_,[.ref p0],[.ref p]⟩) rfl ⟨by show i+1<=(M a.l).length;omega,by rw[show([V.ref p0]:List V).length=1 from rfl,Vf So];rfl⟩ (by simp) (by simp) s4 hB Jh ⟨rfl,E4,s3 _ _ hB2,s3 _ _ E3⟩ (by rw[hM];exact QO) (by simp;omega) (fun s hs=>by
   have wg:=((B.wv vw (.inr (.inl rfl))).gd _ _ (Zf' fw)).2;rcases Zp'.mp hs with hs|hs
   ·rcases Zp'.mp hs with hs|hs
    ·exact wg s (List.mem_of_mem_take hs)
    ·rw[Zg'.mp hs];exact gt
   ·exact wg s (List.mem_of_mem_drop hs)) hD pD keep (by rw[hM];exact k1) k2 k3
  have nT:∀{y us},H3 y=some (.tup us)->H4 y=some (.tup us):=fun {y us} hy=>keep y _ hy (fX hy (s4 _ _ hl) (by intro z;cases z)) (fX hy (s4 _ _ hD) (by intro z;cases z)) (fX hy (s4 _ _ hU) (by intro z;cases z));have UU:ig H4 ((M a.l).take i++[.ref p]++(M a.l).drop (i+1)) (ss.take i++[sg]++ss.drop (i+1)):=bZ (fun _ _ ⟨z,e1,e2⟩=>⟨z,e1,nT e2⟩) QO;refine⟨_,rfl,_,rfl,_,rfl,.inl ⟨_,_,rfl,rfl,_,rfl,_,rfl,big (by show 2<=1000;omega),fun lc UW=>?_⟩⟩;have sc:=ao.upd (o:=.lst [V.ref p0,V.ref p]) UW;refine⟨a.l,lc,_,[.ref p0,.ref p],ss.take i++[sg]++ss.drop (i+1),[Ve,sg],i,i+1,rfl,aM.of (sc _ _ k1),UU.same sc,by simp;omega,by simp;omega,by simp;omega,aM.of af,.cons ⟨p0,rfl,sc _ _ (nT (s4 _ _ hp0))⟩ (.cons ⟨p,rfl,sc _ _ (nT (s4 _ _ hp))⟩ .nil),by simp,fun w H5 s5 UX=>?_⟩;have s6:=sc.trans s5;exact q4 Ve w F' H5 e1 e2 hsg UX gr (fun y o hy hn=>s6 _ _ (fr y o hy hn)) (B4.same s6)
theorem Fe {K:Frag}{H:Hp}{p:Addr}{a b c d:V}{i:Nat}{v:V}{Q:VK}(h:H p=some (.tup [a,b,c,d]))(e:[a,b,c,d][i]? = some v)(q:Q v H):Eg K (.ref p) (.int (i:Int)) H Q\/Eh K (.ref p) (.int (i:Int)) H Q\/Ei (.ref p) (.int (i:Int)) H Q:=.inr (.inl ⟨p,_,i,v,rfl,rfl,jf.of h,qM e,q⟩)
inductive vT (c:Cs)(vs:List V)(H:Hp)(Q:VK)(E:XK):Prop
 |mk (x:Addr) (F:Addr->Prop) (vw:Vw) (ps fs:List Vw) (n:Str) (cT:vs=[.ref x,.str n]) (cU:n6 c H x F vw ps fs) (dH:ps.length<=900) (fL:match aO vw n with
 |none=>RX E c .dm H
 |some _=>(leans vw n=true->∀ H',ao H H'->RX E c .p5 H')/\(leans vw n=false->∀ F' H',Gr F F' H->Fr F H H'->n6 c H' x F' (iL vw n) (ps++[vw]) []->Q .non H')):vT c vs H Q E
theorem Ff (T:Txt K w mg t):aW P w K mg base (eU P w) (0+3) t.yo t.yp ["self","name"] (vT (cs t)):=by
 have bI:=dh P base T;have cI:=fF P base T;have cq:=eR P base T;have d6:=jm P base T;refine T.jB.CF j1 ?_ ?_
 x_go
 obtain⟨x,F,vw,ps,fs,n,rfl,B,hps,q⟩:=h;refine aJ (ae (dq 2 j1.nd (bT (X:=(nJ T.jB.1 j1 (eU P w) P w mg base cdv A outer s H E)) (pv 0) T.aI T.aV.me bI (fQ hr) T.aV.b .nil (fun _ _ z=>Or.inl z) (aa (pv 1) ag))) (ae (aH (aR (aD zQ rfl T.IY Ip (aa (iq (cn:=["voice"]) rfl (cY.of rfl) (dz (bQ (pv 0) rfl)) (fun _=>(dX (i:=0) AD rfl (Or.inl rfl))) (fun _=>j9) (fun _=>(bL (dy (aZ Ed (bQ (pv 0) rfl) c8 (aw _)) (eD (aZ (aS.or (aK (az hr))) (bx aT (bQ (pv 0) rfl) ai (fun _ _=>rfl)) (pv 2) (aw _))))))) ag))) (ah (eI (X:=(nJ T.jB.1 j1 (eU P w) P w mg base cdv A outer s H E)) (fun _ _ z=>z) rfl T.LP.exc rfl T.DF (aa av ag))) ay) (ah (aP (dZ (pv 0) T.aI T.bX.me cI (fQ hr) T.bX.b .nil dN (aa (oi T.bR.PN cq (fQ hr) rfl T.va T.bR.b .nil dN (aa (bQ (pv 0) rfl) (aa (eE Zc' PySem.F.slot_list_index PySem.F.type_list_index NJ (gM (pv 0) T.aI T.cH.me d6 (fQ hr) T.cH.b .nil dN) (aa (pv 1) ag)) (aa (a9 (aa (pv 2) ag)) (aa (a9 ag) ag))))) ag)))))) ?_;obtain⟨L,D,U,all,M,Ps,Fs,es,us,b,iM,pp,pf,f⟩:=B.ex;obtain⟨dx,hx⟩:=b.hx;obtain⟨vx,g,gv⟩:=b.oq iM;have wv:=B.wv vw (.inr (.inl rfl));have hL:=b.hL;have xl:=bM g;have vl:=bM gv;have wl:=wv.len;refine⟨_,rfl,x,dx,_,rfl,hx,dt _ _ _,_,rfl,x,dx,L,D,U,M L,vx,n,rfl,hx,b.hL,g,?_⟩;rcases xC gv (fun _ _ r=>r.2.1) n with ⟨f1,f2⟩|⟨a,th,j,f1,f2,r,an,fj,fw⟩
 ·rw[f1];rw[f2]at q;exact q
 rw[f1];rw[f2]at q;obtain⟨q1,q2⟩:=q;refine⟨_,rfl,x,_,dx,_,_,rfl,hx,T.aI,T.dg,g9 _ _ _,L,rfl,⟨_,aM.of hL⟩,fun D' b' hD'=>?_⟩;refine fH (K:=K) (xs:=M L) (fun i ys σ H'=>∃ v,σ=[v,some (.ref x),some (.str n),some (.ref a.o)]/\H'=upd H D' (.lst ys)/\ys=((vw.take i).map (kh n)).map V.bl) ⟨none,rfl,rfl,rfl⟩ ?_ ?_ ?_
 ·rintro i ys σ H' ⟨v,rfl,rfl,_⟩;exact fM (aM.of hL) hD'
 ·rintro i ys y σ H' hy ⟨v,rfl,rfl,rfl⟩ N hN;obtain⟨a1,e1,rfl,ha1⟩:=oo g hy;obtain⟨Tg,e2,_,an1,t1⟩:=oo gv e1;have hi:i<vw.length:=(K'.mp e2).1;refine ee ?_;refine⟨fun v H'=>v=.bl (kh n Tg)/\H'=upd H D' (.lst (((vw.take i).map (kh n)).map V.bl)),?_,?_⟩
  ·refine⟨_,rfl,a1.o,_,a1.d,_,_,rfl,by rw[ak (au ha1 hD')];exact ha1,T.d4,T.gm,qP _ _ _,rfl,_,rfl,?_⟩;obtain⟨m1,th1⟩:=Tg;cases th1 with
   |pl ss =>
    obtain⟨e3,_⟩:=t1;rw[e3];exact aX ⟨rfl,rfl⟩
   |cn ld lt sl tn =>
    obtain⟨p,e3,hp⟩:=t1;have hp':upd H D' (.lst (((vw.take i).map (kh n)).map V.bl)) p=some (.tup [.str ld,.int lt,.int sl,.bl tn]):=by rw[ak (au hp hD')];exact hp
    rw[e3];refine bV ?_;refine⟨_,rfl,a1.o,_,a1.d,_,_,rfl,by rw[ak (au ha1 hD')];exact ha1,T.d4,T.gm,qP _ _ _,?_⟩;rw[e3];refine Fe (i:=0) hp' rfl ?_;refine⟨_,rfl,.inl ⟨rfl,?_,rfl⟩⟩;show V.bl (decide (V.str ld=V.str n))=V.bl (decide (ld=n));refine Zj' V.bl (decide_eq_decide.mpr ⟨fun z=>V.str.inj z,fun z=>Zj' V.str z⟩)
  ·rintro _ _ ⟨rfl,rfl⟩;refine⟨af,?_,?_⟩
   ·rw[L',L',Zo'];exact aL (by omega)
   ·refine hN _ _ _ ⟨_,rfl,cR,?_⟩;rw[take_succ,e2];simp
 ·rintro ys σ H' ⟨v,rfl,rfl,rfl⟩;have ml:(M L).length=vw.length:=xl.trans vl;refine⟨rfl,D',_,rfl,aM.of af,_,rfl,?_⟩;rw[ml,take_length,List.any_map];have sD:=ao.upd (o:=.lst ((vw.map (kh n)).map V.bl)) hD';generalize upd H D' (.lst ((vw.map (kh n)).map V.bl))=H1 at sD;refine aN (fun h=>?_) (fun h=>?_)
  ·have q:=q1 h H1 sD;exact⟨by show 1<=sizeLine;decide,q.2⟩
  have hle:leans vw n=false:=by
   cases e:leans vw n with
   |false=>rfl
   |true=>exact S' e h
  have q2:=q2 hle;have B1:=B.same sD;have hx1:=sD _ _ hx;refine⟨_,rfl,x,dx,_,rfl,hx1,gh _ _ _,?_⟩;refine⟨_,rfl,x,_,dx,_,_,rfl,hx1,T.aI,T.dg,g9 _ _ _,?_⟩;refine⟨_,rfl,x,dx,_,rfl,hx1,ir _ _ _,x,F,vw,ps,fs,rfl,B1,fun l H2 nl s2 h2=>?_⟩;have jl:j<vw.length:=(K'.mp fw).1;have hjn:(vw.map (·.1))[j]? = some n:=by rw[Zd',fw];rfl
  refine⟨.inl ⟨rfl,_,aM.of h2⟩,_,rfl,l,vw.map (·.1),n,j,rfl,rfl,by rw[List.map_map];exact h2,hjn,fun i hi z=>?_,?_⟩
  ·have:=tW wv.nd z hjn;omega
  have s12:=sD.trans s2;clear s2 sD hx1 B1 nl h2;obtain⟨ds,hD,pD⟩:=b.hD;obtain⟨ux,hU,pU⟩:=b.hU;have dl:=bM pD;have pl:=bM pp;have pe:=b.past.len;refine⟨_,rfl,big (by show 1<=1000;omega),fun B' hB=>?_⟩;refine⟨big (by show 0<=1000;omega),fun A_ hA=>?_⟩;have Jh:=tY hA;have sB:=(ao.upd (o:=.lst [V.ref a.o]) hB).trans (ao.upd (o:=.lst []) hA);have hB2:=ao.upd (o:=.lst []) hA _ _ (af (H:=H2) (a:=B') (o:=.lst [V.ref a.o]));have E3:=af (H:=upd H2 B' (.lst [V.ref a.o])) (a:=A_) (o:=.lst []);have hB0:H B'=none:=s12.free hB;have Jh:H A_=none:=s12.free Jh;have LA:L≠A_:=au hL Jh;generalize upd (upd H2 B' (.lst [V.ref a.o])) A_ (.lst [])=H3 at sB hB2 E3;have Sq:=s12.trans sB;intro d dd nd PV ne;refine⟨d,dd,L,(j:Int),B',A_,rfl,af,rfl,?_⟩;rw[cR];have s3:ao H3 (upd (upd H3 dd (.own d)) d (.ins t.cv dd (xy L (j:Int) B' A_))):=fun y o hy=>by
   rw[ak (au hy nd),ak (au hy PV)];exact hy
  have E4:=af (H:=upd H3 dd (.own d)) (a:=d) (o:=.ins t.cv dd (xy L (j:Int) B' A_));generalize upd (upd H3 dd (.own d)) d (.ins t.cv dd (xy L (j:Int) B' A_))=H4 at s3 E4;have s4:=Sq.trans s3;refine⟨x,dx,L,D,U,d,dd,L,B',A_,j,ds,ux,M L,[.ref a.o],[],rfl,s4 _ _ hx,s4 _ _ hD,s4 _ _ hU,E4,s4 _ _ hL,s3 _ _ hB2,s3 _ _ E3,LA,b.LD,b.LU,b.DU,by simp;omega,by simp;omega,by omega,?_⟩;have hj':(M L)[j]? = some (.ref a.o):=by
   obtain⟨v,hv,e1,_⟩:=lq g fj;rw[<-e1];exact hv
  have w':mQ (vw.take j++vw.drop (j+1)):=by
   rw[<-Ak wv.nd fw];exact wv.dropped hle
  obtain⟨F',gr,fr,B4⟩:=Bk.dropped b iM pp f B.wv hj' w' (e:=⟨d,dd,L,j,B',A_,[.ref a.o],[]⟩) rfl rfl rfl rfl s4 hB0 Jh ⟨rfl,E4,s3 _ _ hB2,s3 _ _ E3⟩ hD pD
   (H':=upd (upd (upd H4 L (.lst ((M L).take j++[]++(M L).drop (j+1)))) D (.lst (ds++[.ref d]))) U (.lst [])) (fun y o hy y1 y2 y3=>by rw[ak y3,ak y2,ak y1];exact hy) (by rw[ak b.LU,ak b.LD,af,append_nil]) (by rw[ak b.DU,af]) af
  refine q2 F' _ gr fr ?_;rw[Ak wv.nd fw];exact B4
inductive vU (C:Addr)(vs:List V)(H:Hp)(Q:VK)(E:XK):Prop
 |mk (x dx T_ B A:Addr) (i:Nat) (xs bs as:List V) (cT:vs=[.ref x]) (cU:H x=some (.ins C dx (xy T_ (i:Int) B A))) (dH:H T_=some (.lst xs)) (fL:H B=some (.lst bs)) (jF:H A=some (.lst as)) (zB:T_≠B) (KA:i+as.length<=xs.length) (PR:xs.length+bs.length<=1000) (PU:Q .non (upd H T_ (.lst (xs.take i++bs++xs.drop (i+as.length))))):vU C vs H Q E
theorem oF (T:Txt K w mg t):aW P w K mg base fA (0+1) t.yq t.yr ["self"] (vU t.cv):=by
 refine T.qu.ok EI ?_ ?_
 x_go
 obtain⟨x,dx,T_,B,A_,i,xs,bs,as,rfl,hx,hT,hB,hA,hne,hi,hz,q⟩:=h;refine aJ (ah (fI (bQ (pv 0) rfl) (FW (bQ (pv 0) rfl) (dA (bQ (pv 0) rfl)) (dA (aE (bp.or (aF.or bq)) (bQ (pv 0) rfl) (aD (aB.or aC) rfl T.bu br (aa (bQ (pv 0) rfl) ag))))))) ?_;refine⟨_,rfl,x,_,dx,_,_,rfl,hx,T.d5,T.kL,Ac _ _ _ _,?_⟩;refine⟨_,rfl,x,_,dx,_,_,rfl,hx,T.d5,T.kJ,Ab _ _ _ _,?_⟩;refine⟨_,rfl,x,_,dx,_,_,rfl,hx,T.d5,T.kK,Ey _ _ _ _,_,rfl,?_⟩;refine⟨_,rfl,x,_,dx,_,_,rfl,hx,T.d5,T.kK,Ey _ _ _ _,?_⟩;refine⟨_,rfl,x,_,dx,_,_,rfl,hx,T.d5,T.mM,CJ _ _ _ _,?_⟩;refine .inl ⟨A_,as,rfl,.inl (aM.of hA),.inl ⟨_,_,rfl,rfl,_,rfl,?_⟩⟩;refine⟨T_,B,xs,bs,(i:Int),((i+as.length:Nat):Int),rfl,rfl,rfl,by simp,hT,hB,hne,by omega,by omega,by omega,Zb' hz (by decide),?_⟩;rw[Int.toNat_natCast,Int.toNat_natCast];exact q
inductive vV (c:Cs)(vs:List V)(H:Hp)(Q:VK)(E:XK):Prop
 |mk (x:Addr) (F:Addr->Prop) (vw:Vw) (ps fs:List Vw) (cT:vs=[.ref x]) (cU:n6 c H x F vw ps fs) (dH:ps.length+fs.length<=900) (fL:(ps=[]->∀ H',ao H H'->RX E c .gi H')) (jF:(∀ J7 v,ps=J7++[v]->∀ H',Fr F H H'->n6 c H' x F v J7 (fs++[vw])->Q .non H')):vV c vs H Q E
theorem vW (T:Txt K w mg t):aW P w K mg base (eU P w) (0+2) t.yt t.yu ["self"] (vV (cs t)):=by
 have qH:=oF P base T;refine T.ie.CF ow ?_ ?_
 x_go
 obtain⟨x,F,vw,ps,fs,rfl,B,hps,q1,q2⟩:=h;refine aJ (ae (aH (aq (zT (az hr)) (bQ (pv 0) rfl) (a9 ag) (aw _)) (ah (eI (X:=(nJ T.ie.1 ow (eU P w) P w mg base cdv A outer s H E)) (fun _ _ z=>z) rfl T.DO.exc rfl T.wX (aa av ag))) ay) (ae (dq 1 ow.nd (wk Zc' slot_list_pop type_list_pop MI (bQ (pv 0) rfl))) (ae (aP (gM (pv 1) T.d5 T.qu.me qH (fQ hr) T.qu.b .nil dN)) (ah (aP (eE Zc' Zl' Zk' bK (bQ (pv 0) rfl) (aa (pv 1) ag))))))) ?_;obtain⟨L,D,U,all,M,Ps,Fs,es,us,b,iM,pp,pf,f⟩:=B.ex;obtain⟨dx,hx⟩:=b.hx;obtain⟨ds,hD,pD⟩:=b.hD;have dl:=bM pD;have pl:=bM pp;have pe:=b.past.len;refine⟨_,rfl,x,_,dx,_,_,rfl,hx,T.aI,T.gC,pZ _ _ _,big (by show 0<=1000;omega),fun e0 Vg=>?_⟩;have s0:=ao.upd (o:=.lst []) Vg;refine⟨D,e0,ds,rfl,rfl,aM.of (s0 _ _ hD),aM.of af,_,rfl,?_⟩;generalize upd H e0 (.lst [])=H0 at s0;refine aN (fun h=>?_) (fun h=>?_)
 ·have hds:ds=[]:=List.isEmpty_iff.mp h;rw[hds]at dl;have hp0:ps=[]:=List.length_eq_zero_iff.mp (by rw[<-pl,pe,<-dl];rfl);have q:=q1 hp0 H0 s0;exact⟨by show 1<=sizeLine;decide,q.2⟩
 have hne:ds≠[]:=fun z=>h (by rw[z];rfl);obtain⟨Ti,v,rfl⟩:∃ Ti v,ds=Ti++[v]:=⟨ds.dropLast,ds.getLast hne,(List.dropLast_concat_getLast hne).symm⟩;obtain⟨UK,e,he,Xq,hd⟩:=Ae pD;have XM:=hd.1;subst XM;have B0:=B.same s0;have b0:=b.kept f (.same s0);have hd0:js t.cv H0 (.ref e.o) e:=gu (F:=fun _=>True) (.same s0) ⟨trivial,trivial⟩ hd;have ok:=b.dd e (.inl (by rw[he];exact Zi' _ (List.mem_singleton_self _)));obtain⟨hT,TD,TU⟩:=b0.lists ok.1;have nTB:e.T≠e.B:=by
  rcases ok.1 with z|⟨a,ha,z⟩
  ·rw[z];exact Zh' ok.2.1.1
  ·rw[z];exact Zh' (ok.2.1.2.2.2 a ha)
 obtain⟨Ps0,S,_,_,ft,hMS⟩:=(he ▸ b.past).last;have fit:e.i+e.as.length<=(M e.T).length:=by rw[hMS];exact Pr ft
 have hx0:=s0 _ _ hx;have Mm:=s0 _ _ hD;obtain⟨ux,Fp,pU⟩:=b0.hU;have XN:(M e.T).length<=200:=by
  rcases ok.1 with z|⟨a,ha,z⟩
  ·rw[z];exact Zb' (b.wf M (.inr (.inl rfl))).len (by decide)
  ·rw[z];exact((b.wf M (.inr (.inl rfl))).ln a ha).1
 refine⟨_,rfl,x,_,dx,_,_,rfl,hx0,T.aI,T.gC,pZ _ _ _,?_⟩;refine⟨.inl ⟨rfl,_,aM.of Mm⟩,D,Ti++[V.ref e.o],V.ref e.o,rfl,rfl,Mm,by simp,?_⟩;rw[List.dropLast_concat];have nD:∀{y C d fs},H0 y=some (.ins C d fs)->y≠D:=fun hy=>fX hy Mm (by intro z;cases z);have nT:∀{y C d fs},H0 y=some (.ins C d fs)->y≠e.T:=fun hy=>fX hy hT (by intro z;cases z);have r1:∀{y o},H0 y=some o->y≠D->upd H0 D (.lst Ti) y=some o:=fun hy hn=>by rw[ak hn];exact hy
 refine⟨_,rfl,e.o,e.d,_,rfl,r1 hd0.2.1 (nD hd0.2.1),Ge _ _ _ _,?_⟩;refine⟨e.o,e.d,e.T,e.B,e.A,e.i,M e.T,e.bs,e.as,rfl,r1 hd0.2.1 (nD hd0.2.1),r1 hT TD,r1 hd0.2.2.1 ok.2.1.2.1,r1 hd0.2.2.2 ok.2.2.1.2.1,nTB,fit,by have:=ok.2.2.2.1;omega,?_⟩;have r2:∀{y o},H0 y=some o->y≠D->y≠e.T->upd (upd H0 D (.lst Ti)) e.T (.lst ((M e.T).take e.i++e.bs++(M e.T).drop (e.i+e.as.length))) y=some o:=fun hy hn hn'=>by rw[ak hn',ak hn];exact hy
 refine⟨_,rfl,x,_,dx,_,_,rfl,r2 hx0 (nD hx0) (nT hx0),T.aI,T.eQ,kf _ _ _,?_⟩;have Y0:=r2 Fp (Zh' b.DU) (Zh' TU);have ul:=bM pU;have fl:=bM pf;have fe:=b.fut.len;refine⟨.inl ⟨rfl,_,aM.of Y0⟩,_,rfl,U,_,_,rfl,rfl,Y0,aL (by omega),?_⟩;obtain⟨J7,v,e1,B2⟩:=Bk.RV b0 (Is.kept (F:=F) (.same s0) iM) (bZ (fun _ _ q=>Is.kept (F:=F) (.same s0) q) pp) (bZ (fun _ _ q=>Is.kept (F:=F) (.same s0) q) pf) f B.wv he (mI (fun _ e' _ q=>gu (F:=fun _=>True) (.same s0) ⟨trivial,trivial⟩ q) Xq) hd0 pU
  (H2:=upd (upd (upd H0 D (.lst Ti)) e.T (.lst ((M e.T).take e.i++e.bs++(M e.T).drop (e.i+e.as.length)))) U (.lst (ux++[.ref e.o]))) (fun y o hy y1 y2 y3=>by rw[ak y3];exact r2 hy y2 y1) (by rw[ak TU,af];exact Zj' (fun z=>some (HO.lst z)) eh.symm) (by rw[ak b.DU,ak (Zh' TD),af]) af
 refine q2 J7 v e1 _ (fun y o hy hn=>?_) B2;have fT:F e.T:=by
  rcases ok.1 with z|⟨a,ha,z⟩
  ·rw[z];exact f.L
  ·rw[z];exact f.l a ha
 rw[ak (show y≠U from fun z=>hn (z ▸ f.U))];exact r2 (s0 _ _ hy) (fun z=>hn (z ▸ f.D)) (fun z=>hn (z ▸ fT))
inductive vX (c:Cs)(vs:List V)(H:Hp)(Q:VK)(E:XK):Prop
 |mk (x:Addr) (F:Addr->Prop) (vw:Vw) (ps fs:List Vw) (cT:vs=[.ref x]) (cU:n6 c H x F vw ps fs) (dH:ps.length+fs.length<=900) (fL:(fs=[]->∀ H',ao H H'->RX E c .gi H')) (jF:(∀ CL v,fs=CL++[v]->∀ H',Fr F H H'->n6 c H' x F v (ps++[vw]) CL->Q .non H')):vX c vs H Q E
theorem Fg (T:Txt K w mg t):aW P w K mg base (eU P w) (0+2) t.yv t.yw ["self"] (vX (cs t)):=by
 have xf:=Bt P base T;refine T.l8.CF ox ?_ ?_
 x_go
 obtain⟨x,F,vw,ps,fs,rfl,B,hps,q1,q2⟩:=h;refine aJ (ae (aH (aq (zT (az hr)) (bQ (pv 0) rfl) (a9 ag) (aw _)) (ah (eI (X:=(nJ T.l8.1 ox (eU P w) P w mg base cdv A outer s H E)) (fun _ _ z=>z) rfl T.DO.exc rfl T.wX (aa av ag))) ay) (ae (dq 1 ox.nd (wk Zc' slot_list_pop type_list_pop MI (bQ (pv 0) rfl))) (ae (aP (gM (pv 1) T.d5 T.nS.me xf (fQ hr) T.nS.b .nil dN)) (ah (aP (eE Zc' Zl' Zk' bK (bQ (pv 0) rfl) (aa (pv 1) ag))))))) ?_;obtain⟨L,D,U,all,M,Ps,Fs,es,us,b,iM,pp,pf,f⟩:=B.ex;obtain⟨dx,hx⟩:=b.hx;obtain⟨ux,hU,pU⟩:=b.hU;have ul:=bM pU;have fl:=bM pf;have fe:=b.fut.len;refine⟨_,rfl,x,_,dx,_,_,rfl,hx,T.aI,T.eQ,kf _ _ _,big (by show 0<=1000;omega),fun e0 Vg=>?_⟩;have s0:=ao.upd (o:=.lst []) Vg;refine⟨U,e0,ux,rfl,rfl,aM.of (s0 _ _ hU),aM.of af,_,rfl,?_⟩;generalize upd H e0 (.lst [])=H0 at s0;refine aN (fun h=>?_) (fun h=>?_)
 ·have hds:ux=[]:=List.isEmpty_iff.mp h;rw[hds]at ul;have hp0:fs=[]:=List.length_eq_zero_iff.mp (by rw[<-fl,fe,<-ul];rfl);have q:=q1 hp0 H0 s0;exact⟨by show 1<=sizeLine;decide,q.2⟩
 have hne:ux≠[]:=fun z=>h (by rw[z];rfl);obtain⟨QJ,v,rfl⟩:∃ QJ v,ux=QJ++[v]:=⟨ux.dropLast,ux.getLast hne,(List.dropLast_concat_getLast hne).symm⟩;obtain⟨Xs,e,he,Xr,hd⟩:=Ae pU;have XM:=hd.1;subst XM;have b0:=b.kept f (.same s0);have hd0:js t.cv H0 (.ref e.o) e:=gu (F:=fun _=>True) (.same s0) ⟨trivial,trivial⟩ hd;have ok:=b.dd e (.inr (by rw[he];exact Zi' _ (List.mem_singleton_self _)));obtain⟨hT,TD,TU⟩:=b0.lists ok.1;have nTA:e.T≠e.A:=by
  rcases ok.1 with z|⟨a,ha,z⟩
  ·rw[z];exact Zh' ok.2.2.1.1
  ·rw[z];exact Zh' (ok.2.2.1.2.2.2 a ha)
 obtain⟨Fs0,_,ft,_⟩:=(he ▸ b.fut).last;have fit:=ft.1;have hx0:=s0 _ _ hx;have Fp:=s0 _ _ hU;obtain⟨ds,Mm,pD⟩:=b0.hD;have XN:(M e.T).length<=200:=by
  rcases ok.1 with z|⟨a,ha,z⟩
  ·rw[z];exact Zb' (b.wf M (.inr (.inl rfl))).len (by decide)
  ·rw[z];exact((b.wf M (.inr (.inl rfl))).ln a ha).1
 refine⟨_,rfl,x,_,dx,_,_,rfl,hx0,T.aI,T.eQ,kf _ _ _,?_⟩;refine⟨.inl ⟨rfl,_,aM.of Fp⟩,U,QJ++[V.ref e.o],V.ref e.o,rfl,rfl,Fp,by simp,?_⟩;rw[List.dropLast_concat];have nU:∀{y C d fs},H0 y=some (.ins C d fs)->y≠U:=fun hy=>fX hy Fp (by intro z;cases z);have nT:∀{y C d fs},H0 y=some (.ins C d fs)->y≠e.T:=fun hy=>fX hy hT (by intro z;cases z);have r1:∀{y o},H0 y=some o->y≠U->upd H0 U (.lst QJ) y=some o:=fun hy hn=>by rw[ak hn];exact hy
 refine⟨_,rfl,e.o,e.d,_,rfl,r1 hd0.2.1 (nU hd0.2.1),CK _ _ _ _,?_⟩;refine⟨e.o,e.d,e.T,e.B,e.A,e.i,M e.T,e.bs,e.as,rfl,r1 hd0.2.1 (nU hd0.2.1),r1 hT TU,r1 hd0.2.2.1 ok.2.1.2.2.1,r1 hd0.2.2.2 ok.2.2.1.2.2.1,nTA,fit,by have:=ok.2.2.2.2;omega,?_⟩;have r2:∀{y o},H0 y=some o->y≠U->y≠e.T->upd (upd H0 U (.lst QJ)) e.T (.lst ((M e.T).take e.i++e.as++(M e.T).drop (e.i+e.bs.length))) y=some o:=fun hy hn hn'=>by rw[ak hn',ak hn];exact hy
 refine⟨_,rfl,x,_,dx,_,_,rfl,r2 hx0 (nU hx0) (nT hx0),T.aI,T.gC,pZ _ _ _,?_⟩;have hD1:=r2 Mm b.DU (Zh' TD);have dl:=bM pD;have pl:=bM pp;have pe:=b.past.len;refine⟨.inl ⟨rfl,_,aM.of hD1⟩,_,rfl,D,_,_,rfl,rfl,hD1,aL (by omega),?_⟩;obtain⟨CL,v,e1,B2⟩:=Bk.RW b0 (Is.kept (F:=F) (.same s0) iM) (bZ (fun _ _ q=>Is.kept (F:=F) (.same s0) q) pp) (bZ (fun _ _ q=>Is.kept (F:=F) (.same s0) q) pf) f B.wv he pD hd0 (mI (fun _ e' _ q=>gu (F:=fun _=>True) (.same s0) ⟨trivial,trivial⟩ q) Xr)
  (H2:=upd (upd (upd H0 U (.lst QJ)) e.T (.lst ((M e.T).take e.i++e.as++(M e.T).drop (e.i+e.bs.length)))) D (.lst (ds++[.ref e.o]))) (fun y o hy y1 y2 y3=>by rw[ak y2];exact r2 hy y3 y1) (by rw[ak TD,af];exact Zj' (fun z=>some (HO.lst z)) eh.symm) af (by rw[ak (Zh' b.DU),ak (Zh' TU),af])
 refine q2 CL v e1 _ (fun y o hy hn=>?_) B2;have fT:F e.T:=by
  rcases ok.1 with z|⟨a,ha,z⟩
  ·rw[z];exact f.L
  ·rw[z];exact f.l a ha
 rw[ak (show y≠D from fun z=>hn (z ▸ f.D))];exact r2 (s0 _ _ hy) (fun z=>hn (z ▸ f.U)) (fun z=>hn (z ▸ fT))
theorem qT {vw:Vw}{n:Str}{ss:List Sg}(h:aO vw n=some (.pl ss)):gJ vw n=ss:=by unfold gJ;rw[h]
theorem xm {st:Std}{d:De}{a:Int}{ss:List Sg}(h:d.wy=.put\/d.wy=.cut\/d.wy=.swap)(hf:aO st.vw d.n=some (.pl ss)):dQ st d a=⟨kg st.vw d.n (.pl (bC ss d.wy d.sg a.toNat)),st.ps++[st.vw],[]⟩:=by
 unfold dQ;rcases h with h|h|h <;> rw[h,qT hf]
inductive KH (c:Cs)(vs:List V)(H:Hp)(Q:VK)(E:XK):Prop
 |mk (x:Addr) (v2:V) (F:Addr->Prop) (st:Std) (de:De) (at_:Int) (cT:vs=[.ref x,v2,.int at_]) (cU:n6 c H x F st.vw st.ps st.fs) (dH:Xu H v2 de) (fL:de.n.length<=1000) (jF:de.ld.length<=1000) (zB:st.ps.length+st.fs.length<=900) (KA:match dS st de at_ with
 |some r=>∀ H',ao H H'->RX E c r H'
 |none=>∀ v F' H',Gr F F' H->Fr F H H'->n6 c H' x F' (dQ st de at_).vw (dQ st de at_).ps (dQ st de at_).fs->jN H' st de at_ v->Q v H'):KH c vs H Q E
theorem PZ (T:Txt K w mg t):aW P w K mg base (eU P w) (0+5) t.N8 t.N9 ["_law_book","_law_deed","_law_at"] (KH (cs t)):=by
 have gD:=mj P base T;have tD:=yO P base T;have Js:=Hs P base T;have Ht:=Fd P base T;have jc:=mf P base T;have Hu:=Ff P base T;have qH:=oF P base T;have qI:=vW P base T;have Hv:=Fg P base T;refine T.i7.CF iy ?_ ?_
 x_go
 obtain⟨x,v2,F,st,de,at_,rfl,B,⟨p2,xs,rfl,hp2,x0,x1,x4,x5⟩,hnl,hll,hlen,q⟩:=h;refine aJ (ae (Q5 (i:=3) (j:=4) rfl iy.nd rfl rfl (by decide) rfl rfl (aa (aY (pv 1)) (aa (aY (pv 1)) ag)) rfl) (ae (aH (aq (aS.or (aK (az hr))) (pv 3) av (aw _)) (ah (ar (bT (X:=(nJ T.i7.1 iy (eU P w) P w mg base cdv A outer s H E)) (pv 0) T.aI T.fk.me tD (fQ hr) T.fk.b .nil (fun _ _ z=>Or.inl z) (aa (pv 4) (aa (pv 2) (aa (aY (pv 1)) ag)))))) ay) (ae (aH (aq (aS.or (aK (az hr))) (pv 3) av (aw _)) (ah (ar (bT (X:=(nJ T.i7.1 iy (eU P w) P w mg base cdv A outer s H E)) (pv 0) T.aI T.kH.me Js (fQ hr) T.kH.b .nil (fun _ _ z=>Or.inl z) (aa (pv 4) (aa (pv 2) ag))))) ay) (ae (aH (aq (aS.or (aK (az hr))) (pv 3) av (aw _)) (ah (ar (bT (X:=(nJ T.i7.1 iy (eU P w) P w mg base cdv A outer s H E)) (pv 0) T.aI T.ic.me Ht (fQ hr) T.ic.b .nil (fun _ _ z=>Or.inl z) (aa (pv 4) (aa (pv 2) (aa (aY (pv 1)) ag)))))) ay) (ae (aH (aq (aS.or (aK (az hr))) (pv 3) av (aw _)) (ah (ar (bT (X:=(nJ T.i7.1 iy (eU P w) P w mg base cdv A outer s H E)) (pv 0) T.aI T.dJ.me jc (fQ hr) T.dJ.b .nil (fun _ _ z=>Or.inl z) (aa (pv 4) ag)))) ay) (ae (aH (aq (aS.or (aK (az hr))) (pv 3) av (aw _)) (ah (ar (bT (X:=(nJ T.i7.1 iy (eU P w) P w mg base cdv A outer s H E)) (pv 0) T.aI T.jB.me Hu (fQ hr) T.jB.b .nil (fun _ _ z=>Or.inl z) (aa (pv 4) ag)))) ay) (ae (aH (aq (aS.or (aK (az hr))) (pv 3) av (aw _)) (ah (ar (CG (X:=(nJ T.i7.1 iy (eU P w) P w mg base cdv A outer s H E)) (pv 0) T.aI T.ie.me qI (fQ hr) T.ie.b .nil (fun _ _ z=>Or.inl z)))) ay) (ae (aH (aq (aS.or (aK (az hr))) (pv 3) av (aw _)) (ah (ar (CG (X:=(nJ T.i7.1 iy (eU P w) P w mg base cdv A outer s H E)) (pv 0) T.aI T.l8.me Hv (fQ hr) T.l8.b .nil (fun _ _ z=>Or.inl z)))) ay) (ae (aH (bE (PW.pt (cB (aq (aS.or (aK (az hr))) (aY (pv 1)) ai (aw _)) (cB (aq (aS.or (aK (az hr))) (aY (pv 1)) ai (aw _)) (cX (bW (aR (aY (pv 1))))))))) (ah (ar (bT (X:=(nJ T.i7.1 iy (eU P w) P w mg base cdv A outer s H E)) (pv 0) T.aI T.cA.me gD (fQ hr) (kX:=[.int 0,.int 1,.bl false]) T.vA (.cons ⟨_,rfl⟩ (.cons ⟨_,rfl⟩ (.cons rfl (.nil)))) (fun _ _ z=>Or.inl z) (aa (pv 4) (aa (aY (pv 1)) ag))))) ay) (ah (ar (bT (X:=(nJ T.i7.1 iy (eU P w) P w mg base cdv A outer s H E)) (pv 0) T.aI T.cA.me gD (fQ hr) T.nV .nil (fun _ _ z=>Or.inl z) (aa (pv 4) (aa (aY (pv 1)) (aa (aY (pv 1)) (aa (aY (pv 1)) (aa (aY (pv 1)) ag))))))))))))))))) ?_;have hx:∃ dx L D U,H x=some (.ins t.cw dx (pY L D U)):=by
  obtain⟨L,D,U,all,M,Ps,Fs,es,us,b,_⟩:=B.ex;obtain⟨dx,e⟩:=b.hx;exact⟨dx,L,D,U,e⟩
 obtain⟨dx,L,D,U,hx⟩:=hx;refine⟨_,rfl,bD (i:=0) hp2 x0 ⟨_,rfl,bD (i:=1) hp2 x1 ⟨_,_,rfl,?_⟩⟩⟩;tm_up;rw[show decide (V.str de.wy.str=V.str (Str.ofString "put"))=decide (de.wy=.put) from fO de.wy .put]
 by_cases z1:de.wy=.put
 ·rw[A' z1];refine bV ?_;obtain⟨ps2,XO,Cj⟩:=x4 (.inl z1);rw[j5 (.inl z1)]at q;refine⟨_,rfl,x,dx,_,rfl,hx,Ad _ _ _,_,rfl,_,rfl,_,rfl,bD (i:=4) hp2 XO ?_⟩;refine⟨x,F,st.vw,st.ps,st.fs,de.n,at_,ps2,de.sg,rfl,B,Cj,by omega,?_⟩;cases hf:aO st.vw de.n with
  |none=>rw[gw hf]at q;exact q _ (ao.refl _)
  |some th=>cases th with
   |cn ld lt sl tn=>rw[i0 hf]at q;exact q _ (ao.refl _)
   |pl ss =>
    rw[i4 hf,xm (.inl z1) hf,X' z1]at q;refine⟨fun z=>?_,fun z g=>?_,fun z g h=>?_,fun z g h s w F' H' e1 e2 hw gr fr b=>?_⟩
    ·rw[X' (by omega)]at q;exact q _ (ao.refl _)
    ·rw[T' (by omega),X' ⟨by rw[z1];decide,g⟩]at q;exact q _ (ao.refl _)
    ·rw[T' (by omega),T' (fun y=>by rw[g]at y;exact nomatch y.2),X' ⟨z1,h⟩]at q;exact q _ (ao.refl _)
    ·rw[T' (by omega),T' (fun y=>by rw[g]at y;exact nomatch y.2),T' (fun y=>by omega)]at q;have el:bC ss de.wy de.sg at_.toNat=ss.take at_.toNat++[s]++ss.drop at_.toNat:=by unfold bC;rw[z1,t6 e1 e2]
     refine q _ F' H' gr fr (by rw[el];exact b) ?_;unfold jN;rw[z1]at el ⊢;rw[qT hf,el,t6 e1 e2];exact⟨w,rfl,hw⟩
 rw[J' z1];refine aX ?_;tm_up;rw[show decide (V.str de.wy.str=V.str (Str.ofString "cut"))=decide (de.wy=.cut) from fO de.wy .cut]
 by_cases z2:de.wy=.cut
 ·rw[A' z2];refine bV ?_;rw[j5 (.inr (.inl z2))]at q;refine⟨_,rfl,x,dx,_,rfl,hx,IA _ _ _,_,rfl,_,rfl,?_⟩;refine⟨x,F,st.vw,st.ps,st.fs,de.n,at_,rfl,B,by omega,?_⟩;cases hf:aO st.vw de.n with
  |none=>rw[gw hf]at q;exact q _ (ao.refl _)
  |some th=>cases th with
   |cn ld lt sl tn=>rw[i0 hf]at q;exact q _ (ao.refl _)
   |pl ss =>
    rw[i4 hf,xm (.inr (.inl z2)) hf,T' (show ¬ de.wy=.put by rw[z2];decide)]at q;refine⟨fun z=>?_,fun z s w F' H' es hw gr fr b=>?_⟩
    ·rw[X' (by omega)]at q;exact q _ (ao.refl _)
    ·rw[T' (by omega),T' (fun y=>y.1 z2),T' (fun y=>by rw[z2]at y;exact nomatch y.1)]at q;have el:bC ss de.wy de.sg at_.toNat=ss.take at_.toNat++[]++ss.drop (at_.toNat+1):=by unfold bC;rw[z2]
     refine q _ F' H' gr fr (by rw[el];exact b) ?_;unfold jN;rw[z2]at el ⊢;rw[qT hf,el];exact⟨w,rfl,s,es,hw⟩
 rw[J' z2];refine aX ?_;tm_up;rw[show decide (V.str de.wy.str=V.str (Str.ofString "swap"))=decide (de.wy=.swap) from fO de.wy .swap]
 by_cases z3:de.wy=.swap
 ·rw[A' z3];refine bV ?_;obtain⟨ps2,XO,Cj⟩:=x4 (.inr z3);rw[j5 (.inr (.inr z3))]at q;refine⟨_,rfl,x,dx,_,rfl,hx,Gg _ _ _,_,rfl,_,rfl,_,rfl,bD (i:=4) hp2 XO ?_⟩;refine⟨x,F,st.vw,st.ps,st.fs,de.n,at_,ps2,de.sg,rfl,B,Cj,by omega,?_⟩;cases hf:aO st.vw de.n with
  |none=>rw[gw hf]at q;exact q _ (ao.refl _)
  |some th=>cases th with
   |cn ld lt sl tn=>rw[i0 hf]at q;exact q _ (ao.refl _)
   |pl ss =>
    rw[i4 hf,xm (.inr (.inr z3)) hf,T' (show ¬ de.wy=.put by rw[z3];decide)]at q;refine⟨fun z=>?_,fun z g=>?_,fun z g s s0 w F' H' e1 e2 es hw gr fr b=>?_⟩
    ·rw[X' (by omega)]at q;exact q _ (ao.refl _)
    ·rw[T' (by omega),X' ⟨by rw[z3];decide,g⟩]at q;exact q _ (ao.refl _)
    ·rw[T' (by omega),T' (fun y=>by rw[g]at y;exact nomatch y.2),T' (fun y=>by rw[z3]at y;exact nomatch y.1)]at q;have el:bC ss de.wy de.sg at_.toNat=ss.take at_.toNat++[s]++ss.drop (at_.toNat+1):=by unfold bC;rw[z3,t6 e1 e2]
     refine q _ F' H' gr fr (by rw[el];exact b) ?_;unfold jN;rw[z3]at el ⊢;rw[qT hf,el,t6 e1 e2];exact⟨w,rfl,s0,es,hw⟩
 rw[J' z3];refine aX ?_;tm_up;rw[show decide (V.str de.wy.str=V.str (Str.ofString "add"))=decide (de.wy=.add) from fO de.wy .add]
 by_cases z4:de.wy=.add
 ·rw[A' z4];refine bV ?_;have e0:dS st de at_=bY st.vw de.n:=by unfold dS;rw[z4]
  have eb:dQ st de at_=⟨st.vw++[(de.n,.pl [])],st.ps++[st.vw],[]⟩:=by unfold dQ;rw[z4]
  rw[e0,eb]at q;refine⟨_,rfl,x,dx,_,rfl,hx,m7 _ _ _,_,rfl,x,F,st.vw,st.ps,st.fs,de.n,rfl,B,hnl,by omega,?_⟩;cases hn:bY st.vw de.n with
  |some r=>rw[hn]at q;exact q
  |none =>
   rw[hn]at q;exact fun F' H' gr fr b=>q _ F' H' gr fr b (by unfold jN;rw[z4])
 rw[J' z4];refine aX ?_;tm_up;rw[show decide (V.str de.wy.str=V.str (Str.ofString "drop"))=decide (de.wy=.drop) from fO de.wy .drop]
 by_cases z5:de.wy=.drop
 ·rw[A' z5];refine bV ?_;have e0:dS st de at_=gU st.vw de.n:=by unfold dS;rw[z5]
  have eb:dQ st de at_=⟨iL st.vw de.n,st.ps++[st.vw],[]⟩:=by unfold dQ;rw[z5]
  rw[e0,eb]at q;refine⟨_,rfl,x,dx,_,rfl,hx,Gf _ _ _,_,rfl,x,F,st.vw,st.ps,st.fs,de.n,rfl,B,by omega,?_⟩;cases hf:aO st.vw de.n with
  |none =>
   have ed:gU st.vw de.n=some .dm:=by unfold gU;rw[hf]
   rw[ed]at q;exact q _ (ao.refl _)
  |some th =>
   have ed:gU st.vw de.n=if leans st.vw de.n=true then some .p5 else none:=by unfold gU;rw[hf]
   rw[ed]at q;refine⟨fun z=>?_,fun z=>?_⟩
   ·rw[X' z]at q;exact q
   ·rw[T' (by rw[z];decide)]at q;exact fun F' H' gr fr b=>q _ F' H' gr fr b (by unfold jN;rw[z5])
 rw[J' z5];refine aX ?_;tm_up;rw[show decide (V.str de.wy.str=V.str (Str.ofString "undo"))=decide (de.wy=.undo) from fO de.wy .undo]
 by_cases z6:de.wy=.undo
 ·rw[A' z6];refine bV ?_;have e0:dS st de at_=if st.ps=[] then some .gi else none:=by unfold dS;rw[z6]
  rw[e0]at q;refine⟨_,rfl,x,dx,_,rfl,hx,xA _ _ _,x,F,st.vw,st.ps,st.fs,rfl,B,hlen,fun z=>?_,fun J7 v0 ez H' fr b=>?_⟩
  ·rw[X' z]at q;exact q
  ·rw[T' (by rw[ez];simp)]at q;have eb:dQ st de at_=⟨v0,J7,st.fs++[st.vw]⟩:=by
    unfold dQ;rw[z6,ez];simp
   rw[eb]at q;exact q _ F H' (Gr.refl _ _) fr b (by unfold jN;rw[z6])
 rw[J' z6];refine aX ?_;tm_up;rw[show decide (V.str de.wy.str=V.str (Str.ofString "redo"))=decide (de.wy=.lh) from fO de.wy .lh]
 by_cases z7:de.wy=.lh
 ·rw[A' z7];refine bV ?_;have e0:dS st de at_=if st.fs=[] then some .gi else none:=by unfold dS;rw[z7]
  rw[e0]at q;refine⟨_,rfl,x,dx,_,rfl,hx,Gh _ _ _,x,F,st.vw,st.ps,st.fs,rfl,B,hlen,fun z=>?_,fun CL v0 ez H' fr b=>?_⟩
  ·rw[X' z]at q;exact q
  ·rw[T' (by rw[ez];simp)]at q;have eb:dQ st de at_=⟨v0,st.ps++[st.vw],CL⟩:=by
    unfold dQ;rw[z7,ez];simp
   rw[eb]at q;exact q _ F H' (Gr.refl _ _) fr b (by unfold jN;rw[z7])
 rw[J' z7];refine aX ?_;have z8:de.wy=.canon:=by
  cases hw:de.wy with
  |put=>exact S' hw z1
  |cut=>exact S' hw z2
  |swap=>exact S' hw z3
  |add=>exact S' hw z4
  |canon=>rfl
  |drop=>exact S' hw z5
  |undo=>exact S' hw z6
  |lh=>exact S' hw z7
 obtain⟨y2,y5,y6,y7⟩:=x5 z8;have e0:dS st de at_=match bY st.vw de.n with|some r=>some r|none=>dP st.vw de.ld de.lt de.sl:=by unfold dS;rw[z8];try rfl
 have eb:dQ st de at_=⟨st.vw++[(de.n,.cn de.ld de.lt de.sl de.tn)],st.ps++[st.vw],[]⟩:=by unfold dQ;rw[z8]
 rw[e0,eb]at q;have ea:∀ H',jN H' st de at_ .non:=fun H'=>by unfold jN;rw[z8]
 have fin:∀{E':XK},(∀ cls H',E' cls none H'=E cls none H')->match bY st.vw de.n with
  |some r=>∀ H',ao H H'->RX E' (cs t) r H'
  |none=>match aO st.vw de.ld with
   |none=>∀ H',ao H H'->RX E' (cs t) .dm H'
   |some (.cn _ _ _ _)=>∀ H',ao H H'->RX E' (cs t) .eJ H'
   |some (.pl _)=>(¬ en de.lt de.sl->∀ H',ao H H'->RX E' (cs t) .lB H')/\(en de.lt de.sl->∀ F' H',Gr F F' H->Fr F H H'->n6 (cs t) H' x F' (st.vw++[(de.n,.cn de.ld de.lt de.sl de.tn)]) (st.ps++[st.vw]) []->Q .non H'):=by
  intro E' hE;have rx:∀{r H'},RX E (cs t) r H'->RX E' (cs t) r H':=fun {r H'} z=>⟨z.1,by rw[hE];exact z.2⟩;cases hn:bY st.vw de.n with
  |some r =>
   rw[hn]at q;exact fun H' s'=>rx (q H' s')
  |none =>
   rw[hn]at q;cases hf:aO st.vw de.ld with
   |none =>
    have ed:dP st.vw de.ld de.lt de.sl=some .dm:=by unfold dP;rw[hf]
    rw[ed]at q;exact fun H' s'=>rx (q H' s')
   |some th=>cases th with
    |cn ld lt sl tn =>
     have ed:dP st.vw de.ld de.lt de.sl=some .eJ:=by unfold dP;rw[hf]
     rw[ed]at q;exact fun H' s'=>rx (q H' s')
    |pl ss =>
     have ed:dP st.vw de.ld de.lt de.sl=if en de.lt de.sl then none else some .lB:=by unfold dP;rw[hf]
     rw[ed]at q;refine⟨fun z=>?_,fun z=>?_⟩
     ·rw[T' z]at q;exact fun H' s'=>rx (q H' s')
     ·rw[X' z]at q;exact fun F' H' gr fr b=>q _ F' H' gr fr b (ea H')
 refine fV (decide (de.lt=0/\de.sl=1/\de.tn=false)) ?_ ?_
 ·refine⟨_,rfl,bD (i:=5) hp2 y5 ?_⟩;tm_up
  by_cases u1:de.lt=0
  ·rw[A' (Zj' V.int u1)];refine bV ?_;refine⟨_,rfl,bD (i:=6) hp2 y6 ?_⟩;tm_up
   by_cases u2:de.sl=1
   ·rw[A' (Zj' V.int u2)];refine bV ?_;refine⟨_,rfl,bD (i:=7) hp2 y7 ⟨_,rfl,?_,rfl⟩⟩;cases u3:de.tn with
    |true=>exact(J' (fun y=>nomatch y.2.2)).symm
    |false=>exact(A' ⟨u1,u2,rfl⟩).symm
   ·rw[J' (fun y=>u2 (V.int.inj y)),J' (fun y=>u2 y.2.1)];exact aX ⟨rfl,rfl⟩
  ·rw[J' (fun y=>u1 (V.int.inj y)),J' (fun y=>u1 y.1)];exact aX ⟨rfl,rfl⟩
 refine aN (fun z=>?_) (fun z=>?_)
 ·obtain⟨u1,u2,u3⟩:=G' z;refine⟨_,rfl,x,dx,_,rfl,hx,iY _ _ _,_,rfl,_,rfl,bD (i:=2) hp2 y2 ?_⟩;rw[u1,u2,u3]at fin;refine⟨x,F,st.vw,st.ps,st.fs,de.n,de.ld,0,1,false,rfl,B,hnl,by omega,?_⟩;exact fin fun _ _=>rfl
 ·refine⟨_,rfl,x,dx,_,rfl,hx,iY _ _ _,_,rfl,_,rfl,bD (i:=2) hp2 y2 ⟨_,rfl,bD (i:=5) hp2 y5 ⟨_,rfl,bD (i:=6) hp2 y6 ⟨_,rfl,bD (i:=7) hp2 y7 ?_⟩⟩⟩⟩;refine⟨x,F,st.vw,st.ps,st.fs,de.n,de.ld,de.lt,de.sl,de.tn,rfl,B,hnl,by omega,?_⟩;exact fin fun _ _=>rfl
inductive BB (c:Cs)(vs:List V)(H:Hp)(Q:VK)(E:XK):Prop
 |mk (x:Addr) (v2:V) (F:Addr->Prop) (st:Std) (de:De) (at_:Int) (cT:vs=[.ref x,v2,.int at_]) (cU:n6 c H x F st.vw st.ps st.fs) (dH:Xu H v2 de) (fL:de.n.length<=1000) (jF:de.ld.length<=1000) (zB:st.ps.length+st.fs.length<=900) (KA:match dS st de at_ with
 |some r=>∀ t H',ao H H'->H' t=some (.tup [.non,.str r.str])->Q (.ref t) H'
 |none=>∀ t v F' H',Gr F F' H->Fr F H H'->n6 c H' x F' (dQ st de at_).vw (dQ st de at_).ps (dQ st de at_).fs->jN H' st de at_ v->H' t=some (.tup [v,.str ""])->Q (.ref t) H'):BB c vs H Q E
theorem jN.same {H H':Hp}{st:Std}{de:De}{a:Int}{v:V}(s:ao H H')(h:jN H st de a v):jN H' st de a v:=by
 unfold jN at h ⊢;generalize de.wy=wy at h ⊢;cases wy with
 |put=>obtain⟨w,e,h⟩:=h;exact⟨w,e,s _ _ h⟩
 |cut=>obtain⟨w,e,x,ex,h⟩:=h;exact⟨w,e,x,ex,s _ _ h⟩
 |swap=>obtain⟨w,e,x,ex,h⟩:=h;exact⟨w,e,x,ex,s _ _ h⟩
 |_=>exact h
theorem BC (T:Txt K w mg t):aW P w K mg base fA (0+6) t.wV t.Du ["_law_book","_law_deed","_law_at"] (BB (cs t)):=by
 have Sr:=PZ P base T;refine T.nR.ok IK ?_ ?_
 x_go
 obtain⟨x,v2,F,st,de,at_,rfl,B,hde,hnl,hll,hlen,q⟩:=h;refine aJ (ah (JZ (fun pn XS=>(ah (ar (bJ (aa (mX (X:=Cx.Fo (mC fA P w K mg base ["_law_book","_law_deed","_law_at"] "_law_tried" (aj wB) t.wV cdv A outer s H E).Qf pn) (XS:=XS) Sr (fQ hr) rfl T.i7.g T.i7.kp T.i7.b .nil (fun _ _ z=>z) (aa (pv 0) (aa (pv 1) (aa (pv 2) ag)))) (aa av ag)))))) (f6 (CT:=t.cL) (fun pn a=>(ah (ar (bJ (aa c8 (aa av ag)))))) rfl T.A3 (f6 (CT:=t.bS) (fun pn a=>(ah (ar (bJ (aa c8 (aa av ag)))))) rfl T.vb (f6 (CT:=t.gK) (fun pn a=>(ah (ar (bJ (aa c8 (aa av ag)))))) rfl T.ER (f6 (CT:=t.cJ) (fun pn a=>(ah (ar (bJ (aa c8 (aa av ag)))))) rfl T.A2 (f6 (CT:=t.cb) (fun pn a=>(ah (ar (bJ (aa c8 (aa av ag)))))) rfl T.yF (f6 (CT:=t.cM) (fun pn a=>(ah (ar (bJ (aa c8 (aa av ag)))))) rfl T.A4 (f6 (CT:=t.cK) (fun pn a=>(ah (ar (bJ (aa c8 (aa av ag)))))) rfl T.sI (f6 (CT:=t.cN) (fun pn a=>(ah (ar (bJ (aa c8 (aa av ag)))))) rfl T.A5 (f6 (CT:=t.du) (fun pn a=>(ah (ar (bJ (aa c8 (aa av ag)))))) rfl T.DF (f6 (CT:=t.dw) (fun pn a=>(ah (ar (bJ (aa c8 (aa av ag)))))) rfl T.wX JY)))))))))) rfl rfl)) ?_;refine⟨_,rfl,_,rfl,_,rfl,?_⟩;refine⟨x,v2,F,st,de,at_,rfl,B,hde,hnl,hll,hlen,?_⟩;cases ho:dS st de at_ with
 |none =>
  rw[ho]at q;intro v F' H' gr fr b an;refine⟨by show 2<=sizeLine;decide,fun t0 ht0=>?_⟩;have s1:=ao.upd (o:=.tup [v,V.str ""]) ht0;exact q t0 v F' _ gr (fun y o e n=>s1 _ _ (fr y o e n)) (b.same s1) (an.same s1) af
 |some r =>
  rw[ho]at q;intro H' s';refine⟨rfl,?_⟩;have fin:(2<=sizeLine)/\∀ t0,H' t0=none->Q (.ref t0) (upd H' t0 (.tup [V.non,V.str r.str])):=⟨by decide,fun t0 ht0=>q t0 _ (s'.trans (ao.upd ht0)) af⟩;cases r with
  |zE=>exact .inl ⟨T.sR,fin⟩
  |qQ=>exact .inr ⟨T.qx,.inl ⟨T.oB,fin⟩⟩
  |Full=>exact .inr ⟨T.zr,.inr ⟨T.vh,.inl ⟨T.EY,fin⟩⟩⟩
  |dm=>exact .inr ⟨T.sL,.inr ⟨T.qv,.inr ⟨T.zp,.inl ⟨T.sM,fin⟩⟩⟩⟩
  |eJ=>exact .inr ⟨T.q0,.inr ⟨T.pF,.inr ⟨T.wZ,.inr ⟨T.q8,.inl ⟨T.qz,fin⟩⟩⟩⟩⟩
  |jY=>exact .inr ⟨T.sS,.inr ⟨T.qy,.inr ⟨T.zt,.inr ⟨T.sU,.inr ⟨T.qZ,.inl ⟨T.sV,fin⟩⟩⟩⟩⟩⟩
  |lz=>exact .inr ⟨T.sN,.inr ⟨T.qw,.inr ⟨T.zq,.inr ⟨T.sO,.inr ⟨T.qY,.inr ⟨T.sP,.inl ⟨T.sQ,fin⟩⟩⟩⟩⟩⟩⟩
  |lB=>exact .inr ⟨T.sW,.inr ⟨T.qA,.inr ⟨T.zu,.inr ⟨T.sX,.inr ⟨T.q9,.inr ⟨T.sY,.inr ⟨T.sZ,.inl ⟨T.tf,fin⟩⟩⟩⟩⟩⟩⟩⟩
  |p5=>exact .inr ⟨T.vi,.inr ⟨T.rb,.inr ⟨T.Bi,.inr ⟨T.vj,.inr ⟨T.tq,.inr ⟨T.vk,.inr ⟨T.vm,.inr ⟨T.vo,.inl ⟨T.w6,fin⟩⟩⟩⟩⟩⟩⟩⟩⟩
  |gi=>exact .inr ⟨T.vq,.inr ⟨T.rf,.inr ⟨T.Bj,.inr ⟨T.vt,.inr ⟨T.tw,.inr ⟨T.vv,.inr ⟨T.vy,.inr ⟨T.vz,.inr ⟨T.xa,.inl ⟨T.xc,fin⟩⟩⟩⟩⟩⟩⟩⟩⟩⟩
inductive BD (vs:List V)(H:Hp)(Q:VK)(E:XK):Prop
 |mk (n:Int) (cT:vs=[.int n]) (cU:Q (.bl true) H):BD vs H Q E
theorem oG (T:Txt K w mg t):aW P w K mg base fA (0+1) t.Dv t.Dw ["_law_found"] BD:=by
 refine T.i8.ok IL ?_ ?_
 x_go
 obtain⟨n,rfl,q⟩:=h;refine aJ (ah (ar (bL (dy (aD c9 rfl T.bg bf (aa (pv 0) (aa (dW (v:=.ty "int") rfl T.qp pR rfl) ag))) (eD (Q0 (aD c9 rfl T.bg bf (aa (pv 0) (aa (dW (v:=.ty "bool") rfl T.Kt JU rfl) ag))))))))) ?_;refine mV (.bl true) ?_ q;exact⟨_,rfl,_,_,_,_,rfl,fu.int _,rfl,_,rfl,bV ⟨_,rfl,_,_,_,_,rfl,fu.int _,rfl,_,rfl,jW rfl⟩⟩
inductive BE (K:Frag)(vs:List V)(H:Hp)(Q:VK)(E:XK):Prop
 |mk (l1 l2:Addr) (xs ys:List V) (ss:List Sg) (cT:vs=[.ref l1,.ref l2]) (cU:H l1=some (.lst xs)) (dH:aM K H l2 ys) (fL:ig H xs ss) (jF:ig H ys ss) (zB:∀ H',ao H H'->Q (.bl true) H'):BE K vs H Q E
theorem Jt (T:Txt K w mg t):aW P w K mg base fA (0+2) t.Dx t.Dy ["_law_found","_law_due"] (BE K):=by
 have gF:=oG P base T;refine T.DK.ok sE ?_ ?_
 x_go
 obtain⟨l1,l2,xs,ys,ss,rfl,h1,h2,g1,g2,q⟩:=h;have el:xs.length=ys.length:=(bM g1).trans (bM g2).symm;refine aJ (ae (aH (bE (PW.pt (fq (bW (aR (aD c9 rfl T.bg bf (aa (pv 0) (aa (dW (v:=.ty "list") rfl T.fi eZ rfl) ag))))) (d7 (aq (hX.or (eF (az hr))) (aD (aB.or aC) rfl T.bu br (aa (pv 0) ag)) (aD (aB.or aC) rfl T.bu br (aa (pv 1) ag)) (aw _)))))) (ah (ar cE)) ay) (ae (d8 PassesOwn.never rfl (RA rfl T.Ol (pv 0) (pv 1)) (gG rfl (aQ (jG 2 sE.nd) (aQ (jG 3 sE.nd) eo))) (ae (aH (bE (PW.pt (fq (bW (aR (aD c9 rfl T.bg bf (aa (pv 2) (aa (dW (v:=.ty "tuple") rfl T.vc tR rfl) ag))))) (d7 (aq (hX.or (eF (az hr))) (aD (aB.or aC) rfl T.bu br (aa (pv 2) ag)) ai (aw _)))))) (ah (ar cE)) ay) (ah (aH (bE (PW.pt (fq (bW (aR (aD c9 rfl T.bg bf (aa (aY (pv 2)) (aa (dW (v:=.ty "str") rfl T.Sb Rw rfl) ag))))) (fq (bW (aR (dG T.i8 gF hr (aa (aY (pv 2)) ag)))) (d7 (aq (hX.or (eF (az hr))) (pv 2) (pv 3) (aw _))))))) (ah (ar cE)) ay)))) (ah (ar cE)))) ?_;refine fV false ?_ ?_
 ·tm_up;refine⟨_,_,_,_,rfl,fu.lst h1,rfl,_,rfl,aX ?_⟩;tm_up;refine .inl ⟨_,_,rfl,.inl (aM.of h1),?_⟩;tm_up;refine .inl ⟨_,_,rfl,.inl h2,?_⟩;tm_up;exact dr (by rw[el];simp)
 refine aX ?_;tm_up;refine⟨⟨_,aM.of h1⟩,⟨_,h2⟩,O8 (K:=K) (xs:=xs) (ys:=ys) (fun i σ H'=>∃ v1 v2,σ=[some (.ref l1),some (.ref l2),v1,v2]/\ao H H') el ⟨none,none,rfl,ao.refl _⟩ ?_ ?_ ?_⟩
 ·rintro i σ H' ⟨v1,v2,rfl,s2⟩;exact⟨s2.seq (aM.of h1),s2.seq h2⟩
 ·rintro i x y tt σ H' hx hy ⟨v1,v2,rfl,s2⟩ hn;obtain⟨sg,e1,p,rfl,hp⟩:=oo g1 hx;obtain⟨sg',e2,p2,rfl,hp2⟩:=oo g2 hy;have es:sg'=sg:=Z' (e2.symm.trans e1);subst es;have s3:ao H (upd H' tt (.tup [.ref p,.ref p2])):=s2.trans (ao.upd hn);have hp':=s3 _ _ hp;have hp2':=s3 _ _ hp2;refine⟨tt,_,rfl,jf.of af,rfl,_,_,rfl,_,_,rfl,rfl,?_⟩;generalize upd H' tt (.tup [.ref p,.ref p2])=H3 at s3 hp' hp2';refine fV false ?_ ?_
  ·tm_up;refine⟨_,_,_,_,rfl,fu.tup hp',rfl,_,rfl,aX ?_⟩;tm_up;refine .inl ⟨_,_,rfl,.inr (jf.of hp'),?_⟩;tm_up;exact dr rfl
  refine aX ?_;refine fV false ?_ ?_
  ·tm_up;refine⟨_,_,_,_,rfl,fu.str _,rfl,_,rfl,aX ?_⟩;tm_up;refine⟨UG 59 hp' hp2',?_⟩;tm_up;exact dr rfl
  refine aX ?_;exact⟨_,_,rfl,s3⟩
 ·rintro σ H' ⟨v1,v2,rfl,s2⟩;exact q _ s2
inductive DZ (K:Frag)(vs:List V)(H:Hp)(Q:VK)(E:XK):Prop
 |mk (f d:Addr) (fs ds:List Int) (cT:vs=[.ref f,.ref d]) (cU:H f=some (.lst (fs.map V.int))) (dH:aM K H d (ds.map V.int)) (fL:ds.length<=1000) (jF:Q (.bl (decide (fs=ds))) H):DZ K vs H Q E
theorem L3 (T:Txt K w mg t):aW P w K mg base fA (0+2) t.GJ t.GK ["_law_found","_law_due"] (DZ K):=by
 have gF:=oG P base T;refine T.G8.ok C8 ?_ ?_
 x_go
 obtain⟨f,d,fs,ds,rfl,hf,hd,hn,q⟩:=h;refine aJ (ae (aH (bE (PW.pt (fq (bW (aR (aD c9 rfl T.bg bf (aa (pv 0) (aa (dW (v:=.ty "list") rfl T.fi eZ rfl) ag))))) (d7 (aq (hX.or (eF (az hr))) (aD (aB.or aC) rfl T.bu br (aa (pv 0) ag)) (aD (aB.or aC) rfl T.bu br (aa (pv 1) ag)) (aw _)))))) (ah (ar cE)) ay) (ae (d8 PassesOwn.never rfl (mR rfl T.jz (aa (aD (aB.or aC) rfl T.bu br (aa (pv 1) ag)) ag)) (jG 2 C8.nd) (ah (aH (bE (PW.pt (fq (bW (aR (dG T.i8 gF hr (aa (bx aT (pv 0) (pv 2) (fun _ _=>rfl)) ag)))) (d7 (aq (hX.or (eF (az hr))) (bx aT (pv 0) (pv 2) (fun _ _=>rfl)) (bx aT (pv 1) (pv 2) (fun _ _=>rfl)) (aw _)))))) (ah (ar cE)) ay))) (ah (ar cE)))) ?_;refine fV (decide (fs.length≠ds.length)) ?_ ?_
 ·tm_up;refine⟨_,_,_,_,rfl,fu.lst hf,rfl,_,rfl,?_⟩;refine aX ?_;tm_up;refine .inl ⟨_,_,rfl,.inl (aM.of hf),?_⟩;tm_up;refine .inl ⟨_,_,rfl,.inl hd,?_⟩;tm_up;rw[L',L'];refine dr ?_;rw[eG]
  by_cases e:fs.length=ds.length
  ·simp[e]
  ·have:¬((fs.length:Int)=(ds.length:Int)):=by omega
   simp[e,this]
 ·refine aN (fun h=>?_) (fun h=>?_)
  ·have e:fs≠ds:=fun z=>by
    have:=G' h;rw[z]at this;exact this rfl
   rw[J' e]at q;exact q
  ·have el:fs.length=ds.length:=by
    by_cases e:fs.length=ds.length
    ·exact e
    ·exact S' (A' e) h
   tm_up;refine .inl ⟨_,_,rfl,.inl hd,?_⟩;rw[L'];have Vh:(2:Int) ^ 62=4611686018427387904:=by decide
   refine⟨(ds.length:Int),rfl,by rw[Vh];omega,by rw[Vh];omega,?_⟩;refine mS (n:=((ds.length:Int)).toNat) (fun i σ H'=>∃ v,σ=[some (.ref f),some (.ref d),v]/\H'=H/\fs.take i=ds.take i) ⟨none,rfl,rfl,rfl⟩ ?_ ?_
   ·rintro i σ H' hi ⟨v,rfl,rfl,ht⟩;have hid:i<ds.length:=by omega
    have hif:i<fs.length:=by omega
    refine fV (decide (fs[i]≠ds[i])) ?_ ?_
    ·tm_up;refine Ny (aM.of hf) (n:=i) (by omega) (N' hif) ?_;tm_up;refine Ny (aM.of hf) (n:=i) (by omega) (N' hif) ?_;tm_up;refine Ny hd (n:=i) (by omega) (N' hid) ?_;tm_up;refine dr ?_;rw[eG];simp
    ·refine aN (fun h=>?_) (fun h=>?_)
     ·have e:fs≠ds:=fun z=>by
       subst z;exact(G' h) rfl
      rw[J' e]at q;exact q
     ·have e:fs[i]=ds[i]:=by
       by_cases z:fs[i]=ds[i]
       ·exact z
       ·exact S' (A' z) h
      refine⟨_,rfl,rfl,?_⟩;rw[List.take_succ_eq_append_getElem hif,List.take_succ_eq_append_getElem hid,ht,e]
   ·rintro σ H' ⟨v,rfl,rfl,ht⟩;have e:fs=ds:=by
     have h1:((ds.length:Int)).toNat=ds.length:=by omega
     rw[h1,take_length,<-el,take_length]at ht;exact ht
    rw[A' e]at q;exact q
inductive yS (K:Frag)(vs:List V)(H:Hp)(Q:VK)(E:XK):Prop
 |mk (l:Addr) (b:Int) (xs:List V) (ss:List Sg) (cT:vs=[.ref l,.int b]) (cU:aM K H l xs) (dH:ig H xs ss) (fL:ss.length<=400) (jF:∀(f:Addr)(H':Hp),ao H H'->H f=none->H' f=some (.lst ((fN b (bj ss)).map V.int))->Q (.ref f) H'):yS K vs H Q E
theorem Vi {k:Kd}(h:k.meas=true)(m:Int):intText? k.str=some (nm m k)/\k.str.length<=640:=by
 cases k <;> first|(cases h;done)|exact⟨by first|exact(show intText? Kd.three.str=some 3 by lk)|exact(show intText? Kd.two.str=some 2 by lk),by lk⟩
theorem Ss {k:Kd}(h:¬ k.meas=true)(m:Int):nm m k=m:=by
 cases k <;> first|rfl|exact S' rfl h
theorem yT (T:Txt K w mg t):aW P w K mg base fA (0+2) t.AQ t.sH ["line","begin"] (yS K):=by
 have kR:=pj P base T;refine T.hV.ok jv ?_ ?_
 x_go
 obtain⟨l,b,xs,ss,rfl,hS,hg,hn,q⟩:=h;refine aJ (ae (dq 2 jv.nd (a9 ag)) (ae (dq 3 jv.nd (pv 1)) (ae (d8 PassesOwn.never rfl (dz (pv 0)) (jG 4 jv.nd) (ae (g7 (aH (aR (dG T.kD kR hr (aa (pv 4) ag))) (ah (dq 3 jv.nd (di (iW.or d9) rfl T.qp pR (aa (aY (pv 4)) ag)))) ay)) (ah (aP (eE Zc' Zl' Zk' bK (pv 2) (aa (pv 3) ag)))))) (ah (ar (pv 2)))))) ?_;refine⟨big (by show 0<=1000;omega),fun f hf=>?_⟩;tm_up;refine⟨⟨xs,fM hS hf⟩,ij (K:=K) (xs:=xs) (fun i σ H'=>∃(m:Int)(v:Option V)(fs:List Int),σ=[some (.ref l),some (.int b),some (.ref f),some (.int m),v]/\H'=upd H f (.lst (fs.map V.int))/\fs++fN m ((bj ss).drop i)=fN b (bj ss))
  ⟨b,none,[],rfl,rfl,rfl⟩ ?_ ?_ ?_⟩
 ·rintro i σ H' _ ⟨m,v,fs,rfl,rfl,_⟩;exact fM hS hf
 ·rintro i x σ H' hx ⟨m,v,fs,rfl,rfl,hm⟩;obtain⟨s,hs,p,rfl,hp⟩:=oo hg hx;have hd:=jX (pX (f:=Prod.fst) hs);rw[hd]at hm;have hp':upd H f (.lst (fs.map V.int)) p=some (.tup [.str s.1.str,.int s.2]):=by rw[ak (au hp hf)];exact hp
  have hl:=Zj' List.length hm;simp only [V',fN,Ya',wx,L']at hl;refine M8 [some (.ref l),some (.int b),some (.ref f),some (.int (nm m s.1)),some (.ref p)] (upd H f (.lst (fs.map V.int))) ?_ ?_
  ·refine⟨_,rfl,p,s,rfl,hp',_,rfl,?_⟩;refine aN (fun h=>?_) (fun h=>?_)
   ·obtain⟨e1,e2⟩:=Vi h m;tm_up;exact .inr ⟨_,_,rfl,e1,e2,rfl,rfl⟩
   ·rw[Ss h];exact⟨rfl,rfl⟩
  ·tm_up;refine⟨.inl ⟨rfl,_,aM.of af⟩,?_⟩;tm_up;refine⟨_,_,_,rfl,rfl,af,by rw[L'];exact aL (by omega),?_⟩;exact⟨_,_,fs++[nm m s.1],rfl,by rw[cR,map_append];rfl,by rw[List.append_assoc];exact hm⟩
 ·rintro σ H' ⟨m,v,fs,rfl,rfl,hm⟩;rw[List.drop_eq_nil_of_le (by rw[L',bM hg];exact R' _)]at hm;tm_up;have e:fs=fN b (bj ss):=by rw[<-hm];simp[fN]
  subst e;exact q f _ (ao.upd hf) hf af
inductive BF (K:Frag)(vs:List V)(H:Hp)(Q:VK)(E:XK):Prop
 |mk (l:Addr) (i:Int) (xs:List V) (ss:List Sg) (cT:vs=[.ref l,.int i]) (cU:aM K H l xs) (dH:ig H xs ss) (fL:Q (.str (lp (Ew (bj ss) i))) H):BF K vs H Q E
theorem oH (T:Txt K w mg t):aW P w K mg base fA (0+1) t.Dz t.DA ["line","at"] (BF K):=by
 refine T.gB.ok IM ?_ ?_
 x_go
 obtain⟨l,i,xs,ss,rfl,hS,hg,q⟩:=h;have out:¬(0<=i/\i<ss.length)->Ew (bj ss) i=none:=fun z=>by
  unfold Ew;split
  ·exact List.getElem?_eq_none (by rw[L'];omega)
  ·rfl
 refine aJ (ae (aH (pM j6 jq ai (pv 1) (aD (aB.or aC) rfl T.bu br (aa (pv 0) ag))) (ah (ar (bx aT (bx aT (pv 0) (pv 1) (fun _ _=>rfl)) ai (fun _ _=>rfl)))) ay) (ah (ar av))) ?_;tm_up;refine aN (fun h0=>?_) (fun h0=>?_)
 ·have h0':=G' h0;tm_up;refine .inl ⟨_,_,rfl,.inl hS,?_⟩;rw[bM hg];tm_up;refine aN (fun h1=>?_) (fun h1=>?_)
  ·have h1':=G' h1;have hi:i.toNat<ss.length:=by omega
   have e:Ew (bj ss) i=some (ss[i.toNat]).1:=by
    unfold Ew;rw[X' h0',Zd',N' hi];rfl
   rw[e]at q;tm_up;refine za hS hg (n:=i.toNat) (by omega) (N' hi) fun b hb=>?_;tm_up;exact q
  ·rw[out fun z=>h1 (A' z.2)]at q;exact q
 ·rw[out fun z=>h0 (A' z.1)]at q;exact⟨_,rfl,aX q⟩
inductive qJ (vs:List V)(H:Hp)(Q:VK)(E:XK):Prop
 |mk (k:Kd) (m:Int) (cT:vs=[.str k.str,.int m]) (cU:Q (.int (pw k m)) H):qJ vs H Q E
theorem BG (T:Txt K w mg t):aW P w K mg base fA (0+1) t.rO t.rP ["kind","measure"] qJ:=by
 refine T.rS.ok Az ?_ ?_
 x_go
 obtain⟨k,m,rfl,q⟩:=h;refine aJ (ae (aH (bE (PW.pt (cB (aq (aS.or (aK (az hr))) (pv 1) ai (aw _)) (cX (aq M5 (pv 0) (bA (v:=.ref t.gA) rfl T.nM rfl) rfl))))) (ah (ar (bx M6 (bA (v:=.ref t.gA) rfl T.nM rfl) (pv 0) (fun _ _=>rfl)))) ay) (ah (ar (bx M6 (bA (v:=.ref t.kC) rfl T.A8 rfl) (pv 0) (fun _ _=>rfl))))) ?_;refine fV (decide (m=2)&&(decide (k=.G)||decide (k=.R))) ?_ ?_
 ·tm_up;rw[eG];refine aN (fun h=>?_) (fun h=>?_)
  ·tm_up;refine⟨_,_,_,rfl,rfl,T.l9,_,rfl,dr ?_⟩;rw[h];cases k <;> decide +kernel
  ·exact dr (by rw[Y'.mpr h];rfl)
 ·refine aN (fun h=>?_) (fun h=>?_)
  ·tm_up;obtain⟨h1,h2⟩:=Bool.and_eq_true_iff.mp h;have hm:=G' h1;have e:[(Str.ofString "G",V.int 2),(Str.ofString "R",V.int 2)].lookup k.str=some (.int (pw k m)):=by
    rw[hm];cases k <;> first|decide +kernel|(exfalso;revert h2;decide)
   exact⟨_,_,_,_,rfl,rfl,T.l9,e,q⟩
  ·tm_up;have e:[(Str.ofString "G",V.int 3),(Str.ofString "D",V.int 2),(Str.ofString "R",V.int 3),(Str.ofString "s",V.int 1),(Str.ofString "d",V.int 1),(Str.ofString "r",V.int 1),(Str.ofString ".",V.int 0),(Str.ofString "3",V.int 0),(Str.ofString "2",V.int 0)].lookup k.str=some (.int (pw k m)):=by
    by_cases hm:m=2
    ·rw[hm]at h ⊢;cases k <;> first|decide +kernel|(exfalso;revert h;decide)
    ·cases k <;> first|decide +kernel|(simp only [pw,T' hm];decide +kernel)
   exact⟨_,_,_,_,rfl,rfl,T.zo,e,q⟩
inductive iI (K:Frag)(vs:List V)(H:Hp)(Q:VK)(E:XK):Prop
 |mk (l:Addr) (b:Int) (xs:List V) (ss:List Sg) (cT:vs=[.ref l,.int b]) (cU:aM K H l xs) (dH:ig H xs ss) (fL:ss.length<=400) (jF:∀(f:Addr)(H':Hp),ao H H'->H f=none->H' f=some (.lst ((gb b (bj ss)).map V.int))->Q (.ref f) H'):iI K vs H Q E
theorem oI (T:Txt K w mg t):aW P w K mg base fA (0+3) t.iR t.iS ["line","begin"] (iI K):=by
 have tG:=yT P base T;have eS:=oH P base T;have Ck:=BG P base T;refine T.iT.ok dB ?_ ?_
 x_go
 obtain⟨l,b,xs,ss,rfl,hS,hg,hn,q⟩:=h;refine aJ (ae (dq 2 dB.nd (a9 ag)) (ae (d8 PassesOwn.never rfl (El rfl T.j2 (oh tG (fQ hr) rfl T.hV.g T.hV.kp T.Bl .nil dN (aa (pv 0) (aa (pv 1) ag)))) (gG rfl (aQ (jG 3 dB.nd) (aQ (jG 4 dB.nd) eo))) (ah (aH (bE (PW.pt (cB (aq (aS.or (aK (az hr))) (pv 4) ai (aw _)) (cB (aq (aS.or (aK (az hr))) (dG T.gB eS hr (aa (pv 0) (aa (pv 3) ag))) av (aw _)) (cX (aq (aS.or (aK (az hr))) (dG T.gB eS hr (aa (pv 0) (aa (aE (bp.or (aF.or bq)) (pv 3) ai) ag))) av (aw _))))))) (ah (aP (eE Zc' Zl' Zk' bK (pv 2) (aa (bA (v:=.int 3) rfl T.A9 ⟨_,rfl⟩) ag)))) (ah (aP (eE Zc' Zl' Zk' bK (pv 2) (aa (dG T.rS Ck hr (aa (dG T.gB eS hr (aa (pv 0) (aa (pv 3) ag))) (aa (pv 4) ag))) ag))))))) (ah (ar (pv 2))))) ?_;refine⟨big (by show 0<=1000;omega),fun f hf=>?_⟩;tm_up;refine⟨l,b,xs,ss,rfl,fM hS hf,hg.same (ao.upd hf),hn,fun f2 H2 s2 n2 h2=>⟨_,rfl,⟨_,aM.of h2⟩,?_⟩⟩;have ml:(fN b (bj ss)).length=ss.length:=by rw[wx,L']
 have XQ:f2≠f:=fun e=>by rw[e,af]at n2;cases n2
 refine zS (K:=K) (xs:=(fN b (bj ss)).map V.int) (fun i σ H'=>∃(v w:Option V)(fs:List Int),σ=[some (.ref l),some (.int b),some (.ref f),v,w]/\ao H H'/\H' f=some (.lst (fs.map V.int))/\H' f2=some (.lst ((fN b (bj ss)).map V.int))/\fs++su ((bj ss).drop i) ((fN b (bj ss)).drop i)=gb b (bj ss))
  ⟨none,none,[],rfl,(ao.upd hf).trans s2,s2 _ _ af,h2,F8 ..⟩ ?_ ?_ ?_
 ·rintro i σ H' ⟨v,w,fs,rfl,_,_,h3,_⟩;exact aM.of h3
 ·rintro i x t σ H' hx ⟨v,w,fs,rfl,s3,h3,h4,hm⟩ ht;obtain⟨m,hm1,rfl⟩:=Eu hx;have hil:i<ss.length:=by
   have:=(K'.mp hm1).1;omega
  have hk:(bj ss)[i]? = some (ss[i]).1:=pX (N' hil);rw[jX hk,jX hm1]at hm;simp only [su,head_drop]at hm;have hl:=Zj' List.length hm;simp only [V',Ya',mZ,L']at hl;have sT:ao H' (upd H' t (.tup [.int i,.int m])):=ao.upd ht;have hS':aM K (upd H' t (.tup [.int i,.int m])) l xs:=(s3.trans sT).seq hS;have hg':=hg.same (s3.trans sT);have h3':=sT _ _ h3;have ka:Ew (bj ss) (i:Int)=some (ss[i]).1:=by rw[lr];exact hk
  have kb:Ew (bj ss) ((i:Int)+1)=(bj ss)[i+1]?:=by rw[<-lr];rfl
  refine⟨t,_,rfl,jf.of af,rfl,_,_,rfl,_,_,rfl,rfl,?_⟩;have fin:∀ z:Int,z=bw m (ss[i]).1 (bj ss)[i+1]?->∃(v w:Option V)(fs':List Int),[some (V.ref l),some (V.int b),some (V.ref f),some (V.int (i:Int)),some (V.int m)]=[some (.ref l),some (.int b),some (.ref f),v,w]/\ao H (upd (upd H' t (.tup [.int i,.int m])) f (.lst (fs.map V.int++[V.int z]))) /\
    (upd (upd H' t (.tup [.int i,.int m])) f (.lst (fs.map V.int++[V.int z]))) f=some (.lst (fs'.map V.int))/\(upd (upd H' t (.tup [.int i,.int m])) f (.lst (fs.map V.int++[V.int z]))) f2=some (.lst ((fN b (bj ss)).map V.int))/\fs'++su ((bj ss).drop (i+1)) ((fN b (bj ss)).drop (i+1))=gb b (bj ss):=by
   intro z hz;refine⟨_,_,fs++[z],rfl,cZ (s3.trans sT) hf,by rw[af,map_append];rfl,by rw[ak XQ];exact sT _ _ h4,?_⟩;rw[List.append_assoc,hz];exact hm
  refine fV (decide (m=2)&&(decide (lp (Ew (bj ss) (i:Int)) = "G")&&decide (lp (Ew (bj ss) ((i:Int)+1)) = "."))) ?_ ?_
  ·tm_up;rw[eG];refine aN (fun h=>?_) (fun h=>?_)
   ·tm_up;refine⟨l,_,xs,ss,rfl,hS',hg',?_⟩;tm_up;rw[Pm];refine aN (fun h2=>?_) (fun h2=>?_)
    ·tm_up;refine⟨l,_,xs,ss,rfl,hS',hg',?_⟩;tm_up;rw[Pm];exact dr (by rw[h,h2];rfl)
    ·exact dr (by rw[h,Y'.mpr h2];rfl)
   ·exact dr (by rw[Y'.mpr h];rfl)
  ·refine aN (fun h=>?_) (fun h=>?_)
   ·tm_up;refine⟨.inl ⟨rfl,_,aM.of h3'⟩,?_⟩;refine⟨_,_,_,rfl,rfl,h3',by rw[L'];exact aL (by omega),fin 3 ?_⟩;obtain⟨h1,h2⟩:=Bool.and_eq_true_iff.mp h;obtain⟨h2,h5⟩:=Bool.and_eq_true_iff.mp h2;have e1:(ss[i]).1=.G:=by
     have:=G' h2;rw[ka]at this;exact str_inj.mp (this.trans (rfl:("G":Str)=Kd.G.str))
    have e2:(bj ss)[i+1]? = some .dot:=by
     have:=G' h5;rw[kb]at this;exact FZ.mp (this.trans (rfl:(".":Str)=lp (some .dot)))
    unfold bw;rw[X' ⟨G' h1,e1,e2⟩]
   ·tm_up;refine⟨.inl ⟨rfl,_,aM.of h3'⟩,?_⟩;tm_up;refine⟨l,_,xs,ss,rfl,hS',hg',?_⟩;tm_up;rw[ka];refine⟨_,_,rfl,?_⟩;refine⟨_,_,_,rfl,rfl,h3',by rw[L'];exact aL (by omega),fin _ ?_⟩;unfold bw;rw[T'];rintro⟨h1,h2,h5⟩;refine h ?_;rw[ka,kb,h2,h5,h1];decide +kernel
 ·rintro σ H' ⟨v,w,fs,rfl,s3,h3,_,hm⟩;rw[L',ml,List.drop_eq_nil_of_le (by rw[L'];exact R' _)]at hm;tm_up;have e:fs=gb b (bj ss):=by rw[<-hm];simp[su]
  subst e;exact q f _ s3 hf h3
inductive KJ (K:Frag)(vs:List V)(H:Hp)(Q:VK)(E:XK):Prop
 |mk (l:Addr) (b:Int) (xs:List V) (ss:List Sg) (cT:vs=[.ref l,.int b]) (cU:aM K H l xs) (dH:ig H xs ss) (fL:ss.length<=400) (jF:∀(f:Addr)(ys:List V)(H':Hp),ao H H'->H f=none->H' f=some (.lst ys)->Iy H' ys (oM b (bj ss))->Q (.ref f) H'):KJ K vs H Q E
theorem P0 (T:Txt K w mg t):aW P w K mg base fA (0+3) t.Oa t.IW ["line","begin"] (KJ K):=by
 have tG:=yT P base T;have E5:=Hk P base T;refine T.Bg.ok oy ?_ ?_
 x_go
 obtain⟨l,b,xs,ss,rfl,hS,hg,hn,q⟩:=h;refine aJ (ae (dq 2 oy.nd (a9 ag)) (ae (dq 3 oy.nd ai) (ae (d8 PassesOwn.never rfl (Ui rfl T.Ol rfl T.j2 (pv 0) (oh tG (fQ hr) rfl T.hV.g T.hV.kp T.Bl .nil dN (aa (pv 0) (aa (pv 1) ag)))) (gG rfl (aQ (jG 4 oy.nd) (aQ (gG rfl (aQ (jG 5 oy.nd) (aQ (jG 6 oy.nd) eo))) eo))) (ah (aH (bE (PW.pt (fq (aq (aS.or (aK (az hr))) (pv 6) ai (aw _)) (d7 (bW (aR (dG T.EV E5 hr (aa (pv 5) ag)))))))) (ae (g7 (aH (aq jq (pv 3) (pv 4) (aw _)) (ah (aP (eE Zc' Zl' Zk' bK (pv 2) (aa (bJ (aa (pv 3) (aa (pv 4) ag))) ag)))) ay)) (ah (dq 3 oy.nd (aE (bp.or (aF.or bq)) (pv 4) ai)))) ay))) (ae (g7 (aH (aq jq (pv 3) (aD (aB.or aC) rfl T.bu br (aa (pv 0) ag)) (aw _)) (ah (aP (eE Zc' Zl' Zk' bK (pv 2) (aa (bJ (aa (pv 3) (aa (aD (aB.or aC) rfl T.bu br (aa (pv 0) ag)) ag))) ag)))) ay)) (ah (ar (pv 2))))))) ?_;refine⟨big (by show 0<=1000;omega),fun f hf=>?_⟩;tm_up;refine⟨l,b,xs,ss,rfl,fM hS hf,hg.same (ao.upd hf),hn,fun f2 H2 s2 n2 h2=>⟨_,_,rfl,rfl,⟨xs,((ao.upd hf).trans s2).seq hS⟩,⟨_,aM.of h2⟩,?_⟩⟩;have ml:(fN b (bj ss)).length=ss.length:=by rw[wx,L']
 have XQ:f2≠f:=fun e=>by rw[e,af]at n2;cases n2
 have cnt:(oM b (bj ss)).length<=401:=by
  have:=jr (gO b (bj ss)) 0 0;rw[kc,L']at this;exact Zb' this (by omega)
 refine RD (K:=K) (xs:=xs) (ys:=(fN b (bj ss)).map V.int) (fun i σ H'=>∃(v w u:Option V)(first:Nat)(ys:List V)(qs:List (Nat×Nat)),σ=[some (.ref l),some (.int b),some (.ref f),some (.int (first:Int)),v,w,u]/\ao H H'/\H' f=some (.lst ys)/\Iy H' ys qs/\H' f2=some (.lst ((fN b (bj ss)).map V.int))/\first<=i/\qs++dU i first (Ga ((bj ss).drop i) ((fN b (bj ss)).drop i))=oM b (bj ss))
  (by rw[L',ml];exact bM hg) ⟨none,none,none,0,[],[],rfl,(ao.upd hf).trans s2,s2 _ _ af,.nil,h2,R' _,by rw[List.drop_zero,List.drop_zero,Iw];rfl⟩ ?_ ?_ ?_
 ·rintro i σ H' ⟨v,w,u,first,ys,qs,rfl,s3,_,_,h4,_⟩;exact⟨s3.seq hS,aM.of h4⟩
 ·rintro i x y t u' σ H' hx hy ⟨v,w,u,first,ys,qs,rfl,s3,h3,hq,h4,hfi,hm⟩ ht hu htu;obtain⟨s,hs,p,rfl,hp⟩:=oo hg hx;obtain⟨m,hm1,rfl⟩:=Eu hy;rw[jX (pX (f:=Prod.fst) hs),jX hm1]at hm;simp only [Ga]at hm;have sT:ao H' (upd (upd H' t (.tup [.ref p,.int m])) u' (.tup [.int i,.ref t])):=(ao.upd ht).trans (ao.upd (by rw[ak htu.symm];exact hu));have ut:upd (upd H' t (.tup [.ref p,.int m])) u' (.tup [.int i,.ref t]) t=some (.tup [.ref p,.int m]):=by rw[ak htu,af]
  refine⟨u',_,rfl,jf.of af,rfl,_,_,rfl,_,_,rfl,t,_,rfl,jf.of ut,rfl,_,_,rfl,_,_,rfl,rfl,rfl,?_⟩;generalize upd (upd H' t (.tup [.ref p,.int m])) u' (.tup [.int i,.ref t])=H3 at sT;have hp3:=(s3.trans sT) _ _ hp;have V3:=sT _ _ h3;have V4:=lu sT hq;refine fV (!inR m s.1) ?_ ?_
  ·tm_up;rw[eG];refine aN (fun h=>?_) (fun h=>?_)
   ·refine dr ?_;unfold inR;have:=G' h;simp[this]
   ·tm_up;refine⟨p,s,rfl,hp3,_,rfl,dr ?_⟩;have hm2:m≠2:=fun e=>h (A' e);unfold inR;simp[hm2]
  ·cases hin:inR m s.1 with
   |false =>
    rw[hin]at hm;refine bV ?_;refine⟨fun σ1 H1=>σ1=[some (.ref l),some (.int b),some (.ref f),some (.int (first:Int)),some (.int i),some (.ref p),some (.int m)]/\ao H H1/\(∃ ys',H1 f=some (.lst ys')/\Iy H1 ys' (qs++if first<i then [(first,i)] else []))/\H1 f2=some (.lst ((fN b (bj ss)).map V.int)),?_,?_⟩
    ·tm_up;refine aN (fun h=>?_) (fun h=>?_)
     ·have hlt:first<i:=by have:=G' h;omega
      have ql:qs.length<=401:=by
       have:=Zj' List.length hm;simp only [V']at this;omega
      tm_up;refine⟨.inl ⟨rfl,_,aM.of V3⟩,?_⟩;tm_up;refine⟨by show 2<=sizeLine;decide,fun z hz=>?_⟩;have sz:ao H3 (upd H3 z (.tup [.int (first:Int),.int i])):=ao.upd hz;have Su:=sz _ _ V3;refine⟨_,_,_,rfl,rfl,Su,by rw[bM V4];exact aL (by omega),?_⟩;rw[X' hlt];exact⟨rfl,cZ ((s3.trans sT).trans sz) hf,⟨_,af,gN (ke Su (lu sz V4)) (Gb Su ⟨z,rfl,af⟩)⟩,by rw[ak XQ];exact sz _ _ (sT _ _ h4)⟩
     ·have hlt:¬ first<i:=fun z=>h (A' (by omega))
      rw[T' hlt,append_nil];exact⟨rfl,s3.trans sT,⟨_,V3,V4⟩,sT _ _ h4⟩
    ·rintro σ1 H1 ⟨rfl,sa,⟨ys',hb,hc⟩,hd⟩;tm_up;refine⟨_,_,_,i+1,ys',_,rfl,sa,hb,hc,hd,R' _,?_⟩;rw[<-hm,List.append_assoc];rfl
   |true =>
    rw[hin]at hm;refine aX ?_;exact⟨_,_,_,first,ys,qs,rfl,s3.trans sT,V3,V4,sT _ _ h4,by omega,hm⟩
 ·rintro σ H' ⟨v,w,u,first,ys,qs,rfl,s3,h3,hq,h4,hfi,hm⟩;rw[bM hg]at hm hfi;rw[List.drop_eq_nil_of_le (by rw[L'];exact R' _)]at hm;have hm':qs++(if first<ss.length then [(first,ss.length)] else [])=oM b (bj ss):=hm;have ql:qs.length<=401:=by
   have:=Zj' List.length hm;simp only [V']at this;omega
  refine⟨fun σ1 H1=>σ1=[some (.ref l),some (.int b),some (.ref f),some (.int (first:Int)),v,w,u]/\ao H H1/\∃ ys',H1 f=some (.lst ys')/\Iy H1 ys' (oM b (bj ss)),?_,?_⟩
  ·tm_up;refine .inl ⟨_,_,rfl,.inl (s3.seq hS),?_⟩;rw[bM hg];tm_up;refine aN (fun h=>?_) (fun h=>?_)
   ·have hlt:first<ss.length:=by have:=G' h;omega
    tm_up;refine⟨.inl ⟨rfl,_,aM.of h3⟩,?_⟩;tm_up;refine .inl ⟨_,_,rfl,.inl (s3.seq hS),?_⟩;rw[bM hg];refine⟨by show 2<=sizeLine;decide,fun z hz=>?_⟩;have sz:ao H' (upd H' z (.tup [.int (first:Int),.int (ss.length:Int)])):=ao.upd hz;have Su:=sz _ _ h3;refine⟨_,_,_,rfl,rfl,Su,by rw[bM hq];exact aL (by omega),?_⟩;rw[X' hlt]at hm';rw[<-hm'];exact⟨rfl,cZ (s3.trans sz) hf,_,af,gN (ke Su (lu sz hq)) (Gb Su ⟨z,rfl,af⟩)⟩
   ·have hlt:¬ first<ss.length:=fun z=>h (A' (by omega))
    rw[T' hlt,append_nil]at hm';rw[<-hm'];exact⟨rfl,s3,_,h3,hq⟩
  ·rintro σ1 H1 ⟨rfl,sa,ys',hb,hc⟩;tm_up;exact q f ys' H1 sa hf hb hc
inductive nX (K:Frag)(vs:List V)(H:Hp)(Q:VK)(E:XK):Prop
 |mk (l f:Addr) (a:Nat) (xs:List V) (ss:List Sg) (fs:List Int) (cT:vs=[.ref l,.ref f,.int (a:Int)]) (cU:aM K H l xs) (dH:ig H xs ss) (fL:H f=some (.lst (fs.map V.int))) (jF:fs.length=ss.length) (zB:Q (.bl (gP (bj ss) fs a)) H):nX K vs H Q E
theorem nY (T:Txt K w mg t):aW P w K mg base fA (0+2) t.oX t.oY ["line","found","first"] (nX K):=by
 have eS:=oH P base T;refine T.jJ.ok wF ?_ ?_
 x_go
 obtain⟨l,f,a,xs,ss,fs,rfl,hS,hg,hf,hl,q⟩:=h;refine aJ (ah (ar (bL (dy (aZ (aS.or (aK (az hr))) (dG T.gB eS hr (aa (pv 0) (aa (aE eW (pv 2) ai) ag))) av (aw _)) (eD (aZ (aS.or (aK (az hr))) (bx aT (pv 1) (aE eW (pv 2) ai) (fun _ _=>rfl)) (bA (v:=.int 3) rfl T.ET ⟨_,rfl⟩) (aw _))))))) ?_;refine mV (.bl (gP (bj ss) fs a)) ?_ q;tm_up;refine⟨l,_,xs,ss,rfl,hS,hg,?_⟩;tm_up;rw[YE];refine aN (fun h=>?_) (fun h=>?_)
 ·have e:=G' h;have e':1<=a/\a-1<ss.length:=by
   unfold Ew at e;split at e
   ·have:=(K'.mp e).1;rw[L']at this;omega
   ·cases e
  tm_up;refine Ny (aM.of hf) (n:=a-1) (by omega) (N' (by omega)) ?_;tm_up;rw[eG];refine jW ?_;unfold gP;rw[h,List.getD_eq_getElem?_getD,N' (by omega)];rfl
 ·refine jW ?_;unfold gP;rw[Y'.mpr h];rfl
inductive mv (K:Frag)(vs:List V)(H:Hp)(Q:VK)(E:XK):Prop
 |mk (l:Addr) (z:Nat) (xs:List V) (ss:List Sg) (cT:vs=[.ref l,.int (z:Int)]) (cU:aM K H l xs) (dH:ig H xs ss) (fL:Q (.bl (fb (bj ss) z)) H):mv K vs H Q E
theorem KL (k:Option Kd):inV (.str (lp k)) [.str "G",.str "D",.str "R"]=mF k:=by
 cases k with
 |none=>decide +kernel
 |some k=>cases k <;> decide +kernel
theorem mw (T:Txt K w mg t):aW P w K mg base fA (0+2) t.nH t.nI ["line","behind"] (mv K):=by
 have eS:=oH P base T;refine T.i9.ok um ?_ ?_
 x_go
 obtain⟨l,z,xs,ss,rfl,hS,hg,q⟩:=h;refine aJ (ah (ar (bL (dy (aZ (aS.or (aK (az hr))) (dG T.gB eS hr (aa (pv 0) (aa (pv 1) ag))) av (aw _)) (eD (aZ (gp.or gq) (dG T.gB eS hr (aa (pv 0) (aa (aE (bp.or (aF.or bq)) (pv 1) ai) ag))) (bA (v:=.ref t.jk) rfl T.rQ rfl) rfl)))))) ?_;refine mV (.bl (fb (bj ss) z)) ?_ q;tm_up;refine⟨l,_,xs,ss,rfl,hS,hg,?_⟩;tm_up;rw[YE];refine aN (fun h=>?_) (fun h=>?_)
 ·tm_up;refine⟨l,_,xs,ss,rfl,hS,hg,?_⟩;tm_up;refine .inl ⟨_,_,rfl,.inr (T.rT _),rfl,rfl,jW ?_⟩;unfold fb;rw[lr]at h;have e:Ew (bj ss) ((z:Int)+1)=(bj ss)[z+1]?:=by rw[<-lr];rfl
  rw[h,<-KL,<-e];rfl
 ·refine jW ?_;unfold fb;rw[lr]at h;rw[Y'.mpr h];rfl
def OA (K:Frag)(g:List Kd->List Int->Nat->Nat->Bool×List Int):Sp:=fun vs H Q _=>∃(l f:Addr)(a z:Nat)(xs:List V)(ss:List Sg)(fs:List Int),vs=[.ref l,.ref f,.int (a:Int),.int (z:Int)]/\aM K H l xs/\ig H xs ss/\H f=some (.lst (fs.map V.int))/\fs.length=ss.length/\a<z/\z<=ss.length /\
 Q (.bl (g (bj ss) fs a z).1) (upd H f (.lst ((g (bj ss) fs a z).2.map V.int)))
theorem tH (T:Txt K w mg t):aW P w K mg base fA (0+3) t.lS t.lT ["line","found","first","behind"] (OA K tT):=by
 have jL:=nY P base T;have je:=mw P base T;refine T.lZ.ok sF ?_ ?_
 x_go
 obtain⟨l,f,a,z,xs,ss,fs,rfl,hS,hg,hf,hl,Vj,hz,q⟩:=h;unfold tT at q;refine aJ (ae (aH (aR (dG T.jJ jL hr (aa (pv 0) (aa (pv 1) (aa (pv 2) ag))))) (ae (fI (bA (v:=.int 2) rfl T.fR ⟨_,rfl⟩) (pI (pv 1) (aE eW (pv 2) ai) set_list)) (ah (ar cE))) ay) (ae (aH (aR (dG T.i9 je hr (aa (pv 0) (aa (pv 3) ag)))) (ae (fI (bA (v:=.int 2) rfl T.fR ⟨_,rfl⟩) (pI (pv 1) (pv 3) set_list)) (ah (ar cE))) ay) (ah (ar cE)))) ?_;tm_up;refine⟨l,f,a,xs,ss,fs,rfl,hS,hg,hf,hl,_,rfl,?_⟩;refine aN (fun h=>?_) (fun h=>?_)
 ·rw[X' h]at q;have hp:=wz h;rw[L']at hp;tm_up;refine⟨_,_,_,_,rfl,rfl,hf,lx (j:=a-1) (by omega) (by rw[L'];omega),?_⟩;rw[jg];exact q
 ·rw[T' h]at q;tm_up;refine⟨l,z,xs,ss,rfl,hS,hg,_,rfl,?_⟩;refine aN (fun h2=>?_) (fun h2=>?_)
  ·rw[X' h2]at q;have hp:=sx h2;rw[L']at hp;tm_up;refine⟨_,_,_,_,rfl,rfl,hf,lx (j:=z) rfl (by rw[L'];omega),?_⟩;rw[jg];exact q
  ·rw[T' h2,tV hf]at q;exact q
theorem tI (T:Txt K w mg t):aW P w K mg base fA (0+3) t.lU t.lV ["line","found","first","behind"] (OA K tU):=by
 have jL:=nY P base T;have je:=mw P base T;have eS:=oH P base T;refine T.l4.ok sG ?_ ?_
 x_go
 obtain⟨l,f,a,z,xs,ss,fs,rfl,hS,hg,hf,hl,Vj,hz,q⟩:=h;unfold tU at q;refine aJ (ae (aH (bE (PW.pt (cB (aq (bO.or bN) (dG T.gB eS hr (aa (pv 0) (aa (pv 3) ag))) (bA (v:=.ref t.jk) rfl T.rQ rfl) rfl) (cX (aq (aS.or (aK (az hr))) (dG T.gB eS hr (aa (pv 0) (aa (aE eW (pv 3) ai) ag))) av (aw _)))))) (ae (fI (bA (v:=.int 2) rfl T.zj ⟨_,rfl⟩) (pI (pv 1) (aE eW (pv 3) ai) set_list)) (ah (ar cE))) ay) (ae (aH (bE (PW.pt (cB (aR (dG T.jJ jL hr (aa (pv 0) (aa (pv 1) (aa (pv 2) ag))))) (cX (aR (dG T.i9 je hr (aa (pv 0) (aa (pv 3) ag)))))))) (ae (fI (bA (v:=.int 2) rfl T.fR ⟨_,rfl⟩) (pI (pv 1) (aE eW (pv 2) ai) set_list)) (ae (fI (bA (v:=.int 2) rfl T.fR ⟨_,rfl⟩) (pI (pv 1) (pv 3) set_list)) (ah (ar cE)))) ay) (ah (ar cE)))) ?_;refine fV (mF (bj ss)[z]? && decide ((bj ss)[z-1]? = some .s)) ?_ ?_
 ·tm_up;refine⟨l,_,xs,ss,rfl,hS,hg,?_⟩;tm_up;refine .inl ⟨_,_,rfl,.inr (T.rT _),rfl,rfl,_,rfl,?_⟩;show if inV (.str (lp (Ew (bj ss) (z:Int)))) [.str "G",.str "D",.str "R"]=true then _ else _;rw[KL,lr];refine aN (fun h=>?_) (fun h=>?_)
  ·tm_up;refine⟨l,_,xs,ss,rfl,hS,hg,?_⟩;tm_up;rw[Z7];have e:Ew (bj ss) ((z:Int)-1)=(bj ss)[z-1]?:=by rw[<-lr];congr 1;omega
   rw[e];exact dr (by rw[h];rfl)
  ·exact dr (by rw[Y'.mpr h];rfl)
 ·refine aN (fun h=>?_) (fun h=>?_)
  ·rw[X' h]at q;tm_up;refine⟨_,_,_,_,rfl,rfl,hf,lx (j:=z-1) (by omega) (by rw[L'];omega),?_⟩;rw[jg];exact q
  ·rw[T' h]at q;refine fV (gP (bj ss) fs a&&fb (bj ss) z) ?_ ?_
   ·tm_up;refine⟨l,f,a,xs,ss,fs,rfl,hS,hg,hf,hl,_,rfl,?_⟩;refine aN (fun h=>?_) (fun h=>?_)
    ·tm_up;refine⟨l,z,xs,ss,rfl,hS,hg,_,rfl,dr ?_⟩;rw[h];rfl
    ·exact dr (by rw[Y'.mpr h];rfl)
   ·refine aN (fun h2=>?_) (fun h2=>?_)
    ·rw[X' h2]at q;have hp:=wz (Bool.and_eq_true_iff.mp h2).1;have hr:=sx (Bool.and_eq_true_iff.mp h2).2;rw[L']at hp hr;tm_up;refine⟨_,_,_,_,rfl,rfl,hf,lx (j:=a-1) (by omega) (by rw[L'];omega),?_⟩;rw[jg];tm_up;refine⟨_,_,_,_,rfl,rfl,af,lx (j:=z) rfl (by rw[L',List.length_set];omega),?_⟩;rw[jg,cR];exact q
    ·rw[T' h2,tV hf]at q;exact q
theorem Cm (T:Txt K w mg t):aW P w K mg base fA (0+4) t.uX t.uY ["line","found","first","behind"] (OA K settle):=by
 have vY:=tH P base T;have vZ:=tI P base T;refine T.vg.ok rJ ?_ ?_
 x_go
 obtain⟨l,f,a,z,xs,ss,fs,rfl,hS,hg,hf,hl,Vj,hz,q⟩:=h;unfold settle at q;refine aJ (ae (dq 4 rJ.nd (aE cV (aE eW (pv 3) (pv 2)) ai)) (ae (aH (aq (aS.or (aK (az hr))) (pv 4) ai (aw _)) (ah (ar (dG T.lZ vY hr (aa (pv 0) (aa (pv 1) (aa (pv 2) (aa (pv 3) ag))))))) ay) (ae (aH (aq (aS.or (aK (az hr))) (pv 4) ai (aw _)) (ah (ar (dG T.l4 vZ hr (aa (pv 0) (aa (pv 1) (aa (pv 2) (aa (pv 3) ag))))))) ay) (ah (ar cE))))) ?_;tm_up;rw[eG];have e:((z:Int)-(a:Int)) % 3=(((z-a) % 3:Nat):Int):=by omega
 refine aN (fun h=>?_) (fun h=>?_)
 ·have h1:(z-a) % 3=1:=by have:((z:Int)-(a:Int)) % 3=1:=G' h;omega
  rw[X' h1]at q;tm_up;exact⟨l,f,a,z,xs,ss,fs,rfl,hS,hg,hf,hl,Vj,hz,q⟩
 ·have h1:¬(z-a) % 3=1:=fun c=>h (A' (by show((z:Int)-(a:Int)) % 3=1;omega));rw[T' h1]at q;tm_up;rw[eG];refine aN (fun h=>?_) (fun h=>?_)
  ·have h2:(z-a) % 3=2:=by have:((z:Int)-(a:Int)) % 3=2:=G' h;omega
   rw[X' h2]at q;tm_up;exact⟨l,f,a,z,xs,ss,fs,rfl,hS,hg,hf,hl,Vj,hz,q⟩
  ·have h2:¬(z-a) % 3=2:=fun c=>h (A' (by show((z:Int)-(a:Int)) % 3=2;omega));rw[T' h2,tV hf]at q;exact q
inductive BH (K:Frag)(vs:List V)(H:Hp)(Q:VK)(E:XK):Prop
 |mk (l:Addr) (b:Int) (xs:List V) (ss:List Sg) (cT:vs=[.ref l,.int b]) (cU:aM K H l xs) (dH:ig H xs ss) (fL:ss.length<=400) (jF:∀(p f lo:Addr)(ys:List V)(H':Hp),ao H H'->H f=none->H lo=none->f≠lo->H' p=some (.tup [.ref f,.ref lo])->H' f=some (.lst ((hZ b (bj ss)).1.map V.int))->H' lo=some (.lst ys)->Iy H' ys (hZ b (bj ss)).2->Q (.ref p) H'):BH K vs H Q E
theorem Ju (T:Txt K w mg t):aW P w K mg base fA (0+5) t.DB t.DC ["line","begin"] (BH K):=by
 have pG:=oI P base T;have Sv:=P0 P base T;have Fh:=Cm P base T;refine T.DM.ok kq ?_ ?_
 x_go
 obtain⟨l,b,xs,ss,rfl,hS,hg,hn,q⟩:=h;refine aJ (ae (dq 2 kq.nd (dG T.iT pG hr (aa (pv 0) (aa (pv 1) ag)))) (ae (dq 3 kq.nd (a9 ag)) (ae (d8 PassesOwn.never rfl (dz (oh Sv (fQ hr) rfl T.Bg.g T.Bg.kp T.Sd .nil dN (aa (pv 0) (aa (pv 1) ag)))) (gG rfl (aQ (jG 4 kq.nd) (aQ (jG 5 kq.nd) eo))) (ah (aH (bW (aR (dG T.vg Fh hr (aa (pv 0) (aa (pv 2) (aa (pv 4) (aa (pv 5) ag))))))) (ah (aP (eE Zc' Zl' Zk' bK (pv 3) (aa (bJ (aa (pv 4) (aa (pv 5) ag))) ag)))) ay))) (ah (ar (bJ (aa (pv 2) (aa (pv 3) ag)))))))) ?_;tm_up;refine⟨l,b,xs,ss,rfl,hS,hg,hn,fun f H1 s1 n1 h1=>?_⟩;refine⟨big (by show 0<=1000;omega),fun lo hlo=>?_⟩;have V5:=s1.trans (ao.upd (o:=.lst []) hlo);tm_up;refine⟨l,b,xs,ss,rfl,V5.seq hS,hg.same V5,hn,fun r zs H2 s2 n2 h2 hz=>⟨_,rfl,⟨_,aM.of h2⟩,?_⟩⟩;have OB:H lo=none:=s1.free hlo;have Sw:f≠lo:=au h1 hlo;have nrf:r≠f:=fun e=>by
  have:=V5.free n2;have h1':=ao.upd (o:=.lst []) hlo _ _ h1;rw[<-e,n2]at h1';cases h1'
 have nrl:r≠lo:=fun e=>by rw[e,af]at n2;cases n2
 have bl:(gb b (bj ss)).length=ss.length:=by rw[mZ,L']
 have cnt:(oM b (bj ss)).length<=401:=by
  have:=jr (gO b (bj ss)) 0 0;rw[kc,L']at this;exact Zb' this (by omega)
 refine ij (K:=K) (xs:=zs) (fun i σ H'=>∃(v w:Option V)(c:QH)(ys:List V),σ=[some (.ref l),some (.int b),some (.ref f),some (.ref lo),v,w]/\ao H H'/\H' f=some (.lst (c.1.map V.int))/\H' lo=some (.lst ys)/\Iy H' ys c.2/\H' r=some (.lst zs)/\Iy H' zs (oM b (bj ss))/\c.1.length=ss.length/\c.2.length<=i/\((oM b (bj ss)).drop i).foldl (mG (bj ss)) c=hZ b (bj ss))
  ⟨none,none,(gb b (bj ss),[]),[],rfl,V5.trans s2,s2 _ _ (ao.upd (o:=.lst []) hlo _ _ h1),s2 _ _ af,.nil,h2,hz,bl,R' _,rfl⟩ ?_ ?_ ?_
 ·rintro i σ H' _ ⟨v,w,c,ys,rfl,_,_,_,_,hr,_⟩;exact aM.of hr
 ·rintro i x σ H' hx ⟨v,w,c,ys,rfl,s3,Sx,Sy,hys,Vk,hzs,hcl,hci,mx⟩;obtain⟨pr,hpr,p,rfl,hp⟩:=oo hzs hx;have hin:=NA b (bj ss) pr (Zf' hpr);rw[L']at hin;rw[jX hpr,List.foldl_cons]at mx;have hil:i<401:=by
   have:=(K'.mp hpr).1;omega
  refine⟨p,_,rfl,jf.of hp,rfl,_,_,rfl,_,_,rfl,rfl,?_⟩;tm_up;refine⟨l,f,pr.1,pr.2,xs,ss,c.1,rfl,s3.seq hS,hg.same s3,Sx,hcl,hin.1,hin.2,?_⟩;have s4:ao H (upd H' f (.lst ((settle (bj ss) c.1 pr.1 pr.2).2.map V.int))):=cZ s3 n1;have Jv:upd H' f (.lst ((settle (bj ss) c.1 pr.1 pr.2).2.map V.int)) lo=some (.lst ys):=by rw[ak Sw.symm];exact Sy
  have Y1:upd H' f (.lst ((settle (bj ss) c.1 pr.1 pr.2).2.map V.int)) r=some (.lst zs):=by rw[ak nrf];exact Vk
  have Vl:(settle (bj ss) c.1 pr.1 pr.2).2.length=ss.length:=by rw[sv];exact hcl
  tm_up;refine aN (fun h=>?_) (fun h=>?_)
  ·have hst:(settle (bj ss) c.1 pr.1 pr.2).1=false:=by
    cases e:(settle (bj ss) c.1 pr.1 pr.2).1
    ·rfl
    ·rw[e]at h;cases h
   tm_up;refine⟨.inl ⟨rfl,_,aM.of Jv⟩,?_⟩;tm_up;refine⟨by show 2<=sizeLine;decide,fun z hz=>?_⟩;have sz:=ao.upd (o:=.tup [.int (pr.1:Int),.int (pr.2:Int)]) hz;have Hw:=sz _ _ Jv;refine⟨_,_,_,rfl,rfl,Hw,by rw[bM hys];exact aL (by omega),?_⟩;refine⟨_,_,((settle (bj ss) c.1 pr.1 pr.2).2,c.2++[pr]),_,rfl,cZ (s4.trans sz) OB,by rw[ak Sw];exact sz _ _ af,af,gN (ke Hw (lu sz (ke Sx hys))) (Gb Hw ⟨z,rfl,af⟩),
    by rw[ak nrl];exact sz _ _ Y1,ke Hw (lu sz (ke Sx hzs)),Vl,by simp;omega,?_⟩
   rw[<-mx];unfold mG;rw[hst];rfl
  ·have hst:(settle (bj ss) c.1 pr.1 pr.2).1=true:=by
    cases e:(settle (bj ss) c.1 pr.1 pr.2).1
    ·rw[e]at h;exact S' rfl h
    ·rfl
   refine⟨_,_,((settle (bj ss) c.1 pr.1 pr.2).2,c.2),ys,rfl,s4,af,Jv,ke Sx hys,Y1,ke Sx hzs,Vl,by show c.2.length<=i+1;omega,?_⟩;rw[<-mx];unfold mG;rw[hst];rfl
 ·rintro σ H' ⟨v,w,c,ys,rfl,s3,Sx,Sy,hys,Vk,hzs,hcl,hci,mx⟩;rw[bM hz,List.drop_length]at mx;have e:c=hZ b (bj ss):=mx;subst e;tm_up;refine⟨by show 2<=sizeLine;decide,fun z hz=>?_⟩;have sz:=ao.upd (o:=.tup [.ref f,.ref lo]) hz;exact q z f lo ys _ (s3.trans sz) n1 OB Sw af (sz _ _ Sx) (sz _ _ Sy) (lu sz hys)
inductive D0 (K:Frag)(vs:List V)(H:Hp)(Q:VK)(E:XK):Prop
 |mk (l:Addr) (b:Int) (xs:List V) (ss:List Sg) (cT:vs=[.ref l,.int b]) (cU:aM K H l xs) (dH:ig H xs ss) (fL:ss.length<=400) (jF:∀(f:Addr)(H':Hp),ao H H'->H f=none->H' f=some (.lst ((hZ b (bj ss)).1.map V.int))->Q (.ref f) H'):D0 K vs H Q E
theorem L4 (T:Txt K w mg t):aW P w K mg base fA (0+6) t.GN t.AR ["line","begin"] (D0 K):=by
 have L5:=Ju P base T;refine T.kG.ok LF ?_ ?_
 x_go
 obtain⟨l,b,xs,ss,rfl,hS,hg,hn,q⟩:=h;refine aJ (ah (ar (bx aT (dG T.DM L5 hr (aa (pv 0) (aa (pv 1) ag))) ai (fun _ _=>rfl)))) ?_;tm_up;refine⟨l,b,xs,ss,rfl,hS,hg,hn,fun p f lo ys H' s1 n1 n2 _ hp hf _ _=>?_⟩;tm_up;exact q f H' s1 n1 hf
inductive v7 (c:Cs)(vs:List V)(H:Hp)(Q:VK)(E:XK):Prop
 |mk (x:Addr) (F:Addr->Prop) (vw:Vw) (ps fs:List Vw) (n:Str) (cT:vs=[.ref x,.str n]) (cU:n6 c H x F vw ps fs) (dH:match aO vw n with
 |none=>RX E c .dm H
 |some _=>∀(l:Addr)(H':Hp),H l=none->ao H H'->H' l=some (.lst ((oO vw n).map V.int))->Q (.ref l) H'):v7 c vs H Q E
theorem Fi (T:Txt K w mg t):aW P w K mg base (eU P w) (0+7) t.yx t.yy ["self","name"] (v7 (cs t)):=by
 have dD:=gS P base T;have Hy:=L4 P base T;have gn:=oC P base T;refine T.eV.CF c7 ?_ ?_
 x_go
 obtain⟨x,F,vw,ps,fs,n,rfl,B,q⟩:=h;refine aJ (ae (dq 2 c7.nd (bT (X:=(nJ T.eV.1 c7 (eU P w) P w mg base cdv A outer s H E)) (pv 0) T.aI T.cm.me dD (fQ hr) T.cm.b .nil (fun _ _ z=>Or.inl z) (aa (pv 1) ag))) (ae (aH (aq pL (pv 2) c8 (aw _)) (ah (ar (oh Hy (fQ hr) rfl T.kG.g T.kG.kp T.Hh .nil dN (aa (bT (X:=(nJ T.eV.1 c7 (eU P w) P w mg base cdv A outer s H E)) (pv 0) T.aI T.bB.me gn (fQ hr) T.bB.b .nil (fun _ _ z=>Or.inl z) (aa (pv 1) ag)) (aa ai ag))))) ay) (ae (fI (pv 2) (gG rfl (aQ (jG 3 c7.nd) (aQ (jG 4 c7.nd) (aQ (dX (i:=5) c7.nd rfl (Or.inr rfl)) (aQ (jG 6 c7.nd) eo)))))) (ae (dq 7 c7.nd (bL (cz (aR (pv 6)) ai ai))) (ah (ar (iq (cn:=["worth"]) rfl (cY.of rfl) (dz (oh Hy (fQ hr) rfl T.kG.g T.kG.kp T.Hh .nil dN (aa (bT (X:=(nJ T.eV.1 c7 (eU P w) P w mg base cdv A outer s H E)) (pv 0) T.aI T.bB.me gn (fQ hr) T.bB.b .nil (fun _ _ z=>Or.inl z) (aa (pv 1) ag)) (aa (pv 7) ag)))) (fun _=>(dX (i:=0) zf rfl (Or.inl rfl))) (fun _=>j9) (fun _=>(aE (iV.or iX) (pv 6) (pv 0)))))))))) ?_;obtain⟨L,D,U,all,M,Ps,Fs,es,us,b,iM,pp,pf,f⟩:=B.ex;obtain⟨dx,hx⟩:=b.hx;have wv:=B.wv vw (.inr (.inl rfl));refine⟨_,rfl,x,dx,_,rfl,hx,iu _ _ _,_,rfl,x,F,vw,ps,fs,n,rfl,B,?_⟩;cases hf:aO vw n with
 |none =>
  rw[hf]at q;exact q
 |some th =>
  rw[hf]at q;cases th with
  |pl ss =>
   have gl:=(wv.gd _ _ (bP hf)).1;refine⟨_,rfl,rfl,_,rfl,?_⟩;refine aN (fun _=>?_) (fun h=>S' (by decide) h);refine⟨_,rfl,x,dx,_,rfl,hx,h8 _ _ _,_,rfl,x,F,vw,ps,fs,n,rfl,B,?_⟩;rw[hf];intro l ys H1 hl s1 h1 g1;rw[m8 hf]at g1;refine⟨l,3,ys,ss,rfl,aM.of h1,g1,by omega,fun f' H2 s2 n2 h2=>?_⟩;exact q f' H2 (s1.free n2) (s1.trans s2) (by rw[Ah hf];exact h2)
  |cn ld lt sl tn =>
   intro p hp;obtain⟨⟨ss,rD⟩,lt0,lt1,YS,YT⟩:=wv.ld n ld lt sl tn (bP hf);have hfl:=wv.find rD;have gl:=(wv.gd _ _ rD).1;rw[Ai hf hfl]at q;refine⟨_,rfl,rfl,_,rfl,?_⟩;refine aN (fun h=>by have:=G' h;cases this) (fun _=>?_);refine⟨_,rfl,p,_,rfl,jf.of hp,rfl,_,_,rfl,_,_,rfl,_,_,rfl,_,_,rfl,rfl,?_⟩;refine⟨fun v H'=>v=.int (if tn=true then 2 else 3)/\H'=H,?_,?_⟩
   ·refine⟨_,rfl,_,rfl,?_⟩;cases tn with
    |true=>exact bV ⟨rfl,rfl⟩
    |false=>exact aX ⟨rfl,rfl⟩
   intro v0 H0 ⟨e1,e2⟩;rw[e1,e2];refine⟨_,rfl,x,dx,_,rfl,hx,h8 _ _ _,_,rfl,x,F,vw,ps,fs,n,rfl,B,?_⟩;rw[hf];intro l ys H1 hl s1 h1 g1;rw[p6 hf hfl]at g1;have Vm:(if tn=true then ss.map lC else ss).length<=400:=by
    split
    ·rw[L'];omega
    ·omega
   refine⟨_,rfl,l,(if tn=true then 2 else 3),ys,_,rfl,aM.of h1,g1,Vm,fun f' H2 s2 n2 h2=>?_⟩;generalize hW:(hZ (if tn=true then 2 else 3) (bj (if tn=true then ss.map lC else ss))).1=W at q h2;have hWl:W.length<=400:=by rw[<-hW,qO,L'];exact Vm
   refine⟨f',rfl,⟨_,aM.of h2⟩,fun D' b' hD'=>?_⟩;generalize hbz:(if tn=true then(2:Int) else 3)=bz;refine fH (K:=K) (xs:=W.map V.int) (fun i ys σ H'=>∃ v,σ=[v,some (.ref x),some (.str n),some (.ref p),some (.str ld),some (.int lt),some (.int sl),some (.bl tn),some (.int bz)]/\H'=upd H2 D' (.lst ys)/\ys=((W.take i).map fun w=>sl * w).map V.int) ⟨none,rfl,rfl,by simp⟩ ?_ ?_ ?_
   ·rintro i ys σ H' ⟨v,rfl,rfl,_⟩;exact fM (aM.of h2) hD'
   ·rintro i ys y σ H' hy ⟨v,rfl,rfl,rfl⟩ N hN;obtain⟨z,hz,rfl⟩:=Eu hy;have hi:i<W.length:=(K'.mp hz).1;refine ee ?_;refine⟨_,rfl,_,rfl,.inl ⟨_,_,rfl,rfl,.inl ⟨by omega,by omega⟩,af,?_,?_⟩⟩
    ·rw[L',L',Zo'];exact aL (by omega)
    ·refine hN _ _ _ ⟨_,rfl,cR,?_⟩;rw[take_succ,hz,map_append,map_append];rfl
   ·rintro ys σ H' ⟨v,rfl,rfl,rfl⟩;rw[L',take_length];exact q D' _ (s1.free (s2.free hD')) ((s1.trans s2).trans (ao.upd hD')) af
theorem _root_.L2.kZ.same {H H':Hp}{a:Addr}{y:V}{r:Option V}(s:ao H H')(h:kZ H a y r):kZ H' a y r:=by
 have rd:∀{u},Rd H a u->Rd H' a u:=fun z=>z.imp (fun e=>s _ _ e) fun⟨o,e⟩=>⟨o,s _ _ e⟩;rcases h with ⟨kvs,k,e,e2,e3⟩|⟨kvs,k,b,e,e2,e3,e4⟩
 ·exact .inl ⟨kvs,k,rd e,e2,e3⟩
 ·exact .inr ⟨kvs,k,b,rd e,e2,s _ _ e3,e4⟩
inductive v8 (K:Frag)(vs:List V)(H:Hp)(Q:VK)(E:XK):Prop
 |mk (d:Addr) (vw:Vw) (n:Str) (th:Th) (cT:vs=[.ref d,.str n]) (cU:lg H d vw) (dH:mQ vw) (fL:aO vw n=some th) (jF:∀(l:Addr)(ys:List V)(H':Hp),ao H H'->H' l=some (.lst ys)->ig H' ys (tX vw n)->Q (.ref l) H'):v8 K vs H Q E
theorem v9 (T:Txt K w mg t):aW P w K mg base fA (0+1) t.yz t.yA ["_law_voices","_law_name"] (v8 K):=by
 refine T.qt.ok iA ?_ ?_
 x_go
 obtain⟨d,vw,n,th,rfl,hd,wv,hf,q⟩:=h;refine aJ (ae (dq 2 iA.nd (e9 (fY hr) (pv 0) (pv 1) (fun _ _=>rfl))) (ae (aH (aR (aD c9 rfl T.bg bf (aa (pv 2) (aa (dW (v:=.ty "list") rfl T.fi eZ rfl) ag)))) (ah (ar (pv 2))) ay) (ae (aH (bW (aR (aY (pv 2)))) (ah (ar (e9 (fY hr) (pv 0) (aY (pv 2)) (fun _ _=>rfl)))) ay) (ae (dq 3 iA.nd (a9 ag)) (ae (d8 PassesOwn.never rfl (dz (e9 (fY hr) (pv 0) (aY (pv 2)) (fun _ _=>rfl))) (jG 4 iA.nd) (ae (dq 5 iA.nd (bL (cz (aq (aS.or (aK (az hr))) (aY (pv 4)) av (aw _)) av (bL (cz (aq (aS.or (aK (az hr))) (aY (pv 4)) av (aw _)) av (aY (pv 4))))))) (ah (aP (eE Zc' Zl' Zk' bK (pv 3) (aa (bJ (aa (pv 5) (aa (aY (pv 4)) ag))) ag)))))) (ah (ar (pv 3)))))))) ?_;obtain⟨v,hg,hv⟩:=hd.get hf;refine⟨_,rfl,_,rfl,d,v,rfl,hg,?_⟩;cases th with
 |pl ss =>
  obtain⟨l,ys,rfl,h1,h2⟩:=hv;tm_up;refine⟨_,_,_,_,rfl,fu.lst h1,rfl,_,rfl,bV ?_⟩;exact⟨_,rfl,q l ys H (ao.refl _) h1 (by rw[m8 hf];exact h2)⟩
 |cn ld lt sl tn =>
  obtain⟨p,rfl,hp⟩:=hv;obtain⟨⟨ss,rD⟩,_⟩:=wv.ld n ld lt sl tn (bP hf);have hfl:=wv.find rD;have gl:=(wv.gd _ _ rD).1;rw[p6 hf hfl]at q;obtain⟨v2,hg2,l,ys,rfl,h1,h2⟩:=hd.get hfl;tm_up;refine⟨_,_,_,_,rfl,fu.tup hp,rfl,_,rfl,aX ?_⟩;refine⟨_,rfl,Fe (i:=3) hp rfl ?_⟩;refine⟨_,rfl,?_⟩;cases tn with
  |false =>
   refine bV ?_;refine⟨_,rfl,_,rfl,Fe (i:=0) hp rfl ?_⟩;exact⟨d,_,rfl,hg2,q l ys H (ao.refl _) h1 h2⟩
  |true =>
   refine aX ?_;refine⟨big (by show 0<=1000;omega),fun told OC=>?_⟩;have s1:=ao.upd (o:=.lst []) OC;have ht1:=af (H:=H) (a:=told) (o:=.lst []);generalize upd H told (.lst [])=H1 at s1 ht1;have y3:=bM h2;refine⟨_,rfl,_,rfl,Fe (i:=0) (s1 _ _ hp) rfl ?_⟩;have nlt:l≠told:=au h1 OC;have hg3:kZ H1 d (.str ld) (some (.ref l)):=hg2.same s1;refine⟨d,_,rfl,hg3,l,rfl,⟨_,aM.of (s1 _ _ h1)⟩,ij (K:=K) (xs:=ys) (fun i σ H'=>∃(u k:Option V)(zs:List V),σ=[some (.ref d),some (.str n),some (.ref p),some (.ref told),u,k]/\ao H H'/\H' told=some (.lst zs)/\ig H' zs ((ss.take i).map lC)) ⟨none,none,[],rfl,s1,ht1,.nil⟩ ?_ ?_ ?_⟩
   ·rintro i σ H' _ ⟨u,k,zs,rfl,s2,_⟩;exact aM.of (s2 _ _ h1)
   ·rintro i y σ H' hy ⟨u,k,zs,rfl,s2,OD,gz⟩;obtain⟨sg,hsg,ps,rfl,hps⟩:=oo h2 hy;have hi:i<ss.length:=(K'.mp hsg).1;have P1:=s2 _ _ hps;have zl:=bM gz;rw[L',Zo']at zl;refine⟨fun v Hx=>v=.str (CM sg.1).str/\Hx=H',?_,?_⟩
    ·refine⟨_,rfl,SY P1 ?_⟩;refine .inl ⟨rfl,_,rfl,?_⟩;rw[Nv];refine aN (fun h=>?_) (fun h=>?_)
     ·rw[G' h];exact⟨rfl,rfl⟩
     ·have h':sg.1≠.two:=fun z=>h (A' z);refine⟨fun v Hx=>v=.str (CM sg.1).str/\Hx=H',?_,fun _ _ z=>z⟩;refine⟨_,rfl,SY P1 ?_⟩;refine .inl ⟨rfl,_,rfl,?_⟩;rw[Es];refine aN (fun h3=>?_) (fun h3=>?_)
      ·rw[G' h3];exact⟨rfl,rfl⟩
      ·have h3':sg.1≠.three:=fun z=>h3 (A' z);refine⟨_,rfl,SY P1 ⟨?_,rfl⟩⟩;cases hk:sg.1 <;> first|rfl|exact S' hk h'|exact S' hk h3'
    intro v Hx ⟨e1,e2⟩;rw[e1,e2];refine⟨_,rfl,.inl ⟨rfl,_,aM.of OD⟩,_,rfl,_,rfl,YF P1 ?_⟩;refine⟨by show 2<=sizeLine;decide,fun tp htp=>?_⟩;have s3:=ao.upd (o:=.tup [V.str (CM sg.1).str,V.int sg.2]) htp;refine⟨told,_,_,rfl,rfl,s3 _ _ OD,aL (by omega),?_⟩;refine⟨_,_,zs++[.ref tp],rfl,cZ (s2.trans s3) OC,af,?_⟩;rw[take_succ,hsg,map_append];exact gN (Nx (s3 _ _ OD) (gz.same s3)) (Nw (s3 _ _ OD) ⟨tp,rfl,af⟩)
   ·rintro σ H' ⟨u,k,zs,rfl,s2,OD,gz⟩;rw[y3,take_length]at gz;exact⟨_,rfl,q told zs H' s2 OD gz⟩
theorem Sz {k:Kd}(h:k.meas=true)(m:Int):intText? k.str=some (nm m k)/\k.str.length<=640:=by
 cases k <;> first|(cases h;done)|exact⟨by first|exact(show intText? Kd.three.str=some 3 by lk)|exact(show intText? Kd.two.str=some 2 by lk),by lk⟩
theorem Vn {k:Kd}(h:¬ k.meas=true)(m:Int):nm m k=m:=by
 cases k <;> first|rfl|exact S' rfl h
theorem Hz (k:Kd):k.meas=(decide (k=.three)||decide (k=.two)):=by cases k <;> rfl
theorem KN (k:Kd):wu k.str ".32" = k.parting:=by cases k <;> decide +kernel
theorem wa (k:Kd):wu k.str "sdr"=k.small:=by cases k <;> decide +kernel
theorem P2 {k:Kd}(h:k.parting=true)(m:Int)(n:Option Kd):bw m k n=0:=by cases k <;> first|(cases h;done)|(unfold bw;rw[T' (by rintro⟨_,z,_⟩;cases z)];rfl)
theorem OE {k:Kd}(h:k.small=true)(m:Int)(n:Option Kd):bw m k n=1:=by cases k <;> first|(cases h;done)|(unfold bw;rw[T' (by rintro⟨_,z,_⟩;cases z)];rfl)
theorem XR (m:Int)(n:Option Kd):bw m .D n=2:=by unfold bw;rw[T' (by rintro⟨_,z,_⟩;cases z)];rfl
theorem P4 {k:Kd}{m:Int}{n:Option Kd}(hm:Ms m)(h1:k.parting=false)(h2:k.small=false)(h3:k≠.D)(h4:¬(m=2/\k=.G/\n=some .dot)):bw m k n=m:=by
 unfold bw;rw[T' h4];rcases hm with rfl|rfl <;> cases k <;> first|(cases h1;done)|(cases h2;done)|rfl|exact S' rfl h3
inductive D1 (K:Frag)(vs:List V)(H:Hp)(Q:VK)(E:XK):Prop
 |mk (l:Addr) (b:Int) (xs:List V) (ss:List Sg) (cT:vs=[.ref l,.int b]) (cU:Ms b) (dH:aM K H l xs) (fL:ig H xs ss) (jF:ss.length<=400) (zB:∀(f:Addr)(H':Hp),ao H H'->H f=none->H' f=some (.lst ((gb b (bj ss)).map V.int))->Q (.ref f) H'):D1 K vs H Q E
theorem L7 (T:Txt K w mg t):aW P w K mg base fA (0+1) t.GO t.GP ["_law_line","_law_begin"] (D1 K):=by
 refine T.G9.ok j4 ?_ ?_
 x_go
 obtain⟨l,b,xs,ss,rfl,Tj,hS,hg,hn,q⟩:=h;have Vh:(2:Int) ^ 62=4611686018427387904:=by decide
 refine aJ (ae (dq 2 j4.nd (a9 ag)) (ae (dq 3 j4.nd (pv 1)) (ae (d8 PassesOwn.never rfl (mR rfl T.jz (aa (aD (aB.or aC) rfl T.bu br (aa (pv 0) ag)) ag)) (jG 4 j4.nd) (ae (dq 5 j4.nd (bx aT (bx aT (pv 0) (pv 4) (fun _ _=>rfl)) ai (fun _ _=>rfl))) (ae (g7 (aH (bE (PW.pt (fq (aq (aS.or (aK (az hr))) (pv 5) av (aw _)) (d7 (aq (aS.or (aK (az hr))) (pv 5) av (aw _)))))) (ah (dq 3 j4.nd (di (iW.or d9) rfl T.qp pR (aa (pv 5) ag)))) ay)) (ah (aH (aq (bO.or bN) (pv 5) av rfl) (ah (aP (eE Zc' Zl' Zk' bK (pv 2) (aa ai ag)))) (ah (aH (aq (bO.or bN) (pv 5) av rfl) (ah (aP (eE Zc' Zl' Zk' bK (pv 2) (aa ai ag)))) (ah (aH (aq (aS.or (aK (az hr))) (pv 5) av (aw _)) (ah (aP (eE Zc' Zl' Zk' bK (pv 2) (aa ai ag)))) (ah (aH (bE (PW.pt (cB (aq (aS.or (aK (az hr))) (pv 3) ai (aw _)) (cB (aq (aS.or (aK (az hr))) (pv 5) av (aw _)) (cB (aq jq (aE (bp.or (aF.or bq)) (pv 4) ai) (aD (aB.or aC) rfl T.bu br (aa (pv 0) ag)) (aw _)) (cX (aq (aS.or (aK (az hr))) (bx aT (bx aT (pv 0) (aE (bp.or (aF.or bq)) (pv 4) ai) (fun _ _=>rfl)) ai (fun _ _=>rfl)) av (aw _)))))))) (ah (aP (eE Zc' Zl' Zk' bK (pv 2) (aa ai ag)))) (ah (aP (eE Zc' Zl' Zk' bK (pv 2) (aa (pv 3) ag))))))))))))))) (ah (ar (pv 2)))))) ?_;refine⟨big (by show 0<=1000;omega),fun f hf=>?_⟩;tm_up;refine .inl ⟨_,_,rfl,.inl (fM hS hf),?_⟩;rw[bM hg];refine⟨(ss.length:Int),rfl,by rw[Vh];omega,by rw[Vh];omega,?_⟩;refine mS (n:=((ss.length:Int)).toNat) (fun i σ H'=>∃(m:Int)(v w:Option V)(fs:List Int),σ=[some (.ref l),some (.int b),some (.ref f),some (.int m),v,w]/\Ms m/\H'=upd H f (.lst (fs.map V.int))/\fs++gb m ((bj ss).drop i)=gb b (bj ss))
  ⟨b,none,none,[],rfl,Tj,rfl,rfl⟩ ?_ ?_
 ·rintro i σ H' hi ⟨m,v,w,fs,rfl,V2,rfl,hm⟩;have hil:i<ss.length:=by omega
  have hd:=jX (pX (f:=Prod.fst) (N' hil));rw[hd]at hm;have hS':aM K (upd H f (.lst (fs.map V.int))) l xs:=fM hS hf;have hg':ig (upd H f (.lst (fs.map V.int))) xs ss:=hg.same (ao.upd hf);have hl:=Zj' List.length hm;simp only [V',gb,Ya',mZ,L']at hl;simp only [gb,head_drop]at hm;tm_up;refine za hS' hg' (n:=i) (by omega) (N' hil) fun p hp=>?_;generalize hk:(ss[i]).1=k at hm hp;tm_up;refine M8 [some (.ref l),some (.int b),some (.ref f),some (.int (nm m k)),some (.int (0+(i:Int))),some (.str k.str)] (upd H f (.lst (fs.map V.int))) ?_ ?_
  ·refine fV k.meas ?_ ?_
   ·tm_up;rw[Es];refine aN (fun h=>?_) (fun h=>?_)
    ·exact dr (by rw[Hz,h];rfl)
    ·tm_up;rw[Nv];exact dr (by rw[Hz,Y'.mpr h];rfl)
   refine aN (fun h=>?_) (fun h=>?_)
   ·obtain⟨e1,e2⟩:=Sz h m;tm_up;exact .inr ⟨_,_,rfl,e1,e2,rfl,rfl⟩
   ·rw[Vn h];exact⟨rfl,rfl⟩
  have U8:=V2.nm k;have fin:∀(z:Int),z=bw (nm m k) k (bj ss)[i+1]?->∃(m':Int)(v w:Option V)(fs':List Int),[some (V.ref l),some (V.int b),some (V.ref f),some (V.int (nm m k)),some (V.int (0+(i:Int))),some (V.str k.str)]=[some (.ref l),some (.int b),some (.ref f),some (.int m'),v,w]/\Ms m'/\upd (upd H f (.lst (fs.map V.int))) f (.lst (fs.map V.int++[V.int z]))=upd H f (.lst (fs'.map V.int))/\fs'++gb m' ((bj ss).drop (i+1))=gb b (bj ss):=by
   intro z hz;exact⟨nm m k,_,_,fs++[z],rfl,U8,by rw[cR,map_append];rfl,by rw[List.append_assoc,hz];exact hm⟩
  tm_up;refine aN (fun h=>?_) (fun h=>?_)
  ·have h':k.parting=true:=by rw[<-KN];exact h
   tm_up;refine⟨.inl ⟨rfl,_,aM.of af⟩,?_⟩;refine⟨_,_,_,rfl,rfl,af,by rw[L'];exact aL (by omega),fin 0 (P2 h' ..).symm⟩
  ·have h1:k.parting=false:=by rw[<-KN];exact Y'.mpr h
   tm_up;refine aN (fun h=>?_) (fun h=>?_)
   ·have h':k.small=true:=by rw[<-wa];exact h
    tm_up;refine⟨.inl ⟨rfl,_,aM.of af⟩,?_⟩;refine⟨_,_,_,rfl,rfl,af,by rw[L'];exact aL (by omega),fin 1 (OE h' ..).symm⟩
   ·have h2:k.small=false:=by rw[<-wa];exact Y'.mpr h
    tm_up;rw[Z6];refine aN (fun h=>?_) (fun h=>?_)
    ·have h':k=.D:=G' h;tm_up;refine⟨.inl ⟨rfl,_,aM.of af⟩,?_⟩;refine⟨_,_,_,rfl,rfl,af,by rw[L'];exact aL (by omega),fin 2 (by rw[h'];exact(XR ..).symm)⟩
    ·have h3:k≠.D:=fun z=>h (A' z);refine fV (decide (nm m k=2/\k=.G/\(bj ss)[i+1]? = some .dot)) ?_ ?_
     ·tm_up;rw[eG];refine aN (fun h=>?_) (fun h=>?_)
      ·have e1:=G' h;tm_up;rw[Xm];refine aN (fun h=>?_) (fun h=>?_)
       ·have e2:=G' h;tm_up;refine .inl ⟨_,_,rfl,.inl hS',?_⟩;rw[bM hg];tm_up;refine aN (fun h=>?_) (fun h=>?_)
        ·have hlt:i+1<ss.length:=by have:=G' h;omega
         tm_up;refine za hS' hg' (n:=i+1) (by omega) (N' hlt) fun p2 hp2=>?_;tm_up;rw[UE];refine dr ?_;have e3:(bj ss)[i+1]? = some (ss[i+1]).1:=pX (N' hlt);rw[e3];subst e2;simp[e1]
        ·refine dr ?_;have e3:(bj ss)[i+1]? = none:=List.getElem?_eq_none (by rw[L'];have:¬(0+(i:Int)+1<ss.length):=fun z=>h (A' z);omega);rw[e3];simp
       ·refine dr ?_;have e2:k≠.G:=fun z=>h (A' z);simp[e2]
      ·refine dr ?_;have e1:nm m k≠2:=fun z=>h (A' z);simp[e1]
     ·refine aN (fun h=>?_) (fun h=>?_)
      ·have h':=G' h;tm_up;refine⟨.inl ⟨rfl,_,aM.of af⟩,?_⟩;refine⟨_,_,_,rfl,rfl,af,by rw[L'];exact aL (by omega),fin 3 (by unfold bw;rw[X' h'])⟩
      ·have h':¬(nm m k=2/\k=.G/\(bj ss)[i+1]? = some .dot):=fun z=>h (A' z);tm_up;refine⟨.inl ⟨rfl,_,aM.of af⟩,?_⟩;tm_up;refine⟨_,_,_,rfl,rfl,af,by rw[L'];exact aL (by omega),fin _ (P4 U8 h1 h2 h3 h').symm⟩
 ·rintro σ H' ⟨m,v,w,fs,rfl,_,rfl,hm⟩;have e0:((ss.length:Int)).toNat=ss.length:=by omega
  rw[e0,List.drop_eq_nil_of_le (by rw[L'];exact R' _)]at hm;tm_up;have e:fs=gb b (bj ss):=by rw[<-hm];simp[gb]
  subst e;exact q f _ (ao.upd hf) hf af
inductive BI (K:Frag)(vs:List V)(H:Hp)(Q:VK)(E:XK):Prop
 |mk (l:Addr) (b:Int) (xs:List V) (ss:List Sg) (cT:vs=[.ref l,.int b]) (cU:aM K H l xs) (dH:ig H xs ss) (fL:ss.length<=400) (jF:∀(f:Addr)(H':Hp),ao H H'->H f=none->H' f=some (.lst ((g8 b (bj ss)).map V.bl))->Q (.ref f) H'):BI K vs H Q E
theorem Vo {k:Kd}(h:k.meas=true)(m:Int):intText? k.str=some (nm m k)/\k.str.length<=640:=by
 cases k <;> first|(cases h;done)|exact⟨by first|exact(show intText? Kd.three.str=some 3 by lk)|exact(show intText? Kd.two.str=some 2 by lk),by lk⟩
theorem XT {k:Kd}(h:¬ k.meas=true)(m:Int):nm m k=m:=by
 cases k <;> first|rfl|exact S' rfl h
theorem KO (k:Kd):k.meas=(decide (k=.three)||decide (k=.two)):=by cases k <;> rfl
theorem Jw (T:Txt K w mg t):aW P w K mg base fA (0+1) t.DD t.DE ["_law_line","_law_begin"] (BI K):=by
 refine T.DN.ok kr ?_ ?_
 x_go
 obtain⟨l,b,xs,ss,rfl,hS,hg,hn,q⟩:=h;refine aJ (ae (dq 2 kr.nd (a9 ag)) (ae (dq 3 kr.nd (pv 1)) (ae (d8 PassesOwn.never rfl (dz (pv 0)) (jG 4 kr.nd) (ae (g7 (aH (bE (PW.pt (fq (aq (aS.or (aK (az hr))) (aY (pv 4)) av (aw _)) (d7 (aq (aS.or (aK (az hr))) (aY (pv 4)) av (aw _)))))) (ah (dq 3 kr.nd (di (iW.or d9) rfl T.qp pR (aa (aY (pv 4)) ag)))) ay)) (ah (aP (eE Zc' Zl' Zk' bK (pv 2) (aa (aZ (aS.or (aK (az hr))) (pv 3) ai (aw _)) ag)))))) (ah (ar (pv 2)))))) ?_;refine⟨big (by show 0<=1000;omega),fun f hf=>?_⟩;tm_up;refine⟨⟨xs,fM hS hf⟩,ij (K:=K) (xs:=xs) (fun i σ H'=>∃(m:Int)(v:Option V)(fs:List Bool),σ=[some (.ref l),some (.int b),some (.ref f),some (.int m),v]/\H'=upd H f (.lst (fs.map V.bl))/\fs++g8 m ((bj ss).drop i)=g8 b (bj ss))
  ⟨b,none,[],rfl,rfl,rfl⟩ ?_ ?_ ?_⟩
 ·rintro i σ H' _ ⟨m,v,fs,rfl,rfl,_⟩;exact fM hS hf
 ·rintro i x σ H' hx ⟨m,v,fs,rfl,rfl,hm⟩;obtain⟨s,hs,p,rfl,hp⟩:=oo hg hx;have hd:=jX (pX (f:=Prod.fst) hs);rw[hd]at hm;have hp':upd H f (.lst (fs.map V.bl)) p=some (.tup [.str s.1.str,.int s.2]):=by rw[ak (au hp hf)];exact hp
  have hl:=Zj' List.length hm;simp only [V',g8,Ya',Iz,L']at hl;refine M8 [some (.ref l),some (.int b),some (.ref f),some (.int (nm m s.1)),some (.ref p)] (upd H f (.lst (fs.map V.bl))) ?_ ?_
  ·refine fV s.1.meas ?_ ?_
   ·tm_up;rw[Es];refine aN (fun h=>?_) (fun h=>?_)
    ·exact dr (by rw[KO,h];rfl)
    ·tm_up;rw[Nv];exact dr (by rw[KO,Y'.mpr h];rfl)
   refine aN (fun h=>?_) (fun h=>?_)
   ·obtain⟨e1,e2⟩:=Vo h m;tm_up;exact .inr ⟨_,_,rfl,e1,e2,rfl,rfl⟩
   ·rw[XT h];exact⟨rfl,rfl⟩
  ·tm_up;refine⟨.inl ⟨rfl,_,aM.of af⟩,?_⟩;tm_up;rw[eG];refine⟨_,_,_,rfl,rfl,af,by rw[L'];exact aL (by omega),?_⟩;exact⟨_,_,fs++[decide (nm m s.1=3)],rfl,by rw[cR,map_append];rfl,by rw[List.append_assoc];exact hm⟩
 ·rintro σ H' ⟨m,v,fs,rfl,rfl,hm⟩;rw[List.drop_eq_nil_of_le (by rw[L',bM hg];exact R' _)]at hm;tm_up;have e:fs=g8 b (bj ss):=by rw[<-hm];simp[g8]
  subst e;exact q f _ (ao.upd hf) hf af
def XU (K:Frag)(g:List Kd->List Int->Nat->Nat->Bool×List Int):Sp:=fun vs H Q _=>∃(l f:Addr)(a z:Nat)(xs:List V)(ss:List Sg)(fs:List Int),vs=[.ref l,.ref f,.int (a:Int),.int (z:Int)]/\aM K H l xs/\ig H xs ss/\l≠f/\H f=some (.lst (fs.map V.int))/\fs.length=ss.length/\a<z/\z<=ss.length /\
 Q (.bl (g (bj ss) fs a z).1) (upd H f (.lst ((g (bj ss) fs a z).2.map V.int)))
theorem BJ (k:Kd):wu k.str "GDR"=k.great:=by cases k <;> decide +kernel
theorem xn (o:Option Kd):(o.getD .dot).great=mF o:=by cases o <;> rfl
theorem XW (o:Option Kd):decide (o.getD .dot=.G)=decide (o=some .G):=by
 cases o with
 |none=>decide
 |some k=>simp
theorem L8 {ks:List Kd}{f:List Int}{a z:Nat}{r:Nat}(hr:(z-a) % 3=r)(Vk:r<3) :
  settle ks f a z=if decide (r=2)&&(mF ks[z]? && decide (ks[z-1]? = some .s)) then(true,f.set (z-1) 2) else
   (decide (r=0)||((decide (r=1)&&(gP ks f a||fb ks z))||(decide (r=2)&&(gP ks f a&&fb ks z))),
    let g:=if(decide (r=1)&&gP ks f a)||(decide (r=2)&&(gP ks f a&&fb ks z)) then f.set (a-1) 2 else f
    if(decide (r=1)&&(fb ks z && !gP ks f a))||(decide (r=2)&&(gP ks f a&&fb ks z)) then g.set z 2 else g):=by
 unfold settle tT tU;rw[hr];have:r=0\/r=1\/r=2:=by omega
 rcases this with rfl|rfl|rfl <;> cases gP ks f a <;> cases fb ks z <;> cases mF ks[z]? <;> cases decide (ks[z-1]? = some .s) <;> rfl
theorem OF (T:Txt K w mg t):aW P w K mg base fA (0+1) t.Kk t.Kl ["_law_line","_law_told","_law_low","_law_high"] (XU K settle):=by
 refine T.Ku.ok nk ?_ ?_
 x_go
 obtain⟨l,f,a,z,xs,ss,fs,rfl,hS,hg,hlf,hf,hl,Vj,hz,q⟩:=h;obtain⟨r,hrr⟩:∃ r:Nat,(z-a) % 3=r:=⟨_,rfl⟩;have Vk:r<3:=by omega
 rw[L8 hrr Vk]at q;have hri:((z:Int)-(a:Int)) % 3=(r:Int):=by omega
 have dI:∀ n:Nat,decide (V.int (((z:Int)-(a:Int)) % 3)=V.int (n:Int))=decide (r=n):=fun n=>by
  rw[hri,eG]
  by_cases e:r=n
  ·simp[e]
  ·have:¬((r:Int)=(n:Int)):=by omega
   simp[e,this]
 have d0:decide (V.int (((z:Int)-(a:Int)) % 3)=V.int 0)=decide (r=0):=dI 0;have d1:decide (V.int (((z:Int)-(a:Int)) % 3)=V.int 1)=decide (r=1):=dI 1;have d2:decide (V.int (((z:Int)-(a:Int)) % 3)=V.int 2)=decide (r=2):=dI 2;refine aJ (ae (dq 4 nk.nd (aE cV (aE eW (pv 3) (pv 2)) ai)) (ae (dq 5 nk.nd (bL (cz (aq jq (pv 3) (aD (aB.or aC) rfl T.bu br (aa (pv 0) ag)) (aw _)) (bx aT (bx aT (pv 0) (pv 3) (fun _ _=>rfl)) ai (fun _ _=>rfl)) av))) (ae (dq 6 nk.nd (bL (cz (aq jq (aE (bp.or (aF.or bq)) (pv 3) ai) (aD (aB.or aC) rfl T.bu br (aa (pv 0) ag)) (aw _)) (bx aT (bx aT (pv 0) (aE (bp.or (aF.or bq)) (pv 3) ai) (fun _ _=>rfl)) ai (fun _ _=>rfl)) av))) (ae (dq 7 nk.nd (bL (dy (aZ Cp (pv 2) ai (aw _)) (dy (aZ (aS.or (aK (az hr))) (bx aT (bx aT (pv 0) (aE eW (pv 2) ai) (fun _ _=>rfl)) ai (fun _ _=>rfl)) av (aw _)) (eD (aZ (aS.or (aK (az hr))) (bx aT (pv 1) (aE eW (pv 2) ai) (fun _ _=>rfl)) ai (aw _))))))) (ae (dq 8 nk.nd (bL (dy (aZ (aS.or (aK (az hr))) (pv 5) av (aw _)) (eD (aZ (gp.or gq) (pv 6) av rfl))))) (ae (aH (bE (PW.pt (cB (aq (aS.or (aK (az hr))) (pv 4) ai (aw _)) (cB (aq (bO.or bN) (pv 5) av rfl) (cX (aq (aS.or (aK (az hr))) (bx aT (bx aT (pv 0) (aE eW (pv 3) ai) (fun _ _=>rfl)) ai (fun _ _=>rfl)) av (aw _))))))) (ae (fI ai (pI (pv 1) (aE eW (pv 3) ai) set_list)) (ah (ar cE))) ay) (ae (g7 (aH (bE (PW.pt (fq (bE (PW.pt (cB (aq (aS.or (aK (az hr))) (pv 4) ai (aw _)) (cX (aR (pv 7)))))) (d7 (bE (PW.pt (cB (aq (aS.or (aK (az hr))) (pv 4) ai (aw _)) (cB (aR (pv 7)) (cX (aR (pv 8))))))))))) (ah (fI ai (pI (pv 1) (aE eW (pv 2) ai) set_list))) ay)) (ae (g7 (aH (bE (PW.pt (fq (bE (PW.pt (cB (aq (aS.or (aK (az hr))) (pv 4) ai (aw _)) (cB (aR (pv 8)) (cX (bW (aR (pv 7)))))))) (d7 (bE (PW.pt (cB (aq (aS.or (aK (az hr))) (pv 4) ai (aw _)) (cB (aR (pv 7)) (cX (aR (pv 8))))))))))) (ah (fI ai (pI (pv 1) (pv 3) set_list))) ay)) (ah (ar (bL (JB (aZ (aS.or (aK (az hr))) (pv 4) ai (aw _)) (JB (bL (dy (aZ (aS.or (aK (az hr))) (pv 4) ai (aw _)) (eD (bL (JB (pv 7) (eD (pv 8))))))) (eD (bL (dy (aZ (aS.or (aK (az hr))) (pv 4) ai (aw _)) (dy (pv 7) (eD (pv 8))))))))))))))))))) ?_;tm_up;refine mV (.str ((bj ss)[z]?.getD .dot).str) ?_ ?_
 ·tm_up;refine .inl ⟨_,_,rfl,.inl hS,?_⟩;rw[bM hg];tm_up;refine aN (fun h=>?_) (fun h=>?_)
  ·have hlt:z<ss.length:=by have:=G' h;omega
   tm_up;refine za hS hg (n:=z) rfl (N' hlt) fun p hp=>?_;tm_up;refine jW ?_;rw[Zd',N' hlt];rfl
  ·refine jW ?_;have hge:¬ z<ss.length:=fun c=>h (A' (by omega));rw[List.getElem?_eq_none (by rw[L'];omega)];rfl
 refine mV (.str ((bj ss)[z+1]?.getD .dot).str) ?_ ?_
 ·tm_up;refine .inl ⟨_,_,rfl,.inl hS,?_⟩;rw[bM hg];tm_up;refine aN (fun h=>?_) (fun h=>?_)
  ·have hlt:z+1<ss.length:=by have:=G' h;omega
   tm_up;refine za hS hg (n:=z+1) (by omega) (N' hlt) fun p hp=>?_;tm_up;refine jW ?_;rw[Zd',N' hlt];rfl
  ·refine jW ?_;have hge:¬ z+1<ss.length:=fun c=>h (A' (by omega));rw[List.getElem?_eq_none (by rw[L'];omega)];rfl
 refine mV (.bl (gP (bj ss) fs a)) ?_ ?_
 ·tm_up;refine aN (fun h=>?_) (fun h=>?_)
  ·have hp:0<a:=by have:=G' h;omega
   have hlt:a-1<ss.length:=by omega
   have ek:Ew (bj ss) ((a:Int)-1)=some (ss[a-1]).1:=by
    have:(a:Int)-1=((a-1:Nat):Int):=by omega
    rw[this,lr,Zd',N' hlt];rfl
   tm_up;refine za hS hg (n:=a-1) (by omega) (N' hlt) fun p hp=>?_;tm_up;rw[Xm];refine aN (fun h2=>?_) (fun h2=>?_)
   ·tm_up;refine Ny (aM.of hf) (n:=a-1) (by omega) (N' (by omega)) ?_;tm_up;rw[eG];refine jW ?_;unfold gP;rw[ek,G' h2,List.getD_eq_getElem?_getD,N' (by omega)];simp
   ·refine jW ?_;unfold gP;rw[ek];have:(ss[a-1]).1≠.G:=fun c=>h2 (A' c);simp[this]
  ·refine jW ?_;have hp:a=0:=by
    have:¬ 0<a:=fun c=>h (A' (by omega));omega
   subst hp;unfold gP Ew;simp
 refine mV (.bl (fb (bj ss) z)) ?_ ?_
 ·tm_up;rw[Xm,XW];refine aN (fun h=>?_) (fun h=>?_)
  ·tm_up;refine jW ?_;unfold fb;rw[h];show V.bl (!wu _ _)=_;rw[BJ,xn];rfl
  ·refine jW ?_;unfold fb;rw[Y'.mpr h];rfl
 generalize hL:gP (bj ss) fs a=L at q;generalize hR:fb (bj ss) z=R at q;refine fV (decide (r=2)&&(mF (bj ss)[z]? && decide ((bj ss)[z-1]? = some .s))) ?_ ?_
 ·tm_up;rw[d2];refine aN (fun h=>?_) (fun h=>?_)
  ·rw[h];tm_up;refine aN (fun h2=>?_) (fun h2=>?_)
   ·have h2':mF (bj ss)[z]? = true:=by
     have:wu ((bj ss)[z]?.getD .dot).str "GDR"=true:=h2
     rwa [BJ,xn]at this
    rw[h2'];tm_up;have hlt:z-1<ss.length:=by omega
    refine za hS hg (n:=z-1) (by omega) (N' hlt) fun p hp=>?_;tm_up;rw[Z8];refine dr ?_;rw[Zd',N' hlt];simp
   ·have h2':mF (bj ss)[z]? = false:=by
     have:wu ((bj ss)[z]?.getD .dot).str "GDR"=false:=Y'.mpr h2
     rwa [BJ,xn]at this
    rw[h2'];exact dr rfl
  ·exact dr (by rw[Y'.mpr h];rfl)
 refine aN (fun h=>?_) (fun h=>?_)
 ·rw[X' h]at q;tm_up;refine⟨_,_,_,_,rfl,rfl,hf,lx (j:=z-1) (by omega) (by rw[L'];omega),?_⟩;rw[jg];exact q
 ·rw[T' h]at q;dsimp only at q;have hLp:L=true->1<=a/\a-1<ss.length:=fun e=>by
   have:=wz (hL.trans e)
   rwa [L']at this
  have hRp:R=true->z<ss.length:=fun e=>by
   have:=sx (hR.trans e)
   rwa [L']at this
  generalize hg1:(if(decide (r=1)&&L||decide (r=2)&&(L&&R))=true then fs.set (a-1) 2 else fs)=g1 at q;have g1l:g1.length=ss.length:=by rw[<-hg1];split <;> simp[hl]
  refine M8 [some (.ref l),some (.ref f),some (.int (a:Int)),some (.int (z:Int)),some (.int (((z:Int)-(a:Int)) % 3)),some (.str ((bj ss)[z]?.getD .dot).str),some (.str ((bj ss)[z+1]?.getD .dot).str),some (.bl L),some (.bl R)] (upd H f (.lst (g1.map V.int))) ?_ ?_
  ·refine fV (decide (r=1)&&L||decide (r=2)&&(L&&R)) ?_ ?_
   ·refine fV (decide (r=1)&&L) ?_ ?_
    ·tm_up;rw[d1];refine aN (fun h=>?_) (fun h=>?_)
     ·tm_up;exact dr (by rw[h];rfl)
     ·exact dr (by rw[Y'.mpr h];rfl)
    ·refine aN (fun h=>dr (by rw[h];rfl)) (fun h=>?_);rw[Y'.mpr h,Bool.false_or];refine fV (decide (r=2)&&(L&&R)) ?_ (dr rfl);tm_up;rw[d2];refine aN (fun h=>?_) (fun h=>?_)
     ·tm_up;refine aN (fun h2=>?_) (fun h2=>?_)
      ·tm_up;exact dr (by rw[h,h2];rfl)
      ·exact dr (by rw[h,Y'.mpr h2];rfl)
     ·exact dr (by rw[Y'.mpr h];rfl)
   ·refine aN (fun h=>?_) (fun h=>?_)
    ·rw[X' h]at hg1;have hp:=hLp (by cases L <;> simp_all);tm_up;refine⟨_,_,_,_,rfl,rfl,hf,lx (j:=a-1) (by omega) (by rw[L'];omega),?_⟩;rw[jg,hg1];exact⟨rfl,rfl⟩
    ·rw[T' h]at hg1;subst hg1;rw[tV hf];exact⟨rfl,rfl⟩
  generalize hg2:(if(decide (r=1)&&(R && !L)||decide (r=2)&&(L&&R))=true then g1.set z 2 else g1)=g2 at q;refine M8 [some (.ref l),some (.ref f),some (.int (a:Int)),some (.int (z:Int)),some (.int (((z:Int)-(a:Int)) % 3)),some (.str ((bj ss)[z]?.getD .dot).str),some (.str ((bj ss)[z+1]?.getD .dot).str),some (.bl L),some (.bl R)] (upd H f (.lst (g2.map V.int))) ?_ ?_
  ·refine fV (decide (r=1)&&(R && !L)||decide (r=2)&&(L&&R)) ?_ ?_
   ·refine fV (decide (r=1)&&(R && !L)) ?_ ?_
    ·tm_up;rw[d1];refine aN (fun h=>?_) (fun h=>?_)
     ·tm_up;refine aN (fun h2=>?_) (fun h2=>?_)
      ·tm_up;exact dr (by rw[h,h2];rfl)
      ·exact dr (by rw[h,Y'.mpr h2];rfl)
     ·exact dr (by rw[Y'.mpr h];rfl)
    ·refine aN (fun h=>dr (by rw[h];rfl)) (fun h=>?_);rw[Y'.mpr h,Bool.false_or];refine fV (decide (r=2)&&(L&&R)) ?_ (dr rfl);tm_up;rw[d2];refine aN (fun h=>?_) (fun h=>?_)
     ·tm_up;refine aN (fun h2=>?_) (fun h2=>?_)
      ·tm_up;exact dr (by rw[h,h2];rfl)
      ·exact dr (by rw[h,Y'.mpr h2];rfl)
     ·exact dr (by rw[Y'.mpr h];rfl)
   ·refine aN (fun h=>?_) (fun h=>?_)
    ·rw[X' h]at hg2;have hp:=hRp (by cases R <;> simp_all);tm_up;refine⟨_,_,_,_,rfl,rfl,af,lx (j:=z) rfl (by rw[L'];omega),?_⟩;rw[jg,hg2,cR];exact⟨rfl,rfl⟩
    ·rw[T' h]at hg2;subst hg2;exact⟨rfl,rfl⟩
  refine mV (.bl (decide (r=0)||(decide (r=1)&&(L||R)||decide (r=2)&&(L&&R)))) ?_ q;tm_up;rw[d0];refine aN (fun h=>jW (by rw[h];rfl)) (fun h=>?_);rw[Y'.mpr h,Bool.false_or];refine mV (.bl (decide (r=1)&&(L||R))) ?_ ?_
  ·tm_up;rw[d1];refine aN (fun h=>?_) (fun h=>jW (by rw[Y'.mpr h];rfl));refine mV (.bl (L||R)) ?_ (jW (by rw[h];rfl));tm_up;refine aN (fun h=>jW (by rw[h];rfl)) (fun h=>?_);tm_up;exact jW (by rw[Y'.mpr h];rfl)
  ·refine⟨_,rfl,?_⟩;refine aN (fun h=>jW (by rw[h];rfl)) (fun h=>?_);rw[Y'.mpr h,Bool.false_or];refine mV (.bl (decide (r=2)&&(L&&R))) ?_ (jW rfl);tm_up;rw[d2];refine aN (fun h=>?_) (fun h=>jW (by rw[Y'.mpr h];rfl));tm_up;refine aN (fun h2=>?_) (fun h2=>?_)
   ·tm_up;exact jW (by rw[h,h2];rfl)
   ·exact jW (by rw[h,Y'.mpr h2];rfl)
inductive D3 (K:Frag)(vs:List V)(H:Hp)(Q:VK)(E:XK):Prop
 |mk (l:Addr) (b:Int) (xs:List V) (ss:List Sg) (cT:vs=[.ref l,.int b]) (cU:Ms b) (dH:H l=some (.lst xs)) (fL:ig H xs ss) (jF:ss.length<=400) (zB:∀(p f lo:Addr)(ys:List V)(H':Hp),ao H H'->H f=none->H lo=none->f≠lo->H' p=some (.tup [.ref f,.ref lo])->H' f=some (.lst ((hZ b (bj ss)).1.map V.int))->H' lo=some (.lst ys)->Iy H' ys (hZ b (bj ss)).2->Q (.ref p) H'):D3 K vs H Q E
theorem L9 (T:Txt K w mg t):aW P w K mg base fA (0+2) t.GQ t.GR ["_law_line","_law_begin"] (D3 K):=by
 have OG:=L7 P base T;have Ma:=Jw P base T;have P5:=OF P base T;refine T.Be.ok ia ?_ ?_
 x_go
 obtain⟨l,b,xs,ss,rfl,Tj,hS,hg,hn,q⟩:=h;refine aJ (ae (dq 2 ia.nd (dG T.G9 OG hr (aa (pv 0) (aa (pv 1) ag)))) (ae (dq 3 ia.nd (dG T.DN Ma hr (aa (pv 0) (aa (pv 1) ag)))) (ae (dq 4 ia.nd (a9 ag)) (ae (dq 5 ia.nd ai) (ae (zJ PassesOwn.never (aq jq (pv 5) (aD (aB.or aC) rfl T.bu br (aa (pv 0) ag)) (aw _)) (ae (dq 6 ia.nd (pv 5)) (ae (zJ PassesOwn.never (bE (PW.pt (cB (aq jq (pv 6) (aD (aB.or aC) rfl T.bu br (aa (pv 0) ag)) (aw _)) (cB (aq (bO.or bN) (bx aT (bx aT (pv 0) (pv 6) (fun _ _=>rfl)) ai (fun _ _=>rfl)) av rfl) (cX (aR (bx aT (pv 3) (pv 6) (fun _ _=>rfl)))))))) (ah (dq 6 ia.nd (aE (bp.or (aF.or bq)) (pv 6) ai)))) (ae (g7 (aH (bE (PW.pt (cB (aq Cp (pv 6) (pv 5) (aw _)) (cX (bW (aR (dG T.Ku P5 hr (aa (pv 0) (aa (pv 2) (aa (pv 5) (aa (pv 6) ag))))))))))) (ah (aP (eE Zc' Zl' Zk' bK (pv 4) (aa (bJ (aa (pv 5) (aa (pv 6) ag))) ag)))) ay)) (ah (dq 5 ia.nd (aD (K3 rfl) rfl T.R9 Rv (aa (pv 6) (aa (aE (bp.or (aF.or bq)) (pv 5) ai) ag))))))))) (ah (ar (bJ (aa (pv 2) (aa (pv 4) ag)))))))))) ?_;tm_up;refine⟨l,b,xs,ss,rfl,Tj,aM.of hS,hg,hn,fun f H1 s1 n1 h1=>?_⟩;tm_up;refine⟨l,b,xs,ss,rfl,aM.of (s1 _ _ hS),hg.same s1,hn,fun th H2 s2 n2 h2=>?_⟩;refine⟨big (by show 0<=1000;omega),fun lo hlo=>?_⟩;have s3:=s2.trans (ao.upd (o:=.lst []) hlo);have OB:H lo=none:=s1.free (s2.free hlo);have Sw:f≠lo:=au (s2 _ _ h1) hlo;have Y2:th≠lo:=au h2 hlo;have ntf:th≠f:=fun e=>by rw[e,h1]at n2;cases n2
 have nlf:l≠f:=au hS n1;have bl:(gb b (bj ss)).length=ss.length:=by rw[mZ,L']
 have cnt:(oM b (bj ss)).length<=401:=by
  have:=jr (gO b (bj ss)) 0 0;rw[kc,L']at this;exact Zb' this (by omega)
 tm_up;refine⟨fun mm σ H'=>∃(low:Nat)(v:Option V)(c:QH)(ys:List V),mm=ss.length-low/\low<=ss.length/\σ=[some (.ref l),some (.int b),some (.ref f),some (.ref th),some (.ref lo),some (.int (low:Int)),v]/\ao H H'/\H' f=some (.lst (c.1.map V.int))/\H' lo=some (.lst ys)/\Iy H' ys c.2/\H' th=some (.lst ((g8 b (bj ss)).map V.bl))/\c.1.length=ss.length/\c.2.length+(dU low low ((gO b (bj ss)).drop low)).length<=401/\(dU low low ((gO b (bj ss)).drop low)).foldl (mG (bj ss)) c=hZ b (bj ss),
  ⟨_,0,none,(gb b (bj ss),[]),[],rfl,Zq' _,rfl,s1.trans s3,s3 _ _ h1,af,.nil,by rw[ak Y2];exact h2,bl,by show 0+(oM b (bj ss)).length<=401;omega,rfl⟩,?_⟩
 rintro mm σ H' ⟨low,v,c,ys,rfl,hlow,rfl,s4,Vp,Jv,hys,hth,hcl,Vq,mx⟩;have V6:=s4 _ _ hS;have Y3:=hg.same s4;tm_up;refine .inl ⟨_,_,rfl,.inl (aM.of V6),?_⟩;rw[bM hg];tm_up;refine aN (fun h=>?_) (fun h=>?_)
 ·have hlt:low<ss.length:=by have:=G' h;omega
  refine⟨fun σ' zw=>∃ m',m'<ss.length-low/\∃(low:Nat)(v:Option V)(c:QH)(ys:List V),m'=ss.length-low/\low<=ss.length/\σ'=[some (.ref l),some (.int b),some (.ref f),some (.ref th),some (.ref lo),some (.int (low:Int)),v]/\ao H zw/\zw f=some (.lst (c.1.map V.int))/\zw lo=some (.lst ys)/\Iy zw ys c.2/\zw th=some (.lst ((g8 b (bj ss)).map V.bl))/\c.1.length=ss.length/\c.2.length+(dU low low ((gO b (bj ss)).drop low)).length<=401/\(dU low low ((gO b (bj ss)).drop low)).foldl (mG (bj ss)) c=hZ b (bj ss),fun _ _ h=>h,?_⟩;generalize hn':lead ((gO b (bj ss)).drop low)=n;have hnle:n<=ss.length-low:=by
   have:=J0 ((gO b (bj ss)).drop low);rw[Yd',kc,L',hn']at this;exact this
  tm_up;refine⟨fun mm σ zw=>∃ j:Nat,mm=n-j/\j<=n/\σ=[some (.ref l),some (.int b),some (.ref f),some (.ref th),some (.ref lo),some (.int (low:Int)),some (.int ((low+j:Nat):Int))]/\zw=H',⟨n,0,rfl,Zq' _,rfl,rfl⟩,?_⟩;rintro mm σ zw ⟨j,rfl,hj,rfl,rfl⟩;have hla:=J2 ((gO b (bj ss)).drop low) j (by rw[hn'];exact hj);rw[hn',RT]at hla;refine fV (decide (j<n)) ?_ ?_
  ·tm_up;refine .inl ⟨_,_,rfl,.inl (aM.of V6),?_⟩;rw[bM hg];tm_up;refine aN (fun h=>?_) (fun h=>?_)
   ·have hjl:low+j<ss.length:=by have:=G' h;omega
    have hk:(bj ss)[low+j]? = some (ss[low+j]).1:=pX (N' hjl);obtain⟨tb,ht1,OD⟩:=J1 Tj (bj ss) (low+j) _ hk;rw[OD]at hla;tm_up;refine za (aM.of V6) Y3 (n:=low+j) rfl (N' hjl) fun p hp=>?_;tm_up;refine aN (fun h=>?_) (fun h=>?_)
    ·have h':(ss[low+j]).1.small=true:=by rw[<-wa];exact h
     rw[h',Bool.true_and]at hla;tm_up;refine tS (aM.of hth) (n:=low+j) rfl (pX ht1) ?_;tm_up;refine dr ?_;cases tb with
     |true=>exact(A' (hla.mpr rfl)).symm
     |false=>exact(J' (fun z=>by have:=hla.mp z;cases this)).symm
    ·have h':(ss[low+j]).1.small=false:=by rw[<-wa];exact Y'.mpr h
     rw[h',Bool.false_and]at hla;exact dr (J' (fun z=>by have:=hla.mp z;cases this)).symm
   ·have hjl:¬ low+j<ss.length:=fun z=>h (A' (by omega));exact dr (J' (by omega)).symm
  refine aN (fun h=>?_) (fun h=>?_)
  ·have hjn:=G' h;refine⟨fun σ' Hx=>∃ m',m'<n-j/\∃ j:Nat,m'=n-j/\j<=n/\σ'=[some (.ref l),some (.int b),some (.ref f),some (.ref th),some (.ref lo),some (.int (low:Int)),some (.int ((low+j:Nat):Int))]/\Hx=zw,fun _ _ h=>h,?_⟩;tm_up;exact⟨n-(j+1),by omega,j+1,rfl,by omega,rfl,rfl⟩
  ·have hjn:j=n:=by
    have:¬ j<n:=fun z=>h (A' z);omega
   subst hjn;have V7:=z9 ((gO b (bj ss)).drop low) low low (by rw[hn'];omega) (R' _);rw[hn',List.drop_drop]at V7;refine⟨fun σ1 H1=>σ1=[some (.ref l),some (.int b),some (.ref f),some (.ref th),some (.ref lo),some (.int (low:Int)),some (.int ((low+j:Nat):Int))]/\∃(c:QH)(ys:List V),ao H H1/\H1 f=some (.lst (c.1.map V.int))/\H1 lo=some (.lst ys)/\Iy H1 ys c.2/\H1 th=some (.lst ((g8 b (bj ss)).map V.bl))/\c.1.length=ss.length/\c.2.length+(dU (low+j) (low+j) ((gO b (bj ss)).drop (low+j))).length<=401/\(dU (low+j) (low+j) ((gO b (bj ss)).drop (low+j))).foldl (mG (bj ss)) c=hZ b (bj ss),?_,?_⟩
   ·by_cases hj0:j=0
    ·subst hj0;refine fV false ?_ ?_
     ·tm_up;rw[J' (show ¬((low:Int)<((low+0:Nat):Int)) by omega)];exact dr rfl
     ·exact aX ⟨rfl,c,ys,s4,Vp,Jv,hys,hth,hcl,Vq,mx⟩
    ·have hlt2:low<low+j:=by omega
     rw[X' hlt2,List.singleton_append]at V7;rw[V7,List.foldl_cons]at mx;rw[V7,Ya']at Vq;have s5:ao H (upd zw f (.lst ((settle (bj ss) c.1 low (low+j)).2.map V.int))):=cZ s4 n1;have Hw:upd zw f (.lst ((settle (bj ss) c.1 low (low+j)).2.map V.int)) lo=some (.lst ys):=by rw[ak Sw.symm];exact Jv
     have Vr:upd zw f (.lst ((settle (bj ss) c.1 low (low+j)).2.map V.int)) th=some (.lst ((g8 b (bj ss)).map V.bl)):=by rw[ak ntf];exact hth
     have Vs:(settle (bj ss) c.1 low (low+j)).2.length=ss.length:=by rw[sv];exact hcl
     refine⟨fun bb H3=>bb = !(settle (bj ss) c.1 low (low+j)).1/\H3=upd zw f (.lst ((settle (bj ss) c.1 low (low+j)).2.map V.int)),?_,?_⟩
     ·tm_up;rw[A' (show((low:Int)<((low+j:Nat):Int)) by omega)];refine bV ?_;tm_up;refine⟨l,f,low,low+j,xs,ss,c.1,rfl,aM.of V6,Y3,nlf,Vp,hcl,hlt2,by omega,?_⟩;tm_up;exact⟨rfl,rfl⟩
     ·rintro bb H3 ⟨rfl,rfl⟩;refine aN (fun h=>?_) (fun h=>?_)
      ·have hst:(settle (bj ss) c.1 low (low+j)).1=false:=by
        cases e:(settle (bj ss) c.1 low (low+j)).1
        ·rfl
        ·rw[e]at h;cases h
       tm_up;refine⟨.inl ⟨rfl,_,aM.of Hw⟩,?_⟩;tm_up;refine⟨by show 2<=sizeLine;decide,fun z hz=>?_⟩;have sz:=ao.upd (o:=.tup [.int (low:Int),.int ((low+j:Nat):Int)]) hz;have Mb:=sz _ _ Hw;refine⟨_,_,_,rfl,rfl,Mb,by rw[bM hys];exact aL (by omega),?_⟩;refine⟨rfl,((settle (bj ss) c.1 low (low+j)).2,c.2++[(low,low+j)]),_,cZ (s5.trans sz) OB,by rw[ak Sw];exact sz _ _ af,af,gN (ke Mb (lu sz (ke Vp hys))) (Gb Mb ⟨z,rfl,af⟩),
        by rw[ak Y2];exact sz _ _ Vr,Vs,by simp only [V',length_singleton];omega,?_⟩
       rw[<-mx];unfold mG;rw[hst];rfl
      ·have hst:(settle (bj ss) c.1 low (low+j)).1=true:=by
        cases e:(settle (bj ss) c.1 low (low+j)).1
        ·rw[e]at h;exact S' rfl h
        ·rfl
       refine⟨rfl,((settle (bj ss) c.1 low (low+j)).2,c.2),ys,s5,af,Hw,ke Vp hys,Vr,Vs,by show c.2.length+_<=401;omega,?_⟩;rw[<-mx];unfold mG;rw[hst];rfl
   ·rintro σ1 H1 ⟨rfl,c',ys',s6,Y4,Mb,Vt,Vu,Vv,KP,Fj⟩;tm_up;refine⟨_,_,rfl,?_⟩
    by_cases hj0:j=0
    ·subst hj0;have hbl:(gO b (bj ss))[low]? = some false:=by
      have h1:low<(gO b (bj ss)).length:=by rw[kc,L'];exact hlt
      have h2:¬(gO b (bj ss))[low+0]? = some true:=fun z=>Nat.lt_irrefl _ (hla.mpr z);rw[Nat.add_zero,N' h1]at h2;rw[N' h1];cases e:(gO b (bj ss))[low]
      ·rfl
      ·rw[e]at h2;exact S' rfl h2
     rw[Nat.add_zero,jX hbl]at Fj KP;have er:dU low low (false::(gO b (bj ss)).drop (low+1))=dU (low+1) (low+1) ((gO b (bj ss)).drop (low+1)):=by
      show(if low<low then [(low,low)] else [])++dU (low+1) (low+1) ((gO b (bj ss)).drop (low+1))=_;rw[T' (Nat.lt_irrefl _),nil_append]
     rw[er]at Fj KP;have em:(if(low:Int)+1 > ((low+0:Nat):Int) then(low:Int)+1 else((low+0:Nat):Int))=((low+1:Nat):Int):=by rw[X' (by omega)];rfl
     rw[em];exact⟨ss.length-(low+1),by omega,low+1,_,c',ys',rfl,by omega,rfl,s6,Y4,Mb,Vt,Vu,Vv,KP,Fj⟩
    ·have em:(if(low:Int)+1 > ((low+j:Nat):Int) then(low:Int)+1 else((low+j:Nat):Int))=((low+j:Nat):Int):=by
      split <;> omega
     rw[em];exact⟨ss.length-(low+j),by omega,low+j,_,c',ys',rfl,by omega,rfl,s6,Y4,Mb,Vt,Vu,Vv,KP,Fj⟩
 ·have hlt:low=ss.length:=by
   have:¬ low<ss.length:=fun z=>h (A' (by omega));omega
  subst hlt;rw[List.drop_eq_nil_of_le (by rw[kc,L'];exact R' _)]at mx;have e:c=hZ b (bj ss):=by
   have:dU ss.length ss.length []=[]:=by unfold dU;rw[T' (Nat.lt_irrefl _)]
   rw[this]at mx;exact mx
  subst e;tm_up;refine⟨by show 2<=sizeLine;decide,fun z hz=>?_⟩;have sz:=ao.upd (o:=.tup [.ref f,.ref lo]) hz;exact q z f lo ys _ (s4.trans sz) n1 OB Sw af (sz _ _ Vp) (sz _ _ Jv) (lu sz hys)
inductive wb (K:Frag)(vs:List V)(H:Hp)(Q:VK)(E:XK):Prop
 |mk (d:Addr) (vw:Vw) (n:Str) (th:Th) (cT:vs=[.ref d,.str n]) (cU:lg H d vw) (dH:mQ vw) (fL:aO vw n=some th) (jF:∀(l:Addr)(H':Hp),ao H H'->H' l=some (.lst ((oO vw n).map V.int))->Q (.ref l) H'):wb K vs H Q E
theorem Fl (T:Txt K w mg t):aW P w K mg base fA (0+3) t.yB t.yC ["_law_voices","_law_name"] (wb K):=by
 have qK:=v9 P base T;have HA:=L9 P base T;refine T.yJ.ok oz ?_ ?_
 x_go
 obtain⟨d,vw,n,th,rfl,hd,wv,hf,q⟩:=h;refine aJ (ae (pJ (i:=2) oz.nd rfl (Or.inr rfl) (e9 (fY hr) (pv 0) (pv 1) (fun _ _=>rfl))) (ae (dq 3 oz.nd (dG T.qt qK hr (aa (pv 0) (aa (pv 1) ag)))) (ae (aH (aR (aD c9 rfl T.bg bf (aa (pv 2) (aa (dW (v:=.ty "list") rfl T.fi eZ rfl) ag)))) (ah (ar (bx aT (dG T.Be HA hr (aa (pv 3) (aa ai ag))) ai (fun _ _=>rfl)))) ay) (ah (ar (iq (cn:=["_law_worth"]) rfl (cY.of rfl) (dz (bx aT (dG T.Be HA hr (aa (pv 3) (aa (bL (cz (aR (aY (pv 2))) ai ai)) ag))) ai (fun _ _=>rfl))) (fun _=>(dX (i:=0) zg rfl (Or.inl rfl))) (fun _=>j9) (fun _=>(aE (iV.or iX) (aY (pv 3)) (pv 0))))))))) ?_;obtain⟨v,hg,hv⟩:=hd.get hf;refine⟨_,rfl,_,rfl,d,v,rfl,hg,?_⟩;refine⟨_,rfl,_,rfl,d,vw,n,th,rfl,hd,wv,hf,fun l ys H1 s1 h1 g1=>?_⟩;cases th with
 |pl ss =>
  obtain⟨l0,OT,rfl,h0,_⟩:=hv;have gl:=(wv.gd _ _ (bP hf)).1;rw[m8 hf]at g1;tm_up;refine⟨_,_,_,_,rfl,fu.lst (s1 _ _ h0),rfl,_,rfl,bV ?_⟩;refine⟨_,rfl,l,3,ys,ss,rfl,.inl rfl,h1,g1,by omega,fun p f lo zs H2 s2 _ _ _ hp hf2 _ _=>SY hp ?_⟩;exact q f H2 (s1.trans s2) (by rw[Ah hf];exact hf2)
 |cn ld lt sl tn =>
  obtain⟨p,rfl,hp⟩:=hv;obtain⟨⟨ss,rD⟩,lt0,lt1,YS,YT⟩:=wv.ld n ld lt sl tn (bP hf);have hfl:=wv.find rD;have gl:=(wv.gd _ _ rD).1;rw[p6 hf hfl]at g1;rw[Ai hf hfl]at q;have Vm:(if tn=true then ss.map lC else ss).length<=400:=by
   split
   ·rw[L'];omega
   ·omega
  tm_up;refine⟨_,_,_,_,rfl,fu.tup (s1 _ _ hp),rfl,_,rfl,aX ?_⟩;refine⟨_,rfl,?_⟩;refine⟨fun v H'=>v=.int (if tn=true then 2 else 3)/\H'=H1,?_,?_⟩
  ·refine⟨_,rfl,Fe (i:=3) (s1 _ _ hp) rfl ⟨_,rfl,?_⟩⟩;cases tn with
   |true=>exact bV ⟨rfl,rfl⟩
   |false=>exact aX ⟨rfl,rfl⟩
  intro v0 H0 ⟨e1,e2⟩;rw[e1,e2];have Tj:Ms (if tn=true then 2 else 3):=by cases tn;exact .inl rfl;exact .inr rfl
  refine⟨l,_,ys,_,rfl,Tj,h1,g1,Vm,fun p2 f lo zs H2 s2 _ _ _ hp2 hf2 _ _=>SY hp2 ?_⟩;generalize hW:(hZ (if tn=true then 2 else 3) (bj (if tn=true then ss.map lC else ss))).1=W at q hf2;have hWl:W.length<=400:=by rw[<-hW,qO,L'];exact Vm
  refine⟨f,rfl,⟨_,aM.of hf2⟩,fun D' b' hD'=>?_⟩;have Y5:=s2 _ _ (s1 _ _ hp);refine fH (K:=K) (xs:=W.map V.int) (fun i ys' σ H'=>∃ v,σ=[v,some (.ref d),some (.str n),some (.ref p),some (.ref l)]/\H'=upd H2 D' (.lst ys')/\ys'=((W.take i).map fun w=>sl * w).map V.int) ⟨none,rfl,rfl,by simp⟩ ?_ ?_ ?_
  ·rintro i ys σ H' ⟨v,rfl,rfl,_⟩;exact fM (aM.of hf2) hD'
  ·rintro i ys' y σ H' hy ⟨v,rfl,rfl,rfl⟩ N hN;obtain⟨z,hz,rfl⟩:=Eu hy;have hi:i<W.length:=(K'.mp hz).1;refine ee ?_;refine⟨_,rfl,Fe (i:=2) (by rw[ak (au Y5 hD')];exact Y5) rfl ?_⟩;refine⟨_,rfl,.inl ⟨_,_,rfl,rfl,.inl ⟨by omega,by omega⟩,af,?_,?_⟩⟩
   ·rw[L',L',Zo'];exact aL (by omega)
   ·refine hN _ _ _ ⟨_,rfl,cR,?_⟩;rw[take_succ,hz,map_append,map_append];rfl
  ·rintro ys' σ H' ⟨v,rfl,rfl,rfl⟩;rw[L',take_length];exact q D' _ ((s1.trans s2).trans (ao.upd hD')) af
theorem KQ {K:Frag}{H:Hp}{a b:Addr}{ys:List V}(ha:aM K H a ys)(hb:aM K H b ys)(hf:∀ v∈ys,∃ x,v=.str x):Ml K H 60 (.ref a) (.ref b):=by
 refine .lst ha hb rfl fun i x y e1 e2=>?_;have e:x=y:=Z' (e1.symm.trans e2);subst e;obtain⟨z,rfl⟩:=hf x (Zf' e1);exact .flat rfl
theorem Vy {K:Frag}{H:Hp}{p p2:Addr}{ld:Str}{lt sl:Int}{tn:Bool}(n:Nat)(h1:H p=some (.tup [.str ld,.int lt,.int sl,.bl tn]))(h2:H p2=some (.tup [.str ld,.int lt,.int sl,.bl tn])):Ml K H (n+1) (.ref p) (.ref p2):=by
 refine .tup (jf.of h1) (jf.of h2) rfl fun i x y e1 e2=>?_;have e:x=y:=Z' (e1.symm.trans e2);subst e
 match i,e1 with
 |0,e1=>cases e1;exact .flat rfl
 |1,e1=>cases e1;exact .flat rfl
 |2,e1=>cases e1;exact .flat rfl
 |3,e1=>cases e1;exact .flat rfl
 |n+4,e1=>simp at e1
theorem OH {vw:Vw}(w:mQ vw)(n:Str):(oO vw n).length<=400:=by
 cases hf:aO vw n with
 |none=>unfold oO;rw[hf];exact Zq' _
 |some th =>
  cases th with
  |pl ss =>
   rw[Ah hf,qO,L'];have:=(w.gd _ _ (bP hf)).1;omega
  |cn ld lt sl tn =>
   obtain⟨⟨ss,rD⟩,_⟩:=w.ld n ld lt sl tn (bP hf);rw[Ai hf (w.find rD),L',qO,L'];have:=(w.gd _ _ rD).1;split
   ·rw[L'];omega
   ·omega
theorem OI {vw:Vw}(w:mQ vw)(n:Str):(tX vw n).length<=200:=by
 cases hf:aO vw n with
 |none=>unfold tX;rw[hf];exact Zq' _
 |some th =>
  cases th with
  |pl ss =>
   rw[m8 hf];exact(w.gd _ _ (bP hf)).1
  |cn ld lt sl tn =>
   obtain⟨⟨ss,rD⟩,_⟩:=w.ld n ld lt sl tn (bP hf);rw[p6 hf (w.find rD)];have:=(w.gd _ _ rD).1;split
   ·rw[L'];exact this
   ·exact this
inductive yU (K:Frag)(c:Cs)(vs:List V)(H:Hp)(Q:VK)(E:XK):Prop
 |mk (x d:Addr) (F:Addr->Prop) (vw:Vw) (ps fs:List Vw) (cT:vs=[.ref x,.ref d]) (cU:n6 c H x F vw ps fs) (dH:lg H d vw) (fL:∀ H',ao H H'->Q (.bl true) H'):yU K c vs H Q E
theorem yV (T:Txt K w mg t):aW P w K mg base fA (0+8) t.AS t.AU ["_law_book","_law_voices"] (yU K (cs t)):=by
 have d6:=jm P base T;have dD:=gS P base T;have Mc:=Jt P base T;have OJ:=L3 P base T;have yW:=Fi P base T;have gn:=oC P base T;have qK:=v9 P base T;have HC:=Fl P base T;have gF:=oG P base T;refine T.kF.ok lK ?_ ?_
 x_go
 obtain⟨x,d,F,vw,ps,fs,rfl,B,hd,q⟩:=h;refine aJ (ae (dq 2 lK.nd (gM (pv 0) T.aI T.cH.me d6 (fQ hr) T.cH.b .nil dN)) (ae (aH (bE (PW.pt (fq (bW (aR (aD c9 rfl T.bg bf (aa (pv 2) (aa (dW (v:=.ty "list") rfl T.fi eZ rfl) ag))))) (d7 (aq (hX.or (eF (az hr))) (pv 2) (di om rfl T.fi eZ (aa (pv 1) ag)) (aw _)))))) (ah (ar cE)) ay) (ae (aP (wk Zc' PySem.F.slot_list_reverse PySem.F.type_list_reverse Ii (pv 2))) (ae (aP (eE Zc' Zl' Zk' bK (pv 2) (aa av ag))) (ae (aH (aq (hX.or (eF (az hr))) (gM (pv 0) T.aI T.cH.me d6 (fQ hr) T.cH.b .nil dN) (di om rfl T.fi eZ (aa (pv 1) ag)) (aw _)) (ah (ar cE)) ay) (ae (d8 PassesOwn.never rfl (dz (di om rfl T.fi eZ (aa (pv 1) ag))) (jG 3 lK.nd) (ae (aP (eE Zc' Zl' Zk' bK (dZ (pv 0) T.aI T.eV.me yW (fQ hr) T.eV.b .nil oK (aa (pv 3) ag)) (aa ai ag))) (ae (aP (eE Zc' Zl' Zk' bK (dZ (pv 0) T.aI T.bB.me gn (fQ hr) T.bB.b .nil oK (aa (pv 3) ag)) (aa (bJ (aa av (aa ai ag))) ag))) (ae (aH (bW (aR (dG T.DK Mc hr (aa (dZ (pv 0) T.aI T.bB.me gn (fQ hr) T.bB.b .nil oK (aa (pv 3) ag)) (aa (dG T.qt qK hr (aa (pv 1) (aa (pv 3) ag))) ag))))) (ah (ar cE)) ay) (ae (aH (bW (aR (dG T.G8 OJ hr (aa (dZ (pv 0) T.aI T.eV.me yW (fQ hr) T.eV.b .nil oK (aa (pv 3) ag)) (aa (dG T.yJ HC hr (aa (pv 1) (aa (pv 3) ag))) ag))))) (ah (ar cE)) ay) (ae (dq 4 lK.nd (dZ (pv 0) T.aI T.cm.me dD (fQ hr) T.cm.b .nil oK (aa (pv 3) ag))) (ah (aH (aR (aD c9 rfl T.bg bf (aa (e9 (fY hr) (pv 1) (pv 3) (fun _ _=>rfl)) (aa (dW (v:=.ty "list") rfl T.fi eZ rfl) ag)))) (ah (aH (aq Ed (pv 4) c8 (aw _)) (ah (ar cE)) ay)) (ah (aH (bE (PW.pt (fq (bW (aR (aD c9 rfl T.bg bf (aa (pv 4) (aa (dW (v:=.ty "tuple") rfl T.vc tR rfl) ag))))) (fq (aq (hX.or (eF (az hr))) (aD (aB.or aC) rfl T.bu br (aa (pv 4) ag)) ai (aw _)) (d7 (aq (hX.or (eF (az hr))) (pv 4) (e9 (fY hr) (pv 1) (pv 3) (fun _ _=>rfl)) (aw _))))))) (ah (ar cE)) (ah (aH (bE (PW.pt (fq (bW (aR (dG T.i8 gF hr (aa (aY (pv 4)) ag)))) (fq (bW (aR (dG T.i8 gF hr (aa (aY (pv 4)) ag)))) (d7 (bW (aR (aD c9 rfl T.bg bf (aa (aY (pv 4)) (aa (dW (v:=.ty "bool") rfl T.Kt JU rfl) ag)))))))))) (ah (ar cE)) ay)))))))))))) (ah (ar cE)))))))) ?_;have wv:=B.wv vw (.inr (.inl rfl));have hx:∃ dx L D U,H x=some (.ins t.cw dx (pY L D U)):=by
  obtain⟨L,D,U,all,M,Ps,Fs,es,us,b,_⟩:=B.ex;obtain⟨dx,e⟩:=b.hx;exact⟨dx,L,D,U,e⟩
 obtain⟨dx,L,D,U,hx⟩:=hx;have wl:=wv.len;have hstr:∀ v∈vw.map (fun q=>V.str q.1),∃ z,v=.str z:=fun v hv=>by
  obtain⟨q,_,e⟩:=mem_map.mp hv;exact⟨_,e.symm⟩
 refine⟨_,rfl,x,dx,_,rfl,hx,ir _ _ _,x,F,vw,ps,fs,rfl,B,fun l1 H1 Xy s1 h1=>?_⟩;obtain⟨kvs,hk,ek⟩:=hd.keys;refine⟨fun b H'=>b=false/\ao H1 H',?_,?_⟩
 ·tm_up;refine⟨_,_,_,_,rfl,fu.lst h1,rfl,_,rfl,aX ?_⟩;refine⟨_,rfl,_,rfl,rfl,d,kvs,rfl,.inl (s1 _ _ hk),fun l2 hl2=>?_⟩;have s2:=ao.upd (o:=.lst (kvs.map fun kv=>kV kv.1)) hl2;have h2:=af (H:=H1) (a:=l2) (o:=.lst (kvs.map fun kv=>kV kv.1));rw[ek]at s2 h2 ⊢;refine .inr ⟨l1,l2,rfl,rfl,KQ (aM.of (s2 _ _ h1)) (aM.of h2) hstr,?_⟩;exact⟨_,rfl,rfl,s2⟩
 rintro b H2 ⟨rfl,s2⟩;refine aX ?_;have h12:=s2 _ _ h1;refine⟨_,rfl,.inl ⟨rfl,_,aM.of h12⟩,l1,_,rfl,rfl,h12,?_⟩;have s3:ao H (upd H2 l1 (.lst (vw.map fun a=>V.str a.1).reverse)):=cZ (s1.trans s2) Xy;have h3:=af (H:=H2) (a:=l1) (o:=.lst (vw.map fun a=>V.str a.1).reverse);generalize upd H2 l1 (.lst (vw.map fun a=>V.str a.1).reverse)=H3 at s3 h3;refine⟨_,rfl,.inl ⟨rfl,_,aM.of h3⟩,l1,_,_,rfl,rfl,h3,aL (by rw[length_reverse,L'];omega),?_⟩;have s4:ao H (upd H3 l1 (.lst ((vw.map fun a=>V.str a.1).reverse++[V.str "x"]))):=cZ s3 Xy;generalize upd H3 l1 (.lst ((vw.map fun a=>V.str a.1).reverse++[V.str "x"]))=H4 at s4;refine⟨_,rfl,x,dx,_,rfl,s4 _ _ hx,ir _ _ _,x,F,vw,ps,fs,rfl,B.same s4,fun l5 H5 nl5 s5 h5=>?_⟩;refine⟨_,rfl,rfl,d,kvs,rfl,.inl (s5 _ _ (s4 _ _ hk)),fun l6 hl6=>?_⟩;have s6:=ao.upd (o:=.lst (kvs.map fun kv=>kV kv.1)) hl6;have h6:=af (H:=H5) (a:=l6) (o:=.lst (kvs.map fun kv=>kV kv.1));rw[ek]at s6 h6 ⊢;refine .inr ⟨l5,l6,rfl,rfl,KQ (aM.of (s6 _ _ h5)) (aM.of h6) hstr,?_⟩;refine⟨_,rfl,aX ?_⟩;have S6:=(s4.trans s5).trans s6;generalize upd H5 l6 (.lst (vw.map fun q=>V.str q.1))=H6 at S6;refine⟨_,rfl,rfl,d,kvs,rfl,.inl (S6 _ _ hk),fun l7 hl7=>?_⟩;have s7:=ao.upd (o:=.lst (kvs.map fun kv=>kV kv.1)) hl7;have h7:=af (H:=H6) (a:=l7) (o:=.lst (kvs.map fun kv=>kV kv.1));rw[ek]at s7 h7 ⊢;have S7:=S6.trans s7;generalize upd H6 l7 (.lst (vw.map fun q=>V.str q.1))=H7 at S7 h7;refine⟨l7,rfl,⟨_,aM.of h7⟩,ij (K:=K) (xs:=vw.map fun q=>V.str q.1) (fun i σ H'=>∃(u v:Option V),σ=[some (.ref x),some (.ref d),some (.ref l1),u,v]/\ao H7 H') ⟨none,none,rfl,ao.refl _⟩ ?_ ?_ ?_⟩
 ·rintro i σ H' _ ⟨u,v,rfl,s8⟩;exact aM.of (s8 _ _ h7)
 ·rintro i y σ H8 hy ⟨u,v,rfl,s8⟩;obtain⟨qn,hq,rfl⟩:∃ qn,vw[i]? = some qn/\y=.str qn.1:=by
   rw[Zd']at hy;cases e:vw[i]? with
   |none=>rw[e]at hy;cases hy
   |some z=>rw[e]at hy;exact⟨z,rfl,(Z' hy).symm⟩
  obtain⟨n,th⟩:=qn;have hf:=wv.find (Zf' hq);have kl:=OH wv n;have ll:=OI wv n;have S8:=S7.trans s8;have B8:=B.same S8;have XX:=hd.same S8;refine⟨_,rfl,x,dx,_,rfl,S8 _ _ hx,xB _ _ _,_,rfl,x,F,vw,ps,fs,n,rfl,B8,?_⟩;rw[hf];intro k1 H9 nk1 s9 hk1;refine⟨.inl ⟨rfl,_,aM.of hk1⟩,k1,_,_,rfl,rfl,hk1,aL (by rw[L'];omega),?_⟩;have V8:ao H8 (upd H9 k1 (.lst ((oO vw n).map V.int++[V.int 7]))):=cZ s9 nk1;generalize upd H9 k1 (.lst ((oO vw n).map V.int++[V.int 7]))=Y6 at V8;have B10:=B8.same V8;refine⟨_,rfl,x,dx,_,rfl,V8 _ _ (S8 _ _ hx),h8 _ _ _,_,rfl,x,F,vw,ps,fs,n,rfl,B10,?_⟩;rw[hf];intro XY Vz Y7 XZ s11 h11 g11;have y11:=bM g11;refine⟨.inl ⟨rfl,_,aM.of h11⟩,(by show 2<=sizeLine;decide),fun tp htp=>?_⟩;have st:=ao.upd (o:=.tup [V.str "R",V.int 0]) htp;refine⟨XY,_,_,rfl,rfl,st _ _ h11,aL (by omega),?_⟩;have s12:ao Y6 (upd (upd Y7 tp (.tup [V.str "R",V.int 0])) XY (.lst (Vz++[.ref tp]))):=cZ (s11.trans st) XZ;generalize upd (upd Y7 tp (.tup [V.str "R",V.int 0])) XY (.lst (Vz++[.ref tp]))=H12 at s12;have Sk:=V8.trans s12;have B12:=B8.same Sk;have X0:=XX.same Sk;refine⟨_,rfl,x,dx,_,rfl,Sk _ _ (S8 _ _ hx),h8 _ _ _,_,rfl,x,F,vw,ps,fs,n,rfl,B12,?_⟩;rw[hf];intro l13 X1 Tn abd Sq h13 g13;refine⟨_,rfl,_,rfl,d,vw,n,th,rfl,X0.same Sq,wv,hf,fun l14 X2 To X3 h14 g14=>?_⟩;refine⟨l13,l14,X1,X2,tX vw n,rfl,X3 _ _ h13,aM.of h14,g13.same X3,g14,fun OK s15=>?_⟩;refine⟨_,rfl,aX ?_⟩;have SA:=((Sk.trans Sq).trans X3).trans s15;have B15:=B8.same SA;refine⟨_,rfl,x,dx,_,rfl,SA _ _ (S8 _ _ hx),xB _ _ _,_,rfl,x,F,vw,ps,fs,n,rfl,B15,?_⟩;rw[hf];intro k16 VA abj Y8 h16;refine⟨_,rfl,_,rfl,d,vw,n,th,rfl,(XX.same SA).same Y8,wv,hf,fun l17 VB Y9 h17=>?_⟩;refine⟨k16,l17,oO vw n,oO vw n,rfl,Y9 _ _ h16,aM.of h17,by omega,?_⟩;rw[A' rfl];refine⟨_,rfl,aX ?_⟩;have Jx:=(SA.trans Y8).trans Y9;have B17:=B8.same Jx;have X4:=XX.same Jx;have fin:∀{u v:Option V},∃(u' v':Option V),[some (V.ref x),some (V.ref d),some (V.ref l1),u,v]=[some (V.ref x),some (V.ref d),some (V.ref l1),u',v']/\ao H7 VB:=⟨_,_,rfl,s8.trans Jx⟩;obtain⟨v18,SD,VC⟩:=X4.get hf;refine⟨_,rfl,x,dx,_,rfl,Jx _ _ (S8 _ _ hx),iu _ _ _,_,rfl,x,F,vw,ps,fs,n,rfl,B17,?_⟩;rw[hf];cases th with
  |pl ss =>
   obtain⟨l0,OT,rfl,h0,_⟩:=VC;refine⟨_,rfl,_,rfl,d,_,rfl,SD,?_⟩;refine⟨_,_,_,_,rfl,fu.lst h0,rfl,_,rfl,bV ?_⟩;refine⟨_,rfl,rfl,_,rfl,?_⟩;exact aN (fun h=>S' h (by decide)) (fun _=>fin)
  |cn ld lt sl tn =>
   intro p hp;obtain⟨p2,rfl,hp2⟩:=VC;refine⟨_,rfl,_,rfl,d,_,rfl,SD,?_⟩;refine⟨_,_,_,_,rfl,fu.tup hp2,rfl,_,rfl,aX ?_⟩;refine⟨fun b H'=>b=false/\H'=VB,?_,?_⟩
   ·tm_up;refine⟨_,_,_,_,rfl,fu.tup hp,rfl,_,rfl,aX ?_⟩;refine⟨_,rfl,.inl ⟨p,_,rfl,.inr (jf.of hp),?_⟩⟩;refine .inl ⟨rfl,_,rfl,aX ?_⟩;refine⟨_,rfl,_,rfl,_,rfl,d,_,rfl,SD,.inr ⟨p,p2,rfl,rfl,Vy 59 hp hp2,?_⟩⟩;exact⟨_,rfl,rfl,rfl⟩
   intro b H18 ⟨e1,e2⟩;rw[e1,e2];refine aX ?_;refine⟨fun b H'=>b=false/\H'=VB,?_,?_⟩
   ·refine⟨_,rfl,Fe (i:=1) hp rfl ⟨lt,rfl,_,rfl,aX ?_⟩⟩;refine⟨_,rfl,Fe (i:=2) hp rfl ⟨sl,rfl,_,rfl,aX ?_⟩⟩;refine⟨_,rfl,Fe (i:=3) hp rfl ?_⟩;exact⟨_,_,_,_,rfl,fu.bl _,rfl,_,rfl,rfl,rfl⟩
   intro b H18 ⟨e1,e2⟩;rw[e1,e2];refine aX ?_;exact fin
 ·rintro σ H' ⟨u,v,rfl,s8⟩;exact q _ (S7.trans s8)
inductive nZ (K:Frag)(vs:List V)(H:Hp)(Q:VK)(E:XK):Prop
 |mk (l:Addr) (v:V) (ys:List V) (ss:List Sg) (de:De) (i:Nat) (cT:vs=[.ref l,v,.int (i:Int)]) (cU:H l=some (.lst ys)) (dH:ig H ys ss) (fL:ss.length<=200) (jF:ot H v de) (zB:(de.wy=.put\/de.wy=.cut\/de.wy=.swap)) (KA:(de.wy≠.cut->dO de.sg=true)) (PR:i<=ss.length) (PU:(de.wy≠.put->i<ss.length)) (Te:∀(l':Addr)(ys':List V)(H':Hp),H l'=none->ao H H'->H' l'=some (.lst ys')->ig H' ys' (bC ss de.wy de.sg i)->Q (.ref l') H'):nZ K vs H Q E
theorem xo (T:Txt K w mg t):aW P w K mg base fA (0+1) t.oZ t.o5 ["_law_line","_law_deed","_law_at"] (nZ K):=by
 refine T.o8.ok wG ?_ ?_
 x_go
 obtain⟨l,v,ys,ss,de,i,rfl,hl,g,Jr,hde,Tf,hgd,hi,hi2,q⟩:=h;obtain⟨p2,ps2,rfl,hp2,Cj⟩:=id hde;refine aJ (ae (aH (aq (aS.or (aK (az hr))) (aY (pv 1)) av (aw _)) (ah (ar (aE (bp.or (aF.or bq)) (dM (eY.or (gY.or gZ)) (pv 0) eX (dA (pv 2))) (dM (eY.or (gY.or gZ)) (pv 0) (dA (aE (bp.or (aF.or bq)) (pv 2) ai)) eX)))) ay) (ah (ar (aE (bp.or (aF.or bq)) (aE (bp.or (aF.or bq)) (dM (eY.or (gY.or gZ)) (pv 0) eX (dA (pv 2))) (a9 (aa (aY (pv 1)) ag))) (dM (eY.or (gY.or gZ)) (pv 0) (dA (aE (bp.or (aF.or bq)) (pv 2) (di (iW.or d9) rfl T.qp pR (aa (aZ (aS.or (aK (az hr))) (aY (pv 1)) av (aw _)) ag)))) eX))))) ?_;have yl:=bM g;refine⟨_,rfl,bD (i:=0) hp2 rfl ?_⟩;tm_up;rw[show decide (V.str de.wy.str=V.str (Str.ofString "cut"))=decide (de.wy=.cut) from fO de.wy .cut]
 by_cases z1:de.wy=.cut
 ·rw[A' z1];refine bV ?_;have hi3:=hi2 (by rw[z1];decide);refine⟨_,rfl,_,rfl,i,rfl,.inl ⟨l,ys,rfl,aM.of hl,fun c1 hc1=>?_⟩⟩;rw[CI];have S1:=ao.upd (o:=.lst (ys.take i)) hc1;have k1:=af (H:=H) (a:=c1) (o:=.lst (ys.take i));generalize upd H c1 (.lst (ys.take i))=OK at S1 k1;refine⟨_,rfl,_,rfl,.inl ⟨_,_,rfl,rfl,_,rfl,.inl ⟨l,ys,rfl,aM.of (S1 _ _ hl),fun c4 hc4=>?_⟩⟩⟩;rw[show j7 ys (some ((i:Int)+1)) none=ys.drop (i+1) from zC ys (i+1) (by omega)];have S4:=ao.upd (o:=.lst (ys.drop (i+1))) hc4;have k4:=af (H:=OK) (a:=c4) (o:=.lst (ys.drop (i+1)));generalize upd OK c4 (.lst (ys.drop (i+1)))=VA at S4 k4;refine .inr (.inr ⟨c1,c4,_,_,rfl,rfl,S4 _ _ k1,k4,?_,fun c5 hc5=>?_⟩)
  ·exact big (by simp only [Zo',Yd'];omega)
  have S5:=ao.upd (o:=.lst (ys.take i++ys.drop (i+1))) hc5;have SS:=(S1.trans S4).trans S5;refine q c5 _ _ ((S1.trans S4).free hc5) SS af (ig.same SS ?_);unfold bC;rw[z1];show ig H _ (ss.take i++[]++ss.drop (i+1));rw[append_nil];exact qU (pW i g) (rq (i+1) g)
 ·rw[J' z1];refine aX ?_;refine⟨_,rfl,_,rfl,i,rfl,.inl ⟨l,ys,rfl,aM.of hl,fun c1 hc1=>?_⟩⟩;rw[CI];have S1:=ao.upd (o:=.lst (ys.take i)) hc1;have k1:=af (H:=H) (a:=c1) (o:=.lst (ys.take i));generalize upd H c1 (.lst (ys.take i))=Tn at S1 k1;refine⟨_,rfl,bD (i:=4) (S1 _ _ hp2) rfl ?_⟩;refine⟨big (by show 1<=1000;omega),fun c2 hc2=>?_⟩;have S2:=ao.upd (o:=.lst [V.ref ps2]) hc2;have k2:=af (H:=Tn) (a:=c2) (o:=.lst [V.ref ps2]);generalize upd Tn c2 (.lst [V.ref ps2])=To at S2 k2;refine .inr (.inr ⟨c1,c2,_,_,rfl,rfl,S2 _ _ k1,k2,?_,fun c3 hc3=>?_⟩)
  ·exact big (by rw[Zo'];show _+1<=1000;omega)
  have VD:=ao.upd (o:=.lst (ys.take i++[V.ref ps2])) hc3;have k3:=af (H:=To) (a:=c3) (o:=.lst (ys.take i++[V.ref ps2]));generalize upd To c3 (.lst (ys.take i++[V.ref ps2]))=OK at VD k3;have SS:=(S1.trans S2).trans VD;have VE:=g.same SS;obtain⟨es1,es2,_⟩:=Gm (hgd z1);have SE:Et OK (.ref ps2) (ki de.sg):=⟨ps2,rfl,by rw[es1,es2];exact SS _ _ Cj⟩;refine⟨_,rfl,_,rfl,_,rfl,bD (i:=0) (SS _ _ hp2) rfl ?_⟩;tm_up;refine .inl (.inr ⟨_,rfl,?_⟩);rw[show decide (V.str de.wy.str=V.str (Str.ofString "swap"))=decide (de.wy=.swap) from fO de.wy .swap];obtain⟨k,hk,hkb,hki⟩:∃ k:Nat,((i:Int)+(if decide (de.wy=.swap)=true then 1 else 0))=((i+k:Nat):Int)/\bC ss de.wy de.sg i=ss.take i++[ki de.sg]++ss.drop (i+k)/\i+k<=ss.length:=by
   by_cases z2:de.wy=.swap
   ·refine⟨1,by rw[A' z2,X' rfl];omega,by unfold bC;rw[z2],hi2 (by rw[z2];decide)⟩
   ·have z3:de.wy=.put:=by rcases Tf with z|z|z;exact z;exact S' z z1;exact S' z z2
    refine⟨0,by rw[J' z2,T' (by decide)];omega,by unfold bC;rw[z3];rfl,hi⟩
  rw[hkb]at q;refine .inl ⟨_,_,rfl,rfl,_,rfl,.inl ⟨l,ys,rfl,aM.of (SS _ _ hl),fun c4 hc4=>?_⟩⟩;rw[show j7 ys (some ((i:Int)+(if decide (de.wy=.swap)=true then 1 else 0))) none=ys.drop (i+k) by rw[hk];exact zC ys (i+k) (by omega)];have S4:=ao.upd (o:=.lst (ys.drop (i+k))) hc4;have k4:=af (H:=OK) (a:=c4) (o:=.lst (ys.drop (i+k)));generalize upd OK c4 (.lst (ys.drop (i+k)))=VA at S4 k4;refine .inr (.inr ⟨c3,c4,_,_,rfl,rfl,S4 _ _ k3,k4,?_,fun c5 hc5=>?_⟩)
  ·exact big (by simp only [V',Zo',Yd',length_singleton];omega)
  have S5:=ao.upd (o:=.lst (ys.take i++[V.ref ps2]++ys.drop (i+k))) hc5;exact q c5 _ _ ((SS.trans S4).free hc5) ((SS.trans S4).trans S5) af (ig.same (S4.trans S5) (qU (qU (pW i VE) (.cons SE .nil)) (rq (i+k) VE)))
noncomputable def mix (H0 H H':Hp):Hp:=fun y=>match H y with
 |none=>H' y
 |some (.lst _)=>H0 y
 |some o=>some o
section
variable {H0 H H' zw:Hp}
theorem jn (s:ao H0 H):ao H0 (mix H0 H H'):=fun y o e=>by
 unfold mix;rw[s _ _ e];cases o with
 |lst xs=>exact e
 |_=>rfl
theorem dE {y:Addr}{o:HO}(n:H y=none)(e:H' y=some o):mix H0 H H' y=some o:=by
 unfold mix;rw[n];exact e
theorem iJ (s:ao H H'){y:Addr}{o:HO}(e:H' y=some o)(k:∀ xs,o≠.lst xs):mix H0 H H' y=some o:=by
 unfold mix;cases h:H y with
 |none=>exact e
 |some u =>
  have:o=u:=Z' (e.symm.trans (s _ _ h));subst this;cases o with
  |lst xs=>exact S' rfl (k xs)
  |_=>rfl
theorem P6 (s0:ao H0 H)(s:ao H H'):ao (mix H0 H H') H':=fun y o e=>by
 unfold mix at e;cases h:H y with
 |none=>rw[h]at e;exact e
 |some u =>
  rw[h]at e;cases u with
  |lst xs=>exact s _ _ (s0 _ _ e)
  |_=>exact(s _ _ h).trans e
theorem OL (s:ao H' zw):ao (mix H0 H H') (mix H0 H zw):=fun y o e=>by
 unfold mix at e ⊢;cases h:H y with
 |none=>rw[h]at e;exact s _ _ e
 |some u =>
  rw[h]at e;cases u with
  |lst xs=>exact e
  |_=>exact e
theorem Bw.mix {c:Cs}{x:Addr}{vw:Vw}{ps fs:List Vw}(h:Bw c H0 H x [] vw ps fs)(s:ao H H'):Bw c (cC.mix H0 H H') H' x [] vw ps fs:=by
 obtain⟨F,b,hF,h0,ho⟩:=h.ex;refine⟨⟨F,b.same s,fun y z=>let ⟨xs,e⟩:=hF y z;⟨xs,s _ _ e⟩,fun y hy=>?_,fun a ha=>nomatch ha⟩,P6 h.sm s⟩;obtain⟨xs,e⟩:=hF y hy;unfold cC.mix;rw[e];exact h0 y hy
end
theorem KR {vw:Vw}{n:Str}(h:bY vw n=none):nameB n=true/\aO vw n=none/\vw.length<12:=by
 unfold bY at h;split at h
 ·cases h
 ·next h1 =>
  split at h
  ·cases h
  ·next h2 =>
   split at h
   ·cases h
   ·next h3=>exact⟨by simpa using h1,by cases e:aO vw n with|none=>rfl|some _=>rw[e]at h2;exact S' rfl h2,by omega⟩
theorem SF {H:Hp}{n:Str}{kvs:List (Key×V)}{vw:Vw}(h:Paired (Aj H) kvs vw):Paired (Aj H) (zV kvs (Sum.inr n)) (iL vw n):=by
 unfold zV iL
 induction h with
 |nil=>exact .nil
 | @cons kv q as qs r t ih =>
  by_cases e:q.1=n
  ·rw[List.filter_cons_of_neg (by rw[r.1,e];simp),List.filter_cons_of_neg (by rw[A' e];simp)];exact ih
  ·rw[List.filter_cons_of_pos (by rw[r.1];exact A' fun z=>e (Sum.inr.inj z)),List.filter_cons_of_pos (by rw[J' e];rfl)];exact .cons r ih
theorem VF {H:Hp}{n:Str}{v:V}{th:Th}{kvs:List (Key×V)}{vw:Vw}(h:Paired (Aj H) kvs vw)(hs:(kY kvs (Sum.inr n)).isSome=true)(hv:QM H v th):Paired (Aj H) (putK kvs (Sum.inr n) v) (kg vw n th):=by
 unfold putK;rw[pV,X' hs];clear hs;unfold kg
 induction h with
 |nil=>exact .nil
 | @cons kv q as qs r t ih =>
  refine .cons ?_ ih;show Aj H (if kv.1=Sum.inr n then(kv.1,v) else kv) (if q.1=n then(n,th) else q)
  by_cases e:q.1=n
  ·rw[X' (r.1.trans (Zj' Sum.inr e)),X' e];exact⟨r.1.trans (Zj' Sum.inr e),hv⟩
  ·rw[T' (fun z=>e (Sum.inr.inj (r.1.symm.trans z))),T' e];exact r
theorem Fm {α β:Type}{F:α->β->Prop}:∀{ys:List α} {vs:List β} {q:β},Paired F ys (vs++[q])->∃ OT y,ys=OT++[y]/\Paired F OT vs/\F y q
 |_,[],_,.cons r .nil=>⟨[],_,rfl,.nil,r⟩
 |_,_::vs,_,.cons r t=>by
  obtain⟨OT,y,rfl,h1,h2⟩:=Fm t;exact⟨_::OT,y,rfl,.cons r h1,h2⟩
theorem HD (xs:List V)(v:V):j7 (xs++[v]) none (some (-1))=xs:=by
 unfold j7;have e:HT.ip (xs++[v]).length (xs++[v]).length (some (-1))=xs.length:=by
  rw[V'];show HT.ip (xs.length+1) (xs.length+1) (some (-1))=xs.length;unfold HT.ip
  first|omega|(simp;omega)|(split <;> omega)
 rw[HT.tM,e,Nat.sub_zero,List.drop_zero,List.take_left'];rfl
theorem QR {α:Type}{l:List α}(h:l≠[]):∃ l0 x,l=l0++[x]:=⟨l.dropLast,l.getLast h,(List.dropLast_concat_getLast h).symm⟩
inductive yX (vs:List V)(H:Hp)(Q:VK)(E:XK):Prop
 |mk (v1 v2:V) (st:Std) (de:De) (H0:Hp) (cT:vs=[v1,v2]) (cU:ao H0 H) (dH:BR H0 v1 st) (fL:ot H v2 de) (jF:Lw de) (zB:mQ st.vw) (KA:st.ps.length+st.fs.length<=900) (PR:dS st de (bH st.vw de)=none) (PU:∀ v' H',ao H H'->BR (mix H0 H H') v' (dQ st de (bH st.vw de))->Q v' H'):yX vs H Q E
theorem yY (T:Txt K w mg t):aW P w K mg base fA (0+2) t.AV t.AW ["_law_stand","_law_deed"] yX:=by
 have zx:=xo P base T;have jd:=oE P base T;refine T.sJ.ok jw ?_ ?_
 x_go
 obtain⟨v1,v2,st,de,X5,rfl,s0,⟨p,d,a,b,xs,ys,rfl,hp',hd',ha',VG,hb',V9⟩,hde,ok,w,hlen,ho,q⟩:=h;obtain⟨p2,ps2,rfl,hp2,Cj⟩:=id hde;have hp:=s0 _ _ hp';have hd:=hd'.same s0;have ha:=s0 _ _ ha';have hb:=s0 _ _ hb';have mo:∀{H'},ao X5 (mix X5 H H'):=fun {H'}=>jn s0;refine aJ (ae (fI (pv 0) (gG rfl (aQ (jG 2 jw.nd) (aQ (jG 3 jw.nd) (aQ (jG 4 jw.nd) eo))))) (ae (aH (aq (aS.or (aK (az hr))) (aY (pv 1)) av (aw _)) (ah (ar (bJ (aa (bx aT (pv 3) (rh mz ai) (fun _ _=>rfl)) (aa (dM (eY.or (gY.or gZ)) (pv 3) eX (dA (rh mz ai))) (aa (aE (bp.or (aF.or bq)) (pv 4) (a9 (aa (pv 2) ag))) ag)))))) ay) (ae (aH (aq (aS.or (aK (az hr))) (aY (pv 1)) av (aw _)) (ah (ar (bJ (aa (bx aT (pv 4) (rh mz ai) (fun _ _=>rfl)) (aa (aE (bp.or (aF.or bq)) (pv 3) (a9 (aa (pv 2) ag))) (aa (dM (eY.or (gY.or gZ)) (pv 4) eX (dA (rh mz ai))) ag)))))) ay) (ae (dq 5 jw.nd (di Iv rfl T.PQ O7 (aa (pv 2) ag))) (ae (g7 (aH (aq (aS.or (aK (az hr))) (aY (pv 1)) av (aw _)) (ah (aP (Nn (pv 5) (aY (pv 1)) ⟨rfl,rfl,rfl,rfl⟩))) (ah (aH (aq (aS.or (aK (az hr))) (aY (pv 1)) av (aw _)) (ah (Er (fY hr) (pv 5) (aY (pv 1)) (a9 ag) rfl)) (ah (aH (aq (aS.or (aK (az hr))) (aY (pv 1)) av (aw _)) (ah (Er (fY hr) (pv 5) (aY (pv 1)) (bJ (aa (aY (pv 1)) (aa (aY (pv 1)) (aa (aY (pv 1)) (aa (aY (pv 1)) ag))))) rfl)) (ah (Er (fY hr) (pv 5) (aY (pv 1)) (dG T.o8 zx hr (aa (e9 (fY hr) (pv 2) (aY (pv 1)) (fun _ _=>rfl)) (aa (pv 1) (aa (dG T.nN jd hr (aa (pv 2) (aa (pv 1) ag))) ag)))) rfl)))))))) (ah (ar (bJ (aa (pv 5) (aa (aE (bp.or (aF.or bq)) (pv 3) (a9 (aa (pv 2) ag))) (aa (a9 ag) ag))))))))))) ?_;have wl:=w.len;have xl:=bM VG;have yl:=bM V9;refine⟨_,rfl,p,_,rfl,jf.of hp,rfl,_,_,rfl,_,_,rfl,_,_,rfl,rfl,?_⟩;refine⟨_,rfl,bD (i:=0) hp2 rfl ?_⟩;tm_up;rw[show decide (V.str de.wy.str=V.str (Str.ofString "undo"))=decide (de.wy=.undo) from fO de.wy .undo]
 by_cases z1:de.wy=.undo
 ·rw[A' z1];refine bV ?_;have hne:st.ps≠[]:=fun z=>by unfold dS at ho;rw[z1]at ho;simp[z]at ho
  obtain⟨J7,v0,eps⟩:=QR hne;rw[eps]at VG;obtain⟨xs0,x0,rfl,px0,⟨d0,rfl,hd0⟩⟩:=Fm VG;have eb:dQ st de (bH st.vw de)=⟨v0,J7,st.fs++[st.vw]⟩:=by
   unfold dQ;rw[z1,eps];simp
  rw[eb]at q;refine⟨_,rfl,1,rfl,.inl ⟨a,_,-1,_,rfl,rfl,aM.of ha,FH _ _,?_⟩⟩;refine⟨_,rfl,_,rfl,-1,rfl,.inl ⟨a,_,rfl,aM.of ha,fun c1 hc1=>?_⟩⟩;rw[HD];have S1:=ao.upd (o:=.lst xs0) hc1;have k1:=af (H:=H) (a:=c1) (o:=.lst xs0);generalize upd H c1 (.lst xs0)=H1 at S1 k1;refine⟨_,rfl,_,rfl,big (by show 1<=1000;omega),fun c2 hc2=>?_⟩;have S2:=ao.upd (o:=.lst [V.ref d]) hc2;have k2:=af (H:=H1) (a:=c2) (o:=.lst [V.ref d]);generalize upd H1 c2 (.lst [V.ref d])=H2 at S2 k2;refine .inr (.inr ⟨b,c2,ys,_,rfl,rfl,S2 _ _ (S1 _ _ hb),k2,big (by show _+1<=1000;omega),fun c3 hc3=>?_⟩);have S3:=ao.upd (o:=.lst (ys++[V.ref d])) hc3;have k3:=af (H:=H2) (a:=c3) (o:=.lst (ys++[V.ref d]));generalize upd H2 c3 (.lst (ys++[V.ref d]))=H3 at S3 k3;refine⟨by show 3<=sizeLine;decide,fun t0 ht0=>?_⟩;have S4:=ao.upd (o:=.tup [V.ref d0,V.ref c1,V.ref c3]) ht0;have Wa:=(S1.trans S2).trans S3;have SS:=Wa.trans S4;exact q _ _ SS ⟨t0,d0,c1,c3,_,_,rfl,iJ SS af (fun _ z=>nomatch z),hd0.same mo,dE hc1 (S4 _ _ (S3 _ _ (S2 _ _ k1))),bZ (fun _ _ z=>z.same mo) px0,dE ((S1.trans S2).free hc3) (S4 _ _ k3),gN (bZ (fun _ _ z=>z.same mo) V9) ⟨d,rfl,hd'.same mo⟩⟩
 rw[J' z1];refine aX ?_;refine⟨_,rfl,bD (i:=0) hp2 rfl ?_⟩;tm_up;rw[show decide (V.str de.wy.str=V.str (Str.ofString "redo"))=decide (de.wy=.lh) from fO de.wy .lh]
 by_cases z2:de.wy=.lh
 ·rw[A' z2];refine bV ?_;have hne:st.fs≠[]:=fun z=>by unfold dS at ho;rw[z2]at ho;simp[z]at ho
  obtain⟨CL,v0,Za⟩:=QR hne;rw[Za]at V9;obtain⟨OT,y0,rfl,py0,⟨d0,rfl,hd0⟩⟩:=Fm V9;have eb:dQ st de (bH st.vw de)=⟨v0,st.ps++[st.vw],CL⟩:=by
   unfold dQ;rw[z2,Za];simp
  rw[eb]at q;refine⟨_,rfl,1,rfl,.inl ⟨b,_,-1,_,rfl,rfl,aM.of hb,FH _ _,?_⟩⟩;refine⟨_,rfl,_,rfl,big (by show 1<=1000;omega),fun c2 hc2=>?_⟩;have S2:=ao.upd (o:=.lst [V.ref d]) hc2;have k2:=af (H:=H) (a:=c2) (o:=.lst [V.ref d]);generalize upd H c2 (.lst [V.ref d])=H2 at S2 k2;refine .inr (.inr ⟨a,c2,xs,_,rfl,rfl,S2 _ _ ha,k2,big (by show _+1<=1000;omega),fun c3 hc3=>?_⟩);have S3:=ao.upd (o:=.lst (xs++[V.ref d])) hc3;have k3:=af (H:=H2) (a:=c3) (o:=.lst (xs++[V.ref d]));generalize upd H2 c3 (.lst (xs++[V.ref d]))=H3 at S3 k3;refine⟨_,rfl,_,rfl,-1,rfl,.inl ⟨b,_,rfl,aM.of (S3 _ _ (S2 _ _ hb)),fun c1 hc1=>?_⟩⟩;rw[HD];have S1:=ao.upd (o:=.lst OT) hc1;have k1:=af (H:=H3) (a:=c1) (o:=.lst OT);generalize upd H3 c1 (.lst OT)=H1 at S1 k1;refine⟨by show 3<=sizeLine;decide,fun t0 ht0=>?_⟩;have S4:=ao.upd (o:=.tup [V.ref d0,V.ref c3,V.ref c1]) ht0;have SS:=((S2.trans S3).trans S1).trans S4;exact q _ _ SS ⟨t0,d0,c3,c1,_,_,rfl,iJ SS af (fun _ z=>nomatch z),hd0.same mo,dE (S2.free hc3) (S4 _ _ (S1 _ _ k3)),gN (bZ (fun _ _ z=>z.same mo) VG) ⟨d,rfl,hd'.same mo⟩,dE ((S2.trans S3).free hc1) (S4 _ _ k1),bZ (fun _ _ z=>z.same mo) py0⟩
 rw[J' z2];refine aX ?_;obtain⟨kvs,hk',pk⟩:=id hd';have hk:=s0 _ _ hk';have kl:=bM pk;refine⟨_,rfl,d,kvs,rfl,.inl hk,fun l0 hl0=>?_⟩;have S0:=ao.upd (o:=.dK kvs) hl0;have k0:=af (H:=H) (a:=l0) (o:=.dK kvs);have fz:∀{X:Hp} {o:HO},ao H X->ao H (upd X l0 o):=fun s=>cZ s hl0;generalize upd H l0 (.dK kvs)=H0 at S0 k0;refine⟨fun σ H'=>σ=[some (.ref p),some (.ref p2),some (.ref d),some (.ref a),some (.ref b),some (.ref l0)]/\ao H H'/\lg (mix X5 H H') l0 (dQ st de (bH st.vw de)).vw,?_,?_⟩
 ·refine⟨_,rfl,bD (i:=0) (S0 _ _ hp2) rfl ?_⟩;tm_up;rw[show decide (V.str de.wy.str=V.str (Str.ofString "drop"))=decide (de.wy=.drop) from fO de.wy .drop]
  by_cases z3:de.wy=.drop
  ·rw[A' z3];refine bV ?_;have eb:(dQ st de (bH st.vw de)).vw=iL st.vw de.n:=by unfold dQ;rw[z3]
   rw[eb];have hs:∃ v,kY kvs (Sum.inr de.n)=some v:=by
    have ho':gU st.vw de.n=none:=by unfold dS at ho;rw[z3]at ho;exact ho
    unfold gU at ho';cases ef:aO st.vw de.n with
    |none=>rw[ef]at ho';cases ho'
    |some th=>obtain⟨v,e,_⟩:=ID pk ef;exact⟨v,e⟩
   obtain⟨v,hv⟩:=hs;refine⟨_,rfl,l0,rfl,.inl ⟨kvs,.inl k0⟩,_,rfl,bD (i:=1) (S0 _ _ hp2) rfl ?_⟩;exact⟨kvs,Sum.inr de.n,v,k0,rfl,hv,rfl,fz S0,_,dE hl0 af,bZ (fun _ _ z=>z.same mo) (SF pk)⟩
  rw[J' z3];refine aX ?_;refine⟨_,rfl,bD (i:=0) (S0 _ _ hp2) rfl ?_⟩;tm_up;rw[show decide (V.str de.wy.str=V.str (Str.ofString "add"))=decide (de.wy=.add) from fO de.wy .add]
  by_cases z4:de.wy=.add
  ·rw[A' z4];refine bV ?_;have eb:(dQ st de (bH st.vw de)).vw=st.vw++[(de.n,.pl [])]:=by unfold dQ;rw[z4]
   rw[eb];have hn:bY st.vw de.n=none:=by unfold dS at ho;rw[z4]at ho;exact ho
   have hv:=IG pk (KR hn).2.1;refine⟨big (by show 0<=1000;omega),fun c1 hc1=>?_⟩;have S1:=ao.upd (o:=.lst []) hc1;have k1:=af (H:=H0) (a:=c1) (o:=.lst []);have n1:c1≠l0:=Zh' (au k0 hc1);generalize upd H0 c1 (.lst [])=H1 at S1 k1;refine⟨_,rfl,_,rfl,bD (i:=1) (S1 _ _ (S0 _ _ hp2)) rfl ?_⟩;refine⟨l0,_,rfl,Ir.k (k:=Sum.inr de.n) (S1 _ _ k0) (aL (by omega)),rfl,fz (S0.trans S1),_,dE hl0 af,?_⟩;rw[FX _ hv];exact gN (bZ (fun _ _ z=>z.same mo) pk) ⟨rfl,c1,[],rfl,dE (S0.free hc1) (by rw[ak n1];exact k1),.nil⟩
  rw[J' z4];refine aX ?_;refine⟨_,rfl,bD (i:=0) (S0 _ _ hp2) rfl ?_⟩;tm_up;rw[show decide (V.str de.wy.str=V.str (Str.ofString "canon"))=decide (de.wy=.canon) from fO de.wy .canon]
  by_cases z5:de.wy=.canon
  ·rw[A' z5];refine bV ?_;have eb:(dQ st de (bH st.vw de)).vw=st.vw++[(de.n,.cn de.ld de.lt de.sl de.tn)]:=by unfold dQ;rw[z5]
   rw[eb];have hn:bY st.vw de.n=none:=by
    unfold dS at ho;rw[z5]at ho;cases hn:bY st.vw de.n with
    |none=>rfl
    |some r =>
     have ho:(match bY st.vw de.n with|some r=>some r|none=>dP st.vw de.ld de.lt de.sl)=none:=ho;rw[hn]at ho;cases ho
   have hv:=IG pk (KR hn).2.1;refine⟨_,rfl,bD (i:=2) (S0 _ _ hp2) rfl ⟨_,rfl,bD (i:=5) (S0 _ _ hp2) rfl ⟨_,rfl,bD (i:=6) (S0 _ _ hp2) rfl ⟨_,rfl,bD (i:=7) (S0 _ _ hp2) rfl ?_⟩⟩⟩⟩;refine⟨by show 4<=sizeLine;decide,fun c1 hc1=>?_⟩;have S1:=ao.upd (o:=.tup [V.str de.ld,V.int de.lt,V.int de.sl,V.bl de.tn]) hc1;have k1:=af (H:=H0) (a:=c1) (o:=.tup [V.str de.ld,V.int de.lt,V.int de.sl,V.bl de.tn]);have n1:c1≠l0:=Zh' (au k0 hc1);generalize upd H0 c1 (.tup [V.str de.ld,V.int de.lt,V.int de.sl,V.bl de.tn])=H1 at S1 k1;refine⟨_,rfl,_,rfl,bD (i:=1) (S1 _ _ (S0 _ _ hp2)) rfl ?_⟩;refine⟨l0,_,rfl,Ir.k (k:=Sum.inr de.n) (S1 _ _ k0) (aL (by omega)),rfl,fz (S0.trans S1),_,dE hl0 af,?_⟩;rw[FX _ hv];exact gN (bZ (fun _ _ z=>z.same mo) pk) ⟨rfl,c1,rfl,dE (S0.free hc1) (by rw[ak n1];exact k1)⟩
  rw[J' z5];refine aX ?_;have z6:de.wy=.put\/de.wy=.cut\/de.wy=.swap:=by
   cases hw:de.wy with
   |put=>exact .inl rfl
   |cut=>exact .inr (.inl rfl)
   |swap=>exact .inr (.inr rfl)
   |add=>exact S' hw z4
   |canon=>exact S' hw z5
   |drop=>exact S' hw z3
   |undo=>exact S' hw z1
   |lh=>exact S' hw z2
  have eb:(dQ st de (bH st.vw de)).vw=kg st.vw de.n (.pl (bC (gJ st.vw de.n) de.wy de.sg (bH st.vw de).toNat)):=by
   unfold dQ;rcases z6 with z|z|z <;> rw[z]
  rw[eb];rw[j5 z6]at ho;rcases hd.look de.n with ⟨f1,_⟩|⟨th,v1,f1,g1,t1⟩
  ·rw[gw f1]at ho;cases ho
  cases th with
  |cn ld lt sl tn =>
   rw[i0 f1]at ho;cases ho
  |pl ss =>
   rw[i4 f1]at ho;have ep:gJ st.vw de.n=ss:=by unfold gJ;rw[f1]
   rw[ep];obtain⟨l,zs,rfl,hl,g⟩:=t1;have Jr:=(w.gd _ _ (bP f1)).1
   by_cases y1:bH st.vw de<0\/(ss.length:Int)+(if de.wy=.put then 1 else 0)<=bH st.vw de
   ·rw[X' y1]at ho;cases ho
   rw[T' y1]at ho
   by_cases y2:de.wy≠.cut/\dO de.sg=false
   ·rw[X' y2]at ho;cases ho
   have hgd:de.wy≠.cut->dO de.sg=true:=fun z=>by
    cases e:dO de.sg with
    |true=>rfl
    |false=>exact S' ⟨z,e⟩ y2
   obtain⟨i,hi⟩:∃ i:Nat,bH st.vw de=(i:Int):=⟨(bH st.vw de).toNat,by omega⟩;rw[hi]at y1;have hi1:i<=ss.length:=by
    by_cases z:de.wy=.put
    ·rw[X' z]at y1;omega
    ·rw[T' z]at y1;omega
   have hi2:de.wy≠.put->i<ss.length:=fun z=>by rw[T' z]at y1;omega
   refine⟨_,rfl,_,rfl,bD (i:=1) (S0 _ _ hp2) rfl ⟨d,_,rfl,Gn S0 g1,_,rfl,_,rfl,_,rfl,?_⟩⟩;refine⟨d,_,st.vw,de,rfl,hd.same S0,hde.same S0,fun H1 S1=>?_⟩;rw[hi,Int.toNat_natCast];have VH:=S0.trans S1;refine⟨l,_,zs,ss,de,i,rfl,VH _ _ hl,g.same VH,Jr,hde.same VH,z6,hgd,hi1,hi2,fun l' ys' H2 Zb S2 hl' g'=>?_⟩;have X6:=VH.trans S2;have n1:l'≠l0:=fX hl' (S2 _ _ (S1 _ _ k0)) (by intro z;cases z);refine⟨_,rfl,_,rfl,bD (i:=1) (X6 _ _ hp2) rfl ?_⟩;refine⟨l0,_,rfl,Ir.k (k:=Sum.inr de.n) (S2 _ _ (S1 _ _ k0)) (aL (by omega)),rfl,fz X6,_,dE hl0 af,?_⟩;obtain⟨v2,e2,_⟩:=ID pk f1;refine VF (bZ (fun _ _ z=>z.same mo) pk) (by rw[e2];rfl) ⟨l',ys',rfl,dE (VH.free Zb) (by rw[ak n1];exact hl'),?_⟩;refine bZ (fun _ _ ⟨z,e1,e2⟩=>⟨z,e1,iJ (fz X6) ?_ (fun _ q=>nomatch q)⟩) g';rw[ak (fX e2 (S2 _ _ (S1 _ _ k0)) (by intro z;cases z))];exact e2
 rintro _ H1 ⟨rfl,S1,dv1⟩;have Zc:(dQ st de (bH st.vw de)).ps=st.ps++[st.vw]/\(dQ st de (bH st.vw de)).fs=[]:=by
  unfold dQ;cases hw:de.wy with
  |undo=>exact S' hw z1
  |lh=>exact S' hw z2
  |_=>exact⟨rfl,rfl⟩
 refine⟨_,rfl,_,rfl,_,rfl,big (by show 1<=1000;omega),fun c2 hc2=>?_⟩;have S2:=ao.upd (o:=.lst [V.ref d]) hc2;have k2:=af (H:=H1) (a:=c2) (o:=.lst [V.ref d]);generalize upd H1 c2 (.lst [V.ref d])=H2 at S2 k2;refine .inr (.inr ⟨a,c2,xs,_,rfl,rfl,S2 _ _ (S1 _ _ ha),k2,big (by show _+1<=1000;omega),fun c3 hc3=>?_⟩);have S3:=ao.upd (o:=.lst (xs++[V.ref d])) hc3;have k3:=af (H:=H2) (a:=c3) (o:=.lst (xs++[V.ref d]));generalize upd H2 c3 (.lst (xs++[V.ref d]))=H3 at S3 k3;refine⟨big (by show 0<=1000;omega),fun c4 hc4=>?_⟩;have S4:=ao.upd (o:=.lst []) hc4;have k4:=af (H:=H3) (a:=c4) (o:=.lst []);generalize upd H3 c4 (.lst [])=H4 at S4 k4;refine⟨by show 3<=sizeLine;decide,fun t0 ht0=>?_⟩;have S5:=ao.upd (o:=.tup [V.ref l0,V.ref c3,V.ref c4]) ht0;have SA:=((S2.trans S3).trans S4).trans S5;have SS:=S1.trans SA;refine q _ _ SS ⟨t0,l0,c3,c4,_,_,rfl,iJ SS af (fun _ z=>nomatch z),dv1.same (OL SA),dE ((S1.trans S2).free hc3) (S5 _ _ (S4 _ _ k3)),?_,dE (((S1.trans S2).trans S3).free hc4) (S5 _ _ k4),?_⟩
 ·rw[Zc.1];exact gN (bZ (fun _ _ z=>z.same mo) VG) ⟨d,rfl,hd'.same mo⟩
 ·rw[Zc.2];exact .nil
inductive D4 (K:Frag)(vs:List V)(H:Hp)(Q:VK)(E:XK):Prop
 |mk (p p2:Addr) (i j:Int) (cT:vs=[.ref p,.ref p2]) (cU:H p=some (.tup [.int i,.int j])) (dH:H p2=some (.tup [.int i,.int j])) (fL:Q (.bl true) H):D4 K vs H Q E
theorem SG {K:Frag}{H:Hp}{p p2:Addr}{i j:Int}(n:Nat)(h1:H p=some (.tup [.int i,.int j]))(h2:H p2=some (.tup [.int i,.int j])):Ml K H (n+1) (.ref p) (.ref p2):=by
 refine .tup (jf.of h1) (jf.of h2) rfl fun k x y e1 e2=>?_;have e:x=y:=Z' (e1.symm.trans e2);subst e
 match k,e1 with
 |0,e1=>cases e1;exact .flat rfl
 |1,e1=>cases e1;exact .flat rfl
theorem Md (T:Txt K w mg t):aW P w K mg base fA (0+2) t.GS t.GU ["_law_found","_law_due"] (D4 K):=by
 have gF:=oG P base T;refine T.Ha.ok LG ?_ ?_
 x_go
 obtain⟨p,p2,i,j,rfl,h1,h2,q⟩:=h;refine aJ (ae (aH (bE (PW.pt (fq (bW (aR (aD c9 rfl T.bg bf (aa (pv 0) (aa (dW (v:=.ty "tuple") rfl T.vc tR rfl) ag))))) (d7 (aq (hX.or (eF (az hr))) (aD (aB.or aC) rfl T.bu br (aa (pv 0) ag)) ai (aw _)))))) (ah (ar cE)) ay) (ah (ar (bL (dy (dG T.i8 gF hr (aa (aY (pv 0)) ag)) (dy (dG T.i8 gF hr (aa (aY (pv 0)) ag)) (eD (aZ (aS.or (aK (az hr))) (pv 0) (pv 1) (aw _))))))))) ?_;refine fV false ?_ ?_
 ·refine⟨_,rfl,_,_,_,_,rfl,fu.tup h1,rfl,_,rfl,aX ?_⟩;refine⟨_,rfl,.inl ⟨p,_,rfl,.inr (jf.of h1),?_⟩⟩;tm_up;exact⟨rfl,rfl⟩
 refine aX ?_;refine mV (.bl true) ?_ q;refine⟨_,rfl,bD (i:=0) h1 rfl ⟨i,rfl,_,rfl,bV ?_⟩⟩;refine⟨_,rfl,bD (i:=1) h1 rfl ⟨j,rfl,_,rfl,bV ?_⟩⟩;refine⟨_,rfl,_,rfl,.inr ⟨p,p2,rfl,rfl,SG 59 h1 h2,rfl,rfl⟩⟩
def Zd (H:Hp)(v:V)(d:De):Prop:=∃ p xs ps,v=.ref p/\H p=some (.tup xs)/\xs[0]? = some (.str d.wy.str)/\xs[4]? = some (.ref ps)/\H ps=some (.tup [.str d.sg.1,.int d.sg.2])
theorem ot.toW {H:Hp}{v:V}{d:De}(h:ot H v d):Zd H v d:=by
 obtain⟨p,ps,e,h1,h2⟩:=h;exact⟨p,_,ps,e,h1,rfl,rfl,h2⟩
theorem HE (xs:List V)(n:Nat):j7 xs (some (n:Int)) none=xs.drop n:=by
 rcases Nat.lt_or_ge xs.length n with h|h
 ·unfold j7;have e:HT.ip xs.length 0 (some (n:Int))=min n xs.length:=HT.Ee xs.length 0 n;rw[HT.tM,e,Nat.min_eq_right (by omega),List.drop_eq_nil_of_le (R' _),List.take_nil,List.drop_eq_nil_of_le (by omega)]
 ·exact zC xs n h
theorem BK (ks:List Kd)(p met:Nat):gQ ks (p+1) met=if(if(ks.getD p .dot).small=true then met else met+1)=2 then p else gQ ks p (if(ks.getD p .dot).small=true then met else met+1):=rfl
theorem D5 {ks:List Kd}{j met:Nat}{k:Kd}(h:ks[j]? = some k)(hk:k.small=true)(hm:met<2):gQ ks (j+1) met=gQ ks j met:=by
 have e:ks.getD j .dot=k:=by rw[List.getD_eq_getElem?_getD,h];rfl
 rw[BK,e,X' hk,T' (by omega)]
theorem P7 {ks:List Kd}{j:Nat}{k:Kd}(h:ks[j]? = some k)(hk:k.small=false):gQ ks (j+1) 1=j:=by
 have e:ks.getD j .dot=k:=by rw[List.getD_eq_getElem?_getD,h];rfl
 rw[BK,e,hk];rfl
theorem OM {ks:List Kd}{j:Nat}{k:Kd}(h:ks[j]? = some k)(hk:k.small=false):gQ ks (j+1) 0=gQ ks j 1:=by
 have e:ks.getD j .dot=k:=by rw[List.getD_eq_getElem?_getD,h];rfl
 rw[BK,e,hk];rfl
theorem P8 {α:Type}(xs:List α)(b c:α):Mj (xs++[b,c]) (-2)=some b:=by
 have hl:(xs++[b,c]).length=xs.length+2:=by simp
 have e:La (xs++[b,c]).length (-2)=some xs.length:=by
  unfold La;rw[hl]
  first|(rw[T' (by omega),X' (by omega)];congr 1;omega)|(simp;omega)|(split <;> simp <;> omega)
 unfold Mj;rw[e];simp
theorem P9 {ns:List Nat}(h:1<ns.length):∃ w b c,ns=w++[b,c]:=by
 rcases List.eq_nil_or_concat ns with rfl|⟨w,c,e⟩
 ·simp at h
 ·rw[List.concat_eq_append]at e;subst e;rcases List.eq_nil_or_concat w with rfl|⟨w',b,e⟩
  ·simp at h
  ·rw[List.concat_eq_append]at e;subst e;exact⟨w',b,c,by simp⟩
theorem VI (k:Kd):wu k.str "sdr"=k.small:=by cases k <;> decide +kernel
theorem SH (k:Kd):wu k.str "32"=k.meas:=by cases k <;> decide +kernel
theorem VJ (k:Kd):wu k.str ".32" = k.parting:=by cases k <;> decide +kernel
inductive yZ (K:Frag)(vs:List V)(H:Hp)(Q:VK)(E:XK):Prop
 |mk (l:Addr) (v:V) (ys:List V) (ss:List Sg) (de:De) (i:Nat) (cT:vs=[.ref l,v,.int (i:Int)]) (cU:H l=some (.lst ys)) (dH:ig H ys ss) (fL:ss.length<=200) (jF:Zd H v de) (zB:(de.wy=.put\/de.wy=.cut\/de.wy=.swap)) (KA:(de.wy≠.cut->dO de.sg=true)) (PR:i<=ss.length) (PU:(de.wy≠.put->i<ss.length)) (Te:∀(p:Addr)(ch:List Sg)(H':Hp),ao H H'->(de.wy=.put->ch=[ki de.sg])->(∀ s,ss[i]? = some s->(de.wy=.cut->ch=[s])/\(de.wy=.swap->ch=[s,ki de.sg]))->H' p=some (.tup (ED (bC ss de.wy de.sg i) i (if de.wy=.cut then i else i+1) ch))->Q (.ref p) H'):yZ K vs H Q E
theorem HF (T:Txt K w mg t):aW P w K mg base fA (0+1) t.AX t.AY ["_law_line","_law_deed","_law_at"] (yZ K):=by
 refine T.Bf.ok d3 ?_ ?_
 x_go
 obtain⟨l,v,ys,ss,de,i,rfl,hl,g,Jr,hde,Tf,hgd,hi,hi2,q⟩:=h;obtain⟨p2,HL,ps2,rfl,hp2,e0,e4,Cj⟩:=id hde;refine aJ (ae (pJ (i:=3) d3.nd rfl (Or.inr rfl) (aE (bp.or (aF.or bq)) (dM (eY.or (gY.or gZ)) (pv 0) eX (dA (pv 2))) (dM (eY.or (gY.or gZ)) (pv 0) (dA (aE (bp.or (aF.or bq)) (pv 2) ai)) eX))) (ae (dq 4 d3.nd (pv 2)) (ae (pJ (i:=5) d3.nd rfl (Or.inr rfl) (bL (dy (aZ (hX.or (eF (az hr))) (aY (pv 1)) av (aw _)) (eD (aZ (bO.or bN) (bx aT (bx aT (pv 0) (pv 2) (fun _ _=>rfl)) ai (fun _ _=>rfl)) av rfl))))) (ae (g7 (aH (aq (hX.or (eF (az hr))) (aY (pv 1)) av (aw _)) (ae (pJ (i:=3) d3.nd rfl (Or.inr rfl) (aE (bp.or (aF.or bq)) (aE (bp.or (aF.or bq)) (dM (eY.or (gY.or gZ)) (pv 0) eX (dA (pv 2))) (a9 (aa (aY (pv 1)) ag))) (dM (eY.or (gY.or gZ)) (pv 0) (dA (aE (bp.or (aF.or bq)) (pv 2) (di (iW.or d9) rfl T.qp pR (aa (aZ (aS.or (aK (az hr))) (aY (pv 1)) av (aw _)) ag)))) eX))) (ae (dq 4 d3.nd (aE (bp.or (aF.or bq)) (pv 2) ai)) (ah (pJ (i:=5) d3.nd rfl (Or.inr rfl) (bL (JB (pv 5) (eD (aZ (bO.or bN) (bx aT (aY (pv 1)) ai (fun _ _=>rfl)) av rfl)))))))) ay)) (ae (si (i:=6) d3.nd rfl rfl (cn:=["_law_k"]) rfl (cY.of rfl) (mR rfl T.jz (aa (pv 2) ag)) (fun _=>(dX (i:=0) qb rfl (Or.inl rfl))) (fun _=>(Il (aq (gp.or gq) (bx aT (bx aT (pv 4) (pv 0) (fun _ _=>rfl)) ai (fun _ _=>rfl)) av rfl))) (fun _=>(pv 0))) (ae (si (i:=7) d3.nd rfl rfl (cn:=["_law_k"]) rfl (cY.of rfl) (Co rfl T.jz (aa (pv 4) (aa (aD (aB.or aC) rfl T.bu br (aa (pv 3) ag)) ag))) (fun _=>(dX (i:=0) qb rfl (Or.inl rfl))) (fun _=>(Il (aq (bO.or bN) (bx aT (bx aT (pv 4) (pv 0) (fun _ _=>rfl)) ai (fun _ _=>rfl)) (bL (cz (aR (pv 6)) av av)) rfl))) (fun _=>(pv 0))) (ah (ar (bJ (aa (bL (cz (aq Cp (aD (aB.or aC) rfl T.bu br (aa (pv 6) ag)) ai (aw _)) (bx aT (pv 6) (rh mz ai) (fun _ _=>rfl)) ai)) (aa (bL (cz (aq (RG (az hr)) (pv 7) (a9 ag) (aw _)) (aY (pv 7)) (aD (aB.or aC) rfl T.bu br (aa (pv 3) ag)))) ag))))))))))) ?_;have yl:=bM g;refine cQ fun N hN=>?_;refine⟨_,rfl,_,rfl,i,rfl,.inl ⟨l,ys,rfl,aM.of hl,fun c1 hc1=>?_⟩⟩;rw[CI];have S1:=ao.upd (o:=.lst (ys.take i)) hc1;have k1:=af (H:=H) (a:=c1) (o:=.lst (ys.take i));generalize upd H c1 (.lst (ys.take i))=H1 at S1 k1;refine⟨_,rfl,_,rfl,.inl ⟨_,_,rfl,rfl,_,rfl,.inl ⟨l,ys,rfl,aM.of (S1 _ _ hl),fun c4 hc4=>?_⟩⟩⟩;rw[show j7 ys (some ((i:Int)+1)) none=ys.drop (i+1) from HE ys (i+1)];have S4:=ao.upd (o:=.lst (ys.drop (i+1))) hc4;have k4:=af (H:=H1) (a:=c4) (o:=.lst (ys.drop (i+1)));generalize upd H1 c4 (.lst (ys.drop (i+1)))=H4 at S4 k4;refine .inr (.inr ⟨c1,c4,_,_,rfl,rfl,S4 _ _ k1,k4,?_,fun c5 hc5=>?_⟩)
 ·exact big (by simp only [Zo',Yd'];omega)
 have S5:=ao.upd (o:=.lst (ys.take i++ys.drop (i+1))) hc5;have k5:=af (H:=H4) (a:=c5) (o:=.lst (ys.take i++ys.drop (i+1)));generalize upd H4 c5 (.lst (ys.take i++ys.drop (i+1)))=H5 at S5 k5;have SS:=(S1.trans S4).trans S5;have g5:ig H5 (ys.take i++ys.drop (i+1)) (ss.take i++ss.drop (i+1)):=ig.same SS (qU (pW i g) (rq (i+1) g));refine hN _ _ ?_;clear hN N S1 S4 S5 k1 k4 hc1 hc4 hc5;tm_up;refine⟨fun v H'=>v=.bl (decide (de.wy≠.put)&&((ss[i]?.map fun s=>s.1.meas).getD false))/\H'=H5,?_,?_⟩
 ·refine⟨_,rfl,bD (i:=0) (SS _ _ hp2) e0 ?_⟩;tm_up;rw[show decide (V.str de.wy.str=V.str (Str.ofString "put"))=decide (de.wy=.put) from fO de.wy .put]
  by_cases z1:de.wy=.put
  ·rw[A' z1,J' (fun z=>z z1)];exact aX ⟨rfl,rfl⟩
  ·rw[J' z1,A' (show de.wy≠.put from z1)];refine bV ?_;obtain⟨sg,hsg⟩:∃ sg,ss[i]? = some sg:=⟨_,N' (hi2 z1)⟩;obtain⟨vp,So,p0,rfl,hp0⟩:=lq g hsg;refine⟨_,rfl,_,rfl,tS (aM.of (SS _ _ hl)) (n:=i) rfl So ?_⟩;refine bD (i:=0) (SS _ _ hp0) rfl ?_;tm_up;rw[hsg];exact⟨Zj' V.bl (SH sg.1),rfl⟩
 rintro _ H' ⟨rfl,eH⟩;have eH:=eH.symm;subst eH;refine KG ?_;refine cQ fun N hN=>?_;refine⟨fun σ H'=>∃(bh:Addr)(zs:List V)(ch:List Sg),σ=[some (.ref l),some (.ref p2),some (.int (i:Int)),some (.ref bh),some (.int ((if de.wy=.cut then i else i+1:Nat):Int)),some (.bl (ch.any fun s=>s.1.meas)),none,none]/\ao H H'/\H' bh=some (.lst zs)/\ig H' zs (bC ss de.wy de.sg i)/\(de.wy=.put->ch=[ki de.sg])/\(∀ s,ss[i]? = some s->(de.wy=.cut->ch=[s])/\(de.wy=.swap->ch=[s,ki de.sg])),?_,?_⟩
 ·tm_up;refine bD (i:=0) (SS _ _ hp2) e0 ?_;tm_up;rw[show decide (V.str de.wy.str=V.str (Str.ofString "cut"))=decide (de.wy=.cut) from fO de.wy .cut]
  by_cases z1:de.wy=.cut
  ·rw[A' z1];obtain⟨sg,hsg⟩:∃ sg,ss[i]? = some sg:=⟨_,N' (hi2 (by rw[z1];decide))⟩;refine aX ⟨c5,_,[sg],?_,SS,k5,?_,(fun z=>by rw[z1]at z;cases z),fun s hs=>⟨fun _=>by rw[hsg]at hs;cases hs;rfl,fun z=>by rw[z1]at z;cases z⟩⟩
   ·rw[hsg,X' z1,A' (show de.wy≠.put by rw[z1];decide)];show _=[some (V.ref l),some (V.ref p2),some (V.int (i:Int)),some (V.ref c5),some (V.int (i:Int)),some (V.bl (sg.1.meas||false)),none,none];rw[Bool.or_false];rfl
   ·unfold bC;rw[z1];show ig H5 _ (ss.take i++[]++ss.drop (i+1));rw[append_nil];exact g5
  ·rw[J' z1];refine bV ?_;refine⟨_,rfl,_,rfl,i,rfl,.inl ⟨l,ys,rfl,aM.of (SS _ _ hl),fun c1 hc1=>?_⟩⟩;rw[CI];have S1:=ao.upd (o:=.lst (ys.take i)) hc1;have k1:=af (H:=H5) (a:=c1) (o:=.lst (ys.take i));generalize upd H5 c1 (.lst (ys.take i))=Tn at S1 k1;refine⟨_,rfl,bD (i:=4) (S1 _ _ (SS _ _ hp2)) e4 ?_⟩;refine⟨big (by show 1<=1000;omega),fun c2 hc2=>?_⟩;have S2:=ao.upd (o:=.lst [V.ref ps2]) hc2;have k2:=af (H:=Tn) (a:=c2) (o:=.lst [V.ref ps2]);generalize upd Tn c2 (.lst [V.ref ps2])=To at S2 k2;refine .inr (.inr ⟨c1,c2,_,_,rfl,rfl,S2 _ _ k1,k2,?_,fun c3 hc3=>?_⟩)
   ·exact big (by rw[Zo'];show _+1<=1000;omega)
   have VD:=ao.upd (o:=.lst (ys.take i++[V.ref ps2])) hc3;have k3:=af (H:=To) (a:=c3) (o:=.lst (ys.take i++[V.ref ps2]));generalize upd To c3 (.lst (ys.take i++[V.ref ps2]))=OK at VD k3;have SS2:=SS.trans ((S1.trans S2).trans VD);have VE:=g.same SS2;obtain⟨es1,es2,_⟩:=Gm (hgd z1);have SE:Et OK (.ref ps2) (ki de.sg):=⟨ps2,rfl,by rw[es1,es2];exact SS2 _ _ Cj⟩;refine⟨_,rfl,_,rfl,_,rfl,bD (i:=0) (SS2 _ _ hp2) e0 ?_⟩;tm_up;refine .inl (.inr ⟨_,rfl,?_⟩);rw[show decide (V.str de.wy.str=V.str (Str.ofString "swap"))=decide (de.wy=.swap) from fO de.wy .swap];obtain⟨k,hk,hkb,hki⟩:∃ k:Nat,((i:Int)+(if decide (de.wy=.swap)=true then 1 else 0))=((i+k:Nat):Int)/\bC ss de.wy de.sg i=ss.take i++[ki de.sg]++ss.drop (i+k)/\i+k<=ss.length:=by
    by_cases z2:de.wy=.swap
    ·refine⟨1,by rw[A' z2,X' rfl];omega,by unfold bC;rw[z2],hi2 (by rw[z2];decide)⟩
    ·have z3:de.wy=.put:=by rcases Tf with z|z|z;exact z;exact S' z z1;exact S' z z2
     refine⟨0,by rw[J' z2,T' (by decide)];omega,by unfold bC;rw[z3];try rfl,hi⟩
   refine .inl ⟨_,_,rfl,rfl,_,rfl,.inl ⟨l,ys,rfl,aM.of (SS2 _ _ hl),fun c4 hc4=>?_⟩⟩;rw[show j7 ys (some ((i:Int)+(if decide (de.wy=.swap)=true then 1 else 0))) none=ys.drop (i+k) by rw[hk];exact HE ys (i+k)];have S4:=ao.upd (o:=.lst (ys.drop (i+k))) hc4;have k4:=af (H:=OK) (a:=c4) (o:=.lst (ys.drop (i+k)));generalize upd OK c4 (.lst (ys.drop (i+k)))=VA at S4 k4;refine .inr (.inr ⟨c3,c4,_,_,rfl,rfl,S4 _ _ k3,k4,?_,fun c6 hc6=>?_⟩)
   ·exact big (by simp only [V',Zo',Yd',length_singleton];omega)
   have S6:=ao.upd (o:=.lst (ys.take i++[V.ref ps2]++ys.drop (i+k))) hc6;have k6:=af (H:=VA) (a:=c6) (o:=.lst (ys.take i++[V.ref ps2]++ys.drop (i+k)));generalize upd VA c6 (.lst (ys.take i++[V.ref ps2]++ys.drop (i+k)))=VB at S6 k6;have Jx:=(SS2.trans S4).trans S6;have Ze:ig VB (ys.take i++[V.ref ps2]++ys.drop (i+k)) (bC ss de.wy de.sg i):=by
    rw[hkb];exact ig.same (S4.trans S6) (qU (qU (pW i VE) (.cons SE .nil)) (rq (i+k) VE))
   refine⟨_,rfl,.inl ⟨_,_,rfl,rfl,?_⟩⟩;refine mV (.bl ((decide (de.wy≠.put)&&((ss[i]?.map fun s=>s.1.meas).getD false))||(ki de.sg).1.meas)) ?_ ?_
   ·refine⟨_,rfl,_,rfl,?_⟩;cases (decide (de.wy≠.put)&&((ss[i]?.map fun s=>s.1.meas).getD false)) with
    |true=>exact bV ⟨rfl,rfl⟩
    |false =>
     refine aX ?_;refine⟨_,rfl,bD (i:=4) (Jx _ _ hp2) e4 (bD (i:=0) (Jx _ _ Cj) rfl ?_)⟩;tm_up;rw[<-es1];exact⟨Zj' V.bl (SH (ki de.sg).1),rfl⟩
   ·have e1:((i:Int)+1)=((if de.wy=.cut then i else i+1:Nat):Int):=by rw[T' z1];omega
    by_cases z2:de.wy=.swap
    ·obtain⟨s,hs⟩:∃ s,ss[i]? = some s:=⟨_,N' (hi2 (by rw[z2];decide))⟩;refine⟨c6,_,[s,ki de.sg],?_,Jx,k6,Ze,(fun z=>by rw[z2]at z;cases z),fun s' hs'=>⟨fun z=>S' z z1,fun _=>by rw[hs]at hs';cases hs';rfl⟩⟩;rw[hs,A' (show de.wy≠.put by rw[z2];decide),<-e1];show _=[some (V.ref l),some (V.ref p2),some (V.int (i:Int)),some (V.ref c6),some (V.int ((i:Int)+1)),some (V.bl (s.1.meas||((ki de.sg).1.meas||false))),none,none];rw[Bool.or_false];rfl
    ·have z3:de.wy=.put:=by rcases Tf with z|z|z;exact z;exact S' z z1;exact S' z z2
     refine⟨c6,_,[ki de.sg],?_,Jx,k6,Ze,fun _=>rfl,fun s' hs'=>⟨fun z=>S' z z1,fun z=>S' z z2⟩⟩;rw[J' (show ¬ de.wy≠.put from fun z=>z z3),<-e1];show _=[some (V.ref l),some (V.ref p2),some (V.int (i:Int)),some (V.ref c6),some (V.int ((i:Int)+1)),some (V.bl ((ki de.sg).1.meas||false)),none,none];rw[Bool.or_false];rfl
 rintro _ H6 ⟨bh,zs,ch,rfl,S6,Wb,gz,hc1,hc2⟩;refine hN _ _ ?_;clear hN N;have zl:=bM gz;have ll:(bC ss de.wy de.sg i).length<=201:=by
  unfold bC;split
  ·simp;omega
  ·simp;omega
  ·simp;omega
 have fl:(if de.wy=.cut then i else i+1:Nat)<=(bC ss de.wy de.sg i).length:=by
  rcases Tf with z|z|z
  ·rw[z,T' (by decide)];unfold bC;simp;omega
  ·have:=hi2 (by rw[z];decide);rw[z,X' rfl];unfold bC;simp;omega
  ·have:=hi2 (by rw[z];decide);rw[z,T' (by decide)];unfold bC;simp;omega
 have il:i<=(bC ss de.wy de.sg i).length:=by
  refine Zb' ?_ fl;split <;> omega
 generalize hw:(ch.any fun s=>s.1.meas)=wide at *;generalize (if de.wy=.cut then i else i+1:Nat)=fo at *;generalize bC ss de.wy de.sg i=bs at *;refine cQ fun N hN=>?_;refine⟨_,rfl,(i:Int),rfl,(by omega),(by omega),fun D b hD=>?_⟩;refine zR (lo:=0) (n:=((i:Int)).toNat) (fun j zz σ H'=>∃(v:Option V)(ns:List Nat),σ=[v,some (.ref l),some (.ref p2),some (.int (i:Int)),some (.ref bh),some (.int (fo:Int)),some (.bl wide),none,none]/\ao H6 H'/\H' D=some (.lst zz)/\zz=ns.map (fun n:Nat=>V.int (n:Int))/\ns.length<=j/\gQ (bj bs) j 1=ns.getLast?.getD 0/\gQ (bj bs) j 0=ns.dropLast.getLast?.getD 0) ⟨none,[],rfl,ao.upd hD,af,rfl,R' _,rfl,rfl⟩ ?_ ?_
 ·rintro j zz σ H' hj ⟨v,ns,rfl,s7,DS,rfl,nl,lo1,VL⟩ N hN;obtain⟨sg,hsg⟩:∃ sg,bs[j]? = some sg:=⟨_,N' (by omega)⟩;have hk:(bj bs)[j]? = some sg.1:=by rw[Zd',hsg];rfl
  unfold xu;refine⟨_,rfl,_,rfl,za (aM.of (s7 _ _ Wb)) (gz.same s7) (n:=j) (by omega) hsg fun b hb=>?_⟩;refine bD (i:=0) hb rfl ?_;tm_up;show(if(!wu sg.1.str "sdr")=true then _ else _);rw[VI];cases hs:sg.1.small with
  |true=>exact aX (hN _ _ _ ⟨_,ns,rfl,s7,DS,rfl,by omega,by rw[D5 hk hs (by decide)];exact lo1,by rw[D5 hk hs (by decide)];exact VL⟩)
  |false =>
   refine bV ⟨_,rfl,DS,by rw[L'];exact aL (by omega),hN _ _ _ ⟨_,ns++[j],rfl,cZ s7 hD,af,?_,by rw[V'];show _+1<=_;omega,by rw[P7 hk hs];simp,by rw[OM hk hs,lo1];simp⟩⟩;rw[map_append];show _++[V.int (0+(j:Int))]=_++[V.int (j:Int)];rw[Int.zero_add]
 rintro zz σ H7 ⟨v,ns,rfl,s7,DS,rfl,nl,lo1,VL⟩;refine hN _ _ ?_;clear hN N;have Zb:ns.length<=201:=by omega
 rw[show((i:Int)).toNat=i by omega]at lo1 VL;refine cQ fun N hN=>?_;refine⟨_,rfl,_,rfl,.inl ⟨bh,zs,rfl,.inl (aM.of (s7 _ _ Wb)),?_⟩⟩;refine⟨(fo:Int),(zs.length:Int),rfl,⟨by omega,by omega,by omega,by omega⟩,fun D2 b2 hD2=>?_⟩;refine zR (lo:=(fo:Int)) (n:=((zs.length:Int)-(fo:Int)).toNat) (fun j zz σ H'=>∃(v:Option V)(ms:List Nat),σ=[v,some (.ref l),some (.ref p2),some (.int (i:Int)),some (.ref bh),some (.int (fo:Int)),some (.bl wide),some (.ref D),none]/\ao H7 H'/\H' D2=some (.lst zz)/\zz=ms.map (fun n:Nat=>V.int (n:Int))/\ms.length<=j/\(match ms with|[]=>∀(m:Nat)(x:Kd),m<j->(bj bs)[fo+m]? = some x->rB wide x=false|h::_=>h=tZ (bj bs) fo wide)) ⟨none,[],rfl,ao.upd hD2,af,rfl,R' _,fun m x hm=>by omega⟩ ?_ ?_
 ·rintro j zz σ H' hj ⟨v,ms,rfl,s8,ON,rfl,ml,hst⟩ N hN;obtain⟨sg,hsg⟩:∃ sg,bs[fo+j]? = some sg:=⟨_,N' (by omega)⟩;have hk:(bj bs)[fo+j]? = some sg.1:=by rw[Zd',hsg];rfl
  have Zf:=s7.trans s8;unfold xu;refine⟨_,rfl,_,rfl,za (aM.of (Zf _ _ Wb)) (gz.same Zf) (n:=fo+j) (by omega) hsg fun b hb=>?_⟩;refine bD (i:=0) hb rfl ?_;refine mV (.str (if wide=true then "32" else ".32")) ?_ ?_
  ·refine⟨_,rfl,_,rfl,?_⟩;cases wide with
   |true=>exact bV ⟨rfl,rfl⟩
   |false=>exact aX ⟨rfl,rfl⟩
  tm_up;have ek:wu sg.1.str (if wide=true then "32" else ".32")=rB wide sg.1:=by
   unfold rB;cases wide with
   |true=>exact SH _
   |false=>exact VJ _
  show(if wu sg.1.str (if wide=true then "32" else ".32")=true then _ else _);rw[ek];cases hs:rB wide sg.1 with
  |false =>
   refine aX (hN _ _ _ ⟨_,ms,rfl,s8,ON,rfl,by omega,?_⟩);cases ms with
   |cons h r=>exact hst
   |nil =>
    intro m x hm hx;rcases Nat.lt_or_ge m j with z|z
    ·exact hst m x z hx
    ·have e:m=j:=by omega
     subst e;rw[hk]at hx;cases hx;exact hs
  |true =>
   refine bV ⟨_,rfl,ON,by rw[L'];exact aL (by omega),hN _ _ _ ⟨_,ms++[fo+j],rfl,cZ s8 hD2,af,?_,by rw[V'];show _+1<=_;omega,?_⟩⟩
   ·rw[map_append];show _++[V.int ((fo:Int)+(j:Int))]=_++[V.int ((fo+j:Nat):Int)];rw[show((fo+j:Nat):Int)=(fo:Int)+(j:Int) by omega]
   ·cases ms with
    |cons h r=>exact hst
    |nil=>exact(J9 hst hk hs).symm
 rintro zz σ H8 ⟨v,ms,rfl,s8,ON,rfl,ml,hst⟩;refine hN _ _ ?_;clear hN N;have kl:(bj bs).length=bs.length:=L' ..;have S8:=S6.trans (s7.trans s8);refine mV (.int (gQ (bj bs) i 0:Nat)) ?_ ?_
 ·refine⟨_,rfl,.inl ⟨D,_,rfl,.inl (aM.of (s8 _ _ DS)),?_⟩⟩;tm_up;rw[L'];refine aN (fun h=>?_) (fun h=>?_)
  ·have h':=G' h;obtain⟨w',b',c',rfl⟩:=P9 (ns:=ns) (by omega);refine⟨_,rfl,2,rfl,.inl ⟨D,_,-2,V.int (b':Int),rfl,rfl,aM.of (s8 _ _ DS),?_,?_,rfl⟩⟩
   ·rw[map_append];exact P8 _ _ _
   ·rw[VL,show w'++[b',c']=(w'++[b'])++[c'] by simp,List.dropLast_concat];simp
  ·have h':ns.length<=1:=Nat.le_of_not_lt fun z=>h (A' (by omega));refine⟨?_,rfl⟩;rw[VL]
   match ns,h' with
   |[],_=>rfl
   |[_],_=>rfl
 refine⟨fun v H'=>v=.int (tZ (bj bs) fo wide:Nat)/\ao H8 H',?_,?_⟩
 ·refine⟨_,rfl,big (by show 0<=1000;omega),fun e0 Vg=>?_⟩;have T0:=ao.upd (o:=.lst []) Vg;refine⟨D2,e0,_,rfl,rfl,aM.of (T0 _ _ ON),aM.of af,_,rfl,?_⟩;cases ms with
  |nil =>
   refine aX ?_;refine⟨_,rfl,.inl ⟨bh,zs,rfl,.inl (aM.of (T0 _ _ ((s7.trans s8) _ _ Wb))),?_,T0⟩⟩;rw[Gk (by omega) fun m x hx=>hst m x (by have:=(K'.mp hx).1;omega) hx,kl,zl]
  |cons h r =>
   refine bV ?_;refine⟨_,rfl,tS (aM.of (T0 _ _ ON)) (n:=0) rfl rfl ⟨?_,T0⟩⟩;rw[hst]
 rintro _ H9 ⟨rfl,S9⟩;refine⟨by show 2<=sizeLine;decide,fun pp hpp=>?_⟩;have Zg:=ao.upd (o:=.tup [V.int (gQ (bj bs) i 0:Nat),V.int (tZ (bj bs) fo wide:Nat)]) hpp;refine q pp ch _ ((S8.trans S9).trans Zg) hc1 hc2 ?_;unfold ED;rw[hw];exact af
theorem HG (st:Std)(d:De)(a:Int)(h:dS st d a=none):(dQ st d a).ps.length+(dQ st d a).fs.length<=st.ps.length+st.fs.length+1:=by
 unfold dQ;cases hw:d.wy with
 |undo =>
  show st.ps.dropLast.length+(st.fs++[st.vw]).length<=_;rw[List.length_dropLast,V'];show _+(_+1)<=_;omega
 |lh =>
  show(st.ps++[st.vw]).length+st.fs.dropLast.length<=_;rw[List.length_dropLast,V'];show _+1+_<=_;omega
 |_ =>
  show(st.ps++[st.vw]).length+0<=_;rw[V'];show _+1+0<=_;omega
theorem VM {vw:Vw}{fs:List Vw}{de:De}{a:Int}(h:de.wy=.undo):dS ⟨vw,[],fs⟩ de a=some .gi:=by
 unfold dS;rw[h];exact X' rfl
theorem Me {α:Type}{l:List α}{a b v:α}(h:(l++[a]).head? = some v):(l++[a]++[b]).head? = some v:=by
 rw[List.head?_append,h];rfl
theorem Mf {st:Std}{d:De}{a:Int}{v:Vw}(o:dS st d a=none)(h:(st.ps++[st.vw]).head? = some v):((dQ st d a).ps++[(dQ st d a).vw]).head? = some v:=by
 unfold dS at o;unfold dQ;cases hw:d.wy with
 |undo =>
  rw[hw]at o;have ne:st.ps≠[]:=fun z=>by
   have o:(if st.ps=[] then some Rf.gi else none)=none:=o;rw[X' z]at o;cases o
  show(st.ps.dropLast++[st.ps.getLast?.getD []]).head? = some v;rw[List.getLast?_eq_some_getLast ne];show(st.ps.dropLast++[st.ps.getLast ne]).head? = some v;rw[List.dropLast_concat_getLast ne];cases e:st.ps with
  |nil=>exact S' e ne
  |cons q r=>rw[e]at h;exact h
 |_=>exact Me h
inductive wc (c:Cs)(vs:List V)(H:Hp)(Q:VK)(E:XK):Prop
 |mk (x dv l:Addr) (H0:Hp) (vw:Vw) (xs:List V) (gX:List De) (cT:vs=[.ref x,.ref dv,.ref l]) (cU:Bw c H0 H x [] vw [] []) (dH:lg H0 dv vw) (fL:H0 l=some (.lst xs)) (jF:fG H0 xs gX) (zB:gX.length<=60) (KA:∀ H' J6 ps' fs',Bw c H0 H' x [] J6 ps' fs'->Q (.bl true) H'):wc c vs H Q E
set_option maxHeartbeats 8000000 in
theorem Fn (T:Txt K w mg t):aW P w K mg base fA (0+9) t.yD t.yE ["_law_back","_law_voices","_law_deeds_here"] (wc (cs t)):=by
 have jd:=oE P base T;have qL:=vQ P base T;have n0:=BC P base T;have kU:=yV P base T;have qH:=oF P base T;have qI:=vW P base T;have tK:=yY P base T;have OO:=Md P base T;have Jy:=HF P base T;refine T.yK.ok dC ?_ ?_
 x_go
 obtain⟨x,dv,l,H0,vw,xs,gX,rfl,B,hdv,hl,dd,abt,q⟩:=h
 skip
 refine aJ (ae (dq 3 dC.nd (bJ (aa (pv 1) (aa (a9 ag) (aa (a9 ag) ag))))) (ae (d8 PassesOwn.never rfl (dz (aE (bp.or (aF.or bq)) (pv 2) (a9 (aa (bJ (aa av (aa av (aa av (aa ai (aa (bJ (aa av (aa ai ag))) (aa ai (aa ai (aa cE ag))))))))) ag)))) (jG 4 dC.nd) (ae (dq 5 dC.nd (dG T.nN jd hr (aa (aY (pv 3)) (aa (pv 4) ag)))) (ae (dq 6 dC.nd (dG T.qr qL hr (aa (pv 3) (aa (pv 4) ag)))) (ae (fI (dG T.nR n0 hr (aa (pv 0) (aa (pv 4) (aa (pv 5) ag)))) (gG rfl (aQ (jG 7 dC.nd) (aQ (jG 8 dC.nd) eo)))) (ae (aH (aq (hX.or (eF (az hr))) (pv 8) (pv 6) (aw _)) (ah (ar cE)) ay) (ae (g7 (aH (bE (PW.pt (cB (aq (aS.or (aK (az hr))) (pv 6) av (aw _)) (cX (aq (bO.or bN) (aY (pv 4)) (a9 (aa av (aa av (aa av ag)))) rfl))))) (ah (aH (bW (aR (dG T.Ha OO hr (aa (pv 7) (aa (dG T.Bf Jy hr (aa (e9 (fY hr) (aY (pv 3)) (aY (pv 4)) (fun _ _=>rfl)) (aa (pv 4) (aa (pv 5) ag)))) ag))))) (ah (ar cE)) ay)) ay)) (ah (aH (aq (aS.or (aK (az hr))) (pv 6) av (aw _)) (ah (dq 3 dC.nd (dG T.sJ tK hr (aa (pv 3) (aa (pv 4) ag))))) ay)))))))) (ae (aH (bW (aR (dG T.kF kU hr (aa (pv 0) (aa (aY (pv 3)) ag))))) (ah (ar cE)) ay) (ae (d8 PassesOwn.never rfl (mR rfl T.jz (aa (aD (aB.or aC) rfl T.bu br (aa (aY (pv 3)) ag)) ag)) (jG 9 dC.nd) (ah (aP (gM (pv 0) T.aI T.ie.me qI (fQ hr) T.ie.b .nil oK)))) (ah (ar (bL (dy (aZ (aS.or (aK (az hr))) (bx aT (dG T.nR n0 hr (aa (pv 0) (aa (bJ (aa av (aa av ag))) (aa ai ag)))) ai (fun _ _=>rfl)) av (aw _)) (eD (dG T.kF kU hr (aa (pv 0) (aa (pv 1) ag)))))))))))) ?_;refine cQ fun N hN=>?_;tm_up;refine⟨big (by show 0<=1000;omega),fun p1 hp1=>?_⟩;have S1:=ao.upd (o:=.lst []) hp1;have k1:=af (H:=H) (a:=p1) (o:=.lst []);generalize upd H p1 (.lst [])=H1 at S1 k1;refine⟨big (by show 0<=1000;omega),fun p2 hp2=>?_⟩;have S2:=ao.upd (o:=.lst []) hp2;have k2:=af (H:=H1) (a:=p2) (o:=.lst []);generalize upd H1 p2 (.lst [])=H2 at S2 k2;refine⟨by show 3<=sizeLine;decide,fun p hp=>?_⟩;have S3:=ao.upd (o:=.tup [V.ref dv,V.ref p1,V.ref p2]) hp;have k3:=af (H:=H2) (a:=p) (o:=.tup [V.ref dv,V.ref p1,V.ref p2]);generalize upd H2 p (.tup [V.ref dv,V.ref p1,V.ref p2])=H3 at S3 k3;refine hN _ _ ?_;clear hN N;refine cQ fun N hN=>?_;tm_up;refine⟨by show 2<=sizeLine;decide,fun t1 ht1=>?_⟩;have S4:=ao.upd (o:=.tup [V.str "s",V.int 0]) ht1;have k4:=af (H:=H3) (a:=t1) (o:=.tup [V.str "s",V.int 0]);generalize upd H3 t1 (.tup [V.str "s",V.int 0])=H4 at S4 k4;refine⟨by show 8<=sizeLine;decide,fun t2 OD=>?_⟩;have S5:=ao.upd (o:=.tup [V.str "add",V.str "zed",V.str "",V.int 0,V.ref t1,V.int 0,V.int 1,V.bl false]) OD;have k5:=af (H:=H4) (a:=t2) (o:=.tup [V.str "add",V.str "zed",V.str "",V.int 0,V.ref t1,V.int 0,V.int 1,V.bl false]);generalize upd H4 t2 (.tup [V.str "add",V.str "zed",V.str "",V.int 0,V.ref t1,V.int 0,V.int 1,V.bl false])=H5 at S5 k5;refine⟨big (by show 1<=1000;omega),fun c1 hc1=>?_⟩;have S6:=ao.upd (o:=.lst [V.ref t2]) hc1;have k6:=af (H:=H5) (a:=c1) (o:=.lst [V.ref t2]);generalize upd H5 c1 (.lst [V.ref t2])=H6 at S6 k6;have xl:=bM dd.1;have Wa:=(S1.trans S2).trans S3;have Wc:=((Wa.trans S4).trans S5).trans S6;refine .inr (.inr ⟨l,c1,_,_,rfl,rfl,Wc _ _ (B.sm _ _ hl),k6,big (by show xs.length+1<=1000;omega),fun l3 hl3=>?_⟩);have S7:=ao.upd (o:=.lst (xs++[V.ref t2])) hl3;have k7:=af (H:=H6) (a:=l3) (o:=.lst (xs++[V.ref t2]));generalize upd H6 l3 (.lst (xs++[V.ref t2]))=H7 at S7 k7;have Jx:=Wc.trans S7;have B7:=B.mix Jx;have mo:=jn (H':=H7) B.sm;have Wd:=((S4.trans S5).trans S6).trans S7;have Zh:BR (mix H0 H H7) (.ref p) ⟨vw,[],[]⟩:=⟨p,dv,p1,p2,[],[],rfl,iJ Jx (Wd _ _ k3) (fun _ z=>nomatch z),hdv.same mo,dE hp1 (Wd _ _ (S3 _ _ (S2 _ _ k1))),.nil,dE (S1.free hp2) (Wd _ _ (S3 _ _ k2)),.nil⟩;have We:mix H0 H H7 l3=some (.lst (xs++[V.ref t2])):=dE (Wc.free hl3) k7;have Tp:fG (mix H0 H H7) (xs++[V.ref t2]) (gX++[⟨.add,"zed","",0,("s",0),0,1,false⟩]):=(dd.same mo).snoc ⟨t2,t1,rfl,iJ Jx (S7 _ _ (S6 _ _ k5)) (fun _ z=>nomatch z),iJ Jx (S7 _ _ (S6 _ _ (S5 _ _ k4))) (fun _ z=>nomatch z)⟩ ⟨by lk,by lk,by lk,by lk⟩;have VN:=hdv.same mo;have X7:(gX++[(⟨.add,"zed","",0,("s",0),0,1,false⟩:De)]).length<=61:=by rw[V'];show _+1<=_;omega
 generalize xs++[V.ref t2]=zs at We Tp;generalize gX++[(⟨.add,"zed","",0,("s",0),0,1,false⟩:De)]=ds at Tp X7;have zl:=bM Tp.1;generalize mix H0 H H7=HB at B7 mo Zh We Tp VN;clear S1 S2 S3 S4 S5 S6 S7 Wa Wc Jx Wd k1 k2 k3 k4 k5 k6 k7 hp1 hp2 hp ht1 OD hc1 hl3 dd hl hdv B xl;refine⟨l3,rfl,⟨_,aM.of (B7.sm _ _ We)⟩,ij (K:=K) (xs:=zs) (fun i σ H'=>∃(u4 u5 u6 u7 u8 u9:Option V)(vs:Addr)(st:Std)(H1:Hp),σ=[some (.ref x),some (.ref dv),some (.ref l),some (.ref vs),u4,u5,u6,u7,u8,u9]/\Bw (cs t) H1 H' x [] st.vw st.ps st.fs/\BR H1 (.ref vs) st/\ao HB H1/\st.ps.length+st.fs.length<=i/\(st.ps++[st.vw]).head? = some vw) ⟨none,none,none,none,none,none,p,⟨vw,[],[]⟩,HB,rfl,B7,Zh,ao.refl _,R' _,rfl⟩ ?_ ?_ ?_⟩
 ·rintro i σ H' _ ⟨_,_,_,_,_,_,vs,st,H1,rfl,B,_,s1,_⟩;exact aM.of (B.sm _ _ (s1 _ _ We))
 ·rintro i y0 σ H' hy ⟨u4,u5,u6,u7,u8,u9,vs,st,H1,rfl,B,st1,s1,VO,Tq⟩;obtain⟨de,hde,X8⟩:=oo Tp.1 hy;have ok:=Tp.2 de (Zf' hde);have BL:=X8.same s1;have hi:i<ds.length:=(K'.mp hde).1;have w:=B.wv;obtain⟨q1,q2,q3,q4,q5,q6,e,g1,g2,_⟩:=id st1;cases e;refine⟨_,rfl,bD (i:=0) (B.sm _ _ g1) rfl ⟨_,rfl,?_⟩⟩;refine⟨q2,_,st.vw,de,rfl,g2.same B.sm,BL.same B.sm,fun H2 S2=>?_⟩;have B2:=B.same S2;refine⟨_,rfl,_,rfl,_,_,st,de,rfl,st1.same B2.sm,BL.same B2.sm,ok,w,fun H3 S3=>?_⟩;have B3:=B2.same S3;obtain⟨F3,b3,f3,z3,o3⟩:=B3.ex;refine⟨_,rfl,_,rfl,_,rfl,x,_,F3,st,de,bH st.vw de,rfl,b3,(BL.same B3.sm).short,ok.nl,ok.ll,by omega,?_⟩;cases ho:dS st de (bH st.vw de) with
  |some r =>
   intro t0 H4 S4 ht0;refine⟨t0,_,rfl,jf.of ht0,rfl,_,_,rfl,_,_,rfl,rfl,?_⟩;tm_up;rw[show decide (V.str r.str=V.str (qW (some r)))=true from A' rfl];refine aX ?_;tm_up;refine⟨fun σ H'=>σ=[some (.ref x),some (.ref dv),some (.ref l),some (.ref vs),some y0,some (.int (bH st.vw de)),some (.str (qW (some r))),some .non,some (.str r.str),u9]/\ao H4 H',?_,?_⟩
   ·tm_up;refine⟨fun bb H'=>bb=false/\ao H4 H',?_,?_⟩
    ·tm_up;rw[zG];exact aX ⟨rfl,ao.refl _⟩
    rintro _ H5 ⟨rfl,S5⟩;refine aX ?_;tm_up;exact⟨rfl,S5⟩
   rintro _ H5 ⟨rfl,S5⟩;tm_up;rw[zG];exact aX ⟨_,_,_,_,_,_,vs,st,H1,rfl,(B3.same S4).same S5,st1,s1,by omega,Tq⟩
  |none =>
   have X9:=ho;intro t0 v0 F4 H4 Ya Yb b4 Qa ht0;obtain⟨B4,k4⟩:=Bw.mk' b4 B3.sm f3 z3 o3 Ya Yb;refine⟨t0,_,rfl,jf.of ht0,rfl,_,_,rfl,_,_,rfl,rfl,?_⟩;tm_up;rw[show decide (V.str ""=V.str (qW none))=true from A' rfl];refine aX ?_;tm_up;refine⟨fun σ H'=>σ=[some (.ref x),some (.ref dv),some (.ref l),some (.ref vs),some y0,some (.int (bH st.vw de)),some (.str (qW none)),some v0,some (.str ""),u9]/\ao H4 H',?_,?_⟩
   ·tm_up;refine⟨fun bb H'=>bb=decide (de.wy=.put\/de.wy=.cut\/de.wy=.swap)/\ao H4 H',?_,?_⟩
    ·tm_up;obtain⟨pd,psd,rfl,hpd,_⟩:=id (BL.same B4.sm);refine bD (i:=0) hpd rfl ?_;refine⟨big (by show 3<=1000;omega),fun l0 hl0=>?_⟩;refine .inl ⟨l0,_,rfl,.inl (aM.of af),rfl,rfl,_,rfl,?_⟩;exact⟨(by show inV (V.str de.wy.str) [V.str "put",V.str "cut",V.str "swap"]=decide (de.wy=.put\/de.wy=.cut\/de.wy=.swap);cases de.wy <;> decide +kernel),ao.upd hl0⟩
    rintro _ H5 ⟨rfl,S5⟩;have B5:=B4.same S5
    by_cases z:de.wy=.put\/de.wy=.cut\/de.wy=.swap
    ·rw[A' z];refine bV ?_;rw[j5 z]at ho;have hd5:=g2.same B5.sm;have Zi:=BL.same B5.sm;obtain⟨pd,psd,rfl,hpd,_⟩:=id Zi;rcases hd5.look de.n with ⟨f1,_⟩|⟨th,v1,f1,gg,t1⟩
     ·rw[gw f1]at ho;cases ho
     cases th with
     |cn ld lt sl tn =>
      rw[i0 f1]at ho;cases ho
     |pl ss =>
      rw[i4 f1]at ho;have ep:gJ st.vw de.n=ss:=by unfold gJ;rw[f1]
      obtain⟨l,zs,rfl,hl,g⟩:=t1;have Jr:=(w.gd _ _ (bP f1)).1
      by_cases y1:bH st.vw de<0\/(ss.length:Int)+(if de.wy=.put then 1 else 0)<=bH st.vw de
      ·rw[X' y1]at ho;cases ho
      rw[T' y1]at ho
      by_cases y2:de.wy≠.cut/\dO de.sg=false
      ·rw[X' y2]at ho;cases ho
      have hgd:de.wy≠.cut->dO de.sg=true:=fun z=>by
       cases e:dO de.sg with
       |true=>rfl
       |false=>exact S' ⟨z,e⟩ y2
      obtain⟨m,hm⟩:∃ m:Nat,bH st.vw de=(m:Int):=⟨(bH st.vw de).toNat,by omega⟩;rw[hm]at y1;have hi1:m<=ss.length:=by
       by_cases z:de.wy=.put
       ·rw[X' z]at y1;omega
       ·rw[T' z]at y1;omega
      have hi2:de.wy≠.put->m<ss.length:=fun z=>by rw[T' z]at y1;omega
      refine⟨_,rfl,_,rfl,bD (i:=0) (B5.sm _ _ g1) rfl ⟨_,rfl,bD (i:=1) hpd rfl ⟨q2,_,rfl,gg,_,rfl,_,rfl,?_⟩⟩⟩;refine⟨l,_,zs,ss,de,m,by rw[hm];rfl,hl,g,Jr,Zi.toW,z,hgd,hi1,hi2,fun p ch H6 S6 hc1 hc2 Qb=>?_⟩;have hh:∃ w0 x1 x2,v0=.ref w0/\H4 w0=some (.tup [.int x1,.int x2])/\H6 p=some (.tup [.int x1,.int x2]):=by
       unfold jN at Qa;rw[ep,hm,Int.toNat_natCast]at Qa;rcases z with z|z|z
       ·rw[z]at Qa Qb;obtain⟨w0,e0,k0⟩:=Qa;rw[hc1 z]at Qb;exact⟨w0,_,_,e0,k0,Qb⟩
       ·rw[z]at Qa Qb;obtain⟨w0,e0,s0,Yc,k0⟩:=Qa;rw[(hc2 _ Yc).1 z]at Qb;exact⟨w0,_,_,e0,k0,Qb⟩
       ·rw[z]at Qa Qb;obtain⟨w0,e0,s0,Yc,k0⟩:=Qa;rw[(hc2 _ Yc).2 z]at Qb;exact⟨w0,_,_,e0,k0,Qb⟩
      obtain⟨w0,x1,x2,rfl,k0,k1⟩:=hh;exact⟨w0,p,x1,x2,rfl,S6 _ _ (S5 _ _ k0),k1,⟨_,rfl,aX ⟨rfl,S5.trans S6⟩⟩⟩
    ·rw[J' z];refine aX ?_;tm_up;exact⟨rfl,S5⟩
   rintro _ H5 ⟨rfl,S5⟩;tm_up;have B5:=B4.same S5;refine⟨_,_,st,de,H1,rfl,B5.sm,st1,BL.same B5.sm,ok,w,by omega,X9,fun v6 H6 S6 Zj=>?_⟩;have B6:=B5.mix S6;obtain⟨Tg,q2',q3',q4',q5',q6',e',g1',_⟩:=id Zj;subst e';have hlen:=HG st de _ X9;refine⟨_,_,_,_,_,_,Tg,dQ st de (bH st.vw de),mix H1 H5 H6,rfl,B6,Zj,s1.trans (jn B5.sm),by omega,Mf X9 Tq⟩
 ·rintro σ H' ⟨u4,u5,u6,u7,u8,u9,vs,st,H1,rfl,B,st1,s1,VO,Tq⟩;obtain⟨q1,q2,q3,q4,q5,q6,e,g1,g2,g3,g4,_⟩:=id st1;cases e;refine hN _ _ ?_;clear hN N;refine cQ fun N hN=>?_;tm_up;refine bD (i:=0) (B.sm _ _ g1) rfl ?_;obtain⟨F4,b4,_⟩:=B.ex;refine⟨x,q2,F4,st.vw,_,_,rfl,b4,g2.same B.sm,fun H5 S5=>⟨_,rfl,aX ?_⟩⟩;refine hN _ _ ?_;clear hN N
  replace B:=B.same S5
  have pl:=bM g4;have B3:Bw (cs t) H1 H5 x [] st.vw ((st.ps++[st.vw]).take st.ps.length) (st.fs++((st.ps++[st.vw]).drop (st.ps.length+1)).reverse):=by
   rw[List.take_left' rfl,List.drop_eq_nil_of_le (by rw[V'];exact R' _),List.reverse_nil,append_nil];exact B
  have al:(st.ps++[st.vw]).length=st.ps.length+1:=by rw[V'];rfl
  have an:(st.ps++[st.vw])[st.ps.length]? = some st.vw:=by rw[List.getElem?_append_right (R' _),Nat.sub_self];rfl
  generalize st.ps++[st.vw]=all at al an B3 Tq;generalize st.ps.length=n at al an B3 pl VO;generalize st.vw=vn at an B3;generalize st.fs=CL at VO B3;refine cQ fun N hN=>?_;tm_up;refine bD (i:=1) (B3.sm _ _ g1) rfl ?_;refine .inl ⟨q3,_,rfl,.inl (aM.of (B3.sm _ _ g3)),?_⟩;tm_up;refine⟨by omega,by omega,?_⟩;refine mS (n:=q5.length) (fun i σ H'=>∃(u9:Option V)(cur:Vw),σ=[some (.ref x),some (.ref dv),some (.ref l),some (.ref vs),u4,u5,u6,u7,u8,u9]/\i<=n/\all[n-i]? = some cur/\Bw (cs t) H1 H' x [] cur (all.take (n-i)) (CL++(all.drop (n-i+1)).reverse)) ⟨_,vn,rfl,Zq' _,an,B3⟩ ?_ ?_
  ·rintro i σ H6 hi ⟨Yd,cur,rfl,il,ec,B⟩;obtain⟨pv,Zk⟩:∃ pv,all[n-i-1]? = some pv:=⟨_,N' (show n-i-1<all.length by omega)⟩;have et:all.take (n-i)=all.take (n-i-1)++[pv]:=by
    have:n-i=(n-i-1)+1:=by omega
    rw[this,take_succ,show n-i-1+1-1=n-i-1 by omega,Zk];rfl
   have ef:CL++(all.drop (n-i+1)).reverse++[cur]=CL++(all.drop (n-i)).reverse:=by
    obtain⟨h1,h2⟩:=K'.mp ec;rw[List.drop_eq_getElem_cons h1,h2,List.reverse_cons,List.append_assoc]
   obtain⟨dx,L,D',U,hx⟩:=B.hx;obtain⟨F,b,f,z,o⟩:=B.ex;refine⟨_,rfl,x,dx,_,rfl,hx,xA _ _ _,x,F,cur,_,_,rfl,b,?_,(fun z=>by rw[et]at z;simp at z),fun J7 v0 e0 H3 VW b3=>?_⟩
   ·rw[Zo',V',length_reverse,Yd'];omega
   rw[et]at e0;obtain⟨e01,e02⟩:=p3 e0;subst e01 e02;rw[ef]at b3;obtain⟨B3,k3⟩:=Bw.mk' b3 B.sm f z o (Gr.refl _ _) VW;refine⟨_,pv,rfl,by omega,by rw[show n-(i+1)=n-i-1 by omega];exact Zk,?_⟩;rw[show n-(i+1)=n-i-1 by omega,show n-i-1+1=n-i by omega];exact B3
  ·rintro σ H6 ⟨Yd,cur,rfl,il,ec,B⟩;rw[pl,Nat.sub_self]at ec B;have ecn:cur=vw:=by
    cases all with
    |nil=>cases ec
    |cons q r=>rw[List.getElem?_cons_zero]at ec;rw[List.head?_cons]at Tq;exact Z' (ec.symm.trans Tq)
   subst ecn;have B0:Bw (cs t) H1 H6 x [] cur [] (CL++(all.drop (0+1)).reverse):=B;refine hN _ _ ?_;clear hN N B;refine⟨fun v H'=>v=.bl true/\∃ fs',Bw (cs t) H1 H' x [] cur [] fs',?_,?_⟩
   ·tm_up;refine⟨by show 2<=sizeLine;decide,fun tu htu=>?_⟩;have T1:=ao.upd (o:=.tup [V.str "undo",V.str ""]) htu;have t1:=af (H:=H6) (a:=tu) (o:=.tup [V.str "undo",V.str ""]);generalize upd H6 tu (.tup [V.str "undo",V.str ""])=H7 at T1 t1;have B4:=B0.same T1;obtain⟨F4,b4,f4,z4,o4⟩:=B4.ex;refine⟨x,_,F4,⟨cur,[],CL++(all.drop (0+1)).reverse⟩,⟨.undo,"","",0,("",0),0,0,false⟩,0,rfl,b4,⟨tu,_,rfl,t1,rfl,rfl,(fun z=>by rcases z with z|z <;> cases z),fun z=>nomatch z⟩,U7,U7,?_,?_⟩
    ·show 0+(CL++(all.drop (0+1)).reverse).length<=900;rw[V',length_reverse,Yd'];omega
    rw[VM rfl];intro t0 H8 S8 ht0;refine bD (i:=1) ht0 rfl ?_;have B5:=B4.same S8;refine .inl ⟨rfl,_,rfl,?_⟩;refine bV ?_;obtain⟨F6,b6,_⟩:=B5.ex;exact⟨_,rfl,_,rfl,x,dv,F6,cur,_,_,rfl,b6,(VN.same s1).same B5.sm,fun H9 S9=>⟨rfl,_,B5.same S9⟩⟩
   ·rintro _ H7 ⟨rfl,fs',B7⟩;exact q H7 _ _ _ (B7.down (mo.trans s1))
theorem Bw.flip {c:Cs}{H0 H1 H:Hp}{x y:Addr}{vw wv:Vw}{ps fs qs gs:List Vw}(b:Bw c H1 H x [] vw ps fs)(d:Bw c H0 H1 y [] wv qs gs):∃ H2,Bw c H2 H y [] wv qs gs/\Bw c H0 H2 x [] vw ps fs:=by
 classical
 obtain⟨F,bF,hF,Zl,_⟩:=b.ex;obtain⟨G,bG,hG,Ye,_⟩:=d.ex;have gf:∀ z,G z->¬ F z:=fun z g f=>by
  obtain⟨xs,e⟩:=hG z g;rw[Zl z f]at e;cases e
 refine⟨fun z=>if G z then none else H z,⟨⟨G,bG.same b.sm,fun z g=>let ⟨xs,e⟩:=hG z g;⟨xs,b.sm _ _ e⟩,fun z g=>X' g,fun _ q=>nomatch q⟩,fun z o e=>?_⟩,⟨⟨F,bF.kept fun z o e k=>?_,fun z f=>?_,fun z f=>?_,fun _ q=>nomatch q⟩,fun z o e=>?_⟩⟩
 ·by_cases g:G z
  ·rw[show(if G z then none else H z)=none from X' g]at e;cases e
  ·rw[show(if G z then none else H z)=H z from T' g]at e;exact e
 ·have g:¬ G z:=fun g=>by
   rcases k with k|k
   ·exact gf z g k
   ·obtain⟨xs,e'⟩:=hG z g;exact k xs (Z' (e.symm.trans (b.sm _ _ e')))
  exact(T' g).trans e
 ·obtain⟨xs,e⟩:=hF z f;exact⟨xs,(T' fun g=>gf z g f).trans e⟩
 ·cases e:H0 z with
  |none=>rfl
  |some o=>exact S' (d.sm _ _ e) (by rw[Zl z f];exact fun q=>nomatch q)
 ·have g:¬ G z:=fun g=>by rw[Ye z g]at e;cases e
  exact(T' g).trans (b.sm _ _ (d.sm _ _ e))
theorem Bw.Yf {c:Cs}{H0 H1 H H':Hp}{y:Addr}{wv:Vw}{qs gs:List Vw}(d:Bw c H0 H1 y [] wv qs gs)(s:ao H1 H):Bw c (cC.mix H0 H H') (cC.mix H1 H H') y [] wv qs gs:=by
 obtain⟨G,bG,hG,Ye,_⟩:=d.ex;have so:=jn (H':=H') s;refine⟨⟨G,bG.same so,fun z g=>let ⟨xs,e⟩:=hG z g;⟨xs,so _ _ e⟩,fun z g=>?_,fun _ q=>nomatch q⟩,fun z o e=>?_⟩
 ·obtain⟨xs,e⟩:=hG z g;unfold cC.mix;rw[s _ _ e];exact Ye z g
 ·unfold cC.mix at e ⊢;cases h:H z with
  |none=>rw[h]at e;exact e
  |some u =>
   rw[h]at e;cases u with
   |lst xs=>exact d.sm _ _ e
   |_=>exact e
theorem Yg {vw:Vw}{ps:List Vw}{de:De}{a:Int}(h:de.wy=.lh):dS ⟨vw,ps,[]⟩ de a=some .gi:=by
 unfold dS;rw[h];exact X' rfl
theorem fG.take {H:Hp}{xs:List V}{gX:List De}(n:Nat)(h:fG H xs gX):fG H (xs.take n) (gX.take n):=⟨pW n h.1,fun x hx=>h.2 x (List.mem_of_mem_take hx)⟩
set_option maxHeartbeats 8000000 in
theorem SI (T:Txt K w mg t):aW P w K mg base fA (0+10) t.Oc t.Od ["_law_script"] (Aa K):=by
 have jK:=nW P base T;have oJ:=Ce P base T;have HH:=E9 P base T;have Mg:=Jo P base T;have D8:=Jq P base T;have jd:=oE P base T;have qL:=vQ P base T;have HI:=Fn P base T;have kU:=yV P base T;have jE:=vK P base T;have tK:=yY P base T;have n0:=BC P base T;refine T.Om.ok ku (fun vs H Q E h=>?_) (fun cdv A outer s H vs Q E hr h=>?_)
 ·obtain⟨a,ns,rfl,_⟩:=h;rfl
 ·obtain⟨a,ns,rfl,hS,hl,q⟩:=h;have hbody:a8 Av=(a8 Av).getD 0 (.Pass ⟨0,0,0,0⟩)::(a8 Av).getD 1 (.Pass ⟨0,0,0,0⟩)::RQ ((a8 Av).getD 2 (.Pass ⟨0,0,0,0⟩)) jx::(a8 Av).drop 3:=by unfold jx;rfl
  rw[hbody];refine aJ (ae (dq 1 ku.nd (aE (bp.or (aF.or bq)) (dG T.DJ Mg hr (aa (dG T.jA jE hr (aa (pv 0) (aa ai ag))) ag)) (dG T.wY D8 hr (aa (pv 0) (aa ai (aa (aE cV (dG T.jA jE hr (aa (pv 0) (aa ai ag))) ai) ag)))))) (ae (dq 2 ku.nd (FF T.fE.PN jK (fQ hr) rfl T.Ks T.fE.b .nil dN)) (ae (dq 3 ku.nd N5 (qX _ _ _)) (ae (d8 PassesOwn.never rfl (dz (pv 1)) (jG 4 ku.nd) (ae (dq 5 ku.nd (dG T.nN jd hr (aa (aY (pv 3)) (aa (pv 4) ag)))) (ae (dq 6 ku.nd (dG T.qr qL hr (aa (pv 3) (aa (pv 4) ag)))) (ae (aH (aq (hX.or (eF (az hr))) (bx aT (dG T.nR n0 hr (aa (pv 2) (aa (pv 4) (aa (pv 5) ag)))) ai (fun _ _=>rfl)) (pv 6) (aw _)) (ah (ar cE)) ay) (ah (aH (aq (aS.or (aK (az hr))) (pv 6) av (aw _)) (ah (dq 3 ku.nd (dG T.sJ tK hr (aa (pv 3) (aa (pv 4) ag))))) ay)))))) (ae (dq 7 ku.nd (dG T.j3 oJ hr (aa (pv 2) ag))) (ae (dq 8 ku.nd (dG T.yH HH hr (aa (pv 7) ag))) (ae (aH (bE (PW.pt (fq (bW (aR (dG T.kF kU hr (aa (pv 8) (aa (aY (pv 3)) ag))))) (d7 (aq (hX.or (eF (az hr))) (dG T.j3 oJ hr (aa (pv 8) ag)) (pv 7) (aw _)))))) (ah (ar cE)) ay) (ae (d8 PassesOwn.never rfl (dz (a9 (aa av (aa av ag)))) (jG 9 ku.nd) (ah (aH (aq (hX.or (eF (az hr))) (bx aT (dG T.nR n0 hr (aa (pv 8) (aa (bJ (aa (pv 9) (aa av ag))) (aa ai ag)))) ai (fun _ _=>rfl)) av (aw _)) (ah (ar cE)) ay))) (ae (aH (bW (aR (dG T.yK HI hr (aa (pv 8) (aa (aY (pv 3)) (aa (dM (eY.or (gY.or gZ)) (dG T.wY D8 hr (aa (pv 0) (aa ai (aa ai ag)))) eX (dA ai)) ag)))))) (ah (ar cE)) ay) (ah (ar (bL (dy (dG T.kF kU hr (aa (pv 2) (aa (aY (pv 3)) ag))) (eD (aZ (aS.or (aK (az hr))) (dG T.j3 oJ hr (aa (pv 2) ag)) (pv 7) (aw _)))))))))))))))) ?_;refine cQ fun N hN=>?_;tm_up;refine⟨a,ns,0,rfl,hS,hl,?_⟩;tm_up;intro l1 VP SJ H1 n1 s1 h1 Yh Yi;tm_up;refine⟨a,ns,1,rfl,s1.seq hS,hl,?_⟩;tm_up;obtain⟨m,hm,abF⟩:=EC (vI ns 1) (k:=25) (by decide);rw[hm];refine⟨a,ns,2,m,rfl,s1.seq hS,hl,by omega,fun l2 HL OP H2 n2 s2 h2 dd2 VQ=>?_⟩;have xl1:=bM Yh.1;have xl2:=bM dd2.1;refine .inr (.inr ⟨l1,l2,_,_,rfl,rfl,s2 _ _ h1,h2,big (by omega),fun l3 hl3=>?_⟩);have S3:=ao.upd (o:=.lst (VP++HL)) hl3;have k3:=af (H:=H2) (a:=l3) (o:=.lst (VP++HL));generalize upd H2 l3 (.lst (VP++HL))=H3 at S3 k3;have Sq:=(s1.trans s2).trans S3;have RF:fG H3 (VP++HL) (SJ++OP):=fG.app (Yh.same (s2.trans S3)) (dd2.same S3);have Yj:(SJ++OP).length<=91:=by rw[V'];omega
  generalize VP++HL=xs at k3 RF;generalize SJ++OP=gX at RF Yj;refine hN _ _ ?_;clear hN N Yh dd2 h1 h2 n1 n2 hl3 Yi VQ xl1 xl2;refine cQ fun N hN=>?_;intro x dx nx ndx _;refine⟨x,dx,rfl,af,fun L D U H4 U0 nL nD nU LD LU DU U1 U2 U3 U4=>⟨rfl,?_⟩⟩;have s4:=NH nx ndx U0;have B4:Bw (cs t) H3 H4 x [] [] [] []:=Bw.new U1 U2 U3 U4 LD LU DU s4 (p7 nL) (p7 nD) (p7 nU);clear U0 nL nD nU LD LU DU U2 U3 U4 s4 nx ndx U1;refine hN _ _ ?_;clear hN N;refine cQ fun N hN=>?_;rw[x3];intro dd hdd;have S5:=ao.upd (o:=.dK []) hdd;have k5:=af (H:=H4) (a:=dd) (o:=.dK []);generalize upd H4 dd (.dK [])=H5 at S5 k5;refine⟨big (by show 0<=1000;omega),fun p1 hp1=>?_⟩;have S6:=ao.upd (o:=.lst []) hp1;have k6:=af (H:=H5) (a:=p1) (o:=.lst []);generalize upd H5 p1 (.lst [])=H6 at S6 k6;refine⟨big (by show 0<=1000;omega),fun p2 hp2=>?_⟩;have S7:=ao.upd (o:=.lst []) hp2;have k7:=af (H:=H6) (a:=p2) (o:=.lst []);generalize upd H6 p2 (.lst [])=H7 at S7 k7;refine⟨by show 3<=sizeLine;decide,fun p hp=>?_⟩;have S8:=ao.upd (o:=.tup [V.ref dd,V.ref p1,V.ref p2]) hp;have k8:=af (H:=H7) (a:=p) (o:=.tup [V.ref dd,V.ref p1,V.ref p2]);generalize upd H7 p (.tup [V.ref dd,V.ref p1,V.ref p2])=H8 at S8 k8;have Wf:=((S5.trans S6).trans S7).trans S8;have B8:=B4.mix Wf;have Zm:BR (mix H3 H4 H8) (.ref p) ⟨[],[],[]⟩:=⟨p,dd,p1,p2,[],[],rfl,iJ Wf k8 (fun _ z=>nomatch z),⟨[],iJ Wf (S8 _ _ (S7 _ _ (S6 _ _ k5))) (fun _ z=>nomatch z),.nil⟩,dE ((S5.free hp1)) (S8 _ _ (S7 _ _ k6)),.nil,dE ((S5.trans S6).free hp2) (S8 _ _ k7),.nil⟩;have Zn:aM K (mix H3 H4 H8) a (ns.map V.int):=(jn B4.sm).seq (Sq.seq hS);have Yk:mix H3 H4 H8 l3=some (.lst xs):=jn B4.sm _ _ k3;have Wg:fG (mix H3 H4 H8) xs gX:=RF.same (jn B4.sm);generalize mix H3 H4 H8=H0 at B8 Zm Zn Yk Wg;refine hN _ _ ?_;clear hN N B4 S5 S6 S7 S8 Wf k5 k6 k7 k8 hdd hp1 hp2 hp RF k3 Sq S3 s1 s2;refine cQ fun N hN=>?_;have zl:=bM Wg.1;refine⟨_,rfl,l3,rfl,⟨_,aM.of (B8.sm _ _ Yk)⟩,ij (K:=K) (xs:=xs) (fun i σ H'=>∃(u4 u5 u6 u7 u8 u9:Option V)(vs:Addr)(st:Std)(H1:Hp),σ=[some (.ref a),some (.ref l3),some (.ref x),some (.ref vs),u4,u5,u6,u7,u8,u9]/\Bw (cs t) H1 H' x [] st.vw st.ps st.fs/\BR H1 (.ref vs) st/\ao H0 H1/\st.ps.length+st.fs.length<=i/\(∀ v,v∈st.ps\/v=st.vw\/v∈st.fs->Rk i v)/\i<=91) ⟨none,none,none,none,none,none,p,⟨[],[],[]⟩,H0,rfl,B8,Zm,ao.refl _,R' _,(fun v z=>by rcases z with z|rfl|z;cases z;exact Rk.nil _;cases z),by omega⟩ ?_ ?_ ?_⟩
  ·rintro i σ H' _ ⟨_,_,_,_,_,_,vs,st,H1,rfl,B,_,s1,_⟩;exact aM.of (B.sm _ _ (s1 _ _ Yk))
  ·rintro i y0 σ H' hy ⟨u4,u5,u6,u7,u8,u9,vs,st,H1,rfl,B,st1,s1,VO,rk,_⟩;obtain⟨de,hde,X8⟩:=oo Wg.1 hy;have ok:=Wg.2 de (Zf' hde);have BL:=X8.same s1;have w:=B.wv;have hi:i<gX.length:=(K'.mp hde).1;obtain⟨q1,q2,q3,q4,q5,q6,e,g1,g2,_⟩:=id st1;cases e;refine⟨_,rfl,bD (i:=0) (B.sm _ _ g1) rfl ⟨_,rfl,?_⟩⟩;refine⟨q2,_,st.vw,de,rfl,g2.same B.sm,BL.same B.sm,fun H2 S2=>?_⟩;have B2:=B.same S2;refine⟨_,rfl,_,rfl,_,_,st,de,rfl,st1.same B2.sm,BL.same B2.sm,ok,w,fun H3 S3=>?_⟩;have B3:=B2.same S3;obtain⟨F3,b3,f3,z3,o3⟩:=B3.ex;refine⟨_,rfl,_,rfl,_,rfl,x,_,F3,st,de,bH st.vw de,rfl,b3,(BL.same B3.sm).short,ok.nl,ok.ll,by omega,?_⟩;cases ho:dS st de (bH st.vw de) with
   |some r =>
    intro t0 H4 S4 ht0;refine bD (i:=1) ht0 rfl ?_;refine⟨_,rfl,.inl ⟨rfl,_,rfl,?_⟩⟩;rw[show decide (V.str r.str=V.str (qW (some r)))=true from A' rfl];refine aX ?_;tm_up;rw[zG];exact aX ⟨_,_,_,_,_,_,vs,st,H1,rfl,B3.same S4,st1,s1,by omega,fun v z=>(rk v z).mono (Nat.le_succ i),by omega⟩
   |none =>
    intro t0 v0 F4 H4 Ya Yb b4 Qa ht0;obtain⟨B4,k4⟩:=Bw.mk' b4 B3.sm f3 z3 o3 Ya Yb;refine bD (i:=1) ht0 rfl ?_;refine⟨_,rfl,.inl ⟨rfl,_,rfl,?_⟩⟩;rw[show decide (V.str ""=V.str (qW none))=true from A' rfl];refine aX ?_;tm_up;refine⟨_,_,st,de,H1,rfl,B4.sm,st1,BL.same B4.sm,ok,w,by omega,ho,fun v5 H5 S5 OQ=>?_⟩;have B5:=B4.mix S5;have hlen:=HG st de _ ho;obtain⟨Tg,q2',q3',q4',q5',q6',e',g1',_⟩:=id OQ;subst e';exact⟨_,_,_,_,_,_,Tg,dQ st de (bH st.vw de),mix H1 H4 H5,rfl,B5,OQ,s1.trans (jn B4.sm),by omega,Rk.beh w rk ho,by omega⟩
  ·rintro σ H' ⟨u4,u5,u6,u7,u8,u9,vs,st,H1,rfl,B,st1,s1,VO,rk,ib⟩;obtain⟨q1,q2,q3,q4,q5,q6,e,g1,g2,g3,g4,_⟩:=id st1;cases e;refine hN _ _ ?_;clear hN N;have w:=B.wv;have Zo:Rk 100 st.vw:=(rk st.vw (.inr (.inl rfl))).mono (by omega);have n8:∀ q∈st.vw,q.1.length<=1000:=fun q hq=>by
    have nb:=Zo.nm q hq;unfold nameB at nb;rw[Bool.and_eq_true,Bool.and_eq_true]at nb;have z:decide (q.1.length<=8)=true:=nb.2.1;have:=G' z;omega
   have hS1:=s1.seq Zn;refine cQ fun N hN=>?_;obtain⟨F4,b4,_⟩:=B.ex;refine⟨_,rfl,x,F4,st.vw,_,_,rfl,b4,n8,fun H2 S2=>hN _ _ ?_⟩;clear hN N;have B2:=B.same S2;refine cQ fun N hN=>?_;refine⟨_,rfl,st.vw,rfl,w,Zo,fun y H3 D=>hN _ _ ?_⟩;clear hN N;have sm3:ao H1 H3:=B2.sm.trans D.sm;refine cQ fun N hN=>?_;refine⟨fun bb H'=>bb=false/\ao H3 H',?_,?_⟩
   ·tm_up;refine bD (i:=0) (sm3 _ _ g1) rfl ?_;obtain⟨F5,b5,_⟩:=D.ex;refine⟨y,q2,F5,st.vw,_,_,rfl,b5,g2.same sm3,fun H4 S4=>⟨_,rfl,aX ?_⟩⟩;obtain⟨F6,b6,_⟩:=(D.same S4).ex;refine⟨_,rfl,y,F6,st.vw,_,_,rfl,b6,n8,fun H5 S5=>?_⟩;tm_up;exact⟨by rw[A' rfl];rfl,S4.trans S5⟩
   rintro _ H4 ⟨rfl,S4⟩;refine aX ?_;refine hN _ _ ?_;clear hN N
   replace D:=D.same S4
   refine cQ fun N hN=>?_;tm_up;refine⟨big (by show 2<=1000;omega),fun c1 hc1=>?_⟩;have T1:=ao.upd (o:=.lst [V.str "undo",V.str "redo"]) hc1;have t1:=af (H:=H4) (a:=c1) (o:=.lst [V.str "undo",V.str "redo"]);generalize upd H4 c1 (.lst [V.str "undo",V.str "redo"])=H5 at T1 t1
   replace D:=D.same T1
   refine⟨c1,rfl,⟨_,aM.of t1⟩,ij (K:=K) (xs:=[V.str "undo",V.str "redo"]) (fun i σ H'=>∃(u9:Option V),σ=[some (.ref a),some (.ref l3),some (.ref x),some (.ref vs),u4,u5,u6,some (.str (rC st.vw)),some (.ref y),u9]/\ao H5 H') ⟨_,rfl,ao.refl _⟩ ?_ ?_ ?_⟩
   ·rintro i σ H6 _ ⟨_,rfl,S6⟩;exact aM.of (S6 _ _ t1)
   ·rintro i y0 σ H6 hy ⟨Yd,rfl,S6⟩;have D6:=D.same S6;obtain⟨de,ey,hn,hl0,hot⟩:∃ de:De,y0=.str de.wy.str/\de.n = ""/\de.ld = ""/\(de.wy=.undo\/de.wy=.lh):=by
     match i,hy with
     |0,hy=>cases hy;exact⟨⟨.undo,"","",0,("",0),0,0,false⟩,rfl,rfl,rfl,.inl rfl⟩
     |1,hy=>cases hy;exact⟨⟨.lh,"","",0,("",0),0,0,false⟩,rfl,rfl,rfl,.inr rfl⟩
     |i+2,hy=>simp at hy
    subst ey;tm_up;refine⟨by show 2<=sizeLine;decide,fun tu htu=>?_⟩;have T2:=ao.upd (o:=.tup [V.str de.wy.str,V.str ""]) htu;have t2:=af (H:=H6) (a:=tu) (o:=.tup [V.str de.wy.str,V.str ""]);generalize upd H6 tu (.tup [V.str de.wy.str,V.str ""])=H7 at T2 t2;have D7:=D6.same T2;obtain⟨F4,b4,f4,z4,o4⟩:=D7.ex;refine⟨y,_,F4,⟨st.vw,[],[]⟩,de,0,rfl,b4,⟨tu,_,rfl,t2,rfl,by rw[hn];rfl,(fun z=>by rcases hot with e|e <;> rw[e]at z <;> rcases z with z|z <;> cases z),fun z=>by rcases hot with e|e <;> rw[e]at z <;> cases z⟩,by rw[hn];exact U7,by rw[hl0];exact U7,by show 0+0<=900;decide,?_⟩;rw[show dS ⟨st.vw,[],[]⟩ de 0=some .gi from hot.elim VM Yg];intro t0 H8 S8 ht0;refine bD (i:=1) ht0 rfl ?_;refine .inl ⟨rfl,_,rfl,?_⟩;exact aX ⟨_,rfl,(S6.trans T2).trans S8⟩
   ·rintro σ H6 ⟨Yd,rfl,S6⟩;refine hN _ _ ?_;clear hN N
    replace D:=D.same S6
    have Yl:ao H1 H6:=B2.sm.trans D.sm;refine cQ fun N hN=>?_;tm_up;refine bD (i:=0) (Yl _ _ g1) rfl ?_;tm_up;refine⟨a,ns,3,6,rfl,Yl.seq hS1,hl,by omega,fun p2 HL OP G2 n2 s2 h2 dd2 VQ=>?_⟩;refine⟨6,rfl,.inl ⟨p2,HL,rfl,aM.of h2,fun p4 Zp=>?_⟩⟩;rw[show j7 HL none (some 6)=HL.take 6 from CI HL 6];have s4:=ao.upd (o:=.lst (HL.take 6)) Zp;have h4:=af (H:=G2) (a:=p4) (o:=.lst (HL.take 6));generalize upd G2 p4 (.lst (HL.take 6))=G4 at s4 h4;have Ym:=s2.trans s4;have DY:=D.mix Ym;have BX:=B2.Yf (H':=G4) D.sm;have mo:=jn (H':=G4) D.sm;have mo1:=jn (H':=G4) Yl;have kd:mix H2 H6 G4 p4=some (.lst (HL.take 6)):=dE (s2.free Zp) h4;have dd4:fG (mix H2 H6 G4) (HL.take 6) (OP.take 6):=⟨bZ (fun _ _ ⟨z1,z2,e,y1,y2⟩=>⟨z1,z2,e,iJ Ym y1 (fun _ z=>nomatch z),iJ Ym y2 (fun _ z=>nomatch z)⟩) ((dd2.take 6).same s4).1,(dd2.take 6).2⟩;refine⟨y,q2,p4,_,st.vw,_,_,rfl,DY,g2.same (B2.sm.trans mo),kd,dd4,by rw[Zo'];omega,fun H7 J6 ps' fs' BY=>⟨_,rfl,aX ?_⟩⟩;refine hN _ _ ?_;clear hN N;obtain⟨H8,BZ,_⟩:=BY.flip BX;have Zq:ao H1 H7:=mo1.trans (BX.sm.trans BY.sm);refine⟨fun v H'=>v=.bl true,?_,?_⟩
    ·tm_up;refine bD (i:=0) (Zq _ _ g1) rfl ?_;obtain⟨F5,b5,_⟩:=BZ.ex;refine⟨x,q2,F5,st.vw,_,_,rfl,b5,g2.same Zq,fun H9 S9=>⟨_,rfl,bV ?_⟩⟩;obtain⟨F6,b6,_⟩:=(BZ.same S9).ex;refine⟨_,rfl,x,F6,st.vw,_,_,rfl,b6,n8,fun Y6 Zg=>?_⟩;tm_up;exact Zj' V.bl (A' rfl)
    ·rintro _ H9 rfl;exact q _
theorem qE {K:Frag}{T:Addr}{od:Option Addr}{osl:Array (Option Value)}{xs:List V}{its:Array Value}{n:Nat}(l:K.lookup T=some ⟨.type "tuple",od,.seq its n,osl⟩)(hz:decide (its.size<=1000)=true)(r:Vals xs its.toList):∀ H,jf K H T xs:=fun H=>.inr ⟨_,_,_,l,rfl,rfl,Zb' (G' hz) (by decide),r⟩
theorem kE {K:Frag}{T:Addr}{w:World}{kvs:List (Str×V)}{es:Array DictEntry}{n:Nat}(l:K.lookup T=some ⟨.type "dict",none,.dict es n,#[]⟩)(e:FT w es.toList kvs)(y:(T==sysModules)=false)(nd:(kvs.map (·.1)).Nodup):KD K w T kvs:=⟨y,_,_,l,e,nd⟩
set_option maxHeartbeats 0 in
theorem all_mk {l:OpenLaw}{w:World}{K:Frag}{mg:Str->Option Value}{fa:Addr}{t:OS}(hfa:mg "law"=some (.ref fa))(T:Txt K w mg t) :
  ∃ fd:FuncData,(∀(s:Shared)(v:Value),BindsTo s fd ⟨[v],[]⟩ [("_law_script",v)])/\∀ base:Heap,K.In base->base.Ns mainGlobals mg->aW l.prog w K mg base fA 10 fa fd ["_law_script"] (Aa K):=by
 have e:=hfa.symm.trans T.Om.g;obtain rfl:fa=t.Oc:=Value.ref.inj (Z' e);obtain⟨_,_,_,_,_,_,_,_,_,hd,_⟩:=T.Om.ex;exact⟨t.Od,fun s v=>hd ▸ .of_eq rfl,fun base _ _=>SI _ _ T⟩
theorem walk {l:OpenLaw}{q:Program}{loose:List Str}{XP:(Str->Option Value)->Heap->Prop}{YP:World->Heap->Prop}{d:DefRec}{K:Params->Frag}(hn:l.most=some 63)(hdf:d.params.defaults=[])
  (hY:∀(w:World)(h:Heap),YP w h->(K w.params).In h)
  (F:∀(w:World)(mg:Str->Option Value)(fa:Addr)(h:Heap),(K w.params).In h->h.Ns mainGlobals mg->mg d.name=some (.ref fa) ->
   ∃ fd:FuncData,(∀(s:Shared)(u:Value),BindsTo s fd ⟨[u],[]⟩ [("_law_script",u)])/\∀ base:Heap,(K w.params).In base->base.Ns mainGlobals mg->aW l.prog w (K w.params) mg base fA 10 fa fd ["_law_script"] (Aa (K w.params))) :
  WalkO q loose XP YP l.row.toRowW d [] (fun f vs=>PySem.call f vs) :=
 L2.O5 (n:=63) (k:=10) (x:="_law_script") (CX:=fun _=>fA) (sp:=fun w=>Aa (K w.params)) hn (by decide) hdf ⟨rfl,by decide,by decide⟩ hY F (fun _ H a ns hl hO hS=>Lr hl hO hS) fun _ _ _ _ _ z=>z
end cC
namespace PySem.W.Fast
def tw12594011900223884872:=()
def tw11932471274587839214:=()
def tw9506690043320028706:=()
def tw11557023751597909928:=()
def tw4911222614546551622:=()
def tw2691351286029617294:=()
def tw883992748791637110:=()
def tw8586178051555250997:=()
def tw6090424420163438542:=()
def tw578296950610758652:=()
def tw4260379308684918853:=()
def tw1162808370762627662:=()
def tw12206127939839224203:=()
def tw15830004359751135322:=()
def tw926121924703565907:=()
def tw9371242892475559919:=()
def tw14545036675270467452:=()
def tw759301264948857249:=()
def tw12188769510622702741:=()
def tw14535951364777681958:=()
def tw15303788854601909267:=()
def tw6291316230495381681:=()
def tw13934128682628912819:=()
def tw13412267652122879460:=()
def tw5746005473116914431:=()
def tw16180568614076471384:=()
def tw15333318610503924951:=()
def tw11371841086160223141:=()
def tw8591850213567908627:=()
def tw2365065715076474524:=()
def tw16548294312319810149:=()
def tw16901996897369700162:=()
def tw2667296699368016593:=()
def tw16748257579767266611:=()
def tw11865629922121940505:=()
def tw16205508735737087331:=()
def tw260132855663579201:=()
def tw13875208550028344917:=()
def tw11052092182860688145:=()
def tw16246532724629145848:=()
def tw15433784223683846793:=()
def tw11101923439186858609:=()
def tw6752362707778130462:=()
def tw13609184891434493283:=()
def tw15025289592275910872:=()
def tw8006306209195978265:=()
def tw4291515577045206522:=()
def tw2387635402329638243:=()
def tw8896021582889240694:=()
def tw841274826389937895:=()
def tw8713750745600157809:=()
def tw13177851487418584924:=()
def tw10221412439447425376:=()
def tw13363447518669974606:=()
def tw5977768285007070694:=()
def tw2092328501819321178:=()
def tw8375947297125673583:=()
def tw7630712728693827361:=()
def tw9846574069332453338:=()
def tw4144905011881065226:=()
def tw3049536849533161106:=()
def tw5691749434866215331:=()
def tw8115925269542218644:=()
def tw11252221179610512440:=()
def tw16654625700829291165:=()
def tw3092077013512984949:=()
def tw1034998064094571937:=()
def tw2910720204427221676:=()
def tw8795306649791496086:=()
def tw3366468861045979460:=()
def tw15116973866152949364:=()
def tw10428260041842840396:=()
def tw14670588602125989118:=()
def tw5525979176935589432:=()
def tw16498716918650991977:=()
def tw14135946356812557575:=()
def tw3088639472987900859:=()
def tw10098549194618487028:=()
def tw18443928713798156892:=()
def tw1786768972421353345:=()
def tw9198066241139350926:=()
def tw17614012330829701943:=()
def tw938718429842827338:=()
def tw10718057860770777900:=()
def tw2790429709181306146:=()
def tw18344744528092094482:=()
def tw4418703550791924048:=()
def tw10274603006306059806:=()
def tw7603688378795055185:=()
def tw7232704532277551379:=()
def tw640863081930684338:=()
def tw12345369740539545631:=()
def tw5371531274074835154:=()
def tw12831617668261855277:=()
def tw9385727212067251203:=()
def tw2372129610560829346:=()
def tw15594904470486487306:=()
def tw7531623268694763964:=()
def tw15996971514463524767:=()
def tw9108652126916662640:=()
def tw17585763627257724012:=()
def tw15086982521823354180:=()
def tw12001702307364635425:=()
def tw14204399426185607039:=()
def tw3260681932485240455:=()
def tw17655432106466399931:=()
def tw13211774897947521737:=()
def tw3626046580201259524:=()
def tw4494280600709531166:=()
def tw1465507047215903684:=()
def tw15254267887962404496:=()
def tw671679187537853653:=()
def tw7939178085141850085:=()
def tw242684049555598255:=()
def tw4303526088935280004:=()
def tw12032101977882581150:=()
def tw3148045442262151872:=()
def tw6716198928116031986:=()
def tw5168278463938403603:=()
def tw4470963844227495858:=()
def tw9533399479722396017:=()
def tw16809151310354358461:=()
def tw16485973509672028742:=()
def tw8990820088076397069:=()
def tw17999007654978777958:=()
def tw2100126496943615413:=()
def tw18370515771045967159:=()
def tw9528919320777507042:=()
def tw11903386723760987916:=()
def tw2097627022672135378:=()
def tw9996890689516694782:=()
def tw14105465929806128890:=()
def tw12906732070573718963:=()
def tw12715610649131539162:=()
def tw277776065431388347:=()
def tw974793808206685467:=()
def tw11960422812995952654:=()
def tw5058398973719411514:=()
def tw10262508810230439101:=()
def tw13160396266017473019:=()
def tw15299094492106994436:=()
def tw6911847876359933448:=()
def tw18294373819062556872:=()
def tw9722875415437561402:=()
def tw3807811322494898292:=()
def tw2735871033864601706:=()
def tw18298880222341234703:=()
def tw15855282500381223072:=()
def tw5115953752815356039:=()
def tw5825545613909333708:=()
def tw7102126720593640848:=()
def tw8131513575238186899:=()
def tw550952676650137217:=()
def tw9562981438239833225:=()
def tw13591285191004054634:=()
def tw16429444088507321665:=()
def tw15126701030942935610:=()
def tw18051734498121112734:=()
def tw17784732359120435162:=()
def tw13134850128517037294:=()
def tw8667893923346268785:=()
def tw15319891184343530078:=()
def tw8461613340965881435:=()
def tw13140170561410923533:=()
def tw13429234086314562915:=()
def tw1767526802715180654:=()
def tw11914811705775844018:=()
def tw7178429722779138798:=()
def tw2459602214823058553:=()
def tw8420896525391569987:=()
def tw10611789909754978771:=()
def tw9465783826098163881:=()
def tw17757250711196809012:=()
def tw4633994038814616416:=()
def tw6673620499712415376:=()
def tw6218875282164468471:=()
def tw16908495807745800021:=()
def tw2017383703719247665:=()
def tw8243694938124013802:=()
def tw12692440413871763297:=()
def tw12002505000245139102:=()
def tw15738169232860998070:=()
def tw2620265550731433767:=()
def tw13515239165265438651:=()
def tw4106417084752841690:=()
def tw9851077341779539431:=()
def tw3868757667689135417:=()
def tw13338067738934110423:=()
def tw14741390777124921247:=()
def tw10846098881883906232:=()
def tw17283336129037336875:=()
def tw18335896111778187967:=()
def tw12633256630951680495:=()
def tw4419150973914336519:=()
def tw6504132978884101237:=()
def tw2498949835844925525:=()
def tw3308003240366222313:=()
def tw4325700904579954917:=()
def tw9621801951376333360:=()
def tw9379897292526964214:=()
def tw13059987960883681570:=()
def tw14827692456216957056:=()
def tw12987765363960994677:=()
def tw2522337801750843931:=()
def tw4769662691534713509:=()
def tw7218345283121442245:=()
def tw3966304477616431786:=()
def tw2868978713015151987:=()
def tw7035290030139752964:=()
def tw6649147749050363301:=()
def tw6612695882008202671:=()
def tw1265220189538558305:=()
def tw18373782713301531520:=()
def tw16540725690240941788:=()
def tw12699138434790391422:=()
def tw4747910589745882522:=()
def tw15366137385358354803:=()
def tw10101683333858904414:=()
def tw16386475147156711506:=()
def tw8387652494230210010:=()
def tw4109883176931471545:=()
def tw580814135010535278:=()
def tw3390406918191788993:=()
def tw14133689942380685326:=()
def tw350072059978577345:=()
def tw2620052354160956701:=()
def tw7267958985593112019:=()
def tw13640553728520222650:=()
def tw1053492883356988518:=()
def tw10306629553461618459:=()
def tw6856396398543582718:=()
def tw1533699308875303329:=()
def tw2634190040481269180:=()
def tw7992263488281114729:=()
def tw6232921081808315070:=()
def tw7883857708695091573:=()
def tw9668494543966775726:=()
def tw17994376841312470645:=()
def tw15088490860664208601:=()
def tw1823668178727655480:=()
def tw8539234952922935210:=()
def tw14808485736808670398:=()
def tw378953707392891280:=()
def tw18329259437321573441:=()
def tw11174760353467734074:=()
def tw16854119939857523366:=()
def tw9998924651391041345:=()
def tw16615700806453828263:=()
def tw16776368488543879599:=()
def tw12196696795187358226:=()
def tw15323380197462219223:=()
def tw12623848500271536580:=()
def tw4009715447751814316:=()
def tw14536474046813871352:=()
def tw7615274113745563911:=()
def tw11909819668484920803:=()
def tw1495269005142052372:=()
def tw8804110636561383890:=()
def tw14599111825518173518:=()
def tw13254179356896758968:=()
def tw14636507106281547818:=()
def tw3167863980164900242:=()
def tw13415909074405344774:=()
def tw10637703732342418888:=()
def tw15082836559786226951:=()
def tw10109172082131720183:=()
def tw3835437463936733560:=()
def tw8099215746648897397:=()
def tw1564163441250331000:=()
def tw14795513353713100563:=()
def tw16374092643415103205:=()
def tw18393323817383770315:=()
def tw15343045945697912069:=()
def tw621812934710385785:=()
def tw872622198703794844:=()
def tw9161524621977342305:=()
def tw11895460450011735319:=()
def tw4789790299399333934:=()
def tw17368700113111579369:=()
def tw16937404673878451614:=()
def tw5946115395356833262:=()
def tw5137228101888757691:=()
def tw2875499391582252400:=()
def tw16739762148238976013:=()
def tw2026518219079080248:=()
def tw5025628623873686476:=()
def tw15079952440222897912:=()
def tw1968283016557754273:=()
def tw9403678349626635367:=()
def tw4794276975656632265:=()
def tw9855818990861011847:=()
def tw2052318641260515915:=()
def tw16125732342301176802:=()
def tw14560342826962918824:=()
def tw1091633904789592611:=()
def tw4349594329974101390:=()
def tw3355508551696896049:=()
def tw10820048352127155556:=()
def tw6656789495045754166:=()
def tw296533556666954198:=()
def tw8266658963222087673:=()
def tw14205699055225247402:=()
def tw12000440760829760744:=()
def tw2177644361502082516:=()
def tw2629114825289242461:=()
def tw7007482496639489667:=()
def tw4734732164800026043:=()
def tw16699418331601793600:=()
def tw9938750723942190809:=()
def tw9487450842093854248:=()
def tw4626897364915286829:=()
def tw16233606516767316814:=()
def tw14931154280983074275:=()
def tw6742902294492511702:=()
def tw11523196002802171571:=()
def tw15156668316365238373:=()
def tw4377411607947051921:=()
def tw15987193109452728769:=()
def tw16612455230644313123:=()
def tw2051096015935713124:=()
def tw4652852514497560322:=()
def tw1500369157909226204:=()
def tw14479323537586432264:=()
def tw787608830389386602:=()
def tw13783478087778130812:=()
def tw13682396962159545087:=()
def tw3769146119286191002:=()
def tw2943630636493244265:=()
def tw4635386355533896027:=()
def tw11259411059249612264:=()
def tw11260450987246148648:=()
def tw4968001493188957064:=()
def tw12803829945902869294:=()
def tw12746360432814126761:=()
def tw2963171475786242835:=()
def tw4027823700591396003:=()
def tw11764892888764745958:=()
def tw3452454385132846591:=()
def tw6428834177785763833:=()
def tw15528533823702779590:=()
def tw10556359339824860669:=()
def tw108755135679281409:=()
def tw11905297680882496040:=()
def tw18260181084581986061:=()
def tw17909503702382578908:=()
def tw13571681194497239046:=()
def tw15537839758732278325:=()
def tw2364040465116064812:=()
def tw10591635641527900112:=()
def tw15461359551611925281:=()
def tw2519251445830554032:=()
def tw7757691383569333303:=()
def tw5063919330924473909:=()
def tw13976904724105628562:=()
def tw3850892497384118943:=()
def tw17279365492550102767:=()
def tw14414781685770457065:=()
def tw16468650979765963215:=()
def tw9205169761501335401:=()
def tw11170153869671028386:=()
def tw15182009223204620945:=()
def tw9113667769818036430:=()
def tw8853594794006669262:=()
def tw11132631818345489035:=()
def tw11659438345149072048:=()
def tw7876564277653249230:=()
def tw2015631809839292377:=()
def tw7271389909758746111:=()
def tw1218995349968388635:=()
def tw2699376069490126760:=()
def tw12904455678725063364:=()
def tw16602160419507635494:=()
def tw6495506179040584210:=()
def tw1915236160488030963:=()
def tw10472952040676751793:=()
def tw11078725302731581003:=()
def tw7320141590416354628:=()
def tw5208730630929944155:=()
def tw11322628931171358266:=()
def tw4669707841803400254:=()
def tw8077569850849366623:=()
def tw4608346117564723837:=()
def tw11238168114483558339:=()
def tw1714958324528445616:=()
def tw17132939957449412434:=()
def tw2227832338343925104:=()
def tw7197893781775730042:=()
def tw12723264340767401993:=()
def tw15731550780235484795:=()
def tw1433134464163134958:=()
def tw8563822281003695519:=()
def tw5020517017727581014:=()
def tw14831287313212696182:=()
def tw2294068956908831081:=()
def tw15723545553617298342:=()
def tw8590190324295277340:=()
def tw1015752609607823590:=()
def tw1743188539280602589:=()
def tw6180413755266535151:=()
def tw624056366283711847:=()
def tw9368732446558022443:=()
def tw82997867560366677:=()
def tw13259497911552537327:=()
def tw2700248199709908683:=()
def tw11327954686793209851:=()
def tw16223667860022007501:=()
def tw3386671442038564556:=()
def tw17708622169934515225:=()
def tw11048465892235698254:=()
def tw17074650855504045416:=()
def tw16702466910444304606:=()
def tw10043305603108855567:=()
def tw1854772387958802643:=()
def tw17897111609285317592:=()
def tw1860554434541176835:=()
def tw1394359477519170302:=()
def tw9279340602224121772:=()
def tw13814712929408065699:=()
def tw16544017198804742686:=()
def tw15805380068273237719:=()
def tw6822190959615040744:=()
def tw17595054958067086246:=()
def tw17470002210686161430:=()
def tw17873411789241722952:=()
def tw10263734258145967889:=()
def tw10583985252245066155:=()
def tw18097738814782827508:=()
def tw6333608100142335260:=()
def tw11751058455607278003:=()
def tw14630114496214452799:=()
def tw2322541639969677134:=()
def tw17128099366049311051:=()
def tw13552454452018075245:=()
def tw447065530008677762:=()
def tw15066384036256888674:=()
def tw9644143101023605550:=()
def tw12888162160304449466:=()
def tw12551397301820536167:=()
def tw6691614908911256397:=()
def tw16225629872619252072:=()
def tw17254156074369367174:=()
def tw4956861829506658151:=()
def tw12676540271292766863:=()
def tw5653057675922438559:=()
def tw10215081136652315733:=()
def tw17783686860951110876:=()
def tw9696797912728634812:=()
def tw9832477848298208183:=()
def tw12830543184257334368:=()
def tw18201791033707956195:=()
def tw240429943768697616:=()
def tw16488481833923082324:=()
def tw8239318179067358280:=()
def tw4048016131784452604:=()
def tw15200825018021556341:=()
def tw17563709901656523640:=()
def tw2352682845020794492:=()
def tw10755344847307451889:=()
def tw6342093994839325270:=()
def tw12707915426749717158:=()
def tw7152302226334765406:=()
def tw8535858819539461713:=()
def tw3802121502291690687:=()
def tw17378271191937649759:=()
def tw5329899578891864157:=()
def tw3996849392541674493:=()
def tw16695139675060071320:=()
def tw16171028194686302647:=()
def tw7492584526136797657:=()
def tw15662941248319707725:=()
def tw7969243781826888226:=()
def tw3030591724449508868:=()
def tw5908169265033434264:=()
def tw4575763329622987702:=()
def tw469117582543195876:=()
def tw12178671060159174317:=()
def tw436339812416083453:=()
def tw18017970060708844734:=()
def tw14491641602427866049:=()
def tw9149416786559181956:=()
def tw14527909190269562826:=()
def tw15878902436680064509:=()
def tw9988254647646289605:=()
def tw16270031007433849806:=()
def tw462699318245967272:=()
def tw948598462311857504:=()
def tw16009608201293729679:=()
def tw4181138295222533766:=()
def tw7379168892160387773:=()
def tw472086700920555504:=()
def tw12921848734835752520:=()
def tw4284330541728891555:=()
def tw13413572141524250036:=()
def tw2509149253287871911:=()
def tw7800931462420015631:=()
def tw17380286339785389493:=()
def tw13595861505503357215:=()
def tw11589017699232069904:=()
def tw7777466684425399676:=()
def tw10254854171023022170:=()
def tw6186401831868407674:=()
def tw2273359210367338804:=()
def tw16654872682012159927:=()
def tw112838110225611458:=()
def tw16963030980116178118:=()
def tw14760188110815800648:=()
def tw13190547918284309641:=()
def tw15284563392590547643:=()
def tw2066428266822330339:=()
def tw4490196807076733375:=()
def tw15255001870963260816:=()
def tw6586440439535786304:=()
def tw15488158380845402867:=()
def tw3162189253429519368:=()
def tw11595908499384657624:=()
def tw17916952598793355157:=()
def tw11974133465621864933:=()
def tw17210804432288568890:=()
def tw9372343849217451335:=()
def tw9400036562750583830:=()
def tw6773338355502082439:=()
def tw13499310280708372526:=()
def tw10339738599849567595:=()
def tw3794857440004581379:=()
def tw13140939359792314304:=()
def tw5305565034541967164:=()
def tw5687580951736265334:=()
def tw14960006651248493392:=()
def tw16567781021716938960:=()
def tw7375999708248279808:=()
def tw2600378522067466074:=()
def tw1827981400534728645:=()
def tw55563428719115119:=()
def tw16862433738733744447:=()
def tw10905492277388113347:=()
def tw15257403781315383094:=()
def tw1702648297842102799:=()
def tw10318150143714840861:=()
def tw17195847504919333671:=()
def tw15946871860417963536:=()
def tw12878454621689873421:=()
def tw8122812866799828662:=()
def tw10934510670263459138:=()
def tw2611677096092155618:=()
def tw8633756285230645001:=()
def tw3478947656990790830:=()
def tw2650398112530934205:=()
def tw9195861179921404173:=()
def tw8401202289217650290:=()
def tw4325298462007501998:=()
def tw854158863646717873:=()
def tw6546214084038341453:=()
def tw16466144346889359222:=()
def tw626079350709625902:=()
def tw16039134578646449368:=()
def tw500718100530025280:=()
def tw11291201007946724976:=()
def tw15048264288322885953:=()
def tw10730269398105361535:=()
def tw13174366108102832933:=()
def tw2314643865489994747:=()
def tw12822613112352134008:=()
end PySem.W.Fast
open PySem PySem.W PyProof.Rows
set_option maxRecDepth 100000 in
set_option maxHeartbeats 0 in
theorem PySem.Challenge.cw_noteworth_k46_whole_books_there_and_back_holds : PySem.Challenge.rw_noteworth_k46_whole_books_there_and_back.Holds := by
 w_on;o_law;k_head;(case hw=>w_witness2)
 k_fill
 refine cC.walk (l:=PySem.Challenge.rw_noteworth_k46_whole_books_there_and_back) rfl rfl (fun w h Y=>PySem.W.kIn_of Y) ?F
 case F =>
  intro w mg fa h KX G hmg;refine cC.all_mk (t:=?t) hmg ?T
  case' t=>apply cC.OS.mk
  case T =>
   constructor
   iterate 40 ((try dsimp only);refine' PySem.W.mg_of KX G ?_;k_is)
   iterate 15 (refine' PySem.W.mg_none_of KX G ?_;k_is)
   iterate 59 ((try dsimp only);apply cC.gE KX G;(iterate 4 k_is);(intro us e;first|(obtain rfl:=cC.Kn e;rfl)|(obtain⟨_,rfl⟩:=cC.Ko e;rfl)|(obtain⟨_,_,rfl⟩:=cC.GX e;rfl)|(obtain⟨_,_,_,rfl⟩:=cC.GY e;rfl)|(obtain⟨_,_,_,_,rfl⟩:=cC.Kp e;rfl)|(obtain⟨_,_,_,_,_,rfl⟩:=cC.Kq e;rfl)|(obtain⟨_,_,_,_,_,_,rfl⟩:=cC.GZ e;rfl)|(obtain⟨_,_,_,_,_,_,_,rfl⟩:=cC.Kr e;rfl)|(obtain⟨_,_,_,_,_,_,_,_,rfl⟩:=cC.Og e;rfl)))
   iterate 3 ((try dsimp only);apply cC.gDE KX G;(iterate 5 k_is))
   iterate 3 ((try dsimp only);apply cC.iE;(iterate 7 k_is);(intro us e;first|(obtain rfl:=cC.Kn e;rfl)|(obtain⟨_,rfl⟩:=cC.Ko e;rfl)|(obtain⟨_,_,rfl⟩:=cC.GX e;rfl)|(obtain⟨_,_,_,rfl⟩:=cC.GY e;rfl)|(obtain⟨_,_,_,_,rfl⟩:=cC.Kp e;rfl)|(obtain⟨_,_,_,_,_,rfl⟩:=cC.Kq e;rfl)|(obtain⟨_,_,_,_,_,_,rfl⟩:=cC.GZ e;rfl)|(obtain⟨_,_,_,_,_,_,_,rfl⟩:=cC.Kr e;rfl)|(obtain⟨_,_,_,_,_,_,_,_,rfl⟩:=cC.Og e;rfl)))
   iterate 19 ((try dsimp only);apply cC.mE;(iterate 5 k_is);(intro us e;first|(obtain rfl:=cC.Kn e;rfl)|(obtain⟨_,rfl⟩:=cC.Ko e;rfl)|(obtain⟨_,_,rfl⟩:=cC.GX e;rfl)|(obtain⟨_,_,_,rfl⟩:=cC.GY e;rfl)|(obtain⟨_,_,_,_,rfl⟩:=cC.Kp e;rfl)|(obtain⟨_,_,_,_,_,rfl⟩:=cC.Kq e;rfl)|(obtain⟨_,_,_,_,_,_,rfl⟩:=cC.GZ e;rfl)|(obtain⟨_,_,_,_,_,_,_,rfl⟩:=cC.Kr e;rfl)|(obtain⟨_,_,_,_,_,_,_,_,rfl⟩:=cC.Og e;rfl)))
   ((try dsimp only);apply cC.mDE;(iterate 6 k_is))
   iterate 3 ((try dsimp only);apply cC.qE;k_is;exact rfl;exact(.cons ⟨_,rfl⟩ (.cons ⟨_,rfl⟩ (.cons ⟨_,rfl⟩ .nil))))
   ((try dsimp only);apply cC.qE;k_is;exact rfl;exact(.cons ⟨_,rfl⟩ (.cons ⟨_,rfl⟩ .nil)))
   ((try dsimp only);apply cC.qE;k_is;exact rfl;exact(.cons ⟨_,rfl⟩ (.cons ⟨_,rfl⟩ (.cons ⟨_,rfl⟩ (.cons ⟨_,rfl⟩ .nil)))))
   ((try dsimp only);apply cC.qE;k_is;exact rfl;exact(.cons ⟨_,rfl⟩ (.cons ⟨_,rfl⟩ (.cons ⟨_,rfl⟩ (.cons ⟨_,rfl⟩ (.cons ⟨_,rfl⟩ .nil))))))
   ((try dsimp only);apply cC.kE;k_is;exact(.cons ⟨_,rfl⟩ (.cons ⟨_,rfl⟩ .nil));exact rfl;decide +kernel)
   ((try dsimp only);apply cC.kE;k_is;exact(.cons ⟨_,rfl⟩ (.cons ⟨_,rfl⟩ (.cons ⟨_,rfl⟩ (.cons ⟨_,rfl⟩ (.cons ⟨_,rfl⟩ (.cons ⟨_,rfl⟩ (.cons ⟨_,rfl⟩ (.cons ⟨_,rfl⟩ (.cons ⟨_,rfl⟩ .nil)))))))));exact rfl;decide +kernel)
   ((try dsimp only);apply cC.kE;k_is;exact(.cons ⟨_,rfl⟩ (.cons ⟨_,rfl⟩ .nil));exact rfl;decide +kernel)
   ((try dsimp only);apply cC.qE;k_is;exact rfl;exact(.cons ⟨_,rfl⟩ (.cons ⟨_,rfl⟩ (.cons ⟨_,rfl⟩ (.cons ⟨_,rfl⟩ (.cons ⟨_,rfl⟩ (.cons ⟨_,rfl⟩ (.cons ⟨_,rfl⟩ (.cons ⟨_,rfl⟩ (.cons ⟨_,rfl⟩ (.cons ⟨_,rfl⟩ .nil)))))))))))
   ((try dsimp only);apply cC.kE;k_is;exact(.cons rfl (.cons rfl .nil));exact rfl;decide +kernel)
   iterate 3 ((try dsimp only);constructor;(iterate 4 k_is))
   iterate 10 ((try dsimp only);show _=some none;k_is)
   iterate 10 ((try dsimp only);constructor;(apply L2.SV.mk;k_is;kernel_rfl;k_is;kernel_rfl);(iterate 3 k_is))
   iterate 65 ((try dsimp only);kts_exm)
