import PyProof.Rows.All
import Wide.All
import OpenK.AllK
import Wide.FinOn
import Lean
import PyProof.EqAt
import PyProof.EqKinds
import PyProof.TupleCall
import PySem.Challenge.RW_noteworth_k47_first_bad_row
set_option Elab.async false
set_option linter.all false
set_option maxRecDepth 100000
open PySem.W (Frag InstAt KitX Looks OpenLaw WalkO callWith_K callWith_K0 cellsFrom_some clsIn codeIn codeRec_of emptyDict excIn exmOne exm_one findIn fnOf handedIn hasDictIn hideAll hideAll_get hideAll_none instObj isFn isNs_of_in keepIn kia_one kitAny kitOne kitx_dict kitx_list lookIn looks_clsIn looks_findIn makesIn methodCall_KW methodObj mg_of mroIn notCls nsIn nsOkIn occ_nil_of_no of_hideAll plainGet plainGet_of plainOver set_plain specialIn tailIn tail_of_in takerIn typeIn)
open List (length_map length_append length_take length_drop mem_append mem_singleton mem_cons_self mem_cons_of_mem mem_append_left mem_append_right mem_of_getElem? size_toArray take_length getElem?_map map_append map_cons length_cons take_succ getElem?_eq_getElem getElem?_append_left mem_map any_eq_true all_eq_true length_range mem_range getElem?_drop append_nil nil_append getElem?_of_mem)
open PySem.F (entry_zip_next excBase_ValueError plainAttrs_list plainAttrs_str slot_dict_get slot_enumerate_next slot_list_clear slot_str_join slot_str_split slot_zip_next type_list_clear type_str_join type_str_split)
noncomputable section
set_option compiler.extract_closed false
set_option bootstrap.genMatcherCode false
set_option genSizeOf false
local macro_rules | `(tactic| lk) => `(tactic| decide +kernel)
local macro_rules | `(tactic| z_go) => `(tactic| first | (exact fun _ _ _ _ _ _ us hl => match us, hl with | [_], _ => rfl) | (exact fun _ _ _ _ _ _ us hl => match us, hl with | [_, _], _ => rfl) | (exact fun _ _ _ _ _ _ us hl => match us, hl with | [_, _, _], _ => rfl) | (exact fun _ _ _ _ _ _ us hl => match us, hl with | [_, _, _, _], _ => rfl) | (exact fun _ _ _ _ _ _ us hl => match us, hl with | [_, _, _, _, _], _ => rfl) | (exact fun _ _ _ _ _ _ us hl => match us, hl with | [_, _, _, _, _, _], _ => rfl))
def G' := @of_decide_eq_true
def K' := @PySem.wpAny_bind
def L' := @decide_eq_true
def P' := @List.length_map
def R' := @List.getElem?_eq_getElem
def S' := @List.getElem?_eq_some_iff
def U' := @PySem.Heap.get?_push_of_some
def V' := @decide_eq_false
def W' := @Option.some.inj
def X' := @Nat.le_refl
def Y' := @Bool.eq_false_iff
def Z' := @PySem.wpAny_pure
def j' := @absurd
def Za' := @if_neg
def Zb' := @PySem.Heap.lt_size
def Zc' := @if_pos
def Zd' := @List.length_append
def Ze' := @Nat.lt_of_lt_of_le
def Zf' := @Nat.le_trans
def Zg' := @Bool.false_ne_true
def Zh' := @List.mem_of_getElem?
def Zi' := @PySem.Heap.get?_push_size
def Zj' := @PySem.F.plainAttrs_list
def Zk' := @List.length_cons
def Zl' := @List.getElem?_map
def Zm' := @List.size_toArray
def Zn' := @congrArg
def Zo' := @Nat.ne_of_lt
def Zp' := @PySem.F.type_list_append
namespace L2
open PySem PySem.Spec PyProof.Rows
noncomputable abbrev Key:=Sum Int Str
noncomputable def yw:Key->Value->Bool
 |.inl k,v=>Value.isInt k v
 |.inr x,v=>Value.isStrOf x v
noncomputable def Vd (w:World):Key->Int
 |.inl k=>hashInt k
 |.inr x=>hashStr w x
theorem de:∀{k:Key} {v:Value},yw k v=true->(∃ i t,k=Sum.inl i/\v=Value.int i t)\/(∃ x t,k=Sum.inr x/\v=Value.str x t)
 |.inl i,v,h=>by
  obtain⟨t,e⟩:=Value.isInt_shape (k:=i) (v:=v) h;exact .inl ⟨i,t,rfl,e⟩
 |.inr x,v,h=>by
  obtain⟨t,e⟩:=Value.isStrOf_shape (x:=x) (v:=v) h;exact .inr ⟨x,t,rfl,e⟩
theorem JG (i:Int)(t:Tok):yw (.inl i) (.int i t)=true:=by simp[yw,Value.isInt]
theorem JH (x:Str)(t:Tok):yw (.inr x) (.str x t)=true:=by simp[yw,Value.isStrOf]
theorem P0 (a b:Int):decide ((Sum.inl a:Key)=Sum.inl b)=(a==b):=by
 by_cases e:a=b
 ·subst e;simp
 ·have h:¬(Sum.inl a:Key)=Sum.inl b:=fun q=>e (Sum.inl.inj q);rw[V' h];exact(beq_eq_false_iff_ne.mpr e).symm
theorem P1 (a b:Str):decide ((Sum.inr a:Key)=Sum.inr b)=decide (a=b):=by
 by_cases e:a=b
 ·subst e;simp
 ·have h:¬(Sum.inr a:Key)=Sum.inr b:=fun q=>e (Sum.inr.inj q);rw[V' h,V' e]
theorem P2 (a:Int)(b:Str):decide ((Sum.inl a:Key)=Sum.inr b)=false:=V' (fun q=>nomatch q)
theorem P4 (a:Str)(b:Int):decide ((Sum.inr a:Key)=Sum.inl b)=false:=V' (fun q=>nomatch q)
noncomputable def ck (prog:Program)(w:World):PySem.KeyKind prog w Key where
 is:=yw
 hash:=Vd w
 inj:=fun v a b ha hb=>by
  rcases de ha with ⟨i,t,rfl,rfl⟩|⟨x,t,rfl,rfl⟩
  ·rcases de hb with ⟨j,u,rfl,e⟩|⟨y,u,rfl,e⟩
   ·injection e with e1 _;rw[e1]
   ·exact nomatch e
  ·rcases de hb with ⟨j,u,rfl,e⟩|⟨y,u,rfl,e⟩
   ·exact nomatch e
   ·injection e with e1 _;rw[e1]
 byValue:=fun k v h=>by
  rcases de h with ⟨i,t,rfl,rfl⟩|⟨x,t,rfl,rfl⟩ <;> rfl
 pyHash:=fun hv h=>by
  rcases de hv with ⟨i,t,rfl,rfl⟩|⟨x,t,rfl,rfl⟩
  ·exact wpAny_pyHash_int h
  ·exact wpAny_pyHash_str h
 eqBool:=fun hu hv h=>by
  rcases de hu with ⟨i,t,rfl,rfl⟩|⟨x,t,rfl,rfl⟩
  ·rcases de hv with ⟨j,u,rfl,rfl⟩|⟨y,u,rfl,rfl⟩
   ·rw[P0]at h;exact wpAny_eqBool_int h
   ·rw[P2]at h;exact SeqAt.EqAt.int_str i t y u _ _ _ _ h
  ·rcases de hv with ⟨j,u,rfl,rfl⟩|⟨y,u,rfl,rfl⟩
   ·rw[P4]at h;exact SeqAt.EqAt.str_int x t j u _ _ _ _ h
   ·rw[P1]at h;exact wpAny_eqBool_str h
 «strs»:=fun k x t v h=>by
  rcases de h with ⟨i,u,rfl,e⟩|⟨y,u,rfl,e⟩
  ·exact nomatch e
  ·injection e with e1 _
   subst e1;cases v <;> rfl
theorem D3 (prog:Program)(w:World)(i:Int)(t:Tok):(ck prog w).is (.inl i) (.int i t)=true:=JG i t
theorem eW (prog:Program)(w:World)(x:Str)(t:Tok):(ck prog w).is (.inr x) (.str x t)=true:=JH x t
end L2
namespace L2
open PySem PySem.Spec PyProof.Rows
inductive V where
 |non|bl (b:Bool)|int (i:Int)|str (x:Str)|Lc (b:Array UInt8)|flt (b:UInt64)|ref (a:Addr)|ty (n:String)
 deriving DecidableEq
noncomputable def RelV:V->Value->Prop
 |.non,u=>u=Value.none
 |.bl b,u=>u=Value.bool b
 |.int i,u=>∃ t,u=Value.int i t
 |.str x,u=>∃ t,u=Value.str x t
 |.Lc b,u=>∃ t,u=Value.bytes b t
 |.flt b,u=>∃ t,u=Value.float b t
 |.ref a,u=>u=Value.ref a
 |.ty n,u=>u=Value.type n
abbrev Vals:List V->List Value->Prop:=Paired RelV
theorem Vals.length {xs:List V}{us:List Value}(r:Vals xs us):xs.length=us.length:=Paired.length r
theorem Vals.get:∀{xs:List V} {us:List Value} {i:Nat} {x:V},Vals xs us->xs[i]? = some x->∃ u,us[i]? = some u/\RelV x u
 |_,_,_,_,.nil,e=>by simp at e
 |_,_,0,_,.cons r _,e=>by simp at e;subst e;exact⟨_,rfl,r⟩
 |_,_,i+1,x,.cons _ t,e=>by
  obtain⟨u,h1,h2⟩:=Vals.get (i:=i) (x:=x) t (by simpa using e);exact⟨u,by simpa using h1,h2⟩
theorem Vals.set {x:V}{u:Value}(r:RelV x u):∀{xs:List V} {us:List Value} (i:Nat),Vals xs us->Vals (xs.set i x) (us.set i u)
 |_,_,_,.nil=>.nil
 |_,_,0,.cons _ t=>.cons r t
 |_,_,i+1,.cons q t=>.cons q (Vals.set r i t)
theorem Vals.append:∀{xs ys:List V} {us ws:List Value},Vals xs us->Vals ys ws->Vals (xs++ys) (us++ws)
 |_,_,_,_,.nil,s=>s
 |_,_,_,_,.cons r t,s=>.cons r (Vals.append t s)
theorem Vals.take:∀{xs:List V} {us:List Value} (n:Nat),Vals xs us->Vals (xs.take n) (us.take n)
 |_,_,0,_=>.nil
 |_,_,_+1,.nil=>.nil
 |_,_,n+1,.cons r t=>.cons r (Vals.take n t)
theorem Vals.drop:∀{xs:List V} {us:List Value} (n:Nat),Vals xs us->Vals (xs.drop n) (us.drop n)
 |_,_,0,r=>r
 |_,_,_+1,.nil=>.nil
 |_,_,n+1,.cons _ t=>Vals.drop n t
noncomputable def jC:Option V->Option Value->Prop
 |some v,some u=>RelV v u
 |none,none=>True
 |_,_=>False
noncomputable def KV {κ:Type}:List (κ×V)->List (κ×Value)->Prop:=Paired fun(p:κ×V)(q:κ×Value)=>p.1=q.1/\RelV p.2 q.2
noncomputable def kV:Key->V
 |.inl i=>.int i
 |.inr x=>.str x
inductive HO where
 /-- a list -/
 |lst (xs:List V)
 /-- a tuple (never changes) -/
 |tup (xs:List V)
 /-- a dict whose keys are ints and texts;one whose keys are tuples of ints and texts (the empty one is both) -/
 |dK (kvs:List (Key×V))|dT (kvs:List (List Key×V))
 /-- a set of ints: its members,its size -/
 |set (S:Int->Bool) (n:Nat)
 /-- an instance of the class at C,its dict at dx,its attributes -/
 |ins (C dx:Addr) (fs:List (Str×V))
 /-- the dict of the instance at x -/
 |own (x:Addr)
 /-- the dict of an exception -/
 |xd (fs:List (Str×V))
 /-- a bound method,f of x -/
 |met (f x:Addr)
 /-- a range object lo,lo+1,.. below hi -/
 |Uw (lo hi:Int)
 /-- a thing that is known to the object (the script;a dict while a loop walks it): read,never written while it is so -/
 |Gz (o:Obj) (u:HO)
 /-- a code object's table -/
 |O4 (ps:Array Value)
 /-- any other thing,by what is true of its one object (a def of one's own: Ys a S n:=HO.ext fun h=>..) -/
 |ext (φ:Heap->Prop)
noncomputable abbrev Hp:=Addr->Option HO
noncomputable def upd (H:Hp)(a:Addr)(o:HO):Hp:=fun b=>if b=a then some o else H b
theorem ag {H:Hp}{a:Addr}{o:HO}:upd H a o a=some o:=by unfold upd;rw[Zc' rfl]
theorem ak {H:Hp}{a b:Addr}{o:HO}(h:b≠a):upd H a o b=H b:=by unfold upd;rw[Za' h]
theorem cq {H:Hp}{a:Addr}{o u:HO}:upd (upd H a o) a u=upd H a u:=by
 funext b;unfold upd;split <;> rfl
theorem qi {H:Hp}{a b:Addr}{o u:HO}(h:H a=some o)(h':H b=some u)(d:o≠u):a≠b:=by
 intro e;subst e;rw[h]at h';exact d (W' h')
theorem au {H:Hp}{a b:Addr}{o:HO}(h:H a=some o)(h':H b=none):a≠b:=by
 intro e;subst e;rw[h]at h';cases h'
section
variable (P:Program) (w:World)
noncomputable def cP (H:Hp)(h:Heap)(a:Addr):HO->Prop
 |.lst xs=>xs.length<=sizeLine/\∃(its:List Value)(n:Nat),Vals xs its/\h.get? a=some { cls:=.type "list",data:=.seq its.toArray n }
 |.tup xs=>xs.length<=sizeLine/\∃ its:List Value,Vals xs its/\IsTup h a its.toArray
 |.dK kvs=>kvs.length<=sizeLine/\(a==sysModules)=false/\∃ vs,KV kvs vs/\h.DictOf (ck P w) a vs
 |.dT kvs=>kvs.length<=sizeLine/\(a==sysModules)=false/\∃ xs:List (List Key×Addr×Value),
   Paired (fun(p:List Key×V)(q:List Key×Addr×Value)=>p.1=q.1/\H q.2.1=some (.tup (p.1.map kV))/\RelV p.2 q.2.2) kvs xs /\
   ∃ o es ep,h.get? a=some o/\o.ExactDict/\o.data=.dict es ep/\es.toList=xs.map (entryOfKey (tupleKind (ck P w)))/\(xs.map (·.1)).Nodup
 |.set S n=>h.SetOf (intKind P w) a S n
 |.ins C dx fs=>H dx=some (.own a)/\fs.length<=1000/\dx≠a/\h.get? a=some (instObj C dx) /\
   ∃ mA,h.Ns1 dx mA/\(∀ f,jC (fs.lookup f) (mA f))/\PySem.Within mA (fs.map (·.1))
 |.own _=>∃ o,h.get? a=some o
 |.xd fs=>∃ mA,h.Ns1 a mA/\∀ f,jC (fs.lookup f) (mA f)
 |.Uw lo hi=>∃ t u v,h.get? a=some { cls:=.type "range",data:=.fields #[.int lo t,.int hi u,.int 1 v] }
 |.Gz o u=>h.get? a=some o/\cP H h a u
 |.O4 ps=>h.get? a=some { cls:=.none,data:=.fields ps }
 |.met f x=>h.get? a=some (methodObj (.ref f) (.ref x))
 |.ext φ=>φ h/\(∃ o,h.get? a=some o)/\∀ h1 h2:Heap,φ h1->(∀ o,h1.get? a=some o->h2.get? a=some o)->φ h2
noncomputable def oj (H:Hp)(h:Heap):Prop:=∀ a o,H a=some o->cP P w H h a o
end
section
variable {P:Program} {w:World} {H H':Hp} {h h':Heap} {a:Addr} {o:HO}
theorem cP.lt (x:cP P w H h a o):a<h.objs.size:=by
 cases o with
 |lst xs=>obtain⟨_,_,_,_,e⟩:=x;exact Zb' e
 |tup xs=>obtain⟨_,_,_,p⟩:=x;exact p.lt
 |dK kvs=>obtain⟨_,_,_,_,o,_,_,e,_⟩:=x;exact Zb' e
 |dT kvs=>obtain⟨_,_,_,_,o,_,_,e,_⟩:=x;exact Zb' e
 |set S n=>obtain⟨o,_,_,_,e,_⟩:=x;exact Zb' e
 |ins C dx fs=>obtain⟨_,_,_,e,_⟩:=x;exact Zb' e
 |own y=>obtain⟨_,e⟩:=x;exact Zb' e
 |xd fs=>obtain⟨_,⟨_,_,_,e,_⟩,_⟩:=x;exact Zb' e
 |Uw lo hi=>obtain⟨_,_,_,e⟩:=x;exact Zb' e
 |Gz ob u=>obtain⟨e,_⟩:=x;exact Zb' e
 |O4 ps=>exact Zb' (show h.get? a=some _ from x)
 |met f y=>exact Zb' (show h.get? a=some _ from x)
 |ext φ=>obtain⟨_,⟨_,e⟩,_⟩:=x;exact Zb' e
theorem Paired.P5 {α β:Type}{F G:α->β->Prop}:∀{l₁:List α} {l₂:List β},Paired F l₁ l₂->(∀ a b,F a b->G a b)->Paired G l₁ l₂
 |_,_,.nil,_=>.nil
 |_,_,.cons r t,f=>.cons (f _ _ r) (Paired.P5 t f)
theorem cP.stay (x:cP P w H h a o)(k:∀ b u,(b=a\/H b=some (.own a))->h.get? b=some u->h'.get? b=some u)
  (ho:∀ b,H b=some (.own a)->H' b=some (.own a)) (ht:∀ b xs,H b=some (.tup xs)->H' b=some (.tup xs)):cP P w H' h' a o:=by
 induction o with
 |lst xs=>obtain⟨z,its,n,r,e⟩:=x;exact⟨z,its,n,r,k _ _ (.inl rfl) e⟩
 |tup xs=>obtain⟨z,its,r,ob,e,c⟩:=x;exact⟨z,its,r,ob,k _ _ (.inl rfl) e,c⟩
 |dK kvs=>obtain⟨z,y,vs,r,ob,es,ep,e,c⟩:=x;exact⟨z,y,vs,r,ob,es,ep,k _ _ (.inl rfl) e,c⟩
 |dT kvs =>
  obtain⟨z,y,xs,r,ob,es,ep,e,c⟩:=x;exact⟨z,y,xs,Paired.P5 r fun p q z=>⟨z.1,ht _ _ z.2.1,z.2.2⟩,ob,es,ep,k _ _ (.inl rfl) e,c⟩
 |set S n=>obtain⟨ob,es,ep,t,e,c⟩:=x;exact⟨ob,es,ep,t,k _ _ (.inl rfl) e,c⟩
 |ins C dx fs =>
  obtain⟨d,z,ne,e,mA,⟨od,es,ep,e2,c⟩,r⟩:=x;exact⟨ho _ d,z,ne,k _ _ (.inl rfl) e,mA,⟨od,es,ep,k _ _ (.inr d) e2,c⟩,r⟩
 |own y=>obtain⟨ob,e⟩:=x;exact⟨ob,k _ _ (.inl rfl) e⟩
 |xd fs=>obtain⟨mA,⟨od,es,ep,e,c⟩,r⟩:=x;exact⟨mA,⟨od,es,ep,k _ _ (.inl rfl) e,c⟩,r⟩
 |Uw lo hi=>obtain⟨t,u,v,e⟩:=x;exact⟨t,u,v,k _ _ (.inl rfl) e⟩
 |Gz ob u ih=>obtain⟨e,q⟩:=x;exact⟨k _ _ (.inl rfl) e,ih q⟩
 |O4 ps =>
  have e:h.get? a=some { cls:=.none,data:=.fields ps }:=x;show h'.get? a=some { cls:=.none,data:=.fields ps };exact k a _ (.inl rfl) e
 |met f y =>
  have e:h.get? a=some (methodObj (.ref f) (.ref y)):=x;show h'.get? a=some (methodObj (.ref f) (.ref y));exact k a _ (.inl rfl) e
 |ext φ=>obtain⟨p,⟨o,e⟩,st⟩:=x;exact⟨st _ _ p fun o q=>k _ _ (.inl rfl) q,⟨o,k _ _ (.inl rfl) e⟩,st⟩
theorem oj.lt (x:oj P w H h)(e:H a=some o):a<h.objs.size:=(x a o e).lt
theorem oj.fresh (x:oj P w H h)(e:h.objs.size<=a):H a=none:=by
 cases q:H a with
 |none=>rfl
 |some u=>exact j' (Ze' (x.lt q) e) (Nat.lt_irrefl _)
theorem oj.kept (x:oj P w H h)(k:∀ b u,h.get? b=some u->h'.get? b=some u):oj P w H h':=fun a o e =>
 (x a o e).stay (fun b u _ q=>k b u q) (fun _ q=>q) fun _ _ q=>q
theorem oj.laid (x:oj P w H h)(k:∀ b u,h.get? b=some u->h'.get? b=some u)(hp:h.objs.size<=a)(new:cP P w (upd H a o) h' a o):oj P w (upd H a o) h':=fun b u e=>by
 have hn:=x.fresh hp
 by_cases hb:b=a
 ·subst hb;rw[ag]at e;cases e;exact new
 ·rw[ak hb]at e;exact(x b u e).stay (fun c v _ q=>k c v q) (fun c q=>by rw[ak (au q hn)];exact q) fun c xs q=>by rw[ak (au q hn)];exact q
end
noncomputable def Rd (H:Hp)(a:Addr)(u:HO):Prop:=H a=some u\/∃ o,H a=some (.Gz o u)
theorem Rd.ok {P:Program}{w:World}{H:Hp}{h:Heap}{a:Addr}{u:HO}(r:Rd H a u)(x:oj P w H h):cP P w H h a u:=by
 rcases r with r|⟨o,r⟩
 ·exact x a u r
 ·obtain⟨_,q⟩:=x a _ r;exact q
noncomputable def R9:Option HO->Prop
 |some (.lst _)=>True
 |some (.dK _)=>True
 |some (.dT _)=>True
 |some (.set _ _)=>True
 |some (.ins _ _ _)=>True
 |some (.ext _)=>True
 |_=>False
section
variable {P:Program} {w:World} {H:Hp} {h h':Heap} {x e:Addr} {o':HO}
theorem oj.write (ok:oj P w H h)(mu:R9 (H x))(he:e=x\/H e=some (.own x))(k:∀ b u,b≠e->h.get? b=some u->h'.get? b=some u)(heo:∃ u,h'.get? e=some u)
  (new:cP P w (upd H x o') h' x o'):oj P w (upd H x o') h':=fun b u q=>by
 have Sa:∀ c y,H c=some (.own y)->c≠x:=fun c y r z=>by subst z;rw[r]at mu;exact mu
 have Ve:∀ c xs,H c=some (.tup xs)->c≠x:=fun c xs r z=>by subst z;rw[r]at mu;exact mu
 by_cases hb:b=x
 ·subst hb;rw[ag]at q;cases q;exact new
 ·rw[ak hb]at q
  by_cases hbe:b=e
  ·have q':H b=some (.own x):=by
    rcases he with z|z
    ·exact j' (hbe.trans z) hb
    ·rw[hbe];exact z
   rw[q]at q';cases q';obtain⟨v,hv⟩:=heo;exact⟨v,by rw[hbe];exact hv⟩
  ·refine(ok b u q).stay (fun c v hc r=>k c v ?_ r) (fun c r=>by rw[ak (Sa c b r)];exact r) fun c xs r=>by rw[ak (Ve c xs r)];exact r
   rcases hc with rfl|hc
   ·exact hbe
   ·rintro rfl;rcases he with z|z
    ·exact Sa c b hc z
    ·rw[hc]at z;cases z;exact hb rfl
end
structure Un (fs ex:List Addr)(H H':Hp)(h h':Heap):Prop where
 keep:∀ b o,h.get? b=some o->H b=none->b ∉ fs->b ∉ ex->h'.get? b=some o
 slot:∀ b o,h.get? b=some o->H b=none->b∈fs->b ∉ ex->∃ sl,h'.get? b=some { o with slots:=sl }
 free:∀ b o,h.get? b=some o->H b=none->b ∉ ex->H' b=none
 there:∀ b o,h.get? b=some o->b ∉ ex->∃ o',h'.get? b=some o'
 tups:∀ b xs,H b=some (.tup xs)->H' b=some (.tup xs)
 si:∀ b o u,H b=some (.Gz o u)->H' b=some (.Gz o u)
 uV:∀ b ps,H b=some (.O4 ps)->∃ more,H' b=some (.O4 (ps++more))
section
variable {fs fs' ex ex':List Addr} {H H1 H2:Hp} {h h1 h2 h':Heap} {a x e:Addr} {o:HO}
theorem Un.any (u:Un fs ex H H1 h h1){b:Addr}{ob:Obj}(q:h.get? b=some ob)(n:H b=none)(hx:b ∉ ex):∃ sl,h1.get? b=some { ob with slots:=sl }:=by
 by_cases hb:b∈fs
 ·exact u.slot b ob q n hb hx
 ·exact⟨ob.slots,u.keep b ob q n hb hx⟩
theorem Un.kept (k:∀ b u,h.get? b=some u->h'.get? b=some u):Un fs ex H H h h' :=
 ⟨fun b ob q _ _ _=>k b ob q,fun b ob q _ _ _=>⟨ob.slots,k b ob q⟩,fun _ _ _ n _=>n,fun b ob q _=>⟨ob,k b ob q⟩,fun _ _ q=>q,fun _ _ _ q=>q,fun _ ps q=>⟨#[],by rw[q];simp⟩⟩
theorem Un.refl:Un fs ex H H h h:=Un.kept fun _ _ q=>q
theorem Un.laid (k:∀ b u,h.get? b=some u->h'.get? b=some u)(hp:h.objs.size<=a)(hn:H a=none):Un fs ex H (upd H a o) h h' where
 keep:=fun b u q _ _ _=>k b u q
 slot:=fun b u q _ _ _=>⟨u.slots,k b u q⟩
 free:=fun b u q n _=>by rw[ak (Zo' (Ze' (Zb' q) hp))];exact n
 there:=fun b u q _=>⟨u,k b u q⟩
 tups:=fun b xs q=>by rw[ak (au q hn)];exact q
 si:=fun b u xs q=>by rw[ak (au q hn)];exact q
 uV:=fun b ps q=>⟨#[],by rw[ak (au q hn),q];simp⟩
theorem Un.write (mu:R9 (H x))(he:e=x\/H e=some (.own x))(k:∀ b u,b≠e->h.get? b=some u->h'.get? b=some u)(heo:∃ u,h'.get? e=some u):Un fs ex H (upd H x o) h h':=by
 have hx:∀ b,H b=none->b≠x:=fun b n z=>by subst z;rw[n]at mu;exact mu
 have hb:∀ b,H b=none->b≠e:=fun b n z=>by
  subst z;rcases he with r|r
  ·exact hx b n r
  ·rw[n]at r;cases r
 have hm:∀ b u,H b=some u->¬ R9 (some u)->b≠x:=fun b u q nm z=>by subst z;rw[q]at mu;exact nm mu
 refine⟨fun b u q n _ _=>k b u (hb b n) q,fun b u q n _ _=>⟨u.slots,k b u (hb b n) q⟩,fun b u q n _=>by rw[ak (hx b n)];exact n,fun b u q _=>?_,
  fun b xs q=>by rw[ak (hm b _ q fun z=>z)];exact q,fun b u xs q=>by rw[ak (hm b _ q fun z=>z)];exact q,fun b ps q=>⟨#[],by rw[ak (hm b _ q fun z=>z),q];simp⟩⟩
 by_cases hbe:b=e
 ·subst hbe;exact heo
 ·exact⟨u,k b u hbe q⟩
end
noncomputable def Ux (h:Heap)(H:Hp):List Addr:=(List.range h.objs.size).filter fun a=>(H a).isSome
noncomputable def CN (h:Heap)(H:Hp):Heap:=hideAll h (Ux h H)
theorem JI (h:Heap)(H:Hp):(CN h H).objs.size=h.objs.size:=PySem.W.hideAll_size _ _
theorem Lg {h:Heap}{H:Hp}{b:Addr}{o:Obj}(e:h.get? b=some o)(n:H b=none):(CN h H).get? b=some o :=
 hideAll_get _ e fun hm=>by
  have q:(H b).isSome=true:=(List.mem_filter.mp hm).2;rw[n]at q;simp at q
theorem NU {h:Heap}{H:Hp}{b:Addr}{o:Obj}(e:(CN h H).get? b=some o):h.get? b=some o/\H b=none:=by
 have e':h.get? b=some o:=of_hideAll (Ux h H) e;refine⟨e',?_⟩;cases q:H b with
 |none=>rfl
 |some x =>
  have hm:b∈Ux h H:=List.mem_filter.mpr ⟨mem_range.mpr (Zb' e'),by simp[q]⟩;have z:(CN h H).get? b=none:=hideAll_none (Ux h H) hm;rw[z]at e;cases e
noncomputable def NV (g h:Heap)(L:Addr):List (Addr×Obj):=(List.range h.objs.size).filterMap fun a=>if a=L\/(g.get? a).isSome=true then none else(h.get? a).map fun o=>(a,o)
noncomputable def rest (g h:Heap)(L d:Addr):List (Addr×Obj):=(NV g h L).filter fun p=>decide (p.1≠d)
end L2
namespace L2
open PySem PySem.Spec PyProof.Rows
structure Mod (K:Frag)(mg:Str->Option Value)(base:Heap):Prop where
 Ia:K.In base
 glob:base.Ns mainGlobals mg
 blt:∃ mb,base.Ns builtinsNs mb/\∀ x:Str,x ≠ "__name__"->mb x=bootBuiltins x
 nolimit:base.NoLimit
structure Cx where
 prog:Program
 w:World
 K:Frag
 mg:Str->Option Value
 base:Heap
 A:Around
 N:List Str
 s₀:Shared
 H₀:Hp
 env:Env
 outer:List Env
 stack:List Env
 ex:List Addr
 fn:Str->Bool
 calm:Bool
 pn:List (Addr×Obj)
 xe:Value->Shared->Prop
noncomputable def frs (l:List Env):List Addr:=l.filterMap (·.frame)
noncomputable abbrev Cx.fs (X:Cx):List Addr:=frs X.outer
noncomputable def Sb (sc:Scope)(x:Str):Prop:=sc.names.lookup x=some .local\/sc.names.lookup x=some .cell\/sc.names.lookup x=some .free
noncomputable def Loc (sc:Scope)(x:Str):Prop:=sc.names.lookup x=some .local\/sc.names.lookup x=some .cell
noncomputable def Look (env:Env)(h:Heap)(m:Str->Option Value)(x:Str)(u:Value):Prop :=
 (env.kindOf x=some .local/\m x=some u)\/((env.kindOf x=some .cell\/env.kindOf x=some .free)/\∃ c,env.cells.lookup x=some c/\h.IsCell c (some u))
structure Cx.Ok (X:Cx):Prop where
 mod:Mod X.K X.mg X.base
 kind:X.env.scope.kind=.function
 glob:X.env.globals=mainGlobals
 blt:X.env.builtins=builtinsNs
 above:X.s₀.heap.objs.size<=X.env.locals
 inj:∀ x y c,X.env.cells.lookup x=some c->X.env.cells.lookup y=some c->x=y
 has:∀ x,(X.env.kindOf x=some .cell\/X.env.kindOf x=some .free)->∃ c,X.env.cells.lookup x=some c
 cab:∀ x c,X.fn x=true->X.env.cells.lookup x=some c->X.s₀.heap.objs.size<=c
 hd:X.calm=true->X.A.handled=none
 frames:X.A.frames=some X.stack
 RQ:X.stack=X.outer\/(X.stack=X.env::X.outer/\X.env.frame=some X.env.locals)
 RS:∀ b∈X.ex,b≠X.env.locals/\∀ x c,X.env.cells.lookup x=some c->c≠b
 bs:∀ b o,X.base.get? b=some o->X.s₀.heap.get? b=some o/\X.H₀ b=none
 JJ:X.base.objs.size<=X.s₀.heap.objs.size
 GA:∀ b o,X.base.get? b=some o->b ∉ X.ex
 GB:∀ b∈X.ex,b ∉ X.fs
 qX:X.s₀.heap.FunFrames X.base X.outer
 NP:∀ b∈X.fs,X.H₀ b=none
structure Inv (X:Cx)(pins:List (Addr×Obj))(σ:List (Option V))(H:Hp)(s:Shared):Prop where
 ok:X.Ok
 os:s.os=X.s₀.os
 bare:AllBare s.gens
 base:Un X.fs X.ex X.H₀ H X.s₀.heap s.heap
 loc:∃ m,s.heap.Ns X.env.locals m/\∀(i:Nat)(x:Str)(v:V),X.N[i]? = some x->σ[i]? = some (some v)->Sb X.env.scope x->∃ u,RelV v u/\Look X.env s.heap m x u
 cell:∀ x c,X.env.cells.lookup x=some c->∃ v,s.heap.IsCell c v
 free:H X.env.locals=none
 gB:∀ x c,X.env.cells.lookup x=some c->H c=none
 pin:∀ p∈X.pn++pins,s.heap.get? p.1=some p.2/\H p.1=none/\p.1≠X.env.locals/\p.1 ∉ X.fs/\∀ v,p.2.data≠.cell v
 hok:oj X.prog X.w H s.heap
 len:σ.length=X.N.length
section
variable {X:Cx} {pins:List (Addr×Obj)} {σ:List (Option V)} {H H':Hp} {s:Shared} {h':Heap}
theorem Cx.Ok.Vf (ok:X.Ok){b:Addr}{o:Obj}(e:X.base.get? b=some o):b ∉ X.fs:=fun hb=>by
 have:=(ok.qX.mem hb).1;rw[e]at this;cases this
theorem Inv.bs (I:Inv X pins σ H s):∀ b o,X.base.get? b=some o->s.heap.get? b=some o/\H b=none:=fun b o e =>
 ⟨I.base.keep b o (I.ok.bs b o e).1 (I.ok.bs b o e).2 (I.ok.Vf e) (I.ok.GA b o e),I.base.free b o (I.ok.bs b o e).1 (I.ok.bs b o e).2 (I.ok.GA b o e)⟩
theorem Inv.bk (I:Inv X pins σ H s):∀ b o,X.base.get? b=some o->s.heap.get? b=some o:=fun b o e=>(I.bs b o e).1
theorem Inv.mod (I:Inv X pins σ H s):Mod X.K X.mg X.base:=I.ok.mod
theorem Inv.hX (I:Inv X pins σ H s):X.K.In s.heap:=I.ok.mod.Ia.keeps I.bk
theorem Inv.lt (I:Inv X pins σ H s):X.env.locals<s.heap.objs.size:=let ⟨_,hn,_⟩:=I.loc;hn.lt
theorem Inv.sz (I:Inv X pins σ H s):X.s₀.heap.objs.size<=s.heap.objs.size:=Zf' I.ok.above (Nat.le_of_lt I.lt)
theorem Inv.Vg (I:Inv X pins σ H s){a:Addr}(h:s.heap.objs.size<=a):a ∉ X.fs:=fun hb=>by
 obtain⟨_,o,ho,_⟩:=I.ok.qX.mem hb;exact j' (Ze' (Zb' ho) (Zf' I.sz h)) (Nat.lt_irrefl _)
theorem Inv.NW (I:Inv X pins σ H s):∀ x c,X.env.cells.lookup x=some c->c≠X.env.locals:=fun x c e z=>by
 obtain⟨v,o,ho,hd⟩:=I.cell x c e;obtain⟨m,⟨o',es,ep,ho',hd',_⟩,_⟩:=I.loc;rw[z,ho']at ho;cases ho;rw[hd']at hd;cases hd
theorem Inv.qX (I:Inv X pins σ H s):s.heap.FunFrames X.base X.outer:=by
 have all:∀(l:List Env),(∀ b∈frs l,b∈X.fs)->X.s₀.heap.FunFrames X.base l->s.heap.FunFrames X.base l:=by
  intro l
  induction l with
  |nil=>intro _ _;trivial
  |cons env r ih =>
   intro hs hl;obtain⟨hk,⟨L,o,hf,hn,ho,hd⟩,hr⟩:=hl;have hL:L∈X.fs:=hs L (by unfold frs;rw[List.filterMap_cons,hf];exact mem_cons_self);obtain⟨sl,e⟩:=I.base.slot L o ho (I.ok.NP L hL) hL fun z=>I.ok.GB L z hL;exact⟨hk,⟨L,_,hf,hn,e,hd⟩,ih (fun b hb=>hs b (by unfold frs;rw[List.filterMap_cons,hf];exact mem_cons_of_mem _ hb)) hr⟩
 exact all X.outer (fun _ hb=>hb) I.ok.qX
theorem Inv.stack (I:Inv X pins σ H s):s.heap.FunFrames X.base X.stack:=by
 rcases I.ok.RQ with e|⟨e,hf⟩
 ·rw[e];exact I.qX
 ·rw[e];obtain⟨m,hn,_⟩:=I.loc;refine .cons (by rw[I.ok.kind];decide) hf hn ?_ I.qX;exact Heap.get?_none_of_le (Zf' I.ok.JJ I.ok.above)
theorem Inv.GC (I:Inv X pins σ H s):∀ b∈frs X.stack,b∈X.env.locals::X.fs:=fun b hb=>by
 rcases I.ok.RQ with e|⟨e,hf⟩
 ·rw[e]at hb;exact mem_cons_of_mem _ hb
 ·rw[e]at hb;unfold frs at hb;rw[List.filterMap_cons,hf]at hb;exact hb
theorem Inv.CO (I:Inv X pins σ H s):∀ b∈frs X.stack,H b=none:=fun b hb=>by
 rcases List.mem_cons.mp (I.GC b hb) with e|hb
 ·rw[e];exact I.free
 ·obtain⟨_,o,ho,_⟩:=I.ok.qX.mem hb;exact I.base.free b o ho (I.ok.NP b hb) fun z=>I.ok.GB b z hb
theorem Inv.step {g':Array GenState}{t':Nat}{d':Drawn}{ch:List Addr}(I:Inv X pins σ H s)
  (hch:∀ b∈ch,(b∈X.ex\/X.s₀.heap.objs.size<=b)/\b≠X.env.locals/\(∀ x c,X.env.cells.lookup x=some c->c≠b)/\∀ p∈X.pn++pins,p.1≠b)
  (keep:∀ b o,b≠X.env.locals->b ∉ X.fs->b ∉ ch->s.heap.get? b=some o->H b=none->h'.get? b=some o)
  (slot:∀ b o,b≠X.env.locals->b∈X.fs->b ∉ ch->s.heap.get? b=some o->H b=none->∃ sl,h'.get? b=some { o with slots:=sl }) (free:∀ b o,b ∉ ch->s.heap.get? b=some o->H b=none->H' b=none)
  (there:∀ b o,b ∉ ch->s.heap.get? b=some o->∃ o',h'.get? b=some o')
  (tups:∀ b xs,H b=some (.tup xs)->H' b=some (.tup xs)) (si:∀ b o u,H b=some (.Gz o u)->H' b=some (.Gz o u)) (uV:∀ b ps,H b=some (.O4 ps)->∃ more,H' b=some (.O4 (ps++more)))
  (ns:∀ m,s.heap.Ns X.env.locals m->h'.Ns X.env.locals m) (hok:oj X.prog X.w H' h') (hg:AllBare g') :
  Inv X pins σ H' { s with heap:=h',gens:=g',drawn:=d',toks:=t' }:=by
 have Xk:∀ b o,X.s₀.heap.get? b=some o->b≠X.env.locals:=fun b o e=>Zo' (Ze' (Zb' e) I.ok.above);have O5:∀ b o,X.s₀.heap.get? b=some o->b ∉ X.ex->b ∉ ch:=fun b o e hx hb=>by
  rcases (hch b hb).1 with z|z
  ·exact hx z
  ·exact j' (Ze' (Zb' e) z) (Nat.lt_irrefl _)
 have cellK:∀ x c,X.env.cells.lookup x=some c->∀ v,s.heap.IsCell c v->h'.IsCell c v:=fun x c e v ⟨o,ho,hd⟩=>by
  have Sd:c ∉ ch:=fun z=>(hch c z).2.2.1 x c e rfl
  by_cases hc:c∈X.fs
  ·obtain⟨sl,q⟩:=slot c o (I.NW x c e) hc Sd ho (I.gB x c e);exact⟨_,q,hd⟩
  ·exact⟨o,keep c o (I.NW x c e) hc Sd ho (I.gB x c e),hd⟩
 refine⟨I.ok,I.os,hg,⟨fun b o e n hb hx=>?_,fun b o e n hb hx=>?_,fun b o e n hx=>?_,fun b o e hx=>?_,fun b xs e=>tups b xs (I.base.tups b xs e),fun b o xs e=>si b o xs (I.base.si b o xs e),fun b ps e=>?_⟩,?_,fun x c e=>?_,?_,fun x c e=>?_,fun p hp=>?_,hok,I.len⟩
 ·exact keep b o (Xk b o e) hb (O5 b o e hx) (I.base.keep b o e n hb hx) (I.base.free b o e n hx)
 ·obtain⟨sl,e1⟩:=I.base.slot b o e n hb hx;obtain⟨sl',e2⟩:=slot b _ (Xk b o e) hb (O5 b o e hx) e1 (I.base.free b o e n hx);exact⟨sl',e2⟩
 ·obtain⟨o',e1⟩:=I.base.there b o e hx;exact free b o' (O5 b o e hx) e1 (I.base.free b o e n hx)
 ·obtain⟨o',e1⟩:=I.base.there b o e hx;exact there b o' (O5 b o e hx) e1
 ·obtain⟨m1,e1⟩:=I.base.uV b ps e;obtain⟨m2,e2⟩:=uV b _ e1;exact⟨m1++m2,by rw[e2,Array.append_assoc]⟩
 ·obtain⟨m,hn,hl⟩:=I.loc;refine⟨m,ns m hn,fun i x v e1 e2 e3=>?_⟩;obtain⟨u,r,l⟩:=hl i x v e1 e2 e3;refine⟨u,r,?_⟩;rcases l with l|⟨k,c,e,z⟩
  ·exact .inl l
  ·exact .inr ⟨k,c,e,cellK x c e _ z⟩
 ·obtain⟨v,z⟩:=I.cell x c e;exact⟨v,cellK x c e v z⟩
 ·obtain⟨m,⟨o,_,_,ho,_⟩,_⟩:=I.loc;exact free _ o (fun z=>(hch _ z).2.1 rfl) ho I.free
 ·obtain⟨v,o,ho,hd⟩:=I.cell x c e;exact free c o (fun z=>(hch c z).2.2.1 x c e rfl) ho (I.gB x c e)
 ·obtain⟨e,n,ne,nf,d⟩:=I.pin p hp;have Sd:p.1 ∉ ch:=fun z=>(hch p.1 z).2.2.2 p hp rfl;exact⟨keep p.1 p.2 ne nf Sd e n,free p.1 p.2 Sd e n,ne,nf,d⟩
theorem Inv.un {t':Nat}(I:Inv X pins σ H s)(u:Un X.fs [] H H' s.heap h')(hok:oj X.prog X.w H' h'):Inv X pins σ H' { s with heap:=h',toks:=t' }:=by
 obtain⟨m,⟨o,es,ep,ho,r⟩,_⟩:=id I.loc;obtain⟨sl,hL⟩:=u.any ho I.free (by simp);exact I.step (g':=s.gens) (d':=s.drawn) (ch:=[]) (fun _ z=>nomatch z) (fun b o _ hb _ e n=>u.keep b o e n hb (by simp)) (fun b o _ hb _ e n=>u.slot b o e n hb (by simp)) (fun b o _ e n=>u.free b o e n (by simp)) (fun b o _ e=>u.there b o e (by simp)) u.tups u.si u.uV (fun m' hm=>by
  obtain⟨o',es',ep',ho',r'⟩:=hm;rw[ho]at ho';cases ho';exact⟨_,es',ep',hL,r'⟩) hok I.bare
theorem Inv.call {g':Array GenState}{t':Nat}{d':Drawn}{ch:List Addr}(I:Inv X pins σ H s)(u:Un (frs X.stack) ch H H' s.heap h')(hok:oj X.prog X.w H' h')(hg:AllBare g')
  (hch:∀ b∈ch,(b∈X.ex\/X.s₀.heap.objs.size<=b)/\b≠X.env.locals/\(∀ x c,X.env.cells.lookup x=some c->c≠b)/\∀ p∈X.pn++pins,p.1≠b) :
  Inv X pins σ H' { s with heap:=h',gens:=g',drawn:=d',toks:=t' }:=by
 obtain⟨m,⟨o,es,ep,ho,r⟩,_⟩:=id I.loc;obtain⟨sl,hL⟩:=u.any ho I.free fun z=>(hch _ z).2.1 rfl;exact I.step (ch:=ch) hch (fun b o hL hb hc e n=>u.keep b o e n (fun z=>(List.mem_cons.mp (I.GC b z)).elim hL hb) hc) (fun b o _ _ hc e n=>u.any e n hc) (fun b o hc e n=>u.free b o e n hc) (fun b o hc e=>u.there b o e hc) u.tups u.si u.uV (fun m' hm=>by
  obtain⟨o',es',ep',ho',r'⟩:=hm;rw[ho]at ho';cases ho';exact⟨_,es',ep',hL,r'⟩) hok hg
theorem Inv.turned {t':Nat}{it:Addr}(I:Inv X pins σ H s)(k:∀ b o,b≠it->s.heap.get? b=some o->h'.get? b=some o)(hn:H it=none)(hL:it≠X.env.locals)
  (h1:it∈X.ex\/X.s₀.heap.objs.size<=it) (h2:∀ x c,X.env.cells.lookup x=some c->c≠it) (h3:∀ p∈X.pn++pins,p.1≠it):Inv X pins σ H { s with heap:=h',toks:=t' }:=by
 have Xl:∀ b u,H b=some u->b≠it:=fun b u e z=>by rw[z,hn]at e;cases e
 refine I.step (g':=s.gens) (d':=s.drawn) (ch:=[it]) (fun b hb=>?_) (fun b o _ _ hc e _=>k b o (fun z=>hc (by simp[z])) e) (fun b o _ _ hc e _=>⟨o.slots,k b o (fun z=>hc (by simp[z])) e⟩) (fun _ _ _ _ n=>n)
  (fun b o hc e=>⟨o,k b o (fun z=>hc (by simp[z])) e⟩) (fun _ _ e=>e) (fun _ _ _ e=>e) (fun b ps e=>⟨#[],by rw[e];simp⟩) (fun m hm=>?_) (fun b u e=>?_) I.bare
 ·have e:b=it:=by simpa using hb
  subst e;exact⟨h1,hL,h2,h3⟩
 ·obtain⟨o,es,ep,ho,r⟩:=hm;exact⟨o,es,ep,k _ o (Ne.symm hL) ho,r⟩
 ·refine(I.hok b u e).stay (fun c v hc q=>k c v ?_ q) (fun _ q=>q) fun _ _ q=>q;rcases hc with z|z
  ·rw[z];exact Xl b u e
  ·exact Xl c _ z
theorem Inv.tok (I:Inv X pins σ H s)(t:Nat):Inv X pins σ H { s with toks:=t }:=I.un (h':=s.heap) (t':=t) Un.refl I.hok
theorem Inv.kept {t':Nat}(I:Inv X pins σ H s)(k:∀ b u,s.heap.get? b=some u->h'.get? b=some u):Inv X pins σ H { s with heap:=h',toks:=t' }:=I.un (Un.kept k) (I.hok.kept k)
theorem Inv.laid {a:Addr}{o:HO}{t':Nat}(I:Inv X pins σ H s)(k:∀ b u,s.heap.get? b=some u->h'.get? b=some u)(hp:s.heap.objs.size<=a)(new:cP X.prog X.w (upd H a o) h' a o) :
  Inv X pins σ (upd H a o) { s with heap:=h',toks:=t' }:=I.un (Un.laid k hp (I.hok.fresh hp)) (I.hok.laid k hp new)
theorem Inv.write {x e:Addr}{o:HO}{t':Nat}(I:Inv X pins σ H s)(mu:R9 (H x))(he:e=x\/H e=some (.own x))(k:∀ b u,b≠e->s.heap.get? b=some u->h'.get? b=some u)(heo:∃ u,h'.get? e=some u)
  (new:cP X.prog X.w (upd H x o) h' x o):Inv X pins σ (upd H x o) { s with heap:=h',toks:=t' }:=I.un (Un.write mu he k heo) (I.hok.write mu he k heo new)
theorem Inv.Ib {A9:List (Addr×Obj)}(I:Inv X pins σ H s)(h:∀ p∈A9,s.heap.get? p.1=some p.2/\H p.1=none/\p.1≠X.env.locals/\p.1 ∉ X.fs/\∀ v,p.2.data≠.cell v):Inv X A9 σ H s :=
 ⟨I.ok,I.os,I.bare,I.base,I.loc,I.cell,I.free,I.gB,fun p hp=>(mem_append.mp hp).elim (fun z=>I.pin p (mem_append_left _ z)) (h p),I.hok,I.len⟩
theorem yx {N:List Str}(hN:N.Nodup){i j:Nat}{x:Str}(a:N[i]? = some x)(b:N[j]? = some x):i=j:=by
 obtain⟨h1,e1⟩:=S'.mp a;obtain⟨h2,e2⟩:=S'.mp b;exact(List.getElem_inj hN).mp (e1.trans e2.symm)
theorem Ba {M:Model}{A:Around}{E:Value->Shared->Prop}{i:Nat}{x:Str}{v:V}{u:Value}{Q:Unit->Shared->Prop}(I:Inv X pins σ H s)(hN:X.N.Nodup)(hi:X.N[i]? = some x)(hx:Loc X.env.scope x)(r:RelV v u)
  (h:∀ s',Inv X pins (σ.set i (some v)) H s'->(∃ a,Heap.SameBut a s.heap s'.heap/\(a=X.env.locals\/X.env.cells.lookup x=some a))->Q () s') (hf:X.fn x=true\/X.env.scope.names.lookup x=some .local:=by first|exact .inl rfl|exact .inr rfl|assumption):wpAny M A (storeName X.env x u) Q E s:=by
 obtain⟨m,hn,hl⟩:=id I.loc;have hcls:(X.env.scope.kind == .class||(X.env.scope.kind == .module&&X.env.locals != X.env.globals))=false:=by rw[I.ok.kind];rfl
 have Uy:i<σ.length:=by rw[I.len];exact(S'.mp hi).1
 have NW:=I.NW;have tracked:∀{a:Addr} {h':Heap},(∃ o,s.heap.get? a=some o/\H a=none)->Heap.SameBut a s.heap h'->oj X.prog X.w H h':=fun {a h'} ha hs b ob e=>by
  obtain⟨_,_,hfree⟩:=ha;refine(I.hok b ob e).stay (fun c w' hc q=>(hs.2 c ?_).trans q) (fun _ q=>q) fun _ _ q=>q;rintro rfl;rcases hc with rfl|hc
  ·rw[hfree]at e;cases e
  ·rw[hfree]at hc;cases hc
 rcases hx with hk|hk
 ·refine wpAny_storeName_local hk hn (fun h' hn' hs=>?_) hcls;obtain⟨oL,_,_,hoL,_⟩:=id hn;refine h _ ⟨I.ok,I.os,I.bare,⟨fun b o e n hb hx=>?_,fun b o e n hb hx=>?_,I.base.free,fun b o e hx=>?_,I.base.tups,I.base.si,I.base.uV⟩,⟨_,hn',fun j y v' e1 e2 e3=>?_⟩,fun y c e=>?_,I.free,I.gB,fun p hp=>?_,tracked ⟨oL,hoL,I.free⟩ hs,by simpa using I.len⟩ ⟨_,hs,.inl rfl⟩
  ·exact(hs.2 b (Zo' (Ze' (Zb' e) I.ok.above))).trans (I.base.keep b o e n hb hx)
  ·obtain⟨sl,e1⟩:=I.base.slot b o e n hb hx;exact⟨sl,(hs.2 b (Zo' (Ze' (Zb' e) I.ok.above))).trans e1⟩
  ·obtain⟨o',e1⟩:=I.base.there b o e hx;exact⟨o',(hs.2 b (Zo' (Ze' (Zb' e) I.ok.above))).trans e1⟩
  ·by_cases hj:j=i
   ·subst hj;rw[hi]at e1;cases e1;rw[List.getElem?_set_self Uy]at e2;cases e2;exact⟨u,r,.inl ⟨hk,by simp⟩⟩
   ·rw[List.getElem?_set_ne (Ne.symm hj)]at e2;obtain⟨u',r',q⟩:=hl j y v' e1 e2 e3;refine⟨u',r',?_⟩;rcases q with ⟨k,e⟩|⟨k,c,e,z⟩
    ·refine .inl ⟨k,?_⟩;have:y≠x:=fun e=>hj (yx hN e1 (e ▸ hi));simp[this,e]
    ·exact .inr ⟨k,c,e,z.sameBut hs (NW y c e)⟩
  ·obtain⟨w',z⟩:=I.cell y c e;exact⟨w',z.sameBut hs (NW y c e)⟩
  ·obtain⟨e,n,ne,nf,d⟩:=I.pin p hp;exact⟨(hs.2 p.1 ne).trans e,n,ne,nf,d⟩
 ·have hfn:X.fn x=true:=by
   rcases hf with z|z
   ·exact z
   ·rw[z]at hk;cases hk
  obtain⟨c,hc⟩:=I.ok.has x (.inl hk);obtain⟨w',z⟩:=I.cell x c hc;refine wpAny_storeName_cell I.ok.kind hk hc z (fun h' hc' hs=>?_);obtain⟨oc,hoc,Vh⟩:=id z;refine h { s with heap:=h' } ⟨I.ok,I.os,I.bare,⟨fun b o e n hb hx=>?_,fun b o e n hb hx=>?_,I.base.free,fun b o e hx=>?_,I.base.tups,I.base.si,I.base.uV⟩,⟨m,hn.sameBut hs (Ne.symm (NW x c hc)),fun j y v' e1 e2 e3=>?_⟩,fun y c' e=>?_,I.free,I.gB,fun p hp=>?_,tracked ⟨oc,hoc,I.gB x c hc⟩ hs,by simpa using I.len⟩ ⟨c,hs,.inr hc⟩
  ·exact(hs.2 b (Zo' (Ze' (Zb' e) (I.ok.cab x c hfn hc)))).trans (I.base.keep b o e n hb hx)
  ·obtain⟨sl,e1⟩:=I.base.slot b o e n hb hx;exact⟨sl,(hs.2 b (Zo' (Ze' (Zb' e) (I.ok.cab x c hfn hc)))).trans e1⟩
  ·obtain⟨o',e1⟩:=I.base.there b o e hx;exact⟨o',(hs.2 b (Zo' (Ze' (Zb' e) (I.ok.cab x c hfn hc)))).trans e1⟩
  ·by_cases hj:j=i
   ·subst hj;rw[hi]at e1;cases e1;rw[List.getElem?_set_self Uy]at e2;cases e2;exact⟨u,r,.inr ⟨.inl hk,c,hc,hc'⟩⟩
   ·rw[List.getElem?_set_ne (Ne.symm hj)]at e2;obtain⟨u',r',q⟩:=hl j y v' e1 e2 e3;refine⟨u',r',?_⟩;rcases q with q|⟨k,c',e,z'⟩
    ·exact .inl q
    ·refine .inr ⟨k,c',e,z'.sameBut hs ?_⟩;rintro rfl;exact hj (yx hN e1 (I.ok.inj _ _ _ e hc ▸ hi))
  ·by_cases hcc:c'=c
   ·subst hcc;exact⟨_,hc'⟩
   ·obtain⟨w2,z2⟩:=I.cell y c' e;exact⟨w2,z2.sameBut hs hcc⟩
  ·obtain⟨e,n,ne,nf,d⟩:=I.pin p hp;refine⟨(hs.2 p.1 ?_).trans e,n,ne,nf,d⟩;intro q;rw[q,hoc]at e;have q':oc=p.2:=W' e;exact d w' (by rw[<-q'];exact Vh)
theorem sj {M:Model}{A:Around}{E:Value->Shared->Prop}{i:Nat}{x:Str}{v:V}{u:Value}{Q:Unit->Shared->Prop}(I:Inv X pins σ H s)(hN:X.N.Nodup)(hi:X.N[i]? = some x)(hx:Loc X.env.scope x)(r:RelV v u)
  (h:∀ s',Inv X pins (σ.set i (some v)) H s'->Q () s') (hf:X.fn x=true\/X.env.scope.names.lookup x=some .local:=by first|exact .inl rfl|exact .inr rfl|assumption):wpAny M A (storeName X.env x u) Q E s :=
 Ba I hN hi hx r (fun s' I' _=>h s' I') hf
theorem Inv.call' {s':Shared}{ch:List Addr}(I:Inv X pins σ H s)(ho:s'.os=s.os)(u:Un (frs X.stack) ch H H' s.heap s'.heap)(hok:oj X.prog X.w H' s'.heap)(hg:AllBare s'.gens)
  (hch:∀ b∈ch,(b∈X.ex\/X.s₀.heap.objs.size<=b)/\b≠X.env.locals/\(∀ x c,X.env.cells.lookup x=some c->c≠b)/\∀ p∈X.pn++pins,p.1≠b):Inv X pins σ H' s':=by
 obtain⟨h',g',d',t',o'⟩:=s';have e:o'=s.os:=ho;subst e;exact I.call (g':=g') (t':=t') (d':=d') u hok hg hch
end
abbrev XK:=Value->Option Addr->Hp->Prop
noncomputable abbrev St:=List (Option V)
abbrev VK:=V->Hp->Prop
abbrev TE:=St->Hp->VK->Prop
abbrev TT:=St->Hp->(Bool->Hp->Prop)->Prop
abbrev TA:=St->Hp->(List V->Hp->Prop)->Prop
structure Ends where
 nx:St->Hp->Prop
 rt:VK
 bk:St->Hp->Prop:=fun _ _=>False
 ct:St->Hp->Prop:=fun _ _=>False
abbrev TS:=Ends->St->Hp->Prop
noncomputable def EP (X:Cx)(pins:List (Addr×Obj))(σ:St)(Q:VK)(u:Value)(s':Shared):Prop:=∃ v H',Inv X pins σ H' s'/\RelV v u/\Q v H'
noncomputable def TP (X:Cx)(pins:List (Addr×Obj))(σ:St)(Q:Bool->Hp->Prop)(b:Bool)(s':Shared):Prop:=∃ H',Inv X pins σ H' s'/\Q b H'
noncomputable def AP (X:Cx)(pins:List (Addr×Obj))(σ:St)(Q:List V->Hp->Prop)(us:List Value)(s':Shared):Prop:=∃ vs H',Inv X pins σ H' s'/\Vals vs us/\Q vs H'
noncomputable def SP (X:Cx)(pins:List (Addr×Obj))(D:Ends)(f:Flow)(s':Shared):Prop :=
 match f with
 |.next=>∃ σ' H',Inv X pins σ' H' s'/\D.nx σ' H'
 |.brk=>∃ σ' H',Inv X pins σ' H' s'/\D.bk σ' H'
 |.cont=>∃ σ' H',Inv X pins σ' H' s'/\D.ct σ' H'
 |.ret u=>∃ v σ' H',Inv X pins σ' H' s'/\RelV v u/\D.rt v H'
noncomputable def PE (X:Cx)(e:Expr)(t:TE):Prop :=
 ∀(pins:List (Addr×Obj)) (s:Shared) (σ:St) (H:Hp) (Q:VK),Inv X pins σ H s->t σ H Q->wpAny (model X.prog X.w) X.A (eval e X.env) (EP X pins σ Q) X.xe s
noncomputable def PT (X:Cx)(e:Expr)(t:TT):Prop :=
 ∀(pins:List (Addr×Obj)) (s:Shared) (σ:St) (H:Hp) (Q:Bool->Hp->Prop),Inv X pins σ H s->t σ H Q->wpAny (model X.prog X.w) X.A (isTrue e X.env (eval e X.env)) (TP X pins σ Q) X.xe s
noncomputable def PW (X:Cx)(e:Expr)(t:TT):Prop :=
 ∀(whole:Sem Value)(pins:List (Addr×Obj)) (s:Shared) (σ:St) (H:Hp) (Q:Bool->Hp->Prop),Inv X pins σ H s->t σ H Q->wpAny (model X.prog X.w) X.A (isTrue e X.env whole) (TP X pins σ Q) X.xe s
theorem PW.pt {X:Cx}{e:Expr}{t:TT}(h:PW X e t):PT X e t:=h _
noncomputable def PA (X:Cx)(es:List Expr)(t:TA):Prop :=
 ∀(pos:Pos)(pins:List (Addr×Obj)) (s:Shared) (σ:St) (H:Hp) (Q:List V->Hp->Prop),Inv X pins σ H s->t σ H Q->wpAny (model X.prog X.w) X.A (spliced (backTo pos (starEach es X.env))) (AP X pins σ Q) X.xe s
noncomputable def PS (X:Cx)(st:Stmt)(t:TS):Prop :=
 ∀(pins:List (Addr×Obj)) (s:Shared) (σ:St) (H:Hp) (D:Ends),Inv X pins σ H s->t D σ H->wpAny (model X.prog X.w) X.A (exec st X.env) (SP X pins D) X.xe s
noncomputable def se (X:Cx)(st:List Stmt)(t:TS):Prop :=
 ∀(pins:List (Addr×Obj)) (s:Shared) (σ:St) (H:Hp) (D:Ends),Inv X pins σ H s->t D σ H->wpAny (model X.prog X.w) X.A (execs st X.env) (SP X pins D) X.xe s
theorem bS {α:Type}{t:Sem α}{Q Q':α->Shared->Prop}{M:Model}{A:Around}{E:Value->Shared->Prop}{s:Shared}(h:wpAny M A t Q E s)(hQ:∀ a s,Q a s->Q' a s):wpAny M A t Q' E s:=wpAny_mono h hQ fun _ _ x=>x
end L2
namespace L2
open PySem PySem.Spec PyProof.Rows
section
variable {X:Cx}
inductive O6 (i:Nat)(σ:St)(H:Hp)(Q:VK):Prop
 |mk (v:_) (cL:σ[i]? = some (some v)) (cM:Q v H):O6 i σ H Q
noncomputable def Se (i:Nat):TE:=fun σ H Q=>O6 i σ H Q
noncomputable def tC (v:V):TE:=fun _ H Q=>Q v H
theorem P6 {i:Nat}{x:Str}{pos:Pos}(hN:X.N[i]? = some x)(hv:Sb X.env.scope x)(hd:(x==("__debug__":Str))=false:=by decide)(hcd:(x==("__classdict__":Str))=false:=by decide):PE X (.Name x pos) (Se i):=by
 intro pins s σ H Q I h;obtain⟨v,e,h⟩:=h;obtain⟨m,hn,hl⟩:=I.loc;obtain⟨u,r,l⟩:=hl i x v hN e hv;have fin:EP X pins σ Q u s:=⟨v,H,I,r,h⟩;rcases l with ⟨hk,hm⟩|⟨hk,c,hc,hcell⟩
 ·exact wpAny_Name (wpAny_loadName_local I.ok.kind hk hn hm fin) hd
 ·rcases hk with hk|hk
  ·exact wpAny_Name (wpAny_loadName_cell I.ok.kind hk hc hcell fin) hd
  ·exact wpAny_Name (wpAny_loadName_free I.ok.kind hk hc hcell fin hcd) hd
theorem ai {i j pos}:PE X (.Constant (.int i) j pos) (tC (.int i)):=fun _ _ _ H _ I h=>wpAny_Constant_int ⟨.int i,H,I.tok _,⟨_,rfl⟩,h⟩
theorem di {b j pos}:PE X (.Constant (.bool b) j pos) (tC (.bl b)):=fun _ _ _ H _ I h=>Constant_bool ⟨.bl b,H,I,rfl,h⟩
theorem cS {j pos}:PE X (.Constant .none j pos) (tC .non):=fun _ _ _ H _ I h=>Constant_none ⟨.non,H,I,rfl,h⟩
theorem aA {x j pos}:PE X (.Constant (.str x) j pos) (tC (.str x)):=fun _ _ _ H _ I h=>Calls.Constant_str ⟨.str x,H,I.tok _,⟨_,rfl⟩,h⟩
noncomputable def Gl (X:Cx)(x:Str):Prop:=X.env.kindOf x=some .globalImplicit
theorem fq {E:Value->Shared->Prop}{pins:List (Addr×Obj)}{s:Shared}{σ:St}{H:Hp}{x:Str}{u:Value}{pos:Pos}{Q:Value->Shared->Prop}(I:Inv X pins σ H s)(hg:Gl X x)(hm:X.mg x=some u)(h:Q u s)
  (hd:(x==("__debug__":Str))=false:=by decide):wpAny (model X.prog X.w) X.A (eval (.Name x pos) X.env) Q E s :=
 Calls.Name_function_global I.ok.kind hg (Calls.loadGlobal_global (by rw[I.ok.glob];exact I.mod.glob.keeps I.bk) hm h) hd
theorem lL {E:Value->Shared->Prop}{pins:List (Addr×Obj)}{s:Shared}{σ:St}{H:Hp}{x:Str}{u:Value}{pos:Pos}{Q:Value->Shared->Prop}(I:Inv X pins σ H s)(hg:Gl X x)(hm:X.mg x=none)(hv:bootBuiltins x=some u)(h:Q u s)
  (hn:x ≠ "__name__":=by decide) (hd:(x==("__debug__":Str))=false:=by decide):wpAny (model X.prog X.w) X.A (eval (.Name x pos) X.env) Q E s:=by
 obtain⟨mb,h1,h2⟩:=I.mod.blt;exact Calls.Name_function_global I.ok.kind hg (Calls.loadGlobal_builtin (by rw[I.ok.glob];exact I.mod.glob.keeps I.bk) hm (by rw[I.ok.blt];exact h1.keeps I.bk) ((h2 x hn).trans hv) h) hd
theorem aZ {x:Str}{v:V}{u:Value}{pos:Pos}(hg:Gl X x)(hm:X.mg x=some u)(r:RelV v u)(hd:(x==("__debug__":Str))=false:=by decide):PE X (.Name x pos) (tC v) :=
 fun _ _ _ H _ I h=>fq I hg hm ⟨v,H,I,r,h⟩ hd
theorem dS {x:Str}{v:V}{u:Value}{pos:Pos}(hg:Gl X x)(hm:X.mg x=none)(hv:bootBuiltins x=some u)(r:RelV v u)(hn:x ≠ "__name__":=by decide)(hd:(x==("__debug__":Str))=false:=by decide):PE X (.Name x pos) (tC v) :=
 fun _ _ _ H _ I h=>lL I hg hm hv ⟨v,H,I,r,h⟩ hn hd
variable {a b:Expr} {ta tb:TE} {pos:Pos}
noncomputable def PC (X:Cx)(op:CmpOp)(a b:Expr)(t:TE):Prop :=
 ∀(pins:List (Addr×Obj)) (s:Shared) (σ:St) (H:Hp) (Q:VK),Inv X pins σ H s->t σ H Q ->
  wpAny (model X.prog X.w) X.A (eval a X.env) (fun v s₁=>wpAny (model X.prog X.w) X.A (eval b X.env) (fun u s₂=>wpAny (model X.prog X.w) X.A (compareOp op v u) (EP X pins σ Q) X.xe s₂) X.xe s₁) X.xe s
noncomputable def tB (t:TE):TT:=fun σ H Q=>t σ H fun x H1=>∃ c,x=.bl c/\Q c H1
theorem Lh {op:CmpOp}{t:TE}(h:PC X op a b t)(h1:behindInMarks op b=false:=by first|exact Sf _ (by decide) (by decide)|rfl):PT X (.Compare a [op] [b] pos) (tB t):=by
 intro pins s σ H Q I hw;refine wpAny_isTrue_Compare1 (bS (h pins s σ H _ I hw) fun v s1 h1=>bS h1 fun u s2 h2=>bS h2 fun c s3 ⟨x,H1,I1,r1,q1⟩=>?_) h1;obtain⟨d,rfl,q⟩:=q1;cases r1;exact wpAny_truthy_bool ⟨H1,I1,q⟩
theorem aT {e:Expr}{t:TE}(h:PE X e t)(he:∀ whole,isTrue e X.env whole=(do let v <-whole;standAt e.pos;holding [v] (truthy v)):=by intro _;rfl):PT X e (tB t):=by
 intro pins s σ H Q I hw;refine isTrue_plain (bS (h pins s σ H _ I hw) fun v s1 ⟨x,H1,I1,r1,q1⟩=>?_) (he _);obtain⟨d,rfl,q⟩:=q1;cases r1;exact wpAny_truthy_bool ⟨H1,I1,q⟩
variable {tA Uz:TT} {rest:List Expr}
noncomputable def Vi (t u:TT):TT:=fun σ H Q=>t σ H fun c H1=>if c=true then u σ H1 Q else Q false H1
noncomputable def Yw (t u:TT):TT:=fun σ H Q=>t σ H fun c H1=>if c=true then Q true H1 else u σ H1 Q
noncomputable def Vj (t:TT):TT:=fun σ H Q=>t σ H fun c H1=>Q (!c) H1
theorem dJ (ha:PT X a tA):PW X (.BoolOp .And [a] pos) tA:=by
 intro wh pins s σ H Q I h;refine isTrue_and (bS (ha pins s σ H Q I h) fun c s1 e=>?_);cases c with
 |true=>exact isTrue_and_nil e
 |false=>exact e
theorem cT (ha:PT X a tA):PW X (.BoolOp .Or [a] pos) tA:=by
 intro wh pins s σ H Q I h;refine isTrue_or (bS (ha pins s σ H Q I h) fun c s1 e=>?_);cases c with
 |false=>exact isTrue_or_nil e
 |true=>exact e
theorem cN (ha:PT X a tA)(hb:PW X (.BoolOp .And (b::rest) pos) Uz):PW X (.BoolOp .And (a::b::rest) pos) (Vi tA Uz):=by
 intro wh pins s σ H Q I h;refine isTrue_and (bS (ha pins s σ H _ I h) fun c s1 fu=>?_);obtain⟨H1,I1,q1⟩:=fu;cases c with
 |true=>exact hb wh pins s1 σ H1 Q I1 q1
 |false=>exact⟨H1,I1,q1⟩
theorem dj (ha:PT X a tA)(hb:PW X (.BoolOp .Or (b::rest) pos) Uz):PW X (.BoolOp .Or (a::b::rest) pos) (Yw tA Uz):=by
 intro wh pins s σ H Q I h;refine isTrue_or (bS (ha pins s σ H _ I h) fun c s1 fu=>?_);obtain⟨H1,I1,q1⟩:=fu;cases c with
 |true=>exact⟨H1,I1,q1⟩
 |false=>exact hb wh pins s1 σ H1 Q I1 q1
theorem cy (ha:PT X a tA):PT X (.UnaryOp .Not a pos) (Vj tA):=by
 intro pins s σ H Q I h;exact isTrue_not (ha pins s σ H (fun c H1=>Q (!c) H1) I h)
noncomputable def Sh (ta tb:TE):TE:=fun σ H Q=>ta σ H fun x H1=>∃ c,x=.bl c/\if c=true then tb σ H1 Q else Q (.bl false) H1
noncomputable def Vk (ta tb:TE):TE:=fun σ H Q=>ta σ H fun x H1=>∃ c,x=.bl c/\if c=true then Q (.bl true) H1 else tb σ H1 Q
noncomputable def Si (ta:TE):TE:=fun σ H Q=>ta σ H fun x H1=>∃ c,x=.bl c/\Q (.bl (!c)) H1
theorem gm {op}{t:TE}(h:PE X a t):PE X (.BoolOp op [a] pos) t:=fun pins s σ H Q I hw=>BoolOp_one (h pins s σ H Q I hw)
theorem eX (ha:PE X a ta)(hb:PE X (.BoolOp .And (b::rest) pos) tb):PE X (.BoolOp .And (a::b::rest) pos) (Sh ta tb):=by
 intro pins s σ H Q I h;refine BoolOp_and (bS (ha pins s σ H _ I h) fun v s1 fu=>?_);obtain⟨x,H1,I1,r1,q1⟩:=fu;obtain⟨c,rfl,q1⟩:=q1;cases r1;refine wpAny_truthy_bool ?_;cases c with
 |true=>exact hb pins s1 σ H1 Q I1 q1
 |false=>exact⟨.bl false,H1,I1,rfl,q1⟩
theorem Li (ha:PE X a ta)(hb:PE X (.BoolOp .Or (b::rest) pos) tb):PE X (.BoolOp .Or (a::b::rest) pos) (Vk ta tb):=by
 intro pins s σ H Q I h;refine BoolOp_or (bS (ha pins s σ H _ I h) fun v s1 fu=>?_);obtain⟨x,H1,I1,r1,q1⟩:=fu;obtain⟨c,rfl,q1⟩:=q1;cases r1;refine wpAny_truthy_bool ?_;cases c with
 |false=>exact hb pins s1 σ H1 Q I1 q1
 |true=>exact⟨.bl true,H1,I1,rfl,q1⟩
theorem Lj (ha:PE X a ta):PE X (.UnaryOp .Not a pos) (Si ta):=by
 intro pins s σ H Q I h;refine UnaryOp_ (bS (ha pins s σ H _ I h) fun v s1 fu=>?_);obtain⟨x,H1,I1,r1,q1⟩:=fu;obtain⟨c,rfl,q1⟩:=q1;cases r1;exact not_of (wpAny_truthy_bool ⟨.bl (!c),H1,I1,rfl,q1⟩)
def Yx (t:TT)(ta tb:TE):TE:=fun σ H Q=>t σ H fun c H1=>if c=true then ta σ H1 Q else tb σ H1 Q
theorem cu {c:Expr}(hc:PT X c tA)(ha:PE X a ta)(hb:PE X b tb):PE X (.IfExp c a b pos) (Yx tA ta tb):=by
 intro pins s σ H Q I h;refine wpAny_IfExp (bS (hc pins s σ H _ I h) fun d s1 fu=>?_);obtain⟨H1,I1,q1⟩:=fu;cases d with
 |true=>exact ha pins s1 σ H1 Q I1 q1
 |false=>exact hb pins s1 σ H1 Q I1 q1
end
end L2
namespace L2
open PySem PySem.Spec PyProof.Rows
def aL (K:Frag)(H:Hp)(a:Addr)(xs:List V):Prop :=
 Rd H a (.lst xs) \/
  ∃(o:Obj)(its:Array Value)(n:Nat),K.lookup a=some o/\o.cls=.type "list"/\o.dict=none/\o.data=.seq its n/\its.size<=sizeLine/\Vals xs its.toList
def iQ (K:Frag)(H:Hp)(a:Addr)(xs:List V):Prop :=
 Rd H a (.tup xs) \/
  ∃(o:Obj)(its:Array Value)(n:Nat),K.lookup a=some o/\o.cls=.type "tuple"/\o.data=.seq its n/\its.size<=sizeLine/\Vals xs its.toList
noncomputable def Vl:Value->Option V
 |.none=>some .non
 |.bool b=>some (.bl b)
 |.int i _=>some (.int i)
 |.str x _=>some (.str x)
 |.bytes b _=>some (.Lc b)
 |.float b _=>some (.flt b)
 |.ref a=>some (.ref a)
 |.type n=>some (.ty n)
 |_=>none
theorem RelV.abs {x:V}{u:Value}(r:RelV x u):Vl u=some x:=by
 cases x with
 |non=>cases r;rfl
 |bl _=>cases r;rfl
 |int _=>obtain⟨t,rfl⟩:=r;rfl
 |str _=>obtain⟨t,rfl⟩:=r;rfl
 |Lc _=>obtain⟨t,rfl⟩:=r;rfl
 |flt _=>obtain⟨t,rfl⟩:=r;rfl
 |ref _=>cases r;rfl
 |ty _=>cases r;rfl
theorem RelV.inj {x y:V}{u:Value}(r:RelV x u)(q:RelV y u):x=y:=W' (r.abs.symm.trans q.abs)
theorem Vals.inj:∀{xs ys:List V} {us:List Value},Vals xs us->Vals ys us->xs=ys
 |_,_,_,.nil,.nil=>rfl
 |_,_,_,.cons r t,.cons r' t'=>by rw[r.inj r',Vals.inj t t']
section
variable {X:Cx} {pins:List (Addr×Obj)} {σ:St} {H:Hp} {s:Shared} {a:Addr} {xs ys:List V}
theorem aL.of {K:Frag}(h:H a=some (.lst xs)):aL K H a xs:=.inl (.inl h)
theorem iQ.of {K:Frag}(h:H a=some (.tup xs)):iQ K H a xs:=.inl (.inl h)
theorem Inv.list (I:Inv X pins σ H s)(h:aL X.K H a xs):∃ its:List Value,Vals xs its/\PlainL s.heap a its.toArray/\xs.length<=sizeLine:=by
 rcases h with h|⟨o,its,n,hk,hc,hd,hs,hz,r⟩
 ·obtain⟨z,its,n,r,e⟩:=h.ok I.hok;exact⟨its,r,⟨_,n,e,rfl,rfl,rfl⟩,z⟩
 ·refine⟨its.toList,r,⟨o,n,I.hX a o hk,hc,hd,by simpa using hs⟩,?_⟩;have e:=r.length;simp only [Array.length_toList]at e;omega
theorem Inv.tuple (I:Inv X pins σ H s)(h:iQ X.K H a xs):∃ its:List Value,Vals xs its/\IsTup s.heap a its.toArray/\xs.length<=sizeLine:=by
 rcases h with h|⟨o,its,n,hk,hc,hs,hz,r⟩
 ·obtain⟨z,its,r,p⟩:=h.ok I.hok;exact⟨its,r,p,z⟩
 ·refine⟨its.toList,r,⟨o,I.hX a o hk,hc,n,by simpa using hs⟩,?_⟩;have e:=r.length;simp only [Array.length_toList]at e;omega
theorem Inv.D4 (I:Inv X pins σ H s)(h:aL X.K H a xs)(h':aL X.K H a ys):xs=ys:=by
 obtain⟨its,r,⟨o,n,e,_,_,d⟩,_⟩:=I.list h;obtain⟨its',r',⟨o',n',e',_,_,d'⟩,_⟩:=I.list h';rw[e]at e';cases e';rw[d]at d'
 injection d' with d1 _
 have:its=its':=by simpa using Zn' Array.toList d1
 subst this;exact r.inj r'
end
abbrev Cx.wish (X:Cx)(E:Value->Shared->Prop):Cx:={ X with xe:=E }
noncomputable abbrev Cx.Lk (X:Cx):Cx:=X.wish fun _ _=>False
theorem Cx.Ok.wish {X:Cx}(ok:X.Ok)(E:Value->Shared->Prop):(X.wish E).Ok :=
 ⟨ok.mod,ok.kind,ok.glob,ok.blt,ok.above,ok.inj,ok.has,ok.cab,ok.hd,ok.frames,ok.RQ,ok.RS,ok.bs,ok.JJ,ok.GA,ok.GB,ok.qX,ok.NP⟩
theorem Cx.Ok.fO {X:Cx}{E:Value->Shared->Prop}(ok:(X.wish E).Ok):X.Ok :=
 ⟨ok.mod,ok.kind,ok.glob,ok.blt,ok.above,ok.inj,ok.has,ok.cab,ok.hd,ok.frames,ok.RQ,ok.RS,ok.bs,ok.JJ,ok.GA,ok.GB,ok.qX,ok.NP⟩
section
variable {X:Cx} {pins:List (Addr×Obj)} {σ:St} {H:Hp} {s:Shared} {E:Value->Shared->Prop}
theorem Inv.wish (I:Inv X pins σ H s)(E:Value->Shared->Prop):Inv (X.wish E) pins σ H s:=⟨I.ok.wish E,I.os,I.bare,I.base,I.loc,I.cell,I.free,I.gB,I.pin,I.hok,I.len⟩
theorem Inv.fO (I:Inv (X.wish E) pins σ H s):Inv X pins σ H s:=⟨I.ok.fO,I.os,I.bare,I.base,I.loc,I.cell,I.free,I.gB,I.pin,I.hok,I.len⟩
theorem SP.fO {D:Ends}{f:Flow}{s':Shared}(h:SP (X.wish E) pins D f s'):SP X pins D f s':=by
 cases f with
 |next=>obtain⟨σ',H',I,q⟩:=h;exact⟨σ',H',I.fO,q⟩
 |brk=>obtain⟨σ',H',I,q⟩:=h;exact⟨σ',H',I.fO,q⟩
 |cont=>obtain⟨σ',H',I,q⟩:=h;exact⟨σ',H',I.fO,q⟩
 |ret u=>obtain⟨v,σ',H',I,r,q⟩:=h;exact⟨v,σ',H',I.fO,r,q⟩
theorem se.Lk {st:List Stmt}{t:TS}(h:se X.Lk st t):se X st t:=fun pins s σ H D I hw =>
 wpAny_mono (h pins s σ H D (I.wish _) hw) (fun _ _ q=>q.fO) fun _ _ z=>False.elim z
end
section
variable {X:Cx} {st:Stmt} {rest:List Stmt} {t u:TS} {e:Expr} {te:TE} {pos:Pos}
def Sj:TS:=fun D σ H=>D.nx σ H
def Ll (t u:TS):TS:=fun D σ H=>t { D with nx:=u D } σ H
theorem ax:se X [] Sj:=fun _ _ σ H _ I h=>wpAny_execs_nil ⟨σ,H,I,h⟩
theorem ae (h1:PS X st t)(h2:se X rest u):se X (st::rest) (Ll t u):=by
 intro pins s σ H D I h;refine wpAny_execs_cons (bS (h1 pins s σ H { D with nx:=u D } I h) fun f s1 q=>?_);cases f with
 |next =>
  obtain⟨σ',H',I',q⟩:=q;exact h2 pins s1 σ' H' D I' q
 |ret v=>exact q
 |brk=>exact q
 |cont=>exact q
theorem ah (h1:PS X st t):se X [st] t:=by
 intro pins s σ H D I h;refine wpAny_execs_cons (bS (h1 pins s σ H D I h) fun f s1 q=>?_);cases f with
 |next=>exact wpAny_execs_nil q
 |ret v=>exact q
 |brk=>exact q
 |cont=>exact q
theorem Inv.quiet {pins:List (Addr×Obj)}{σ:St}{H:Hp}{s:Shared}(I:Inv X pins σ H s):interactive X.env=false:=by simp[interactive,I.ok.kind]
def Sk (te:TE):TS:=fun D σ H=>te σ H fun _ H1=>D.nx σ H1
theorem aS (he:PE X e te)(hs:swapsWith e none pos.line X.env=pure false:=by rfl):PS X (.Expr e pos) (Sk te):=by
 intro pins s σ H D I h;exact wpAny_Expr_any (bS (he pins s σ H _ I h) fun v s1 ⟨x,H1,I1,r1,q1⟩=>⟨σ,H1,I1,q1⟩) I.quiet hs
def Vm (te:TE):TS:=fun D σ H=>te σ H D.rt
theorem av (he:PE X e te):PS X (.Return (some e) pos) (Vm te):=by
 intro pins s σ H D I h;exact wpAny_Return_some (bS (he pins s σ H _ I h) fun v s1 ⟨x,H1,I1,r1,q1⟩=>⟨x,σ,H1,I1,r1,q1⟩)
def Vn (c:TT)(t u:TS):TS:=fun D σ H=>c σ H fun b H1=>if b=true then t D σ H1 else u D σ H1
theorem aI {c:Expr}{a b:List Stmt}{tc:TT}(hc:PT X c tc)(ha:se X a t)(hb:se X b u):PS X (.If c a b pos) (Vn tc t u):=by
 intro pins s σ H D I h;refine wpAny_If (bS (hc pins s σ H _ I h) fun d s1 fu=>?_);obtain⟨H1,I1,q1⟩:=fu;cases d with
 |true=>exact ha pins s1 σ H1 D I1 q1
 |false=>exact hb pins s1 σ H1 D I1 q1
end
abbrev TG:=V->St->Hp->(St->Hp->Prop)->Prop
abbrev NX:=List V->St->Hp->(St->Hp->Prop)->Prop
def PG (X:Cx)(target:Expr)(t:TG):Prop :=
 ∀(pins:List (Addr×Obj)) (s:Shared) (σ:St) (H:Hp) (v:V) (u:Value) (Q:St->Hp->Prop),Inv X pins σ H s->RelV v u->t v σ H Q ->
  wpAny (model X.prog X.w) X.A (assign target X.env u) (fun _ s'=>∃ σ' H',Inv X pins σ' H' s'/\Q σ' H') X.xe s
def UA (X:Cx)(ts:List Expr)(t:NX):Prop :=
 ∀(pins:List (Addr×Obj)) (s:Shared) (σ:St) (H:Hp) (vs:List V) (us:List Value) (Q:St->Hp->Prop),Inv X pins σ H s->Vals vs us->t vs σ H Q ->
  wpAny (model X.prog X.w) X.A (assignInOrder ((assignEach ts X.env).map (·.2)) us) (fun _ s'=>∃ σ' H',Inv X pins σ' H' s'/\Q σ' H') X.xe s
abbrev P7:=V->V->V->Hp->(Hp->Prop)->Prop
def Sl (X:Cx)(t:P7):Prop :=
 ∀(pins:List (Addr×Obj)) (s:Shared) (σ:St) (H:Hp) (o i v:V) (ov iv u:Value) (Q:Hp->Prop),Inv X pins σ H s->RelV o ov->RelV i iv->RelV v u->t o i v H Q ->
  wpAny (model X.prog X.w) X.A (setItem ov iv u) (fun _ s'=>∃ H',Inv X pins σ H' s'/\Q H') X.xe s
abbrev UB:=V->V->Hp->VK->Prop
def Xm (X:Cx)(op:Operator)(t:UB):Prop :=
 ∀(pins:List (Addr×Obj)) (s:Shared) (σ:St) (H:Hp) (x y:V) (v u:Value) (Q:VK),Inv X pins σ H s->RelV x v->RelV y u->t x y H Q ->
  wpAny (model X.prog X.w) X.A (inplaceOp op v u) (EP X pins σ Q) X.xe s
section
variable {X:Cx} {pos:Pos}
def vQ (i:Nat):TG:=fun v σ H Q=>Q (σ.set i (some v)) H
theorem bZ {i:Nat}{x:Str}(hN:X.N.Nodup)(hi:X.N[i]? = some x)(hx:Loc X.env.scope x)(hf:X.fn x=true\/X.env.scope.names.lookup x=some .local:=by first|exact .inl rfl|exact .inr rfl|assumption):PG X (.Name x pos) (vQ i):=by
 intro pins s σ H v u Q I r h;exact wpAny_assign_Name (sj I hN hi hx r (fun s' I'=>⟨_,H,I',h⟩) hf)
noncomputable def Vo:NX:=fun vs σ H Q=>vs=[]/\Q σ H
inductive Lm (t:TG)(u:NX)(vs:List V)(σ:St)(H:Hp)(Q:(St->Hp->Prop)):Prop
 |mk (v:_) (r:_) (cL:vs=v::r) (cM:t v σ H fun σ' H'=>u r σ' H' Q):Lm t u vs σ H Q
def Sm (t:TG)(u:NX):NX:=fun vs σ H Q=>Lm t u vs σ H Q
theorem dU:UA X [] Vo:=by
 intro pins s σ H vs us Q I r h;obtain⟨e,h⟩:=h;subst e;cases r;exact assignInOrder_nil ⟨σ,H,I,h⟩
theorem aM {e:Expr}{es:List Expr}{t:TG}{u:NX}(h1:PG X e t)(h2:UA X es u)
  (hs:(assignEach (e::es) X.env).map (·.2)=assign e X.env::(assignEach es X.env).map (·.2):=by rfl):UA X (e::es) (Sm t u):=by
 intro pins s σ H vs us Q I r h;obtain⟨v,vr,e1,h⟩:=h;subst e1;cases r with
 |cons r rr =>
  rw[hs];refine assignInOrder_cons (bS (h1 pins s σ H _ _ _ I r h) fun _ s1 fu=>?_);obtain⟨σ1,H1,I1,q1⟩:=fu;exact h2 pins s1 σ1 H1 _ _ Q I1 rr q1
inductive O7 (K:Frag)(n:Nat)(t:NX)(v:V)(σ:St)(H:Hp)(Q:(St->Hp->Prop)):Prop
 |mk (a:_) (xs:_) (cL:v=.ref a) (cM:iQ K H a xs) (dA:xs.length=n) (fA:t xs σ H Q):O7 K n t v σ H Q
def Vp (K:Frag)(n:Nat)(t:NX):TG:=fun v σ H Q=>O7 K n t v σ H Q
theorem fP {es:List Expr}{k:Nat}{t:NX}{n:Nat}(hc:X.calm=true)(h:UA X es t)
  (hn:(assignEach es X.env).length=n:=by rfl) (hst:(assignEach es X.env).findIdx? (·.1)=none:=by rfl):PG X (.Tuple es k pos) (Vp X.K n t):=by
 intro pins s σ H v u Q I r hw;obtain⟨a,xs,e1,hq,hl,hw⟩:=hw;subst e1;cases r;obtain⟨its,rv,ht,hz⟩:=I.tuple hq;refine assign_Tuple_tuple (I.ok.hd hc) ht (by simp[hn,<-hl,rv.length]) hst fun h' hx=>?_;have I1:Inv X pins σ H { s with heap:=h' }:=I.kept (t':=s.toks) fun b o e=>hx b o (Zo' (Zb' e)) e;exact h pins _ σ H xs _ Q I1 (by simpa using rv) hw
def Vq (to ti:TE)(t:P7):TG:=fun v σ H Q=>to σ H fun o H1=>ti σ H1 fun i H2=>t o i v H2 fun H3=>Q σ H3
theorem jD {o i:Expr}{to ti:TE}{t:P7}(ho:PE X o to)(hi:PE X i ti)(hs:Sl X t)
  (ha:∀ v,assign (.Subscript o i pos) X.env v=(do
   let ov <-holding [v] (eval o X.env)
   let iv <-holding [v,ov] (eval i X.env)
   standAt pos
   holding [v,ov,iv] (setItem ov iv v)
   release [v,ov,iv] []):=by intro _;rfl):PG X (.Subscript o i pos) (Vq to ti t):=by
 intro pins s σ H v u Q I r h;rw[ha];refine K' (wpAny_holding (bS (ho pins s σ H _ I h) fun ov s1 fu=>?_));obtain⟨x,H1,I1,r1,q1⟩:=fu;refine K' (wpAny_holding (bS (hi pins s1 σ H1 _ I1 q1) fun iv s2 fu=>?_));obtain⟨y,H2,I2,r2,q2⟩:=fu;refine K' (wpAny_standAt (K' (wpAny_holding (bS (hs pins s2 σ H2 x y v ov iv u _ I2 r1 r2 r q2) fun _ s3 fu=>?_))));obtain⟨H3,I3,q3⟩:=fu;exact wpAny_release ⟨σ,H3,I3,q3⟩
def Ln (te:TE)(g:TG):TS:=fun D σ H=>te σ H fun x H1=>g x σ H1 D.nx
theorem eL {tg e:Expr}{te:TE}{g:TG}(he:PE X e te)(hg:PG X tg g)(hs:swapsWithSole [tg] e pos.line X.env=pure false:=by rfl)(hw:swappedStores [tg] e X.env=pure none:=by rfl)
  (h1:(assignEach [tg] X.env).map (·.2)=[assign tg X.env]:=by rfl):PS X (.Assign [tg] e pos) (Ln te g):=by
 intro pins s σ H D I h;refine wpAny_Assign_stores (bS (he pins s σ H _ I h) fun v s1 ⟨x,H1,I1,r1,q1⟩=>?_) hs hw;rw[h1];exact bS (hg pins s1 σ H1 x v _ I1 r1 q1) fun _ s2 q=>q
theorem CP {i:Nat}{x:Str}{e:Expr}{te:TE}{pos':Pos}(hN:X.N.Nodup)(hi:X.N[i]? = some x)(hx:Loc X.env.scope x)(he:PE X e te)(hs:swapsWith e (some (.Name x pos')) pos.line X.env=pure false:=by rfl)(hf:X.fn x=true\/X.env.scope.names.lookup x=some .local:=by first|exact .inl rfl|exact .inr rfl|assumption) :
  PS X (.Assign [.Name x pos'] e pos) (Ln te (vQ i)):=by
 intro pins s σ H D I h;refine wpAny_Assign_Name (bS (he pins s σ H _ I h) fun v s1 ⟨y,H1,I1,r1,q1⟩=>?_) hs;exact sj I1 hN hi hx r1 (fun s2 I2=>⟨_,H1,I2,q1⟩) hf
def Vr (i:Nat)(te:TE)(ti:UB):TS:=fun D σ H=>∃ x,σ[i]? = some (some x)/\te σ H fun y H1=>ti x y H1 fun z H2=>D.nx (σ.set i (some z)) H2
theorem P8 {i:Nat}{x:Str}{e:Expr}{te:TE}{op:Operator}{ti:UB}{pos':Pos}(hN:X.N.Nodup)(hi:X.N[i]? = some x)(hx:Loc X.env.scope x)(he:PE X e te)(ho:Xm X op ti)(hf:X.fn x=true\/X.env.scope.names.lookup x=some .local:=by first|exact .inl rfl|exact .inr rfl|assumption) :
  PS X (.AugAssign (.Name x pos') op e pos) (Vr i te ti):=by
 intro pins s σ H D I h;obtain⟨v,e1,h⟩:=h;obtain⟨m,hn,hl⟩:=I.loc;have Vs:Sb X.env.scope x:=by rcases hx with k|k;exact .inl k;exact .inr (.inl k)
 obtain⟨u,r,l⟩:=hl i x v hi e1 Vs;refine wpAny_AugAssign_Name ?_;have go:wpAny (model X.prog X.w) X.A (eval e X.env) (fun w s₂=>wpAny (model X.prog X.w) X.A (inplaceOp op u w) (fun r s₃=>wpAny (model X.prog X.w) X.A (storeName X.env x r) (fun _=>SP X pins D .next) X.xe s₃) X.xe s₂) X.xe s:=by
  refine bS (he pins s σ H _ I h) fun w s1 fu=>?_;obtain⟨y,H1,I1,r1,q1⟩:=fu;refine bS (ho pins s1 σ H1 v y u w _ I1 r r1 q1) fun z s2 fu=>?_;obtain⟨zv,H2,I2,r2,q2⟩:=fu;exact sj I2 hN hi hx r2 (fun s3 I3=>⟨_,H2,I3,q2⟩) hf
 rcases l with ⟨hk,hm⟩|⟨hk,c,hc,hcell⟩
 ·exact wpAny_loadName_local I.ok.kind hk hn hm go
 ·rcases hk with hk|hk
  ·exact wpAny_loadName_cell I.ok.kind hk hc hcell go
  ·rcases hx with k|k
   ·have:X.env.scope.names.lookup x=some .free:=hk;rw[k]at this;cases this
   ·have:X.env.scope.names.lookup x=some .free:=hk;rw[k]at this;cases this
noncomputable def Yy (f:Int->Int->Int):UB:=fun x y H Q=>∃ i j,x=.int i/\y=.int j/\Q (.int (f i j)) H
theorem P9:Xm X .Add (Yy fun i j=>i+j):=by
 intro pins s σ H x y v u Q I r1 r2 h;obtain⟨i,j,e1,e2,q⟩:=h;subst e1;subst e2;obtain⟨t,rfl⟩:=r1;obtain⟨t',rfl⟩:=r2;exact iadd_int ⟨.int _,H,I.tok _,⟨_,rfl⟩,q⟩
end
section
variable {X:Cx} {pos:Pos}
def Qa (c:TT)(tb:TS):TS:=fun D σ H=>∃ W:Nat->St->Hp->Prop,(∃ m,W m σ H)/\∀ m σ H,W m σ H ->
 c σ H fun b H1=>if b=true then ∃ N:St->Hp->Prop,(∀ σ' H',N σ' H'->∃ m',m'<m/\W m' σ' H')/\tb { D with nx:=N,ct:=N,bk:=D.nx } σ H1 else D.nx σ H1
theorem yy {c:Expr}{body:List Stmt}{tc:TT}{tb:TS}(hp:PassesOwn (model X.prog X.w) X.A X.env X.xe)(hc:PT X c tc)(hb:se X body tb):PS X (.While c body [] pos) (Qa tc tb):=by
 intro pins s σ H D I h;obtain⟨W,⟨m0,w0⟩,turn⟩:=h;refine wpAny_While (codeAny_whileLoop (fun n s'=>∃ σ' H',Inv X pins σ' H' s'/\W n σ' H') ?_ m0 ⟨σ,H,I,w0⟩);rintro n s1 ⟨σ1,H1,I1,w1⟩;refine wpAny_passesOwn hp (bS (hc pins s1 σ1 H1 _ I1 (turn n σ1 H1 w1)) fun b s2 fu=>?_);obtain⟨H2,I2,q2⟩:=fu;cases b with
 |true =>
  obtain⟨N,hN,q2⟩:=q2;rw[Zc' rfl];refine wpAny_passesOwn hp (bS (hb pins s2 σ1 H2 _ I2 q2) fun f s3 q3=>?_);cases f with
  |next =>
   obtain⟨σ3,H3,I3,n3⟩:=q3;obtain⟨m',hm,w3⟩:=hN σ3 H3 n3;exact⟨m',hm,σ3,H3,I3,w3⟩
  |cont =>
   obtain⟨σ3,H3,I3,n3⟩:=q3;obtain⟨m',hm,w3⟩:=hN σ3 H3 n3;exact⟨m',hm,σ3,H3,I3,w3⟩
  |brk=>exact q3
  |ret v=>exact q3
 |false =>
  rw[Za' Zg'];exact wpAny_execs_nil ⟨σ1,H2,I2,q2⟩
end
structure It where
 go:Nat->Hp->Prop
 JL:Nat->Hp->V->Hp->Prop
 stop:Nat->Hp->Prop
def iZ (X:Cx)(pins:List (Addr×Obj))(H:Hp)(b:Addr):Prop :=
 H b=none/\b≠X.env.locals/\b ∉ X.fs/\(b∈X.ex\/X.s₀.heap.objs.size<=b)/\(∀ x c,X.env.cells.lookup x=some c->c≠b)/\∀ p∈X.pn++pins,p.1≠b
theorem Inv.CQ {X:Cx}{pins:List (Addr×Obj)}{σ:St}{H H':Hp}{s:Shared}{b:Addr}(I:Inv X pins σ H s)(hb:s.heap.objs.size<=b)(hn:H' b=none):iZ X pins H' b:=by
 refine⟨hn,Nat.ne_of_gt (Ze' I.lt hb),I.Vg hb,.inr (Zf' I.sz hb),fun x c e z=>?_,fun p hp z=>?_⟩
 ·obtain⟨v,q⟩:=I.cell x c e;exact j' (Ze' q.lt (by rw[z];exact hb)) (Nat.lt_irrefl _)
 ·exact j' (Ze' (Zb' (I.pin p hp).1) (by rw[z];exact hb)) (Nat.lt_irrefl _)
structure Turn (P:Program)(w:World)(K:Frag)(tg:Expr)(J:It)(fp:List Addr)(it:Addr)(tn:Nat->Heap->Prop):Prop where
 mem:it∈fp
 obj:∀ i h,tn i h->∀ b∈fp,∃ o,h.get? b=some o/\∀ v,o.data≠.cell v
 keep:∀ i h h',tn i h->(∀ b∈fp,∀ o,h.get? b=some o->h'.get? b=some o)->tn i h'
 item:∀(X:Cx),X.prog=P->X.w=w->X.K=K->X.calm=true->∀(i:Nat)(pins:List (Addr×Obj)) (s:Shared) (σ:St) (H:Hp) (E:Value->Shared->Prop),Inv X pins σ H s->(∀ b∈fp,iZ X pins H b)->tn i s.heap->J.go i H ->
  wpAny (model P w) X.A (pyNext (.ref it)) (fun r s1=>∃ u,r=some u /\
   wpAny (model P w) X.A (letOwnedTupleGo tg (.ref it) u) (fun _ s2=>∃ x H',Inv X pins σ H' s2/\RelV x u/\J.JL i H x H'/\tn (i+1) s2.heap/\∀ b∈fp,H' b=none) E s1) E s
 done:∀(X:Cx),X.prog=P->X.w=w->X.K=K->X.calm=true->∀(i:Nat)(pins:List (Addr×Obj)) (s:Shared) (σ:St) (H:Hp) (E:Value->Shared->Prop),Inv X pins σ H s->(∀ b∈fp,iZ X pins H b)->tn i s.heap->J.stop i H ->
  wpAny (model P w) X.A (pyNext (.ref it)) (fun r s1=>r=none/\Inv X pins σ H s1) E s
 self:∀(A:Around)(i:Nat)(s:Shared)(Q:Value->Shared->Prop)(E:Value->Shared->Prop),tn i s.heap->Q (.ref it) s->wpAny (model P w) A (pyIter (.ref it)) Q E s
abbrev TI:=St->Hp->(It->Hp->Prop)->Prop
def PIE (X:Cx)(pins:List (Addr×Obj))(σ:St)(tg:Expr)(R:It->Hp->Prop)(itv:Value)(s2:Shared):Prop :=
 ∃(it:Addr)(fp:List Addr)(tn:Nat->Heap->Prop)(J:It)(H':Hp),itv=.ref it/\Inv X pins σ H' s2/\Turn X.prog X.w X.K tg J fp it tn/\tn 0 s2.heap/\(∀ b∈fp,iZ X pins H' b)/\R J H'
def PI (X:Cx)(tg iter:Expr)(wi:TI):Prop :=
 ∀(pins:List (Addr×Obj)) (s:Shared) (σ:St) (H:Hp) (R:It->Hp->Prop),Inv X pins σ H s->wi σ H R ->
  wpAny (model X.prog X.w) X.A (eval iter X.env) (fun v s1=>wpAny (model X.prog X.w) X.A (pyIter v) (PIE X pins σ tg R) X.xe s1) X.xe s
theorem Ic {M:Model}{A:Around}{E:Value->Shared->Prop}{s:Shared}{tg:Expr}{it:Addr}{u:Value}{o:Obj}{n:String}{vs:Array Value}{Q:Unit->Shared->Prop}(ho:s.heap.get? it=some o)(hc:o.cls=.type n)(hd:o.data=.fields vs)
  (hn:["enumerate","zip","dict_itemiterator","dict_reverseitemiterator","odict_iterator","itertools.zip_longest","itertools.pairwise"].contains n=false) (hQ:Q () s):wpAny M A (letOwnedTupleGo tg (.ref it) u) Q E s:=by
 unfold letOwnedTupleGo;cases tg <;> first
  |exact Z' hQ
  |(cases u <;> first
    |exact Z' hQ
    |(refine K' (wpAny_load ho ?_);rw[hc,hd];show wpAny M A (if(["enumerate","zip","dict_itemiterator","dict_reverseitemiterator","odict_iterator","itertools.zip_longest","itertools.pairwise"].contains n&&vs[0]? == some (rawInt _))=true then _ else _) Q E s;rw[Za' (by intro h;rw[hn,Bool.false_and]at h;cases h)];exact Z' hQ))
noncomputable def RT (K:Frag)(a:Addr):It :=
 ⟨fun i H=>∃ xs x,aL K H a xs/\xs[i]? = some x,fun i H x H'=>H'=H/\∀ xs,aL K H a xs->xs[i]? = some x,fun i H=>∃ xs,aL K H a xs/\xs.length<=i⟩
noncomputable def O8 (lo:Int)(n:Nat):It:=⟨fun i _=>i<n,fun i H x H'=>H'=H/\x=.int (lo+i),fun i _=>n<=i⟩
theorem JM {P:Program}{w:World}{K:Frag}{tg:Expr}(a it:Addr):Turn P w K tg (RT K a) [it] it (fun i h=>h.IsListIter it a i) where
 mem:=by simp
 obj:=fun i h st b hb=>by
  have e:b=it:=by simpa using hb
  subst e;obtain⟨o,e,c,d⟩:=st;exact⟨o,e,fun v z=>by rw[d]at z;cases z⟩
 keep:=fun i h h' st k=>st.at fun o e=>k it (by simp) o e
 item:=by
  intro X hP hw hK hc i pins s σ H E I hf st hg;subst hP hw hK;obtain⟨xs,x,hq,hx⟩:=hg;obtain⟨its,rv,p,hz⟩:=I.list hq;obtain⟨u,hu,ru⟩:=rv.get hx;obtain⟨f0,f1,f2,f3,f4,f5⟩:=hf it (by simp);refine wpAny_pyNext_list_item st p.isList (x:=u) (by simpa using hu) fun h' st' sb=>?_;have I1:Inv X pins σ H { s with heap:=h' }:=I.turned (t':=s.toks) (fun b o hb e=>(sb.2 b hb).trans e) f0 f1 f3 f4 f5;obtain⟨o,e,c,d⟩:=id st';exact⟨u,rfl,Ic (s:={ s with heap:=h' }) e c d (by decide) ⟨x,H,I1,ru,⟨rfl,fun ys hy=>by rw[I.D4 hy hq];exact hx⟩,st',fun b hb=>(hf b hb).1⟩⟩
 done:=by
  intro X hP hw hK hc i pins s σ H E I hf st hg;subst hP hw hK;obtain⟨xs,hq,hx⟩:=hg;obtain⟨its,rv,p,hz⟩:=I.list hq;obtain⟨f0,f1,f2,f3,f4,f5⟩:=hf it (by simp);have hl:=rv.length;exact wpAny_pyNext_list_end (I.ok.hd hc) st p.isList (by simp;omega) fun h' eb=>⟨rfl,I.turned (t':=s.toks) (fun b o hb e=>eb b o hb e) f0 f1 f3 f4 f5⟩
 self:=fun _ _ _ _ _ st h=>wpAny_pyIter_listiter st h
theorem GD {P:Program}{w:World}{K:Frag}{tg:Expr}(it:Addr)(lo:Int)(n:Nat):Turn P w K tg (O8 lo n) [it] it (fun i h=>IsRangeIter h it (lo+(i:Nat) * 1) ((n:Int)-(i:Nat)) 1) where
 mem:=by simp
 obj:=fun i h st b hb=>by
  have e:b=it:=by simpa using hb
  subst e;exact⟨_,st,fun v z=>by
   have z':Data.fields _=Data.cell v:=z;cases z'⟩
 keep:=fun i h h' st k=>k it (by simp) _ st
 item:=by
  intro X hP hw hK hc i pins s σ H E I hf st hg;subst hP hw hK;obtain⟨f0,f1,f2,f3,f4,f5⟩:=hf it (by simp);have W:=Walks.range (prog:=X.prog) (w:=X.w) (I.ok.hd hc) it lo 1 n;refine W.item i s _ _ hg st fun v h' tk hv st' kk=>?_;obtain⟨t,rfl⟩:=hv;have I1:Inv X pins σ H { s with heap:=h',toks:=tk }:=I.turned (fun b o hb e=>kk b o (by simpa using hb) e) f0 f1 f3 f4 f5;refine⟨_,rfl,Ic (s:={ s with heap:=h',toks:=tk }) (n:="range_iterator") st' rfl rfl (by decide) ⟨.int (lo+i),H,I1,⟨t,?_⟩,⟨rfl,rfl⟩,st',fun b hb=>(hf b hb).1⟩⟩;rw[Int.mul_one]
 done:=by
  intro X hP hw hK hc i pins s σ H E I hf st hg;subst hP hw hK;obtain⟨f0,f1,f2,f3,f4,f5⟩:=hf it (by simp);exact wpAny_pyNext_range_end (I.ok.hd hc) st (by have:n<=i:=hg;omega) fun h' eb=>⟨rfl,I.turned (t':=s.toks) (fun b o hb e=>eb b o hb e) f0 f1 f3 f4 f5⟩
 self:=fun _ _ _ _ _ st h=>wpAny_pyIter_rangeiter st h
end L2
namespace L2
open PySem PySem.Spec PyProof.Rows
section
variable {X:Cx} {tg:Expr}
inductive Lo (K:Frag)(R:(It->Hp->Prop))(x:V)(H1:Hp):Prop
 |mk (a:_) (cL:x=.ref a) (cM:(∃ xs,aL K H1 a xs)/\R (RT K a) H1):Lo K R x H1
def So (K:Frag)(tl:TE):TI:=fun σ H R=>tl σ H fun x H1=>Lo K R x H1
theorem dz {l:Expr}{tl:TE}(hl:PE X l tl):PI X tg l (So X.K tl):=by
 intro pins s σ H R I h;refine bS (hl pins s σ H _ I h) fun v s1 fu=>?_;obtain⟨x,H1,I1,r1,q1⟩:=fu;obtain⟨a,e,⟨xs,hq⟩,q⟩:=q1;subst e;cases r1;obtain⟨its,rv,p,hz⟩:=I1.list hq;refine wpAny_pyIter_list p.isList ?_;refine⟨s1.heap.objs.size,[s1.heap.objs.size],_,_,H1,rfl,I1.kept (t':=s1.toks) fun b o e=>U' _ e,JM a _,⟨_,Zi' _ rfl,rfl,rfl⟩,fun b hb=>?_,q⟩;have e:b=s1.heap.objs.size:=by simpa using hb
 subst e;exact I1.CQ (X' _) (I1.hok.fresh (X' _))
theorem D5 {pins:List (Addr×Obj)}{σ:St}{H:Hp}{s:Shared}{R:It->Hp->Prop}{E:Value->Shared->Prop}{lo hi:Int}{t u v:Tok}{tk:Nat}(I:Inv X pins σ H s)(h1:-(2 ^ 62)<=lo)(h2:lo<2 ^ 62)(h3:-(2 ^ 62)<=hi)(h4:hi<2 ^ 62)
  (q:R (O8 lo (hi-lo).toNat) H):wpAny (model X.prog X.w) X.A (pyIter (.ref s.heap.objs.size)) (PIE X pins σ tg R) E { s with heap:=s.heap.push { cls:=.type "range",data:=.fields #[.int lo t,.int hi u,.int 1 v] },toks:=tk }:=by
 refine wpAny_pyIter_range (IsRange.new ..) (small_one h1 h2 h3 h4) ?_;have I1:Inv X pins σ H { s with heap:=s.heap.push { cls:=.type "range",data:=.fields #[.int lo t,.int hi u,.int 1 v] },toks:=tk }:=I.kept fun b o e=>U' _ e;refine⟨(s.heap.push { cls:=.type "range",data:=.fields #[.int lo t,.int hi u,.int 1 v] }).objs.size,[(s.heap.push { cls:=.type "range",data:=.fields #[.int lo t,.int hi u,.int 1 v] }).objs.size],_,_,H,rfl,
  I1.kept (t':=tk) fun b o e=>U' _ e,GD _ lo (hi-lo).toNat,?_,fun b hb=>?_,q⟩
 ·have e1:lo+((0:Nat):Int) * 1=lo:=by simp
  have e2:(((hi-lo).toNat:Nat):Int)-((0:Nat):Int)=Builtin.Range.rangeSize lo hi 1:=by rw[rangeSize_one];split <;> omega
  show IsRangeIter _ _ (lo+((0:Nat):Int) * 1) ((((hi-lo).toNat:Nat):Int)-((0:Nat):Int)) 1;rw[e1,e2];exact Zi' _ rfl
 ·have e:b=(s.heap.push { cls:=.type "range",data:=.fields #[.int lo t,.int hi u,.int 1 v] }).objs.size:=by simpa using hb
  subst e;exact I1.CQ (X' _) (I1.hok.fresh (X' _))
inductive Lp (R:(It->Hp->Prop))(vs:List V)(H1:Hp):Prop
 |mk (j:Int) (cL:vs=[.int j]) (cM:-(2 ^ 62)<=j/\j<2 ^ 62/\R (O8 0 j.toNat) H1):Lp R vs H1
def Sr (ta:TA):TI:=fun σ H R=>ta σ H fun vs H1=>Lp R vs H1
inductive Lq (R:(It->Hp->Prop))(vs:List V)(H1:Hp):Prop
 |mk (i j:Int) (cL:vs=[.int i,.int j]) (cM:(-(2 ^ 62)<=i/\i<2 ^ 62/\-(2 ^ 62)<=j/\j<2 ^ 62)) (dA:R (O8 i (j-i).toNat) H1):Lq R vs H1
def Ss (ta:TA):TI:=fun σ H R=>ta σ H fun vs H1=>Lq R vs H1
theorem ip {a:Expr}{ta:TA}{p pos:Pos}(hg:Gl X "range")(hm:X.mg "range"=none)(ha:PA X [a] ta)(hs:starEach [a] X.env=[(false,eval a X.env)]:=by rfl):PI X tg (.Call (.Name "range" p) [a] [] pos) (Sr ta):=by
 intro pins s σ H R I h;refine Call_ (lL I hg hm boot_range (PyProof.Rows.callWith_type1 (bS (ha pos pins s σ H _ I h) fun us s1 ⟨vs,H1,I1,r1,q1⟩=>?_) hs rfl));obtain⟨j,e,q1,q2,q⟩:=q1;subst e;cases r1 with
 |cons r rr =>
  cases rr;obtain⟨t,rfl⟩:=r;exact call_range_1 (D5 I1 (by omega) (by omega) q1 q2 (by simpa using q))
theorem JN {a b:Expr}{ta:TA}{p pos:Pos}(hg:Gl X "range")(hm:X.mg "range"=none)(ha:PA X [a,b] ta)(hs:starEach [a,b] X.env=[(false,eval a X.env),(false,eval b X.env)]:=by rfl)(hs2:starEach [b] X.env=[(false,eval b X.env)]:=by rfl) :
  PI X tg (.Call (.Name "range" p) [a,b] [] pos) (Ss ta):=by
 intro pins s σ H R I h;refine Call_ (lL I hg hm boot_range (PyProof.Rows.callWith_type1 (bS (ha pos pins s σ H _ I h) fun us s1 ⟨vs,H1,I1,r1,q1⟩=>?_) (by rw[hs,hs2]) (by rw[hs2];rfl)));obtain⟨i,j,e,⟨q1,q2,q3,q4⟩,q⟩:=q1;subst e;cases r1 with
 |cons r rr =>
  cases rr with
  |cons r' rr =>
   cases rr;obtain⟨t,rfl⟩:=r;obtain⟨t',rfl⟩:=r';exact call_range_2 (D5 I1 q1 q2 q3 q4 q)
def Vt (wi:TI)(g:TG)(tb:TS):TS:=fun D σ H=>wi σ H fun J H1=>∃ W:Nat->Nat->St->Hp->Prop,(∃ m,W 0 m σ H1)/\∀ i m σ H,W i m σ H ->
 (J.stop i H/\D.nx σ H)\/(J.go i H/\∃ N:St->Hp->Prop,(∀ σ' H',N σ' H'->∃ m',m'<m/\W (i+1) m' σ' H')/\∀ x H',J.JL i H x H'->g x σ H' fun σ2 H2=>tb { D with nx:=N,ct:=N,bk:=D.nx } σ2 H2)
noncomputable def yz (fp:List Addr)(h:Heap):List (Addr×Obj):=fp.filterMap fun b=>(h.get? b).map fun o=>(b,o)
theorem mQ {fp:List Addr}{h:Heap}{b:Addr}{o:Obj}(hb:b∈fp)(e:h.get? b=some o):(b,o)∈yz fp h:=List.mem_filterMap.mpr ⟨b,hb,by rw[e];rfl⟩
theorem JO {fp:List Addr}{h:Heap}{p:Addr×Obj}(hp:p∈yz fp h):p.1∈fp/\h.get? p.1=some p.2:=by
 obtain⟨b,hb,e⟩:=List.mem_filterMap.mp hp;cases q:h.get? b with
 |none=>rw[q]at e;cases e
 |some o =>
  rw[q]at e;have e':(b,o)=p:=W' e;subst e';exact⟨hb,q⟩
theorem Inv.pinned {pins:List (Addr×Obj)}{σ:St}{H:Hp}{s:Shared}{fp:List Addr}(I:Inv X pins σ H s)(hf:∀ b∈fp,iZ X pins H b)(ho:∀ b∈fp,∃ o,s.heap.get? b=some o/\∀ v,o.data≠.cell v):Inv X (pins++yz fp s.heap) σ H s :=
 I.Ib fun p hp=>(mem_append.mp hp).elim (fun z=>I.pin p (mem_append_right _ z)) fun z=>by
  obtain⟨hb,e⟩:=JO z;obtain⟨f0,f1,f2,_⟩:=hf p.1 hb;obtain⟨o,e',d⟩:=ho p.1 hb;rw[e]at e';cases e';exact⟨e,f0,f1,f2,d⟩
theorem Inv.oy {pins pl:List (Addr×Obj)}{σ:St}{H:Hp}{s:Shared}(I:Inv X (pins++pl) σ H s):Inv X pins σ H s:=I.Ib fun p hp=>I.pin p (mem_append_right _ (mem_append_left _ hp))
theorem dF {iter:Expr}{body:List Stmt}{wi:TI}{g:TG}{tb:TS}{pos:Pos}(hp:PassesOwn (model X.prog X.w) X.A X.env X.xe)(hc:X.calm=true)(hi:PI X tg iter wi)(hg:PG X tg g)(hb:se X body tb)
  (hs:∀ x,foldedSetIterable iter X.env x=pure x:=by intro _;rfl):PS X (.For tg iter body [] pos) (Vt wi g tb):=by
 intro pins s σ H D I h;refine wpAny_For (bS (hi pins s σ H _ I h) fun v s1 h1=>bS h1 fun itv s2 h2=>?_) hs;obtain⟨it,fp,tn,J,H2,e,I2,T,st2,f2,W,⟨m0,w0⟩,turn⟩:=h2;subst e;have stat:∀{H':Hp},(∀ b∈fp,H' b=none)->∀ b∈fp,iZ X pins H' b:=fun hn b hb=>⟨hn b hb,(f2 b hb).2⟩;refine codeAny_forLoop_any (fun n s'=>∃ i σ' H',Inv X pins σ' H' s'/\tn i s'.heap/\(∀ b∈fp,H' b=none)/\W i n σ' H') ?_ m0 ⟨0,σ,H2,I2,st2,fun b hb=>(f2 b hb).1,w0⟩;rintro n s3 ⟨i,σ3,H3,I3,st3,Xn,w3⟩;rcases turn i n σ3 H3 w3 with ⟨stop,qn⟩|⟨go,N,hN,step⟩
 ·refine wpAny_passesOwn hp (bS (T.done X rfl rfl rfl hc i pins s3 σ3 H3 X.xe I3 (stat Xn) st3 stop) fun r s4 fu=>?_);obtain⟨hr,I4⟩:=fu;subst hr;exact wpAny_execs_nil ⟨σ3,H3,I4,qn⟩
 ·refine wpAny_passesOwn hp (bS (T.item X rfl rfl rfl hc i pins s3 σ3 H3 X.xe I3 (stat Xn) st3 go) fun r s4 fu=>?_);obtain⟨u,hr,h4⟩:=fu;subst hr;refine wpAny_passesOwn hp (bS h4 fun _ s5 fu=>?_);obtain⟨x,H5,I5,r5,y5,Qb,Vu⟩:=fu;have Vv:=I5.pinned (stat Vu) (T.obj _ _ Qb);refine wpAny_passesOwn hp (bS (hg _ s5 σ3 H5 x u _ Vv r5 (step x H5 y5)) fun _ s6 fu=>?_);obtain⟨σ6,H6,I6,q6⟩:=fu;refine wpAny_passesOwn hp (bS (hb _ s6 σ6 H6 _ I6 q6) fun f s7 q7=>?_);have again:∀{σ7:St} {H7:Hp},Inv X (pins++yz fp s5.heap) σ7 H7 s7->N σ7 H7->∃ m,m<n/\∃ i σ' H',Inv X pins σ' H' s7/\tn i s7.heap/\(∀ b∈fp,H' b=none)/\W i m σ' H':=fun {σ7 H7} I7 n7=>by
   obtain⟨m',hm,w7⟩:=hN σ7 H7 n7;refine⟨m',hm,i+1,σ7,H7,I7.oy,T.keep _ _ _ Qb fun b hb o e=>(I7.pin (b,o) (mem_append_right _ (mem_append_right _ (mQ hb e)))).1,fun b hb=>?_,w7⟩;obtain⟨o,e,d⟩:=T.obj _ _ Qb b hb;exact(I7.pin (b,o) (mem_append_right _ (mem_append_right _ (mQ hb e)))).2.1
  cases f with
  |next=>obtain⟨σ7,H7,I7,n7⟩:=q7;exact again I7 n7
  |cont=>obtain⟨σ7,H7,I7,n7⟩:=q7;exact again I7 n7
  |brk=>obtain⟨σ7,H7,I7,q7⟩:=q7;exact⟨σ7,H7,I7.oy,q7⟩
  |ret v=>obtain⟨x7,σ7,H7,I7,r7,q7⟩:=q7;exact⟨x7,σ7,H7,I7.oy,r7,q7⟩
end
theorem lX {K:Frag}{a:Addr}{xs:List V}{g:TG}{tb:TS}{D:Ends}{σ:St}{H:Hp}(Pv:Nat->St->Hp->Prop)(h0:Pv 0 σ H)(hl:∀ i σ H,i<=xs.length->Pv i σ H->aL K H a xs)
  (hs:∀ i x σ H,xs[i]? = some x->Pv i σ H->g x σ H fun σ2 H2=>tb { D with nx:=Pv (i+1),ct:=Pv (i+1),bk:=D.nx } σ2 H2) (hd:∀ σ H,Pv xs.length σ H->D.nx σ H) :
  ∃ W:Nat->Nat->St->Hp->Prop,(∃ m,W 0 m σ H)/\∀ i m σ H,W i m σ H ->
   ((RT K a).stop i H/\D.nx σ H)\/((RT K a).go i H/\∃ N:St->Hp->Prop,(∀ σ' H',N σ' H'->∃ m',m'<m/\W (i+1) m' σ' H')/\∀ x H',(RT K a).JL i H x H'->g x σ H' fun σ2 H2=>tb { D with nx:=N,ct:=N,bk:=D.nx } σ2 H2):=by
 refine⟨fun i m σ H=>m=xs.length-i/\i<=xs.length/\Pv i σ H,⟨xs.length,by simp,Nat.zero_le _,h0⟩,?_⟩;rintro i m σ H ⟨rfl,hi,p⟩;have q:=hl i σ H hi p
 by_cases hlt:i<xs.length
 ·refine .inr ⟨⟨xs,xs[i],q,by simp[hlt]⟩,Pv (i+1),fun σ' H' p'=>⟨xs.length-(i+1),by omega,rfl,hlt,p'⟩,fun x H' y=>?_⟩;obtain⟨e,y⟩:=y;subst e;exact hs i x σ _ (y xs q) p
 ·have e:i=xs.length:=by omega
  subst e;exact .inl ⟨⟨xs,q,X' _⟩,hd σ H p⟩
theorem jv {lo:Int}{n:Nat}{g:TG}{tb:TS}{D:Ends}{σ:St}{H:Hp}(Pv:Nat->St->Hp->Prop)(h0:Pv 0 σ H)
  (hs:∀ i σ H,i<n->Pv i σ H->g (.int (lo+i)) σ H fun σ2 H2=>tb { D with nx:=Pv (i+1),ct:=Pv (i+1),bk:=D.nx } σ2 H2) (hd:∀ σ H,Pv n σ H->D.nx σ H) :
  ∃ W:Nat->Nat->St->Hp->Prop,(∃ m,W 0 m σ H)/\∀ i m σ H,W i m σ H ->
   ((O8 lo n).stop i H/\D.nx σ H)\/((O8 lo n).go i H/\∃ N:St->Hp->Prop,(∀ σ' H',N σ' H'->∃ m',m'<m/\W (i+1) m' σ' H')/\∀ x H',(O8 lo n).JL i H x H'->g x σ H' fun σ2 H2=>tb { D with nx:=N,ct:=N,bk:=D.nx } σ2 H2):=by
 refine⟨fun i m σ H=>m=n-i/\i<=n/\Pv i σ H,⟨n,by simp,Nat.zero_le _,h0⟩,?_⟩;rintro i m σ H ⟨rfl,hi,p⟩
 by_cases hlt:i<n
 ·refine .inr ⟨hlt,Pv (i+1),fun σ' H' p'=>⟨n-(i+1),by omega,rfl,hlt,p'⟩,fun x H' y=>?_⟩;obtain⟨e,y⟩:=y;subst e y;exact hs i σ _ hlt p
 ·have e:i=n:=by omega
  subst e;exact .inl ⟨X' _,hd σ H p⟩
end L2
namespace L2
open PySem PySem.Spec PyProof.Rows
abbrev R2:=V->V->Hp->VK->Prop
def lW (X:Cx)(f:Value->Value->Sem Value)(r:R2):Prop :=
 ∀(pins:List (Addr×Obj)) (s:Shared) (σ:St) (H:Hp) (x y:V) (v u:Value) (Q:VK),Inv X pins σ H s->RelV x v->RelV y u->r x y H Q ->
  wpAny (model X.prog X.w) X.A (f v u) (EP X pins σ Q) X.xe s
def Vy (X:Cx)(f:Value->Sem Value)(r:V->Hp->VK->Prop):Prop :=
 ∀(pins:List (Addr×Obj)) (s:Shared) (σ:St) (H:Hp) (x:V) (v:Value) (Q:VK),Inv X pins σ H s->RelV x v->r x H Q ->
  wpAny (model X.prog X.w) X.A (f v) (EP X pins σ Q) X.xe s
def fN (X:Cx)(f:Value)(r:List V->Hp->VK->Prop):Prop :=
 ∀(pins:List (Addr×Obj)) (s:Shared) (σ:St) (H:Hp) (xs:List V) (us:List Value) (Q:VK),Inv X pins σ H s->Vals xs us->r xs H Q ->
  wpAny (model X.prog X.w) X.A (call f us) (EP X pins σ Q) X.xe s
def Su (r:R2)(ta tb:TE):TE:=fun σ H Q=>ta σ H fun x H1=>tb σ H1 fun y H2=>r x y H2 Q
def YA (r:V->Hp->VK->Prop)(ta:TE):TE:=fun σ H Q=>ta σ H fun x H1=>r x H1 Q
inductive Xo (C:Int->Int->Prop)(g:Int->Int->V)(x:V)(y:V)(H:Hp)(Q:VK):Prop
 |mk (i:_) (j:_) (cL:x=.int i) (cM:y=.int j) (dA:C i j/\Q (g i j) H):Xo C g x y H Q
def rI (C:Int->Int->Prop)(g:Int->Int->V):R2:=fun x y H Q=>Xo C g x y H Q
inductive Sv (g:Int->Int->V)(x:V)(y:V)(H:Hp)(Q:VK):Prop
 |mk (i:_) (j:_) (cL:x=.int i) (cM:y=.int j) (dA:Q (g i j) H):Sv g x y H Q
def O9 (g:Int->Int->V):R2:=fun x y H Q=>Sv g x y H Q
def rU (g:Int->V):V->Hp->VK->Prop:=fun x H Q=>∃ i,x=.int i/\Q (g i) H
section
variable {X:Cx} {a b c:Expr} {ta tb tc:TE} {pos:Pos}
theorem Qc (ha:PE X a ta)(hb:PE X b tb){pins:List (Addr×Obj)}{s:Shared}{σ:St}{H:Hp}{R:V->V->Hp->Prop}(I:Inv X pins σ H s)
  (h:ta σ H fun x H1=>tb σ H1 fun y H2=>R x y H2) {Q:Value->Shared->Prop} {f:Value->Value->Sem Value}
  (hf:∀ v u s2 x y H2,Inv X pins σ H2 s2->RelV x v->RelV y u->R x y H2->wpAny (model X.prog X.w) X.A (f v u) Q X.xe s2) :
  wpAny (model X.prog X.w) X.A (eval a X.env) (fun v s₁=>wpAny (model X.prog X.w) X.A (eval b X.env) (fun u s₂=>wpAny (model X.prog X.w) X.A (f v u) Q X.xe s₂) X.xe s₁) X.xe s:=by
 refine bS (ha pins s σ H _ I h) fun v s1 fu=>?_;obtain⟨x,H1,I1,r1,q1⟩:=fu;refine bS (hb pins s1 σ H1 _ I1 q1) fun u s2 fu=>?_;obtain⟨y,H2,I2,r2,q2⟩:=fu;exact hf v u s2 x y H2 I2 r1 r2 q2
theorem aD {op:Operator}{r:R2}(ho:lW X (binaryOp op) r)(ha:PE X a ta)(hb:PE X b tb):PE X (.BinOp a op b pos) (Su r ta tb):=by
 intro pins s σ H Q I h;exact wpAny_BinOp (Qc ha hb I h fun v u s2 x y H2 I2 rx ry q=>ho pins s2 σ H2 x y v u Q I2 rx ry q)
theorem vR {op:UnaryOp}{r:V->Hp->VK->Prop}(ho:Vy X (unaryOp op) r)(ha:PE X a ta):PE X (.UnaryOp op a pos) (YA r ta):=by
 intro pins s σ H Q I h;exact UnaryOp_ (bS (ha pins s σ H _ I h) fun v s1 ⟨x,H1,I1,r1,q1⟩=>ho pins s1 σ H1 x v Q I1 r1 q1)
theorem UC {f:Value->Value->Sem Value}{C:Int->Int->Prop}{g:Int->Int->Int}
  (rule:∀(i j:Int)(t u:Tok)(s:Shared)(Q:Value->Shared->Prop)(E:Value->Shared->Prop),C i j->Q (.int (g i j) s.toks) { s with toks:=s.toks+1 }->wpAny (model X.prog X.w) X.A (f (.int i t) (.int j u)) Q E s) :
  lW X f (rI C fun i j=>.int (g i j)):=by
 intro pins s σ H x y v u Q I rx ry h;obtain⟨i,j,rfl,rfl,hc,q⟩:=h;obtain⟨t,rfl⟩:=rx;obtain⟨t',rfl⟩:=ry;exact rule i j t t' s _ _ hc ⟨.int (g i j),H,I.tok _,⟨_,rfl⟩,q⟩
theorem Sw {f:Value->Value->Sem Value}{g:Int->Int->Int}
  (rule:∀(i j:Int)(t u:Tok)(s:Shared)(Q:Value->Shared->Prop)(E:Value->Shared->Prop),Q (.int (g i j) s.toks) { s with toks:=s.toks+1 }->wpAny (model X.prog X.w) X.A (f (.int i t) (.int j u)) Q E s) :
  lW X f (O9 fun i j=>.int (g i j)):=by
 intro pins s σ H x y v u Q I rx ry h;obtain⟨i,j,rfl,rfl,q⟩:=h;obtain⟨t,rfl⟩:=rx;obtain⟨t',rfl⟩:=ry;exact rule i j t t' s _ _ ⟨.int (g i j),H,I.tok _,⟨_,rfl⟩,q⟩
theorem NY {f:Value->Value->Sem Value}{g:Int->Int->Bool}
  (rule:∀(i j:Int)(t u:Tok)(s:Shared)(Q:Value->Shared->Prop)(E:Value->Shared->Prop),Q (.bool (g i j)) s->wpAny (model X.prog X.w) X.A (f (.int i t) (.int j u)) Q E s) :
  lW X f (O9 fun i j=>.bl (g i j)):=by
 intro pins s σ H x y v u Q I rx ry h;obtain⟨i,j,rfl,rfl,q⟩:=h;obtain⟨t,rfl⟩:=rx;obtain⟨t',rfl⟩:=ry;exact rule i j t t' s _ _ ⟨.bl (g i j),H,I,rfl,q⟩
def Vz (i j:Int):Prop:=0<j/\j<1073741824
def VA (i j:Int):Prop:=0<=j/\j<=1000000/\i.natAbs<2 ^ 64
def Qd (i j:Int):Prop:=(-(2 ^ 64)<i/\i<2 ^ 64)\/(-(2 ^ 64)<j/\j<2 ^ 64)
theorem Qd.ok {i j:Int}(h:Qd i j):IntMulOk i j:=by
 rcases h with ⟨h1,h2⟩|⟨h1,h2⟩
 ·exact .of_left (intBits_le_64 h1 h2)
 ·exact .of_right (intBits_le_64 h1 h2)
theorem aO:lW X (binaryOp .Add) (O9 fun i j=>.int (i+j)):=Sw fun _ _ _ _ _ _ _ q=>add_int q
theorem gn:lW X (binaryOp .Sub) (O9 fun i j=>.int (i-j)):=Sw fun _ _ _ _ _ _ _ q=>sub_int q
theorem gJ:lW X (binaryOp .Mult) (rI Qd fun i j=>.int (i * j)):=UC fun _ _ _ _ _ _ _ hc q=>mul_int q hc.ok
theorem gf:lW X (binaryOp .FloorDiv) (rI Vz fun i j=>.int (i / j)):=UC fun i j _ _ _ _ _ hc q=>by
 have h1:(0:Int)<j:=hc.1;have h2:j<1073741824:=hc.2;exact floordiv_int (by omega) (by rw[Int.fdiv_eq_ediv_of_nonneg i (by omega)];exact q) (.inl (PyProof.noPylong_small (by omega)))
theorem bF:lW X (binaryOp .Mod) (rI (fun _ j=>0<j) fun i j=>.int (i % j)):=UC fun i j _ _ _ _ _ hc q=>by
 have h1:(0:Int)<j:=hc;exact mod_int' (by omega) (by rw[Int.fmod_eq_emod_of_nonneg i (by omega)];exact q)
theorem Lr:lW X (binaryOp .Pow) (rI VA fun i j=>.int (i ^ j.toNat)):=UC fun _ _ _ _ _ _ _ hc q=>pow_int_small hc.1 hc.2.1 hc.2.2 q
theorem YB {f:Value->Sem Value}{g:Int->Int}
  (rule:∀(i:Int)(t:Tok)(s:Shared)(Q:Value->Shared->Prop)(E:Value->Shared->Prop),Q (.int (g i) s.toks) { s with toks:=s.toks+1 }->wpAny (model X.prog X.w) X.A (f (.int i t)) Q E s) :
  Vy X f (rU fun i=>.int (g i)):=by
 intro pins s σ H x v Q I rx h;obtain⟨i,rfl,q⟩:=h;obtain⟨t,rfl⟩:=rx;exact rule i t s _ _ ⟨.int (g i),H,I.tok _,⟨_,rfl⟩,q⟩
theorem oz:Vy X (unaryOp .USub) (rU fun i=>.int (-i)):=YB fun _ _ _ _ _ q=>neg_int q
end
noncomputable def Sx:V->V->Bool
 |.non,.non=>true|.non,.int _=>true|.int _,.non=>true|.non,.bl _=>true|.bl _,.non=>true|.non,.str _=>true|.str _,.non=>true
 |.int _,.int _=>true|.bl _,.bl _=>true|.str _,.str _=>true|.Lc _,.Lc _=>true
 |.int _,.str _=>true|.str _,.int _=>true|.bl _,.str _=>true|.str _,.bl _=>true
 |_,_=>false
def YC:R2:=fun x y H Q=>Sx x y=true/\Q (.bl (decide (x=y))) H
def YD:R2:=fun x y H Q=>Sx x y=true/\Q (.bl (!decide (x=y))) H
theorem Ie {i j:Int}:decide (V.int i=V.int j)=(i==j):=by
 rw[Bool.eq_iff_iff];simp
theorem Ls {i j:Bool}:decide (V.bl i=V.bl j)=(i==j):=by
 rw[Bool.eq_iff_iff];simp
theorem Ig {i j:Str}:decide (V.str i=V.str j)=(i==j):=by
 rw[Bool.eq_iff_iff];simp
theorem Ih {i j:Array UInt8}:decide (V.Lc i=V.Lc j)=(i.toList==j.toList):=by
 rw[Bool.eq_iff_iff];cases i;cases j;simp
section
variable {X:Cx} {a b c:Expr} {ta tb tc:TE} {pos:Pos}
theorem bM {pins:List (Addr×Obj)}{σ:St}{H:Hp}{s:Shared}{Q:VK}{k k':Bool}(I:Inv X pins σ H s)(q:Q (.bl k) H)(e:k=k'):EP X pins σ Q (.bool k') s:=by
 subst e;exact⟨.bl k,H,I,rfl,q⟩
theorem ba:lW X (compareOp .Eq) YC:=by
 intro pins s σ H x y v u Q I rx ry h;obtain⟨hs,q⟩:=h;cases x with
 |non =>
  cases rx;cases y with
  |non=>cases ry;exact PySem.EqNone.eq_none_none (bM I q (by simp))
  |bl j=>cases ry;exact PySem.EqNone.eq_none_bool (bM I q (by simp))
  |int j=>obtain⟨t',rfl⟩:=ry;exact PySem.EqNone.eq_none_int (bM I q (by simp))
  |str j=>obtain⟨t',rfl⟩:=ry;exact PySem.EqNone.eq_none_str (bM I q (by simp))
  |_=>exact j' (show false=true from hs) Zg'
 |bl i =>
  cases rx;cases y with
  |non=>cases ry;exact PySem.EqNone.eq_bool_none (bM I q (by simp))
  |bl j=>cases ry;exact eq_bool (bM I q Ls)
  |str j=>obtain⟨t',rfl⟩:=ry;exact PySem.EqMixed.eq_bool_str (bM I q (by simp))
  |_=>exact j' (show false=true from hs) Zg'
 |int i =>
  obtain⟨t,rfl⟩:=rx;cases y with
  |non=>cases ry;exact PySem.EqNone.eq_int_none (bM I q (by simp))
  |int j=>obtain⟨t',rfl⟩:=ry;exact eq_int (bM I q Ie)
  |str j=>obtain⟨t',rfl⟩:=ry;exact PySem.EqMixed.eq_int_str (bM I q (by simp))
  |_=>exact j' (show false=true from hs) Zg'
 |str i =>
  obtain⟨t,rfl⟩:=rx;cases y with
  |non=>cases ry;exact PySem.EqNone.eq_str_none (bM I q (by simp))
  |bl j=>cases ry;exact PySem.EqMixed.eq_str_bool (bM I q (by simp))
  |int j=>obtain⟨t',rfl⟩:=ry;exact PySem.EqMixed.eq_str_int (bM I q (by simp))
  |str j=>obtain⟨t',rfl⟩:=ry;exact eq_str (bM I q Ig)
  |_=>exact j' (show false=true from hs) Zg'
 |Lc i =>
  obtain⟨t,rfl⟩:=rx;cases y with
  |Lc j=>obtain⟨t',rfl⟩:=ry;exact PySem.W.eq_bytes (bM I q Ih)
  |_=>exact j' (show false=true from hs) Zg'
 |_=>cases y <;> exact j' (show false=true from hs) Zg'
theorem iR:lW X (compareOp .NotEq) YD:=by
 intro pins s σ H x y v u Q I rx ry h;obtain⟨hs,q⟩:=h;cases x with
 |non =>
  cases rx;cases y with
  |non=>cases ry;exact PySem.EqNone.ne_none_none (bM I q (by simp))
  |bl j=>cases ry;exact PySem.EqNone.ne_none_bool (bM I q (by simp))
  |int j=>obtain⟨t',rfl⟩:=ry;exact PySem.EqNone.ne_none_int (bM I q (by simp))
  |str j=>obtain⟨t',rfl⟩:=ry;exact PySem.EqNone.ne_none_str (bM I q (by simp))
  |_=>exact j' (show false=true from hs) Zg'
 |bl i =>
  cases rx;cases y with
  |non=>cases ry;exact PySem.EqNone.ne_bool_none (bM I q (by simp))
  |bl j=>cases ry;exact ne_bool (bM I q (Zn' not Ls))
  |str j=>obtain⟨t',rfl⟩:=ry;exact PySem.EqMixed.ne_bool_str (bM I q (by simp))
  |_=>exact j' (show false=true from hs) Zg'
 |int i =>
  obtain⟨t,rfl⟩:=rx;cases y with
  |non=>cases ry;exact PySem.EqNone.ne_int_none (bM I q (by simp))
  |int j=>obtain⟨t',rfl⟩:=ry;exact ne_int (bM I q (Zn' not Ie))
  |str j=>obtain⟨t',rfl⟩:=ry;exact PySem.EqMixed.ne_int_str (bM I q (by simp))
  |_=>exact j' (show false=true from hs) Zg'
 |str i =>
  obtain⟨t,rfl⟩:=rx;cases y with
  |non=>cases ry;exact PySem.EqNone.ne_str_none (bM I q (by simp))
  |bl j=>cases ry;exact PySem.EqMixed.ne_str_bool (bM I q (by simp))
  |int j=>obtain⟨t',rfl⟩:=ry;exact PySem.EqMixed.ne_str_int (bM I q (by simp))
  |str j=>obtain⟨t',rfl⟩:=ry;exact ne_str (bM I q (Zn' not Ig))
  |_=>exact j' (show false=true from hs) Zg'
 |Lc i =>
  obtain⟨t,rfl⟩:=rx;cases y with
  |Lc j=>obtain⟨t',rfl⟩:=ry;exact PySem.W.ne_bytes (bM I q (Zn' not Ih))
  |_=>exact j' (show false=true from hs) Zg'
 |_=>cases y <;> exact j' (show false=true from hs) Zg'
theorem gK:lW X (compareOp .Lt) (O9 fun i j=>.bl (decide (i<j))):=NY fun _ _ _ _ _ _ _ q=>lt_int q
theorem ko:lW X (compareOp .LtE) (O9 fun i j=>.bl (decide (i<=j))):=NY fun _ _ _ _ _ _ _ q=>le_int q
theorem nG:lW X (compareOp .Gt) (O9 fun i j=>.bl (decide (j<i))):=NY fun _ _ _ _ _ _ _ q=>gt_int q
theorem Lu:lW X (compareOp .GtE) (O9 fun i j=>.bl (decide (j<=i))):=NY fun _ _ _ _ _ _ _ q=>ge_int q
theorem bW:lW X (compareOp .In) (fun x y H Q=>∃ i j,x=.str i/\y=.str j/\Q (.bl (!(Builtin.Str.occurrences j i 0 j.length 1).isEmpty)) H):=by
 intro pins s σ H x y v u Q I rx ry h;obtain⟨i,j,rfl,rfl,q⟩:=h;obtain⟨t,rfl⟩:=rx;obtain⟨t',rfl⟩:=ry;exact in_str (bM I q rfl)
theorem mR:lW X (compareOp .Is) (fun x y H Q=>y=.non/\Q (.bl (decide (x=.non))) H):=by
 intro pins s σ H x y v u Q I rx ry h;obtain⟨rfl,q⟩:=h;cases ry;refine is_none_gen (bM I q ?_);cases x <;> first
  |(cases rx;rfl)
  |(obtain⟨t,rfl⟩:=rx;rfl)
theorem Ii:lW X (compareOp .IsNot) (fun x y H Q=>y=.non/\Q (.bl (!decide (x=.non))) H):=by
 intro pins s σ H x y v u Q I rx ry h;obtain⟨rfl,q⟩:=h;cases ry;refine isnot_none_gen (bM I q ?_);cases x <;> first
  |(cases rx;rfl)
  |(obtain⟨t,rfl⟩:=rx;rfl)
theorem lW.or {f:Value->Value->Sem Value}{r r':R2}(h:lW X f r)(h':lW X f r'):lW X f (fun x y H Q=>r x y H Q\/r' x y H Q):=by
 intro pins s σ H x y v u Q I rx ry q;rcases q with q|q
 ·exact h pins s σ H x y v u Q I rx ry q
 ·exact h' pins s σ H x y v u Q I rx ry q
theorem aw (b:Expr){op:CmpOp}(h:op≠.In:=by decide)(h2:op≠.NotIn:=by decide):behindInMarks op b=false:=by
 have e1:(op==CmpOp.In)=false:=by cases op <;> first|rfl|exact j' rfl h
 have e2:(op==CmpOp.NotIn)=false:=by cases op <;> first|rfl|exact j' rfl h2
 cases b <;> simp[behindInMarks,e1,e2]
theorem bB {op:CmpOp}{r:R2}(ho:lW X (compareOp op) r)(ha:PE X a ta)(hb:PE X b tb)(hm:behindInMarks op b=false):PE X (.Compare a [op] [b] pos) (Su r ta tb):=by
 intro pins s σ H Q I h;exact wpAny_Compare1 (Qc ha hb I h fun v u s2 x y H2 I2 rx ry q=>ho pins s2 σ H2 x y v u Q I2 rx ry q) hm
inductive Lv (Q:(Bool->Hp->Prop))(x:V)(H':Hp):Prop
 |mk (k:_) (cL:x=.bl k) (cM:Q k H'):Lv Q x H'
def Pa (t:TE):TT:=fun σ H Q=>t σ H fun x H'=>Lv Q x H'
theorem aq {op:CmpOp}{r:R2}(ho:lW X (compareOp op) r)(ha:PE X a ta)(hb:PE X b tb)(hm:behindInMarks op b=false):PT X (.Compare a [op] [b] pos) (Pa (Su r ta tb)):=by
 intro pins s σ H Q I h;refine wpAny_isTrue_Compare1 (bS (ha pins s σ H _ I h) fun v s1 ⟨x,H1,I1,r1,q1⟩=>bS (hb pins s1 σ H1 _ I1 q1) fun u s2 ⟨y,H2,I2,r2,q2⟩ =>
  bS (ho pins s2 σ H2 x y v u _ I2 r1 r2 q2) fun c s3 ⟨z,H3,I3,r3,k,e,q3⟩=>?_) hm
 subst e;cases r3;exact wpAny_truthy_bool ⟨H3,I3,q3⟩
def Lw (r r':R2)(ta tb tc:TE):TE:=fun σ H Q=>ta σ H fun x H1=>tb σ H1 fun y H2=>r x y H2 fun z H3=>∃ k,z=.bl k /\
 (if k=true then tc σ H3 fun w' H4=>r' y w' H4 Q else Q (.bl false) H3)
theorem D8 {op op':CmpOp}{r r':R2}(ho:lW X (compareOp op) r)(ho':lW X (compareOp op') r')(ha:PE X a ta)(hb:PE X b tb)(hc:PE X c tc)
  (hm:lastMarks [op,op'] [b,c]=false:=by with_unfolding_all rfl):PE X (.Compare a [op,op'] [b,c] pos) (Lw r r' ta tb tc):=by
 intro pins s σ H Q I h;refine Compare_chain (bS (ha pins s σ H _ I h) fun v s1 ⟨x,H1,I1,r1,q1⟩=>chain_link (bS (hb pins s1 σ H1 _ I1 q1) fun u s2 ⟨y,H2,I2,r2,q2⟩ =>
  bS (ho pins s2 σ H2 x y v u _ I2 r1 r2 q2) fun d s3 ⟨z,H3,I3,r3,k,e,q3⟩=>?_)) hm
 subst e;cases r3;refine wpAny_truthy_bool ?_;cases k with
 |false=>exact ite_ff ⟨.bl false,H3,I3,rfl,q3⟩
 |true=>exact ite_tt (chain_last (bS (hc pins s3 σ H3 _ I3 q3) fun w' s4 ⟨z',H4,I4,r4,q4⟩=>ho' pins s4 σ H4 y z' u w' Q I4 r2 r4 q4))
theorem oB {op op':CmpOp}{r r':R2}(ho:lW X (compareOp op) r)(ho':lW X (compareOp op') r')(ha:PE X a ta)(hb:PE X b tb)(hc:PE X c tc)
  (hm:lastMarks [op,op'] [b,c]=false:=by with_unfolding_all rfl):PT X (.Compare a [op,op'] [b,c] pos) (Pa (Lw r r' ta tb tc)):=by
 intro pins s σ H Q I h;refine isTrue_chain (bS (ha pins s σ H _ I h) fun v s1 ⟨x,H1,I1,r1,q1⟩=>test_link (bS (hb pins s1 σ H1 _ I1 q1) fun u s2 ⟨y,H2,I2,r2,q2⟩ =>
  bS (ho pins s2 σ H2 x y v u _ I2 r1 r2 q2) fun d s3 ⟨z,H3,I3,r3,k,e,q3⟩=>?_)) hm
 subst e;cases r3;refine wpAny_truthy_bool ?_;cases k with
 |false =>
  obtain⟨k',e',q'⟩:=q3;cases e';exact ite_ff ⟨H3,I3,q'⟩
 |true =>
  refine ite_tt (test_last (bS (hc pins s3 σ H3 _ I3 q3) fun w' s4 ⟨z',H4,I4,r4,q4⟩=>bS (ho' pins s4 σ H4 y z' u w' _ I4 r2 r4 q4) fun d' s5 ⟨z2,H5,I5,r5,k2,e2,q5⟩=>?_));subst e2;cases r5;exact wpAny_truthy_bool ⟨H5,I5,q5⟩
theorem uW:(sizeLine:Nat)<2 ^ 63:=by rw[sizeLine_eq];decide
theorem ay:lW X (binaryOp .Add) (fun x y H Q=>∃ i j,x=.str i/\y=.str j/\i.length+j.length<=sizeLine/\Q (.str (i++j)) H):=by
 intro pins s σ H x y v u Q I rx ry h;obtain⟨i,j,rfl,rfl,hz,q⟩:=h;obtain⟨t,rfl⟩:=rx;obtain⟨t',rfl⟩:=ry;exact add_str (fun t' tk=>⟨.str (i++j),H,I.tok _,⟨_,rfl⟩,q⟩) hz
theorem vals1 {x:V}{us:List Value}(r:Vals [x] us):∃ u,us=[u]/\RelV x u:=by
 cases r with
 |cons r1 r2=>cases r2;exact⟨_,rfl,r1⟩
theorem vals2 {x y:V}{us:List Value}(r:Vals [x,y] us):∃ u w',us=[u,w']/\RelV x u/\RelV y w':=by
 cases r with
 |cons r1 r2 =>
  cases r2 with
  |cons r3 r4=>cases r4;exact⟨_,_,rfl,r1,r3⟩
theorem JP (hc:X.calm=true):fN X (.builtin "max") (fun xs H Q=>∃ i j,xs=[.int i,.int j]/\Q (.int (if j > i then j else i)) H):=by
 intro pins s σ H xs us Q I r h;obtain⟨i,j,rfl,q⟩:=h;obtain⟨u,w',rfl,⟨t,rfl⟩,⟨t',rfl⟩⟩:=vals2 r;refine max_two_ints (I.ok.hd hc) fun h' tk k=>⟨_,H,I.kept k,?_,q⟩
 by_cases hj:j > i
 ·rw[Zc' hj,Zc' hj];exact⟨_,rfl⟩
 ·rw[Za' hj,Za' hj];exact⟨_,rfl⟩
theorem JQ (hc:X.calm=true):fN X (.builtin "min") (fun xs H Q=>∃ i j,xs=[.int i,.int j]/\Q (.int (if j<i then j else i)) H):=by
 intro pins s σ H xs us Q I r h;obtain⟨i,j,rfl,q⟩:=h;obtain⟨u,w',rfl,⟨t,rfl⟩,⟨t',rfl⟩⟩:=vals2 r;refine min_two_ints (I.ok.hd hc) fun h' tk k=>⟨_,H,I.kept k,?_,q⟩
 by_cases hj:j<i
 ·rw[Zc' hj,Zc' hj];exact⟨_,rfl⟩
 ·rw[Za' hj,Za' hj];exact⟨_,rfl⟩
theorem fB:fN X (.type "int") (fun xs H Q=>(∃ i,xs=[.int i]/\Q (.int i) H)\/∃ k,xs=[.bl k]/\Q (.int (if k then 1 else 0)) H):=by
 intro pins s σ H xs us Q I r h;rcases h with ⟨i,rfl,q⟩|⟨k,rfl,q⟩
 ·obtain⟨u,rfl,t,rfl⟩:=vals1 r;exact call_int_int ⟨.int i,H,I,⟨_,rfl⟩,q⟩
 ·obtain⟨u,rfl,r1⟩:=vals1 r;cases r1;exact call_int_bool ⟨.int (if k then 1 else 0),H,I.tok _,⟨_,rfl⟩,q⟩
theorem su:fN X (.type "str") (fun xs H Q=>∃ i,xs=[.int i]/\i.natAbs.log2<1920/\Q (.str (toString i)) H):=by
 intro pins s σ H xs us Q I r h;obtain⟨i,rfl,hz,q⟩:=h;obtain⟨u,rfl,t,rfl⟩:=vals1 r;exact PySem.P.str_of_int hz ⟨.str _,H,I.tok _,⟨_,rfl⟩,q⟩
end
end L2
namespace L2
open PySem PySem.Spec PyProof.Rows
structure GF (h:Heap)(x dx C:Addr)(mA:Str->Option Value):Prop where
 obj:h.get? x=some (instObj C dx)
 ns:h.Ns1 dx mA
 ne:dx≠x
theorem JR {h:Heap}{dx:Addr}{mA:Str->Option Value}(n:h.Ns1 dx mA):∃ od,h.get? dx=some od/\∀ name,lookIn name od=some (mA name):=by
 obtain⟨o,es,ep,ho,hd,hk,_,hm⟩:=n;refine⟨o,ho,fun name=>?_⟩;have e:=hm name;unfold nsFind findBy at e;rw[<-Array.find?_toList]at e;unfold lookIn;rw[hd];dsimp only;split
 ·rename_i y q
  rw[q]at e;exact Zn' some e
 ·rename_i q
  rw[q]at e;have a:es.toList.any (·.refKey)=false:=by
   rw[List.any_eq_false];intro y hy;obtain⟨z,t,hkey⟩:=hk y (Array.mem_toList_iff.mp hy);simp[DictEntry.refKey,hkey]
  have a':¬ es.toList.any (·.refKey)=true:=by rw[a];exact Zg'
  rw[Za' a'];exact Zn' some e
theorem GF.look {h:Heap}{x dx C:Addr}{mA:Str->Option Value}(I:GF h x dx C mA):∃ od,InstAt h x (instObj C dx) C (some od)/\∀ name,lookIn name od=some (mA name) :=
 let ⟨od,ho,hl⟩:=JR I.ns
 ⟨od,⟨I.obj,rfl,rfl,ho⟩,hl⟩
section
variable {prog:Program} {w:World} {A:Around} {E:Value->Shared->Prop} {s:Shared} {K:Frag} {x dx C f:Addr} {mA:Str->Option Value} {name:Str} {v:Value}
theorem get_map {expr:Bool}{Q:Value->Shared->Prop}(X:K.In s.heap)(I:GF s.heap x dx C mA)(hg:plainGet K C name=true)(hh:hasDictIn K C=true)
  (ha:findIn K (.ref C) name=some none) (hv:mA name=some v) (hv':handedIn v=true) (h:Q v { s with toks:=s.toks+1 }) :
  wpAny (model prog w) A (getAttr (.ref x) name expr) Q E s:=by
 obtain⟨od,J,hl⟩:=I.look;exact PySem.W.get_value X J (plainGet_of hg).1 (PySem.W.findObj_own hh ha rfl (by rw[hl,hv])) hv' h
theorem Lx {pl:Sem Bool}{Q:Value×List Value->Shared->Prop}(X:K.In s.heap)(I:GF s.heap x dx C mA)(hg:plainGet K C name=true)
  (hf:findIn K (.ref C) name=some (some (.ref f))) (ht:isFn K (.ref f)=true) (hv:mA name=none) (h:Q (.ref f,[.ref x]) s) :
  wpAny (model prog w) A (getMethod (.ref x) name pl) Q E s:=by
 obtain⟨od,J,hl⟩:=I.look;exact PySem.W.method_fn X J (plainGet_of hg).1 (plainGet_of hg).2 hf (beq_iff_eq.mp ht) (by show(lookIn name od).map (·.isSome)=some false;rw[hl,hv];rfl) h
theorem iJ {ns:List Str}{Q:Unit->Shared->Prop}(X:K.In s.heap)(I:GF s.heap x dx C mA)
  (hs:findIn K (.ref C) "__setattr__"=some (some (.builtin "object.__setattr__"))) (hp:plainOver K C=true) (ht:takerIn K C name=some none) (hh:hasDictIn K C=true)
  (hw:PySem.Within mA ns) (hsz:ns.length<=sizeLine)
  (h:∀ h',GF h' x dx C (fun y=>if y=name then some v else mA y)->Heap.SameBut dx s.heap h'->Q () { s with heap:=h',toks:=s.toks+2 }) :
  wpAny (model prog w) A (setAttr (.ref x) name v) Q E s:=by
 obtain⟨od,J,hl⟩:=I.look;refine set_plain X J hs (PySem.W.osa_open (s:={ s with toks:=s.toks+1 }) (r:=none) X J hp ht fun b=>?_);obtain⟨cd,hc,hd'⟩:=PySem.W.any_some hh;have hx:s.heap.get? x=some ⟨.ref C,some dx,.plain,#[]⟩:=I.obj;refine K' (Z' (K' (K' (wpAny_loadPart hx (K' (PySem.W.Looks.here (s:={ s with toks:=s.toks+1 }) (looks_clsIn X hc) ?_))))));rw[hd'];refine Z' (a:=some dx) (K' (Z' (K' ?_)));refine wpAny_nsSet1 (s:={ s with toks:=s.toks+1 }) I.ns fun h' hn2 hs2=>?_;obtain⟨oD,esD,epD,hoD,hdD,hcD⟩:=hn2.count (PySem.Within.cons name v hw);refine K' (wpAny_lookBehind hoD (by rw[hdD];exact pastItsLine_dict (Zf' hcD (by rw[Zk'];omega))) ?_);exact Z' (h _ ⟨(hs2.2 _ (Ne.symm I.ne)).trans I.obj,hn2,I.ne⟩ hs2)
theorem Ly {R:Result->Shared->Prop}{vs:List Value}{kw:List (Str×Value)}(X:K.In s.heap)(hm:makesIn K C=true)
  (hi:findIn K (.ref C) "__init__"=some (some (.ref f))) (hf:typeIn K (.ref f)=some (.type "function"))
  (h:codeAny (model prog w) (A.under (.builtin "type.__call__" ⟨.ref C::vs,kw⟩)) (.call (.ref f) ⟨.ref (s.heap.objs.size+1)::vs,kw⟩) (PySem.W.InitBack (s.heap.objs.size+1) R)
   { s with heap:=(s.heap.push emptyDict).push (instObj C s.heap.objs.size) }) :
  codeAny (model prog w) A (.call (.ref C) ⟨vs,kw⟩) R s:=by
 obtain⟨hh,g,d,t,os⟩:=s;exact PySem.W.make_core (PySem.W.makes_of X hm) (looks_findIn X hi) (fun self=>PySem.W.bind_fn X self hf) (.inl rfl) h
end
noncomputable def h9 (f:Str)(v:V):List (Str×V)->List (Str×V)
 |[]=>[(f,v)]
 |(g,x)::r=>if g=f then(g,v)::r else(g,x)::h9 f v r
theorem vS (f g:Str)(v:V):∀ fs:List (Str×V),(h9 f v fs).lookup g=if g=f then some v else fs.lookup g
 |[]=>by
  show List.lookup g [(f,v)]=_
  by_cases h:g=f
  ·have hb:(g==f)=true:=beq_iff_eq.mpr h;simp only [List.lookup,hb,Zc' h]
  ·have hb:(g==f)=false:=beq_eq_false_iff_ne.mpr h;simp only [List.lookup,hb,Za' h]
 |(k,x)::r=>by
  have ih:=vS f g v r;rw[show h9 f v ((k,x)::r)=(if k=f then(k,v)::r else(k,x)::h9 f v r) from rfl]
  by_cases hk:k=f
  ·rw[Zc' hk]
   by_cases h:g=k
   ·have hb:(g==k)=true:=beq_iff_eq.mpr h;simp only [List.lookup,hb,Zc' (h.trans hk)]
   ·have hb:(g==k)=false:=beq_eq_false_iff_ne.mpr h;simp only [List.lookup,hb,Za' (fun e:g=f=>h (e.trans hk.symm))]
  ·rw[Za' hk]
   by_cases h:g=k
   ·have hb:(g==k)=true:=beq_iff_eq.mpr h;simp only [List.lookup,hb,Za' (fun e:g=f=>hk (h.symm.trans e))]
   ·have hb:(g==k)=false:=beq_eq_false_iff_ne.mpr h;simp only [List.lookup,hb];exact ih
theorem uX (f:Str)(v:V):∀ fs:List (Str×V),f∈(h9 f v fs).map (·.1)/\∀ g,g∈fs.map (·.1)->g∈(h9 f v fs).map (·.1)
 |[]=>⟨by simp[h9],fun g h=>by simp at h⟩
 |(k,x)::r=>by
  obtain⟨i1,i2⟩:=uX f v r;rw[show h9 f v ((k,x)::r)=(if k=f then(k,v)::r else(k,x)::h9 f v r) from rfl]
  by_cases hk:k=f
  ·rw[Zc' hk];subst hk;exact⟨by simp,fun g h=>by simpa using h⟩
  ·rw[Za' hk];refine⟨?_,fun g h=>?_⟩
   ·rw[map_cons];exact mem_cons_of_mem _ i1
   ·rw[map_cons]at h ⊢;rcases List.mem_cons.mp h with e|e
    ·exact List.mem_cons.mpr (.inl e)
    ·exact mem_cons_of_mem _ (i2 g e)
theorem vT (f:Str)(v:V):∀ fs:List (Str×V),(h9 f v fs).length<=fs.length+1
 |[]=>by simp[h9]
 |(k,x)::r=>by
  have ih:=vT f v r;rw[show h9 f v ((k,x)::r)=(if k=f then(k,v)::r else(k,x)::h9 f v r) from rfl]
  by_cases hk:k=f
  ·rw[Zc' hk,Zk',Zk'];omega
  ·rw[Za' hk,Zk',Zk'];omega
theorem jC.some_of {v:V}{o:Option Value}(r:jC (some v) o):∃ u,o=some u/\RelV v u:=by
 cases o with
 |none=>exact(show False from r).elim
 |some u=>exact⟨u,rfl,r⟩
theorem jC.none_of {o:Option Value}(r:jC none o):o=none:=by
 cases o with
 |none=>rfl
 |some u=>exact(show False from r).elim
theorem JS {v:V}{u:Value}(r:RelV v u):handedIn u=true:=by
 cases v with
 |non=>cases (show u=Value.none from r);rfl
 |bl b=>cases (show u=Value.bool b from r);rfl
 |int i=>obtain⟨t,e⟩:=(show ∃ t,u=Value.int i t from r);cases e;rfl
 |str x=>obtain⟨t,e⟩:=(show ∃ t,u=Value.str x t from r);cases e;rfl
 |Lc b=>obtain⟨t,e⟩:=(show ∃ t,u=Value.bytes b t from r);cases e;rfl
 |flt b=>obtain⟨t,e⟩:=(show ∃ t,u=Value.float b t from r);cases e;rfl
 |ref a=>cases (show u=Value.ref a from r);rfl
 |ty n=>cases (show u=Value.type n from r);rfl
section
variable {P:Program} {w:World} {H H':Hp} {h h':Heap} {a C dx:Addr} {fs fs':List (Str×V)}
theorem yi (hok:oj P w H h)(e:H a=some (.ins C dx fs)):∃ mA,GF h a dx C mA/\(∀ f,jC (fs.lookup f) (mA f))/\PySem.Within mA (fs.map (·.1))/\fs.length<=1000/\H dx=some (.own a):=by
 obtain⟨d,z,ne,ob,mA,n,r,q⟩:=(show cP P w H h a (.ins C dx fs) from hok a _ e);exact⟨mA,⟨ob,n,ne⟩,r,q,z,d⟩
end
structure GG (K:Frag)(C:Addr):Prop where
 pg:plainGet K C Str.empty=true
 hd:hasDictIn K C=true
 po:plainOver K C=true
 sa:findIn K (.ref C) "__setattr__"=some (some (.builtin "object.__setattr__"))
theorem GG.get {K:Frag}{C:Addr}(c:GG K C)(f:Str):plainGet K C f=true:=c.pg
def fQ (K:Frag)(C:Addr)(f:Str):Prop:=findIn K (.ref C) f=some none
theorem fQ.taker {K:Frag}{C:Addr}{f:Str}(n:fQ K C f):takerIn K C f=some none:=by
 unfold takerIn;rw[show findIn K (.ref C) f=some none from n];rfl
structure Meth (K:Frag)(C:Addr)(m:Str)(f:Addr):Prop where
 at_:findIn K (.ref C) m=some (some (.ref f))
 fn:isFn K (.ref f)=true
 kp:keepIn K (.ref f)=true
section
variable {X:Cx} {pins:List (Addr×Obj)} {σ:St} {H:Hp} {s:Shared} {a C dx:Addr} {fs:List (Str×V)} {f:Str} {v:V} {A:Around} {E:Value->Shared->Prop}
theorem GH {b:Bool}{Q:Value->Shared->Prop}(I:Inv X pins σ H s)(e:H a=some (.ins C dx fs))(c:GG X.K C)(n:fQ X.K C f)(l:fs.lookup f=some v)
  (h:∀ u s',Inv X pins σ H s'->RelV v u->Q u s'):wpAny (model X.prog X.w) A (getAttr (.ref a) f b) Q E s:=by
 obtain⟨mA,O,r,_,_,_⟩:=yi I.hok e;obtain⟨u,hu,ru⟩:=jC.some_of (v:=v) (o:=mA f) (by rw[<-l];exact r f);exact get_map I.hX O (c.get f) c.hd n hu (JS ru) (h u _ (I.tok _) ru)
theorem mS {m:Str}{g:Addr}{pl:Sem Bool}{Q:Value×List Value->Shared->Prop}(I:Inv X pins σ H s)(e:H a=some (.ins C dx fs))(c:GG X.K C)(k:Meth X.K C m g)(l:fs.lookup m=none)
  (h:Q (.ref g,[.ref a]) s):wpAny (model X.prog X.w) A (getMethod (.ref a) m pl) Q E s:=by
 obtain⟨mA,O,r,_,_,_⟩:=yi I.hok e;have hn:mA m=none:=jC.none_of (by rw[<-l];exact r m);exact Lx I.hX O (c.get m) k.at_ k.fn hn h
theorem GI {y:V}{u:Value}{Q:Unit->Shared->Prop}(I:Inv X pins σ H s)(e:H a=some (.ins C dx fs))(c:GG X.K C)(n:fQ X.K C f)(hl:fs.length<1000)(ry:RelV y u)
  (h:∀ s',Inv X pins σ (upd H a (.ins C dx (h9 f y fs))) s'->Q () s'):wpAny (model X.prog X.w) A (setAttr (.ref a) f u) Q E s:=by
 obtain⟨mA,O,r,wi,_,ho⟩:=yi I.hok e;have hz:(fs.map (·.1)).length<=sizeLine:=by rw[P',sizeLine_eq];omega
 refine iJ I.hX O c.sa c.po n.taker c.hd wi hz fun h' O' sb=>h _ ?_;have hd:∃ o,h'.get? dx=some o:=let ⟨o,_,_,e',_⟩:=O'.ns;⟨o,e'⟩;refine I.write (x:=a) (e:=dx) (by rw[e];exact True.intro) (.inr ho) (fun b q hb z=>(sb.2 b hb).trans z) hd ?_;refine⟨by rw[ak O.ne];exact ho,?_,O.ne,O'.obj,_,O'.ns,fun g=>?_,fun g hg=>?_⟩
 ·have:=vT f y fs;omega
 ·show jC ((h9 f y fs).lookup g) (if g=f then some u else mA g);rw[vS]
  by_cases q:g=f
  ·rw[Zc' q,Zc' q];exact ry
  ·rw[Za' q,Za' q];exact r g
 ·by_cases q:g=f
  ·rw[q];exact(uX f y fs).1
  ·refine(uX f y fs).2 g (wi g fun z=>hg ?_);show(if g=f then some u else mA g)=none;rw[Za' q];exact z
theorem Inv.made (I:Inv X pins σ H s):Inv X pins σ (upd (upd H s.heap.objs.size (.own (s.heap.objs.size+1))) (s.heap.objs.size+1) (.ins C s.heap.objs.size []))
  { s with heap:=(s.heap.push emptyDict).push (instObj C s.heap.objs.size) }:=by
 have e1:(s.heap.push emptyDict).get? s.heap.objs.size=some emptyDict:=Zi' s.heap rfl;have e2:((s.heap.push emptyDict).push (instObj C s.heap.objs.size)).get? (s.heap.objs.size+1)=some (instObj C s.heap.objs.size):=by
  have:=Zi' (s.heap.push emptyDict) (o:=instObj C s.heap.objs.size) rfl
  rwa [Heap.size_push]at this
 have e3:(s.heap.push emptyDict).Ns s.heap.objs.size (fun _=>none):=⟨emptyDict,#[],_,e1,rfl,(fun e he=>j' he (by simp)),fun _=>rfl⟩;have I1:=I.laid (a:=s.heap.objs.size) (o:=.own (s.heap.objs.size+1)) (h':=s.heap.push emptyDict) (t':=s.toks) (fun b u q=>U' _ q) (X' _) ⟨_,e1⟩;refine I1.laid (a:=s.heap.objs.size+1) (o:=.ins C s.heap.objs.size []) (t':=s.toks) (fun b u q=>U' _ q) (Nat.le_of_eq (Heap.size_push _ _)) ?_;have ne:s.heap.objs.size≠s.heap.objs.size+1:=Zo' (Nat.lt_succ_self _);refine⟨by rw[ak ne,ag],Nat.zero_le _,ne,e2,fun _=>none,(Heap.Ns1.of_empty e3).at fun o q=>U' _ q,fun _=>True.intro,fun y hy=>j' rfl hy⟩
theorem Ij {prog:Program}{w:World}{env:Env}{e:Expr}{f:Str}{pos:Pos}{s:Shared}{Q:Value->Shared->Prop}(hb:attributeBase e f env (eval e env)=eval e env)
  (h:wpAny (model prog w) A (eval e env) (fun o s₁=>wpAny (model prog w) A (getAttr o f true) Q E s₁) E s):wpAny (model prog w) A (eval (.Attribute e f pos) env) Q E s :=
 Attribute_any_ h (by rw[arm_eval_Attribute,hb])
end
inductive Pb (K:Frag)(f:Str)(Q:VK)(x:V)(H1:Hp):Prop
 |mk (a:_) (C:_) (dx:_) (fs:_) (v:_) (cL:x=.ref a) (cM:H1 a=some (.ins C dx fs)) (dA:GG K C) (fA:fQ K C f) (ki:fs.lookup f=some v) (Bb:Q v H1):Pb K f Q x H1
def VB (K:Frag)(ta:TE)(f:Str):TE:=fun σ H Q=>ta σ H fun x H1=>Pb K f Q x H1
inductive Pc (K:Frag)(f:Str)(D:Ends)(σ:St)(y:V)(x:V)(H2:Hp):Prop
 |mk (a:_) (C:_) (dx:_) (fs:_) (cL:x=.ref a) (cM:H2 a=some (.ins C dx fs)) (dA:GG K C) (fA:fQ K C f) (ki:fs.length<1000) (Bb:D.nx σ (upd H2 a (.ins C dx (h9 f y fs)))):Pc K f D σ y x H2
def VC (K:Frag)(ta tv:TE)(f:Str):TS:=fun D σ H=>tv σ H fun y H1=>ta σ H1 fun x H2=>Pc K f D σ y x H2
section
variable {X:Cx} {o e value:Expr} {f:Str} {pos pos' tpos:Pos} {ta tv:TE}
theorem dR (he:PE X e ta)(hb:attributeBase e f X.env (eval e X.env)=eval e X.env):PE X (.Attribute e f pos) (VB X.K ta f):=by
 intro pins s σ H Q I h;refine Ij hb (bS (he pins s σ H _ I h) fun u s1 fu=>?_);obtain⟨x,H1,I1,rx,a,C,dx,fs,v,ex,ea,c,n,l,q⟩:=fu;subst ex;obtain rfl:u=Value.ref a:=rx;exact GH I1 ea c n l fun u' s2 I2 ru=>⟨v,H1,I2,ru,q⟩
theorem lM (ha:PE X o ta)(hv:PE X value tv)(hs:swapsWith value (some (.Attribute o f pos')) pos.line X.env=pure false):PS X (.Assign [.Attribute o f pos'] value pos) (VC X.K ta tv f):=by
 intro pins s σ H D I h;refine plainObj_wpAny_Assign_Attribute (bS (hv pins s σ H _ I h) fun u s1 ⟨y,H1,I1,ry,q⟩=>bS (ha pins s1 σ H1 _ I1 q) fun ov s2 ⟨x,H2,I2,rx,a,C,dx,fs,ex,ea,c,n,l,q2⟩=>?_) hs;subst ex;obtain rfl:ov=Value.ref a:=rx;exact GI I2 ea c n l ry fun s3 I3=>⟨σ,_,I3,q2⟩
end
section
variable {X:Cx} {pins:List (Addr×Obj)} {σ:St} {H:Hp} {s:Shared} {A:Around} {E:Value->Shared->Prop} {Q:Value->Shared->Prop} {c:Value} {b:Bool}
inductive eY (K:Frag)(H:Hp):V->Value->Prop where
 |non:eY K H .non (.type "NoneType")
 |bl (x:Bool):eY K H (.bl x) (.type "bool")
 |int (i:Int):eY K H (.int i) (.type "int")
 |str (x:Str):eY K H (.str x) (.type "str")
 |flt (x:UInt64):eY K H (.flt x) (.type "float")
 |lst {a:Addr} {xs:List V} (e:H a=some (.lst xs)):eY K H (.ref a) (.type "list")
 |Gz {a:Addr} {o:Obj} {xs:List V} (e:H a=some (.Gz o (.lst xs))):eY K H (.ref a) (.type "list")
 |tup {a:Addr} {xs:List V} (e:H a=some (.tup xs)):eY K H (.ref a) (.type "tuple")
 |dK {a:Addr} {kvs:List (Key×V)} (e:H a=some (.dK kvs)):eY K H (.ref a) (.type "dict")
 |dT {a:Addr} {kvs:List (List Key×V)} (e:H a=some (.dT kvs)):eY K H (.ref a) (.type "dict")
 |ins {a C dx:Addr} {fs:List (Str×V)} (e:H a=some (.ins C dx fs)) (cl:GG K C) (ha:findIn K (.ref C) "__class__"=some (some (.builtin "object.__class__")))
   (hn:specialIn K (.builtin "object.__class__") "__get__"=some (some (.builtin "getset_descriptor.__get__"))) (htk:PySem.W.takesIn K (.builtin "object.__class__")=some true)
   (hm:mroIn K C (.type "object")=some true):eY K H (.ref a) (.ref C)
theorem JT {x:V}{u t:Value}(I:Inv X pins σ H s)(rx:RelV x u)(ty:eY X.K H x t)(e:kitOne X.K t c=some b)(h:∀ tk,Q (.bool b) { s with toks:=tk }) :
  wpAny (model X.prog X.w) A (call (.builtin "isinstance") [u,c]) Q E s:=by
 cases ty with
 |non=>cases (show u=Value.none from rx);exact kia_one PySem.W.kitx_none I.hX True.intro e (fun z=>nomatch z) h
 |bl y=>cases (show u=Value.bool y from rx);exact kia_one PySem.W.kitx_bool I.hX True.intro e (fun z=>nomatch z) h
 |int i=>obtain⟨t,q⟩:=(show ∃ t,u=Value.int i t from rx);cases q;exact kia_one PySem.W.kitx_int I.hX True.intro e (fun z=>nomatch z) h
 |str y=>obtain⟨t,q⟩:=(show ∃ t,u=Value.str y t from rx);cases q;exact kia_one PySem.W.kitx_str I.hX True.intro e (fun z=>nomatch z) h
 |flt y=>obtain⟨t,q⟩:=(show ∃ t,u=Value.float y t from rx);cases q;exact kia_one PySem.W.kitx_float I.hX True.intro e (fun z=>nomatch z) h
 | @lst a xs ea =>
  cases (show u=Value.ref a from rx);obtain⟨_,_,n,_,h1⟩:=(show cP X.prog X.w H s.heap a (.lst xs) from I.hok a _ ea);exact kia_one kitx_list I.hX ⟨_,h1,rfl⟩ e (fun z=>nomatch z) h
 | @Gz a ob xs ea =>
  cases (show u=Value.ref a from rx);obtain⟨_,_,_,n,_,h1⟩:=(show cP X.prog X.w H s.heap a (.Gz ob (.lst xs)) from I.hok a _ ea);exact kia_one kitx_list I.hX ⟨_,h1,rfl⟩ e (fun z=>nomatch z) h
 | @tup a xs ea =>
  cases (show u=Value.ref a from rx);obtain⟨_,_,_,p⟩:=(show cP X.prog X.w H s.heap a (.tup xs) from I.hok a _ ea);obtain⟨o,h1,h2,_⟩:=p;exact kia_one PySem.W.kitx_tuple I.hX ⟨o,h1,h2⟩ e (fun z=>nomatch z) h
 | @dK a kvs ea =>
  cases (show u=Value.ref a from rx);obtain⟨_,_,vs,_,p⟩:=(show cP X.prog X.w H s.heap a (.dK kvs) from I.hok a _ ea);obtain⟨o,es,ep,h1,h2,_⟩:=p;exact kia_one kitx_dict I.hX ⟨o,h1,h2.1⟩ e (fun z=>nomatch z) h
 | @dT a kvs ea =>
  cases (show u=Value.ref a from rx);obtain⟨_,_,xs,_,o,es,ep,h1,h2,_⟩:=(show cP X.prog X.w H s.heap a (.dT kvs) from I.hok a _ ea);exact kia_one kitx_dict I.hX ⟨o,h1,h2.1⟩ e (fun z=>nomatch z) h
 | @ins a C dx fs ea cl ha hn htk hm =>
  cases (show u=Value.ref a from rx);obtain⟨mA,O,_⟩:=yi I.hok ea;obtain⟨od,J,_⟩:=O.look;exact kia_one (PySem.W.kitx_own (cl.get _) cl.hd ha hn htk hm) I.hX J e (fun z=>nomatch z) h
end
end L2
namespace L2
open PySem PySem.Spec PyProof.Rows
structure dm (k:Nat)(A:Around):Prop where
 hd:A.handled=none
 dp:A.depth+3 * k+5<recursionLimit
 un:A.units+16 * k+200<cLine
theorem dm.mono {j k:Nat}{A:Around}(r:dm k A)(h:j<=k):dm j A:=⟨r.hd,by have:=r.dp;omega,by have:=r.un;omega⟩
theorem dm.deeper {k:Nat}{A:Around}(r:dm (k+1) A)(env:Env):dm k (A.deeper env) :=
 ⟨r.hd,by have:=r.dp;show A.depth+1+3 * k+5<_;omega,by have:=r.un;show A.units+3+16 * k+200<_;omega⟩
theorem GJ {A:Around}{C:Addr}{us:List Value}{kw:List (Str×Value)}:(A.under (.builtin "type.__call__" ⟨.ref C::us,kw⟩)).depth=A.depth+1:=by
 first|rfl|simp[Around.under,Code.weight,Code.isCreation,Code.isGuard,Code.isCaller,Code.frames,Code.isFrame,guardIds]
theorem GK {A:Around}{C:Addr}{us:List Value}{kw:List (Str×Value)}:(A.under (.builtin "type.__call__" ⟨.ref C::us,kw⟩)).units=A.units+1:=by
 first|rfl|simp[Around.under,Code.cUnits,Code.frames,Code.isFrame]
theorem dm.make {k:Nat}{A:Around}(r:dm (k+1) A)(C:Addr)(us:List Value)(kw:List (Str×Value)):dm k (A.under (.builtin "type.__call__" ⟨.ref C::us,kw⟩)) :=
 ⟨r.hd,by have:=r.dp;rw[GJ];omega,by have:=r.un;rw[GK];omega⟩
theorem dm.depth {k:Nat}{A:Around}(r:dm k A):A.depth<recursionLimit:=by have:=r.dp;omega
theorem dm.units {k:Nat}{A:Around}(r:dm k A):A.units+64<cLine:=by have:=r.un;omega
def NZ:TA:=fun _ H Q=>Q [] H
def Sy (ta:TE)(tr:TA):TA:=fun σ H Q=>ta σ H fun x H1=>tr σ H1 fun xs H2=>Q (x::xs) H2
section
variable {X:Cx} {e:Expr} {es:List Expr} {te:TE} {t:TA} {pos:Pos}
theorem af:PA X [] NZ:=fun _ _ _ _ H Q I h=>Calls.spliced_nil ⟨[],H,I,.nil,h⟩
theorem aa (ha:PE X e te)(hr:PA X es t)(hs:starEach (e::es) X.env=(false,eval e X.env)::starEach es X.env:=by rfl):PA X (e::es) (Sy te t):=by
 intro pos pins s σ H Q I h;rw[hs];show wpAny _ _ (spliced ((false,eval e X.env)::backTo pos (starEach es X.env))) _ _ s;refine Calls.spliced_cons (bS (ha pins s σ H _ I h) fun u s1 fu=>?_);obtain⟨x,H1,I1,r1,q1⟩:=fu;exact bS (hr pos pins s1 σ H1 _ I1 q1) fun us s2 ⟨xs,H2,I2,r2,q2⟩=>⟨x::xs,H2,I2,.cons r1 r2,q2⟩
def VD (t:TA):TE:=fun σ H Q=>t σ H fun xs H1=>xs.length<=sizeLine/\∀ p,H1 p=none->Q (.ref p) (upd H1 p (.tup xs))
def Sz (t:TA):TE:=fun σ H Q=>t σ H fun xs H1=>xs.length<=sizeLine/\∀ p,H1 p=none->Q (.ref p) (upd H1 p (.lst xs))
theorem cU {x1}(h:PA X es t):PE X (.Tuple es x1 pos) (VD t):=by
 intro pins s σ H Q I hq;refine wpAny_Tuple_spliced (bS (h pos pins s σ H _ I hq) fun us s1 ⟨xs,H1,I1,r,z,q⟩=>⟨by rw[<-r.length];exact z,?_⟩);have hf:H1 s1.heap.objs.size=none:=I1.hok.fresh (X' _);refine⟨.ref s1.heap.objs.size,upd H1 s1.heap.objs.size (.tup xs),I1.laid (t':=s1.toks) (fun b u e=>U' _ e) (X' _) ?_,rfl,q _ hf⟩;exact⟨z,us,r,⟨_,Zi' _ rfl,rfl,_,rfl⟩⟩
theorem bC (h:PA X es t):PE X (.List es pos) (Sz t):=by
 intro pins s σ H Q I hq;refine wpAny_List_spliced (bS (h pos pins s σ H _ I hq) fun us s1 ⟨xs,H1,I1,r,z,q⟩=>⟨by rw[<-r.length];exact z,?_⟩);have hf:H1 s1.heap.objs.size=none:=I1.hok.fresh (X' _);refine⟨.ref s1.heap.objs.size,upd H1 s1.heap.objs.size (.lst xs),I1.laid (t':=s1.toks) (fun b u e=>U' _ e) (X' _) ?_,rfl,q _ hf⟩;exact⟨z,us,0,r,Zi' _ rfl⟩
end
abbrev Sp:=List V->Hp->VK->XK->Prop
abbrev Gw:=List Env->Hp->Shared->XK->Value->Shared->Prop
structure CS (P:Program)(w:World)(K:Frag)(mg:Str->Option Value)(base:Heap)(A:Around)(outer:List Env)(s:Shared)(H:Hp):Prop where
 frames:A.frames=some outer
 mod:Mod K mg base
 bs:∀ b o,base.get? b=some o->s.heap.get? b=some o/\H b=none
 JJ:base.objs.size<=s.heap.objs.size
 qX:s.heap.FunFrames base outer
 NP:∀ b∈frs outer,H b=none
 hok:oj P w H s.heap
 bare:AllBare s.gens
def CE (outer:List Env)(P:Program)(w:World)(H:Hp)(s:Shared)(Q:VK)(u:Value)(s':Shared):Prop :=
 ∃ v H',s'.os=s.os/\AllBare s'.gens/\Un (frs outer) [] H H' s.heap s'.heap/\oj P w H' s'.heap/\RelV v u/\Q v H'
def CR (CX:Gw)(outer:List Env)(P:Program)(w:World)(H:Hp)(s:Shared)(Q:VK)(E:XK)(r:Result)(s':Shared):Prop :=
 match r with
 |.ok (.ret u)=>CE outer P w H s Q u s'
 |.ok _=>False
 |.error e=>CX outer H s E e s'
structure aR (P:Program)(w:World)(K:Frag)(mg:Str->Option Value)(base:Heap)(CX:Gw)(k:Nat)(f:Addr)(fd:FuncData)(ps:List Str)(sp:Sp):Prop where
 len:∀ vs H Q E,sp vs H Q E->vs.length=ps.length
 run:∀(A:Around)(outer:List Env)(s:Shared)(H:Hp)(args:Args)(us:List Value)(vs:List V)(Q:VK)(E:XK),dm k A->CS P w K mg base A outer s H->BindsTo s fd args (ps.zip us)->Vals vs us->sp vs H Q E ->
  codeAny (model P w) A (.call (.ref f) args) (CR CX outer P w H s Q E) s
theorem CS.make {P:Program}{w:World}{K:Frag}{mg:Str->Option Value}{base:Heap}{A:Around}{outer:List Env}{s:Shared}{H:Hp}(e:CS P w K mg base A outer s H)(C:Addr)(us:List Value)(kw:List (Str×Value)) :
  CS P w K mg base (A.under (.builtin "type.__call__" ⟨.ref C::us,kw⟩)) outer s H:=⟨by first|exact e.frames|(simpa [Around.under,Code.envs,Code.isFrame,pushEnvs] using e.frames),e.mod,e.bs,e.JJ,e.qX,e.NP,e.hok,e.bare⟩
section
variable {X:Cx} {pins:List (Addr×Obj)} {σ:St} {H:Hp} {s s':Shared}
theorem Inv.env0 (I:Inv X pins σ H s):CS X.prog X.w X.K X.mg X.base X.A X.stack s H :=
 ⟨I.ok.frames,I.ok.mod,I.bs,Zf' I.ok.JJ I.sz,I.stack,I.CO,I.hok,I.bare⟩
theorem Inv.after {Q:VK}{u:Value}(I:Inv X pins σ H s)(h:CE X.stack X.prog X.w H s Q u s'):EP X pins σ Q u s':=by
 obtain⟨v,H',os,bare,un,hok,r,q⟩:=h;obtain⟨hh,g,d,t,os'⟩:=s';obtain rfl:os'=s.os:=os;exact⟨v,H',I.call (h':=hh) (g':=g) (d':=d) (t':=t) (ch:=[]) un hok bare (fun b z=>j' z (by simp)),r,q⟩
end
def Lz (sp:Sp)(iq:List V)(E:XK)(t:TA):TE:=fun σ H Q=>t σ H fun vs H1=>sp (vs++iq) H1 Q E
inductive LB (C:Addr)(m:Str)(sp:Sp)(iq:List V)(E:XK)(t:TA)(σ:St)(Q:VK)(x:V)(H1:Hp):Prop
 |mk (a:_) (dx:_) (fs:_) (cL:x=.ref a) (cM:H1 a=some (.ins C dx fs)) (dA:fs.lookup m=none) (fA:t σ H1 fun vs H2=>sp (x::(vs++iq)) H2 Q E):LB C m sp iq E t σ Q x H1
def Pd (C:Addr)(m:Str)(sp:Sp)(iq:List V)(E:XK)(ta:TE)(t:TA):TE:=fun σ H Q=>ta σ H fun x H1=>LB C m sp iq E t σ Q x H1
def Pe (C:Addr)(sp:Sp)(iq:List V)(E:XK)(t:TA):TE:=fun σ H Q=>t σ H fun vs H1=>∀ x dx,H1 x=none->H1 dx=none->dx≠x ->
 sp (.ref x::(vs++iq)) (upd (upd H1 dx (.own x)) x (.ins C dx [])) (fun v H2=>v=.non/\Q (.ref x) H2) E
def Binds (K:Frag)(fd:FuncData)(ps:List Str)(ds:List Value):Prop :=
 ∀(s:Shared)(us:List Value),K.In s.heap->(us++ds).length=ps.length->BindsTo s fd ⟨us,[]⟩ (ps.zip (us++ds))
theorem Binds.all {K:Frag}{fd:FuncData}{ps:List Str}(h:∀ us:List Value,us.length=ps.length->bindArgs fd ⟨us,[]⟩=pure (ps.zip us)):Binds K fd ps []:=fun s us _ hl=>by
 rw[append_nil]at hl ⊢;exact .of_eq (h us hl)
def Passes (CX:Gw)(X:Cx)(E:XK):Prop:=∀(pins:List (Addr×Obj)) (σ:St) (H:Hp) (s:Shared) (e:Value) (s':Shared),Inv X pins σ H s->CX X.stack H s E e s'->X.xe e s'
section
variable {X:Cx} {CX:Gw} {k:Nat} {f C:Addr} {fd:FuncData} {ps:List Str} {sp:Sp} {iq:List V} {ds:List Value} {E:XK} {x m:Str} {p pos apos:Pos} {e o:Expr} {es:List Expr} {ta:TE} {t:TA}
theorem GL {pins:List (Addr×Obj)}{σ:St}{H:Hp}{s:Shared}{Q:VK}{us:List Value}{vs:List V}(F:aR X.prog X.w X.K X.mg X.base CX k f fd ps sp)(hr:dm k X.A)(hb:Binds X.K fd ps ds)(hd:Vals iq ds)(hx:Passes CX X E)
  (I:Inv X pins σ H s) (r:Vals vs us) (h:sp (vs++iq) H Q E):wpAny (model X.prog X.w) X.A (call (.ref f) us) (EP X pins σ Q) X.xe s:=by
 have r2:Vals (vs++iq) (us++ds):=r.append hd;have hl:(us++ds).length=ps.length:=by rw[<-r2.length];exact F.len _ _ _ _ h
 refine wpAny_call (codeAny_mono (F.run X.A X.stack s H ⟨us,[]⟩ (us++ds) (vs++iq) Q E hr I.env0 (hb s us I.hX hl) r2 h) fun r s' hq=>?_);cases r with
 |error e=>exact hx pins σ H s e s' I hq
 |ok fl =>
  cases fl with
  |ret u=>exact I.after hq
  |next=>exact False.elim hq
  |brk=>exact False.elim hq
  |cont=>exact False.elim hq
theorem kq (F:aR X.prog X.w X.K X.mg X.base CX k f fd ps sp)(hr:dm k X.A)(hg:Gl X x)(hm:X.mg x=some (.ref f))(hk:keepIn X.K (.ref f)=true)(hb:Binds X.K fd ps ds)(hd:Vals iq ds)(hx:Passes CX X E)
  (ha:PA X (e::es) t) (hdb:(x==("__debug__":Str))=false:=by decide) (he:starEach (e::es) X.env=(false,eval e X.env)::starEach es X.env:=by rfl) (hpl:(backTo pos (starEach es X.env)).any (·.1)=false:=by rfl) :
  PE X (.Call (.Name x p) (e::es) [] pos) (Lz sp iq E t):=by
 intro pins s σ H Q I h;refine wpAny_Call_Name_kw (fq I hg hm ?_ hdb);refine callWith_K (h₀:=X.base) I.ok.mod.Ia hk (bS (ha pos pins s σ H _ I h) fun us s1 ⟨vs,H1,I1,r,q⟩=>⟨I1.hX,?_⟩) he hpl;exact GL F hr hb hd hx I1 r q
theorem gL {pl:Sem Bool}(he:PE X o ta)(c:GG X.K C)(hm:Meth X.K C m f)(F:aR X.prog X.w X.K X.mg X.base CX k f fd ps sp)(hr:dm k X.A)(hb:Binds X.K fd ps ds)(hd:Vals iq ds)(hx:Passes CX X E)(ha:PA X (e::es) t)
  (hst:starEach (e::es) X.env=(false,eval e X.env)::starEach es X.env:=by rfl) (hpl:(backTo pos (starEach es X.env)).any (·.1)=false:=by rfl)
  (ht:eval (.Call (.Attribute o m apos) (e::es) [] pos) X.env=(do
   let ov <-eval o X.env
   standAt apos.atName
   let (f,first) <-holding [ov] (getMethod ov m pl)
   callWith pos f first (backTo pos (starEach (e::es) X.env)) (backToKw pos (keywordEach [] X.env))):=by rfl) :
  PE X (.Call (.Attribute o m apos) (e::es) [] pos) (Pd C m sp iq E ta t):=by
 intro pins s σ H Q I h;refine methodCall_KW (pl:=pl) (bS (he pins s σ H _ I h) fun u s1 ⟨x,H1,I1,rx,a,dx,fs,ex,ea,l,q⟩=>?_) ht;subst ex;obtain rfl:u=Value.ref a:=rx;refine mS I1 ea c hm l ?_;refine callWith_K (first:=[.ref a]) (h₀:=X.base) I.ok.mod.Ia hm.kp (bS (ha pos pins s1 σ H1 _ I1 q) fun us s2 ⟨vs,H2,I2,r,q2⟩=>⟨I2.hX,?_⟩) hst hpl;exact GL (us:=.ref a::us) (vs:=.ref a::vs) F hr hb hd hx I2 (.cons rfl r) q2
theorem lY {pl:Sem Bool}(he:PE X o ta)(c:GG X.K C)(hm:Meth X.K C m f)(F:aR X.prog X.w X.K X.mg X.base CX k f fd ps sp)(hr:dm k X.A)(hb:Binds X.K fd ps ds)(hd:Vals iq ds)(hx:Passes CX X E)
  (ht:eval (.Call (.Attribute o m apos) [] [] pos) X.env=(do
   let ov <-eval o X.env
   standAt apos.atName
   let (f,first) <-holding [ov] (getMethod ov m pl)
   callWith pos f first (backTo pos (starEach [] X.env)) (backToKw pos (keywordEach [] X.env))):=by rfl) :
  PE X (.Call (.Attribute o m apos) [] [] pos) (Pd C m sp iq E ta NZ):=by
 intro pins s σ H Q I h;refine methodCall_KW (pl:=pl) (bS (he pins s σ H _ I h) fun u s1 ⟨x,H1,I1,rx,a,dx,fs,ex,ea,l,q⟩=>?_) ht;subst ex;obtain rfl:u=Value.ref a:=rx;refine mS I1 ea c hm l ?_;exact callWith_K0 (first:=[.ref a]) I1.hX hm.kp (GL (us:=[.ref a]) (vs:=[.ref a]) F hr hb hd hx I1 (.cons rfl .nil) q)
structure Mk (K:Frag)(C f:Addr):Prop where
 makes:makesIn K C=true
 init:findIn K (.ref C) "__init__"=some (some (.ref f))
 fn:isFn K (.ref f)=true
 kp:keepIn K (.ref C)=true
theorem D9 {pins:List (Addr×Obj)}{σ:St}{H:Hp}{s:Shared}{Q:VK}{us:List Value}{vs:List V}(M:Mk X.K C f)(F:aR X.prog X.w X.K X.mg X.base CX k f fd ps sp)(hr:dm (k+1) X.A)(hb:Binds X.K fd ps ds)(hd:Vals iq ds)
  (hx:Passes CX X E) (I:Inv X pins σ H s) (r:Vals vs us)
  (h:∀ x dx,H x=none->H dx=none->dx≠x->sp (.ref x::(vs++iq)) (upd (upd H dx (.own x)) x (.ins C dx [])) (fun v H2=>v=.non/\Q (.ref x) H2) E) :
  wpAny (model X.prog X.w) X.A (call (.ref C) us) (EP X pins σ Q) X.xe s:=by
 have hq:=h (s.heap.objs.size+1) s.heap.objs.size (I.hok.fresh (Nat.le_succ _)) (I.hok.fresh (X' _)) (Zo' (Nat.lt_succ_self _));have I2:=Inv.made (C:=C) I;have r2:Vals (V.ref (s.heap.objs.size+1)::(vs++iq)) (Value.ref (s.heap.objs.size+1)::(us++ds)):=.cons rfl (r.append hd);have hl:(Value.ref (s.heap.objs.size+1)::us++ds).length=ps.length:=by
  have e:=r2.length;rw[F.len _ _ _ _ hq]at e;exact e.symm
 refine wpAny_call (Ly (f:=f) I.hX M.makes M.init (beq_iff_eq.mp M.fn) (codeAny_mono (F.run _ X.stack _ _ ⟨Value.ref (s.heap.objs.size+1)::us,[]⟩ (Value.ref (s.heap.objs.size+1)::(us++ds)) _ _ E (hr.make C us [])
  (I2.env0.make C us []) (hb _ (Value.ref (s.heap.objs.size+1)::us) I2.hX hl) r2 hq) fun r s' hq'=>?_))
 cases r with
 |error e=>exact hx pins σ _ _ e s' I2 hq'
 |ok fl =>
  cases fl with
  |ret u =>
   obtain⟨v,H',I3,rv,ev,q3⟩:=I2.after hq';subst ev;exact⟨rv,⟨V.ref (s.heap.objs.size+1),H',I3,rfl,q3⟩⟩
  |next=>exact False.elim hq'
  |brk=>exact False.elim hq'
  |cont=>exact False.elim hq'
theorem yj (M:Mk X.K C f)(F:aR X.prog X.w X.K X.mg X.base CX k f fd ps sp)(hr:dm (k+1) X.A)(hg:Gl X x)(hm:X.mg x=some (.ref C))(hb:Binds X.K fd ps ds)(hd:Vals iq ds)(hx:Passes CX X E)
  (ha:PA X (e::es) t) (hdb:(x==("__debug__":Str))=false:=by decide) (he:starEach (e::es) X.env=(false,eval e X.env)::starEach es X.env:=by rfl) (hpl:(backTo pos (starEach es X.env)).any (·.1)=false:=by rfl) :
  PE X (.Call (.Name x p) (e::es) [] pos) (Pe C sp iq E t):=by
 intro pins s σ H Q I h;refine wpAny_Call_Name_kw (fq I hg hm ?_ hdb);refine callWith_K (h₀:=X.base) I.ok.mod.Ia M.kp (bS (ha pos pins s σ H _ I h) fun us s1 ⟨vs,H1,I1,r,q⟩=>⟨I1.hX,?_⟩) he hpl;exact D9 M F hr hb hd hx I1 r q
theorem LC (M:Mk X.K C f)(F:aR X.prog X.w X.K X.mg X.base CX k f fd ps sp)(hr:dm (k+1) X.A)(hg:Gl X x)(hm:X.mg x=some (.ref C))(hb:Binds X.K fd ps ds)(hd:Vals iq ds)(hx:Passes CX X E)
  (hdb:(x==("__debug__":Str))=false:=by decide):PE X (.Call (.Name x p) [] [] pos) (Pe C sp iq E NZ):=by
 intro pins s σ H Q I h;refine wpAny_Call_Name_kw (fq I hg hm ?_ hdb);exact callWith_K0 I.hX M.kp (D9 (us:=[]) M F hr hb hd hx I .nil h)
end
section
variable {X:Cx} {CX:Gw} {k:Nat} {f C:Addr} {fd:FuncData} {ps ks:List Str} {sp:Sp} {E:XK} {x m:Str} {p pos apos YE:Pos} {e o:Expr} {es:List Expr} {kws:List Keyword} {te ta:TE} {t tk:TA} {nm:Option Str}
variable {g:List Value->List Value->List Value} {gV:List V->List V->List V}
end
structure az (N P:List Str)(sc:Scope):Prop where
 kind:sc.kind=.function
 co:sc.isCoroutine=false
 gen:sc.isGenerator=false
 nd:N.Nodup
 pre:N.take P.length=P
 par:∀ x∈P,sc.names.lookup x=some .local\/sc.names.lookup x=some .cell
 Qe:∀ y∈sc.names,y.2≠.free
theorem Bc {kindOf:Str->Option NameKind}{x:Str}:∀{binds:List (Str×Value)} {m:Str->Option Value},(∀ v,(x,v) ∉ binds)->bindL kindOf binds m x=m x
 |[],_,_=>rfl
 |(n,v)::r,m,h=>by
  unfold bindL;rw[Bc fun w hw=>h w (mem_cons_of_mem _ hw)];split
  ·have:x≠n:=by rintro rfl;exact h v mem_cons_self
   simp[this]
  ·rfl
theorem Bd {kindOf:Str->Option NameKind}{x:Str}:∀{binds:List (Str×Value)} {m:Str->Option Value},(∀ v,(x,v) ∉ binds)->bindC kindOf binds m x=m x
 |[],_,_=>rfl
 |(n,v)::r,m,h=>by
  unfold bindC;rw[Bd fun w hw=>h w (mem_cons_of_mem _ hw)];split
  ·rfl
  ·have:x≠n:=by rintro rfl;exact h v mem_cons_self
   simp[this]
theorem Be {kindOf:Str->Option NameKind}{x:Str}{v:Value}:∀{P:List Str} {vs:List Value} {i:Nat} {m:Str->Option Value},P.Nodup->P[i]? = some x->vs[i]? = some v->kindOf x=some .local ->
  bindL kindOf (P.zip vs) m x=some v
 |[],_,_,_,_,h,_,_=>by simp at h
 |_::_,[],_,_,_,_,h,_=>by simp at h
 |p::P,w::vs,0,m,nd,h1,h2,hk=>by
  simp at h1 h2;subst h1;subst h2;show bindL kindOf ((p,w)::P.zip vs) m p=_;unfold bindL;rw[Bc fun v hv=>(List.nodup_cons.mp nd).1 (List.of_mem_zip hv).1,Zc' hk];simp
 |p::P,w::vs,i+1,m,nd,h1,h2,hk=>by
  show bindL kindOf ((p,w)::P.zip vs) m x=_;unfold bindL;exact Be (i:=i) (List.nodup_cons.mp nd).2 (by simpa using h1) (by simpa using h2) hk
theorem Bf {kindOf:Str->Option NameKind}{x:Str}{v:Value}:∀{P:List Str} {vs:List Value} {i:Nat} {m:Str->Option Value},P.Nodup->P[i]? = some x->vs[i]? = some v->kindOf x≠some .local ->
  bindC kindOf (P.zip vs) m x=some v
 |[],_,_,_,_,h,_,_=>by simp at h
 |_::_,[],_,_,_,_,h,_=>by simp at h
 |p::P,w::vs,0,m,nd,h1,h2,hk=>by
  simp at h1 h2;subst h1;subst h2;show bindC kindOf ((p,w)::P.zip vs) m p=_;unfold bindC;rw[Bd fun v hv=>(List.nodup_cons.mp nd).1 (List.of_mem_zip hv).1,Za' hk];simp
 |p::P,w::vs,i+1,m,nd,h1,h2,hk=>by
  show bindC kindOf ((p,w)::P.zip vs) m x=_;unfold bindC;exact Bf (i:=i) (List.nodup_cons.mp nd).2 (by simpa using h1) (by simpa using h2) hk
noncomputable def start (N:List Str)(vs:List V):St:=vs.map some++List.replicate (N.length-vs.length) none
noncomputable def dM (CX:Gw)(P:Program)(w:World)(K:Frag)(mg:Str->Option Value)(base:Heap)(N:List Str)(qual:Str)(scope:Scope)(f:Addr)(cd:Value)(A:Around)(outer:List Env)(s:Shared)(H:Hp)(E:XK):Cx where
 prog:=P
 w:=w
 K:=K
 mg:=mg
 base:=base
 A:=A.deeper (envOfC qual scope s.heap.objs.size f cd)
 N:=N
 s₀:=s
 H₀:=H
 env:=envOfC qual scope s.heap.objs.size f cd
 outer:=outer
 stack:=envOfC qual scope s.heap.objs.size f cd::outer
 ex:=[]
 calm:=true
 fn:=fun _=>true
 pn:=[]
 xe:=fun e s'=>wpAny (model P w) (A.deeper (envOfC qual scope s.heap.objs.size f cd)) (leaving (envOfC qual scope s.heap.objs.size f cd) e) (fun _ s''=>CX outer H s E e s'') (fun e' s''=>CX outer H s E e' s'') s'
theorem Ea {sc:Scope}{n:Nat}{x:Str}(h:sc.names.lookup x=some .cell):∃ c,(cellsFrom n sc.names []).lookup x=some c:=by
 have q:=cellsFrom_some sc.names n [] (.inl h);exact Option.isSome_iff_exists.mp q
theorem Bg {CX:Gw}{P:Program}{w:World}{K:Frag}{mg:Str->Option Value}{base:Heap}{N ps:List Str}{qual:Str}{scope:Scope}{f:Addr}{cd:Value}{A:Around}{outer:List Env}{s s1:Shared}{H:Hp}{E:XK}{us:List Value}{vs:List V}
  (S:az N ps scope) (hd:A.handled=none) (e0:CS P w K mg base A outer s H) (hl:vs.length=ps.length) (r:Vals vs us)
  (x:InCallC s s.heap.objs.size (bindL (envOfC qual scope s.heap.objs.size f cd).kindOf (ps.zip us) fun _=>none) (cellsFrom (s.heap.objs.size+1) scope.names []) (bindC (envOfC qual scope s.heap.objs.size f cd).kindOf (ps.zip us) fun _=>none) s1) :
  Inv (dM CX P w K mg base N qual scope f cd A outer s H E) [] (start N vs) H s1:=by
 have hpl:ps.length<=N.length:=by have:=Zn' List.length S.pre;rw[length_take]at this;omega
 obtain⟨h1,tk,rfl,hk⟩:=x.done;have SA:∀ b:Addr,b ∉ (dM CX P w K mg base N qual scope f cd A outer s H E).ex:=fun b z=>j' (show b∈([]:List Addr) from z) (by simp);refine⟨⟨e0.mod,S.kind,rfl,rfl,X' _,fun y z c h1 h2=>?_,fun y hy=>?_,fun y c _ h=>?_,fun _=>hd,Around.frames_deeper e0.frames,.inr ⟨rfl,rfl⟩,fun b z=>j' z (SA b),e0.bs,e0.JJ,fun b _ _=>SA b,fun b z=>j' z (SA b),e0.qX,e0.NP⟩,
  rfl,e0.bare,Un.kept hk,⟨_,x.toInCall.ns,fun i y v h1 h2 h3=>?_⟩,fun y c h=>⟨_,x.cell y c h⟩,e0.hok.fresh (X' _),fun y c h=>?_,fun p hp=>j' (show p∈([]:List (Addr×Obj)) from hp) (by simp),e0.hok.kept hk,?_⟩
 ·exact name_of_addr x.apart (PySem.mem_of_lookup h1) (PySem.mem_of_lookup h2)
 ·have hy:scope.names.lookup y=some .cell\/scope.names.lookup y=some .free:=hy;rcases hy with hy|hy
  ·exact Ea hy
  ·exact j' rfl (S.Qe _ (PySem.mem_of_lookup hy))
 ·exact Nat.le_of_lt (x.above y c (PySem.mem_of_lookup h))
 ·have hi:i<vs.length:=by
   unfold start at h2
   by_cases hi:i<vs.length
   ·exact hi
   ·rw[List.getElem?_append_right (by simpa using hi)]at h2;rw[List.getElem?_replicate]at h2;split at h2 <;> cases h2
  have ha:vs[i]? = some v:=by
   unfold start at h2;rw[getElem?_append_left (by simpa using hi),Zl']at h2;cases e:vs[i]? with
   |none=>rw[e]at h2;cases h2
   |some a=>rw[e]at h2;cases h2;rfl
  obtain⟨u,hu,rv⟩:=r.get ha;have hp:ps[i]? = some y:=by
   rw[<-S.pre,List.getElem?_take_of_lt (by omega)];exact h1
  have Xp:ps.Nodup:=by rw[<-S.pre];exact S.nd.sublist (List.take_sublist _ _)
  refine⟨u,rv,?_⟩;rcases S.par y (Zh' hp) with k|k
  ·exact .inl ⟨k,Be Xp hp hu k⟩
  ·obtain⟨c,e⟩:=Ea (n:=s.heap.objs.size+1) k;refine .inr ⟨.inl k,c,e,?_⟩;have q:=x.cell y c e;rw[Bf Xp hp hu (by show scope.names.lookup y≠_;rw[k];decide)]at q;exact q
 ·exact e0.hok.fresh (Nat.le_of_lt (x.above y c (PySem.mem_of_lookup h)))
 ·unfold start;show _=N.length;rw[Zd',P',List.length_replicate];omega
theorem Bh {CX:Gw}{P:Program}{w:World}{K:Frag}{mg:Str->Option Value}{base:Heap}{k:Nat}{f:Addr}{name qual:Str}{params:Arguments}{body:List Stmt}{scope:Scope}{dV kV doc pm cdv ct oc:Value}{an od:Option Addr}
  {osl:Array (Option Value)} {N ps:List Str} {sp:Sp} (lk:K.lookup f=some ⟨oc,od,.func (fnOf name qual params body scope dV kV doc pm an cdv ct),osl⟩) (hcd:codeIn K cdv qual=true) (S:az N ps scope)
  (len:∀ vs H Q E,sp vs H Q E->vs.length=ps.length)
  (hbody:∀(A:Around)(outer:List Env)(s:Shared)(H:Hp)(vs:List V)(Q:VK)(E:XK),dm k (A.deeper (envOfC qual scope s.heap.objs.size f cdv))->sp vs H Q E ->
   ∃ t,se (dM CX P w K mg base N qual scope f cdv A outer s H E) body t/\t { nx:=fun _ H'=>Q .non H',rt:=Q } (start N vs) H) :
  aR P w K mg base CX (k+1) f (fnOf name qual params body scope dV kV doc pm an cdv ct) ps sp:=by
 refine⟨len,fun A outer s H args us vs Q E hr e0 hb r hsp=>?_⟩;have hl:=len _ _ _ _ hsp;have KX:K.In s.heap:=e0.mod.Ia.keeps fun b o e=>(e0.bs b o e).1;have lim:s.heap.NoLimit:=e0.mod.nolimit.keeps fun b o e=>(e0.bs b o e).1;have hkind:∀ y∈ps.zip us,scope.names.lookup y.1=some .local\/(scope.names.lookup y.1=some .cell/\((cellsFrom (s.heap.objs.size+1) scope.names []).lookup y.1).isSome=true):=fun⟨n,v⟩ hy=>by
  rcases S.par n (List.of_mem_zip hy).1 with q|q
  ·exact .inl q
  ·exact .inr ⟨q,cellsFrom_some _ _ _ (.inl q)⟩
 refine codeAny_call_function hr.depth (KX _ _ lk) rfl S.co S.gen rfl (codeRec_of KX hcd) (hb _ _ _ _ ?_);refine wpAny_newFunctionEnv_cells S.kind hkind fun env he s1 x=>?_;subst he;refine⟨lim.keeps x.toInCall.keep,codeAny_func ?_⟩;obtain⟨t,ht,hq⟩:=hbody A outer s H vs Q E (hr.deeper _) hsp;have I:Inv (dM CX P w K mg base N qual scope f cdv A outer s H E) [] (start N vs) H s1:=Bg S hr.hd e0 hl r x;refine wpAny_mono (ht [] s1 (start N vs) H _ I hq) (fun fl s' hs=>?_) fun e s' hs=>hs;have fin:∀{σ':St} {H':Hp} {v:V} {u:Value},Inv (dM CX P w K mg base N qual scope f cdv A outer s H E) [] σ' H' s'->RelV v u->Q v H'->CE outer P w H s Q u s' :=
  fun {σ' H' v u} J rv q=>⟨v,H',J.os,J.bare,J.base,J.hok,rv,q⟩
 cases fl with
 |ret u =>
  obtain⟨v,σ',H',J,rv,q⟩:=hs;exact fin J rv q
 |next =>
  obtain⟨σ',H',J,q⟩:=hs;exact fin (v:=V.non) (u:=Value.none) J rfl q
 |brk =>
  obtain⟨_,_,_,q⟩:=hs;exact False.elim q
 |cont =>
  obtain⟨_,_,_,q⟩:=hs;exact False.elim q
end L2
namespace L2
open PySem PySem.Spec PyProof.Rows
section
variable {X:Cx} {x:Str} {p pos:Pos} {e:Expr} {es:List Expr} {t:TA} {id T:String} {r:List V->Hp->VK->Prop}
def Xq (r:List V->Hp->VK->Prop)(t:TA):TE:=fun σ H Q=>t σ H fun vs H1=>r vs H1 Q
theorem aE (hc:fN X (.builtin id) r)(hg:Gl X x)(hm:X.mg x=none)(hv:bootBuiltins x=some (.builtin id))(ha:PA X (e::es) t)(hn:x ≠ "__name__":=by decide)(hdb:(x==("__debug__":Str))=false:=by decide)
  (he:starEach (e::es) X.env=(false,eval e X.env)::starEach es X.env:=by rfl) (hpl:(backTo pos (starEach es X.env)).any (·.1)=false:=by rfl):PE X (.Call (.Name x p) (e::es) [] pos) (Xq r t):=by
 intro pins s σ H Q I h;refine wpAny_Call_Name_kw (lL I hg hm hv ?_ hn hdb);exact PyProof.Rows.callWith_builtin1 (bS (ha pos pins s σ H _ I h) fun us s1 ⟨vs,H1,I1,r1,q1⟩=>hc pins s1 σ H1 vs us Q I1 r1 q1) he hpl
theorem bP (hc:fN X (.type T) r)(hg:Gl X x)(hm:X.mg x=none)(hv:bootBuiltins x=some (.type T))(ha:PA X (e::es) t)(hn:x ≠ "__name__":=by decide)(hdb:(x==("__debug__":Str))=false:=by decide)
  (he:starEach (e::es) X.env=(false,eval e X.env)::starEach es X.env:=by rfl) (hpl:(backTo pos (starEach es X.env)).any (·.1)=false:=by rfl):PE X (.Call (.Name x p) (e::es) [] pos) (Xq r t):=by
 intro pins s σ H Q I h;refine wpAny_Call_Name_kw (lL I hg hm hv ?_ hn hdb);exact PyProof.Rows.callWith_type1 (bS (ha pos pins s σ H _ I h) fun us s1 ⟨vs,H1,I1,r1,q1⟩=>hc pins s1 σ H1 vs us Q I1 r1 q1) he hpl
end
end L2
namespace HT
open PySem PyProof.Rows
section
open PySem.SeqAt
open PySem.AutoSeq1 (wpAny_loadPart')
open PySem.MeetsSeq PySem.MeetsSeq2 PySem.MeetsSeq3
end
section
variable {prog:Program} {w:World} {A:Around} {E:Value->Shared->Prop} {s:Shared}
noncomputable def ir (n d:Nat):Option Int->Nat
 |none=>d
 |some v=>if v<0 then(v+(n:Int)).toNat else min v.toNat n
theorem Eb (n d:Nat):ir n d none=d:=rfl
theorem Ik (n d k:Nat):ir n d (some (k:Int))=min k n:=by
 show(if(k:Int)<0 then((k:Int)+(n:Int)).toNat else min (k:Int).toNat n)=min k n;rw[Za' (by omega),Int.toNat_natCast]
theorem Qf (n d:Nat)(hd:d<=n)(o:Option Int):ir n d o<=n:=by
 cases o with
 |none=>exact hd
 |some v =>
  show(if v<0 then(v+(n:Int)).toNat else min v.toNat n)<=n
  by_cases hv:v<0
  ·rw[Zc' hv];omega
  ·rw[Za' hv];exact Nat.min_le_right _ _
theorem Il (v:Int)(n d:Nat):(if v<0 then max (v+(n:Int)) 0 else min v (n:Int))=((ir n d (some v):Nat):Int):=by
 show(if v<0 then max (v+(n:Int)) 0 else min v (n:Int))=(((if v<0 then(v+(n:Int)).toNat else min v.toNat n):Nat):Int)
 by_cases hv:v<0
 ·simp only [Zc' hv];omega
 ·simp only [Za' hv];omega
theorem GN (lo hi:Option Int)(n:Nat):Builtin.Slice.sliceAdjust lo hi 1 (n:Int)=(((ir n 0 lo:Nat):Int),((ir n n hi:Nat):Int)):=by
 have h1:¬((1:Int)<0):=by omega
 unfold Builtin.Slice.sliceAdjust;simp only [h1,if_false];refine Prod.ext ?_ ?_
 ·cases lo with
  |none=>rfl
  |some v=>exact Il v n 0
 ·cases hi with
  |none=>rfl
  |some v=>exact Il v n n
theorem GO (i j:Nat):Builtin.Slice.slicePlaces (i:Int) (j:Int) 1=j-i:=by
 unfold Builtin.Slice.slicePlaces;have h1:(1:Int) > 0:=by omega
 simp only [h1,if_true,Int.ediv_one];split <;> omega
theorem yA {v:Value}{o:Option Int}{Q:Option Int->Shared->Prop}(p:IsPart v o)(h:Q o s):wpAny (model prog w) A (Builtin.Slice.slicePartIndex v) Q E s:=by
 cases p with
 |none=>exact slicePart_none h
 |int i t=>exact slicePart_int h
theorem uY {sl:Addr}{vl vu:Value}{lo hi:Option Int}{n:Nat}{Q:Int×Int×Nat->Shared->Prop}(hs:s.heap.IsSliceOf sl vl vu .none)(pl:IsPart vl lo)(pu:IsPart vu hi)
  (h:Q (((ir n 0 lo:Nat):Int),1,ir n n hi-ir n 0 lo) s):wpAny (model prog w) A (Builtin.Slice.sliceApplied (.ref sl) (pure (n:Int))) Q E s:=by
 obtain⟨os,hos,hcs,hds⟩:=id hs;unfold Builtin.Slice.sliceApplied Builtin.Slice.sliceFields;refine K' (K' (wpAny_field hos hds (x:=vl) rfl (K' (wpAny_field hos hds (x:=vu) rfl (K' (wpAny_field hos hds (x:=.none) rfl (Z' ?_)))))));refine K' (slicePart_none ?_);show wpAny _ _ (if((1:Int)==0)=true then _ else _) _ _ s;rw[Za' (by decide)];refine K' (yA pl (K' (yA pu (K' (Z' ?_)))));show wpAny _ _ (match Builtin.Slice.sliceAdjust lo hi 1 (n:Int) with|(lo,hi)=>pure (lo,(1:Int),Builtin.Slice.slicePlaces lo hi 1)) _ _ s;rw[GN lo hi n];show wpAny _ _ (pure (((ir n 0 lo:Nat):Int),(1:Int),Builtin.Slice.slicePlaces ((ir n 0 lo:Nat):Int) ((ir n n hi:Nat):Int) 1)) _ _ s;rw[GO];exact Z' h
theorem LF (xs:Array Value)(i k:Nat):((List.range k).filterMap fun(m:Nat)=>xs[((i:Int)+(m:Int) * 1).toNat]?).toArray=((xs.toList.drop i).take k).toArray:=by
 have e:(fun(m:Nat)=>xs[((i:Int)+(m:Int) * 1).toNat]?)=fun m=>xs[i+m]?:=by
  funext m
  have:((i:Int)+(m:Int) * 1).toNat=i+m:=by omega
  rw[this]
 rw[e];have:=pick_run xs i k;rw[List.filterMap_map]at this;have e2:((fun x=>xs[x]?) ∘ fun x=>i+x)=fun m=>xs[i+m]?:=rfl;rw[e2]at this;rw[this]
theorem sv {t sl:Addr}{items:Array Value}{vl vu:Value}{lo hi:Option Int}{Q:Value->Shared->Prop}(ht:IsTup s.heap t items)(hs:s.heap.IsSliceOf sl vl vu .none)(pl:IsPart vl lo)(pu:IsPart vu hi)
  (hw:¬(ir items.size 0 lo=0/\ir items.size items.size hi=items.size))
  (h:Q (.ref s.heap.objs.size) { s with heap:=s.heap.push { cls:=.type "tuple",data:=.seq ((items.toList.drop (ir items.size 0 lo)).take (ir items.size items.size hi-ir items.size 0 lo)).toArray } })
  (hsz:items.size<=sizeLine):wpAny (model prog w) A (getItem (.ref t) (.ref sl)) Q E s:=by
 have Im:sizeOk (.seq ((items.toList.drop (ir items.size 0 lo)).take (ir items.size items.size hi-ir items.size 0 lo)).toArray):=by
  show((items.toList.drop (ir items.size 0 lo)).take (ir items.size items.size hi-ir items.size 0 lo)).toArray.size<=sizeLine;rw[Zm',length_take,length_drop,Array.length_toList];omega
 have hj:ir items.size items.size hi<=items.size:=Qf _ _ (X' _) hi;obtain⟨os,hos,hcs,hds⟩:=id hs;have hTs:s.TypeIs (.ref sl) "slice":=⟨os,hos,hcs⟩;unfold getItem
 try with_reducible refine wpAny_holding ?_
 first|refine K' (Z' ?_)|skip
 refine K' (wpAny_sequenceKey ht.typeIs (by decide) ?_);refine K' (wpAny_callSpecial?_slot (name:=Str.ofString "__getitem__") ht.typeIs PyProof.Rows.slot_tuple_getitem
  (wpAny_call_entry PyProof.Rows.slot_tuple_getitem ht.typeIs entry_tuple_getitem ?_ (args_tuple_getitem _ _)))
 show wpAny _ _ (Builtin.Tuple.tupleItemsOf (.ref t) >>= _) _ _ s;refine K' (tupleItemsOf_ ht ?_);refine K' (wpAny_typeOf hTs ?_);rw[Zc' (by decide)];refine K' (uY hs pl pu ?_);have hno:¬((((ir items.size 0 lo:Nat):Int)==0&&(1:Int)==1&&(ir items.size items.size hi-ir items.size 0 lo)==items.size)=true):=by
  intro q;rw[Bool.and_eq_true,Bool.and_eq_true]at q;have q1:((ir items.size 0 lo:Nat):Int)=0:=eq_of_beq q.1.1;have q2:ir items.size items.size hi-ir items.size 0 lo=items.size:=eq_of_beq q.2;exact hw ⟨by omega,by omega⟩
 show wpAny _ _ (if(((ir items.size 0 lo:Nat):Int)==0&&(1:Int)==1&&(ir items.size items.size hi-ir items.size 0 lo)==items.size)=true then _ else _) _ _ s;rw[Za' hno,LF]
 first
  |exact K' (m:=Builtin.Tuple.tupleExact _) (wpAny_newObj_type (Z' ⟨_,rfl,Z' h⟩) Im)
  |exact K' (m:=Builtin.Tuple.tupleExact _) (wpAny_newObj_type (K' (Z' (Z' ⟨_,rfl,Z' h⟩))) Im)
  |exact K' (K' (m:=Builtin.Tuple.tupleExact _) (wpAny_newObj_type (Z' (Z' ⟨_,rfl,Z' h⟩)) Im))
  |exact K' (K' (m:=Builtin.Tuple.tupleExact _) (wpAny_newObj_type (Z' ⟨_,rfl,Z' h⟩) Im))
end
end HT
namespace L2
open PySem PySem.Spec PyProof.Rows
abbrev TO:=St->Hp->(Option Int->Hp->Prop)->Prop
def PO (X:Cx)(e:Option Expr)(t:TO):Prop :=
 ∀(pins:List (Addr×Obj)) (s:Shared) (σ:St) (H:Hp) (Q:Option Int->Hp->Prop),Inv X pins σ H s->t σ H Q ->
  wpAny (model X.prog X.w) X.A (evalPart e X.env) (fun u s'=>∃ o H',Inv X pins σ H' s'/\IsPart u o/\Q o H') X.xe s
def N0:TO:=fun _ H Q=>Q none H
inductive LG (Q:(Option Int->Hp->Prop))(x:V)(H1:Hp):Prop
 |mk (i:_) (cL:x=.int i) (cM:Q (some i) H1):LG Q x H1
def SD (t:TE):TO:=fun σ H Q=>t σ H fun x H1=>LG Q x H1
section
variable {X:Cx} {e:Expr} {te:TE} {lo hi:Option Expr} {tl th:TO} {pos p2:Pos}
theorem eP:PO X none N0:=by
 intro pins s σ H Q I h;rw[evalPart_none];exact Z' ⟨none,H,I,.none,h⟩
theorem dW (h:PE X e te):PO X (some e) (SD te):=by
 intro pins s σ H Q I hw;rw[evalPart_some];refine bS (h pins s σ H _ I hw) fun u s1 fu=>?_;obtain⟨x,H1,I1,r1,q1⟩:=fu;obtain⟨i,rfl,q⟩:=q1;obtain⟨t,rfl⟩:=r1;exact⟨some i,H1,I1,.int i t,q⟩
def Pf (X:Cx)(r:V->Option Int->Option Int->Hp->VK->Prop):Prop :=
 ∀(pins:List (Addr×Obj)) (s:Shared) (σ:St) (H:Hp) (x:V) (v vl vu:Value) (lo hi:Option Int) (sl:Addr) (Q:VK),Inv X pins σ H s->RelV x v->s.heap.IsSliceOf sl vl vu .none->IsPart vl lo->IsPart vu hi->r x lo hi H Q ->
  ∃ T id,typeLookup (.type T) "__getitem__"=pure (some (.builtin id))/\s.TypeIs v T/\wpAny (model X.prog X.w) X.A (getItem v (.ref sl)) (EP X pins σ Q) X.xe s
theorem Pf.or {r r':V->Option Int->Option Int->Hp->VK->Prop}(h:Pf X r)(h':Pf X r'):Pf X (fun x lo hi H Q=>r x lo hi H Q\/r' x lo hi H Q):=by
 intro pins s σ H x v vl vu lo hi sl Q I rx hs pl pu q;rcases q with q|q
 ·exact h pins s σ H x v vl vu lo hi sl Q I rx hs pl pu q
 ·exact h' pins s σ H x v vl vu lo hi sl Q I rx hs pl pu q
def YF (r:V->Option Int->Option Int->Hp->VK->Prop)(te:TE)(tl th:TO):TE:=fun σ H Q=>te σ H fun x H1=>tl σ H1 fun l H2=>th σ H2 fun u H3=>r x l u H3 Q
theorem dN {r:V->Option Int->Option Int->Hp->VK->Prop}(hr:Pf X r)(he:PE X e te)(hl:PO X lo tl)(hu:PO X hi th):PE X (.Subscript e (.Slice lo hi none p2) pos) (YF r te tl th):=by
 intro pins s σ H Q I h;refine Subscript_ (bS (he pins s σ H _ I h) fun v s1 fu=>?_);obtain⟨x,H1,I1,r1,q1⟩:=fu;refine wpAny_Slice (bS (hl pins s1 σ H1 _ I1 q1) fun vl s2 ⟨l,H2,I2,pl,q2⟩=>bS (hu pins s2 σ H2 _ I2 q2) fun vu s3 ⟨u,H3,I3,pu,q3⟩=>?_);rw[evalPart_none];refine Z' ?_;have I4:Inv X pins σ H3 { s3 with heap:=s3.heap.push { cls:=.type "slice",data:=.fields #[vl,vu,.none] } }:=I3.kept (t':=s3.toks) fun b ob q=>U' _ q;obtain⟨T,id,hT,ht,hg⟩:=hr pins { s3 with heap:=s3.heap.push { cls:=.type "slice",data:=.fields #[vl,vu,.none] } } σ H3 x v vl vu l u s3.heap.objs.size Q I4 r1 (Heap.IsSliceOf.new ..) pl pu q3;show wpAny (model X.prog X.w) X.A (subscriptTail e (.Slice lo hi none p2) v (.ref s3.heap.objs.size)) (EP X pins σ Q) X.xe { s3 with heap:=s3.heap.push { cls:=.type "slice",data:=.fields #[vl,vu,.none] } };exact tail_any (ops:=[.ref s3.heap.objs.size,v]) ht hT hg (by with_unfolding_all rfl)
noncomputable def qY (xs:List V)(lo hi:Option Int):List V:=(xs.drop (HT.ir xs.length 0 lo)).take (HT.ir xs.length xs.length hi-HT.ir xs.length 0 lo)
theorem vU (xs:List V)(lo hi:Option Int):(qY xs lo hi).length<=xs.length:=by
 unfold qY;rw[length_take,length_drop];omega
inductive Pg (K:Frag)(x:V)(lo:Option Int)(hi:Option Int)(H:Hp)(Q:VK):Prop
 |mk (a:_) (xs:_) (cL:x=.ref a) (cM:iQ K H a xs) (dA:¬(HT.ir xs.length 0 lo=0/\HT.ir xs.length xs.length hi=xs.length)) (fA:∀ p,H p=none->Q (.ref p) (upd H p (.tup (qY xs lo hi)))):Pg K x lo hi H Q
def VF (K:Frag):V->Option Int->Option Int->Hp->VK->Prop:=fun x lo hi H Q=>Pg K x lo hi H Q
theorem gM:Pf X (VF X.K):=by
 intro pins s σ H x v vl vu lo hi sl Q I rx hs pl pu h;obtain⟨a,xs,rfl,hx,hw,q⟩:=h;cases rx;obtain⟨its,r,ht,hz⟩:=I.tuple hx;have hlen:its.toArray.size=xs.length:=by rw[Zm'];exact r.length.symm
 refine⟨"tuple",_,PyProof.Rows.slot_tuple_getitem.lookup,ht.typeIs,?_⟩;refine HT.sv ht hs pl pu (by rw[hlen];exact hw) ?_ (by rw[hlen];exact hz);rw[hlen];refine⟨.ref s.heap.objs.size,_,I.laid (t':=s.toks) (o:=.tup (qY xs lo hi)) (fun b ob q=>U' _ q) (X' _) ?_,rfl,q _ (I.hok.fresh (X' _))⟩;exact⟨Zf' (vU xs lo hi) hz,_,(r.drop (HT.ir xs.length 0 lo)).take (HT.ir xs.length xs.length hi-HT.ir xs.length 0 lo),IsTup.new _ _⟩
end
end L2
namespace L2
open PySem PySem.Spec PyProof.Rows
noncomputable def N1 (n:Nat)(i:Int):Option Nat:=if 0<=i then(if i<n then some i.toNat else none) else if -(n:Int)<=i then some (i+n).toNat else none
def Ph {α:Type}(xs:List α)(i:Int):Option α:=(N1 xs.length i).bind fun j=>xs[j]?
theorem Io {n:Nat}{i:Int}{j:Nat}(h:N1 n i=some j):seqIndex? i n=some j/\j<n/\-(n:Int)<=i/\i<n:=by
 unfold N1 at h
 by_cases h0:0<=i
 ·rw[Zc' h0]at h
  by_cases h1:i<n
  ·rw[Zc' h1]at h;have e:i.toNat=j:=W' h;exact⟨by rw[seqIndex_of h0 h1,e],by omega,by omega,h1⟩
  ·rw[Za' h1]at h;cases h
 ·rw[Za' h0]at h
  by_cases h1:-(n:Int)<=i
  ·rw[Zc' h1]at h;have e:(i+n).toNat=j:=W' h;exact⟨by rw[seqIndex_neg (by omega) h1,e],by omega,h1,by omega⟩
  ·rw[Za' h1]at h;cases h
theorem CU {α:Type}{xs:List α}{i:Int}{v:α}(h:Ph xs i=some v):∃ j,seqIndex? i xs.length=some j/\xs[j]? = some v/\j<xs.length/\-(xs.length:Int)<=i/\i<xs.length:=by
 unfold Ph at h;cases e:N1 xs.length i with
 |none=>rw[e]at h;cases h
 |some j =>
  rw[e]at h;obtain⟨h1,h2,h3,h4⟩:=Io e;exact⟨j,h1,h,h2,h3,h4⟩
theorem eQ {α:Type}{xs:List α}{j:Nat}{v:α}(h:xs[j]? = some v):Ph xs (j:Int)=some v:=by
 have hj:j<xs.length:=(S'.mp h).1;have e:N1 xs.length (j:Int)=some j:=by
  unfold N1;rw[Zc' (by omega),Zc' (by omega)];simp
 unfold Ph;rw[e];exact h
def N2 (b:Expr):Prop:=∀ o i,subscripted b false o i=operate [o,i] (getItem o i)
def LH (X:Cx)(r:R2):Prop :=
 ∀(value slice:Expr)(pins:List (Addr×Obj)) (s:Shared) (σ:St) (H:Hp) (x y:V) (v u:Value) (Q:VK),Inv X pins σ H s->RelV x v->RelV y u->r x y H Q ->
  subscripted slice false v u=operate [v,u] (getItem v u)->wpAny (model X.prog X.w) X.A (subscriptTail value slice v u) (EP X pins σ Q) X.xe s
def Xr (X:Cx)(id:String)(r:V->List V->Hp->VK->Prop):Prop :=
 ∀(pins:List (Addr×Obj)) (s:Shared) (σ:St) (H:Hp) (x:V) (xs:List V) (v:Value) (us:List Value) (Q:VK),Inv X pins σ H s->RelV x v->Vals xs us->r x xs H Q ->
  wpAny (model X.prog X.w) X.A (call (.builtin id) (v::us)) (EP X pins σ Q) X.xe s
section
variable {X:Cx} {a b:Expr} {ta tb:TE} {pos:Pos}
theorem LH.or {r r':R2}(h:LH X r)(h':LH X r'):LH X (fun x y H Q=>r x y H Q\/r' x y H Q):=by
 intro value slice pins s σ H x y v u Q I rx ry q hs;rcases q with q|q
 ·exact h value slice pins s σ H x y v u Q I rx ry q hs
 ·exact h' value slice pins s σ H x y v u Q I rx ry q hs
theorem bL {r:R2}(hr:LH X r)(ha:PE X a ta)(hb:PE X b tb)(hs:N2 b):PE X (.Subscript a b pos) (Su r ta tb):=by
 intro pins s σ H Q I h;exact Subscript_ (Qc ha hb I h fun v u s2 x y H2 I2 rx ry q=>hr a b pins s2 σ H2 x y v u Q I2 rx ry q (hs _ _))
inductive Pj (K:Frag)(x:V)(y:V)(H:Hp)(Q:VK):Prop
 |mk (p:_) (xs:_) (i:_) (v:_) (cL:x=.ref p) (cM:y=.int i) (dA:aL K H p xs) (fA:Ph xs i=some v) (ki:Q v H):Pj K x y H Q
def CW (K:Frag):R2:=fun x y H Q=>Pj K x y H Q
inductive Pk (K:Frag)(x:V)(y:V)(H:Hp)(Q:VK):Prop
 |mk (p:_) (xs:_) (i:_) (v:_) (cL:x=.ref p) (cM:y=.int i) (dA:iQ K H p xs) (fA:Ph xs i=some v) (ki:Q v H):Pk K x y H Q
def CY (K:Frag):R2:=fun x y H Q=>Pk K x y H Q
inductive Pl (x:V)(y:V)(H:Hp)(Q:VK):Prop
 |mk (z:_) (i:_) (c:_) (cL:x=.str z) (cM:y=.int i) (dA:z.length<=sizeLine) (fA:Ph z.cps.toList i=some c) (ki:Q (.str ⟨#[c]⟩) H):Pl x y H Q
def CZ :R2:=fun x y H Q=>Pl x y H Q
theorem N3:LH X (CW X.K):=by
 intro value slice pins s σ H x y v u Q I rx ry h hs;obtain⟨p,xs,i,z,rfl,rfl,hq,he,q⟩:=h;cases rx;obtain⟨t,rfl⟩:=ry;obtain⟨its,r,pl,hz⟩:=I.list hq;obtain⟨j,h1,h2,h3,h4,h5⟩:=CU he;obtain⟨w,ew,LI⟩:=r.get h2;have hl:=r.length;have hn:=uW;have fin:EP X pins σ Q w s:=⟨z,H,I,LI,q⟩
 by_cases h0:0<=i
 ·have hj:i.toNat=j:=by
   rw[seqIndex_of h0 h5]at h1;exact W' h1
  exact item_listR pl.isList h0 (by omega) (by rw[hj];simpa using ew) fin hs
 ·have hj:(i+(its.toArray.size:Int)).toNat=j:=by
   rw[seqIndex_neg (by omega) h4]at h1;rw[Zm',<-hl];exact W' h1
  exact subscriptTail_builtinR (x:=w) pl.isList.typeIs slot_list_getitem.lookup
   (wpAny_getItem_list_neg (Q:=fun r s'=>r=w/\EP X pins σ Q r s') pl.isList (by omega) (by rw[Zm'] <;> omega) (by omega) (by rw[hj];simpa using ew) ⟨rfl,fin⟩) hs
theorem Qg:LH X (CY X.K):=by
 intro value slice pins s σ H x y v u Q I rx ry h hs;obtain⟨p,xs,i,z,rfl,rfl,hq,he,q⟩:=h;cases rx;obtain⟨t,rfl⟩:=ry;obtain⟨its,r,pl,hz⟩:=I.tuple hq;obtain⟨j,h1,h2,h3,h4,h5⟩:=CU he;obtain⟨w,ew,LI⟩:=r.get h2;have hl:=r.length;have hn:=uW;have fin:EP X pins σ Q w s:=⟨z,H,I,LI,q⟩;exact subscriptTail_builtinR (x:=w) pl.typeIs slot_tuple_getitem.lookup
  (getItem_tuple (j:=j) (Q:=fun r s'=>r=w/\EP X pins σ Q r s') pl (by omega) (by omega) (by rw[Zm',<-hl];exact h1) (by simpa using ew) ⟨rfl,fin⟩) hs
theorem Qh:LH X CZ:=by
 intro value slice pins s σ H x y v u Q I rx ry h hs;obtain⟨z,i,c,rfl,rfl,hz,he,q⟩:=h;obtain⟨t,rfl⟩:=rx;obtain⟨t',rfl⟩:=ry;obtain⟨j,h1,h2,h3,h4,h5⟩:=CU he;have hl:z.cps.toList.length=z.length:=by simp[Str.length]
 rw[hl]at h1 h4 h5;have hn:=uW;exact tail_any (typeIs_str s z t) slot_str_getitem.lookup (getItem_str (c:=c) (by
  have e1:decide (i < -(2 ^ 63:Int))=false:=V' (by omega);have e2:decide (i ≥ 2 ^ 63)=false:=V' (by omega);rw[e1,e2,Bool.or_false]) (by rw[h1];simpa using h2) ⟨.str ⟨#[c]⟩,H,I.tok _,⟨_,rfl⟩,q⟩) hs
def VG (K:Frag):R2:=fun x y H Q=>CW K x y H Q\/CY K x y H Q\/CZ x y H Q
theorem bo:LH X (VG X.K):=N3.or (Qg.or Qh)
theorem GP (its:List Value)(n j:Nat)(u:Value):Obj.mapSeq (·.setIfInBounds j u) { cls:=.type "list",data:=.seq its.toArray n } = { cls:=.type "list",data:=.seq (its.set j u).toArray n }:=by
 simp[Obj.mapSeq]
theorem Inv.lst {pins:List (Addr×Obj)}{σ:St}{H:Hp}{s:Shared}{p:Addr}{xs:List V}(I:Inv X pins σ H s)(h:H p=some (.lst xs)) :
  ∃(its:List Value)(n:Nat),Vals xs its/\s.heap.get? p=some { cls:=.type "list",data:=.seq its.toArray n }/\xs.length<=sizeLine:=by
 obtain⟨z,its,n,r,e⟩:=I.hok p _ h;exact⟨its,n,r,e,z⟩
theorem Inv.Qi {pins:List (Addr×Obj)}{σ:St}{H:Hp}{s:Shared}{p:Addr}{xs ys:List V}{its its':List Value}{n n':Nat}{f:Obj->Obj}(I:Inv X pins σ H s)(h:H p=some (.lst xs))
  (ho:s.heap.get? p=some { cls:=.type "list",data:=.seq its.toArray n }) (hf:f { cls:=.type "list",data:=.seq its.toArray n } = { cls:=.type "list",data:=.seq its'.toArray n' }) (r:Vals ys its') (hz:ys.length<=sizeLine) (t:Nat) :
  Inv X pins σ (upd H p (.lst ys)) { s with heap:=s.heap.update p f,toks:=t }:=by
 have e:(s.heap.update p f).get? p=some { cls:=.type "list",data:=.seq its'.toArray n' }:=by
  rw[Heap.get?_update_self f ho (by rw[hf] <;> rfl),hf]
 refine I.write (x:=p) (e:=p) (by rw[h];trivial) (.inl rfl) (fun b u hb q=>(Heap.get?_update_other _ _ (Ne.symm hb)).trans q) ⟨_,e⟩ ?_;exact⟨hz,its',n',r,e⟩
inductive LJ (o:V)(i:V)(v:V)(H:Hp)(Q:(Hp->Prop)):Prop
 |mk (p:_) (xs:_) (k:_) (j:_) (cL:o=.ref p) (cM:i=.int k) (dA:H p=some (.lst xs)) (fA:N1 xs.length k=some j) (ki:Q (upd H p (.lst (xs.set j v)))):LJ o i v H Q
def SE :V->V->V->Hp->(Hp->Prop)->Prop:=fun o i v H Q=>LJ o i v H Q
theorem set_list:Sl X SE:=by
 intro pins s σ H o i v ov iv u Q I ro ri rv h;obtain⟨p,xs,k,j,rfl,rfl,hp,hj,q⟩:=h;cases ro;obtain⟨t,rfl⟩:=ri;obtain⟨its,n,r,ho,hz⟩:=I.lst hp;obtain⟨h1,h2,h3,h4⟩:=Io hj;have hl:=r.length;have hn:=uW;have I':Inv X pins σ (upd H p (.lst (xs.set j v))) { s with heap:=s.heap.update p (Obj.mapSeq (·.setIfInBounds j u)) } :=
  I.Qi hp ho (GP its n j u) (r.set rv j) (by rw[List.length_set];exact hz) s.toks
 by_cases h0:0<=k
 ·have hk:k.toNat=j:=by
   rw[seqIndex_of h0 h4]at h1;exact W' h1
  exact PySem.W.ki_setAt ho h0 (by omega) (by rw[Zm',<-hl];exact h4) (by rw[hk];exact⟨_,I',q⟩)
 ·have hk:(k+(its.toArray.size:Int)).toNat=j:=by
   rw[seqIndex_neg (by omega) h3]at h1;rw[Zm',<-hl];exact W' h1
  exact PySem.W.ki_setBack ho (by omega) (by rw[Zm',<-hl];exact h3) (by omega) (by rw[hk];exact⟨_,I',q⟩)
theorem C0 (lo hi:Option Int)(n:Nat):(sliceBounds lo hi none n).1=((HT.ir n 0 lo:Nat):Int)/\(sliceBounds lo hi none n).2.1=((HT.ir n n hi:Nat):Int)/\(sliceBounds lo hi none n).2.2=1:=by
 refine⟨?_,?_,rfl⟩
 ·cases lo with
  |none=>simp[sliceBounds,HT.ir]
  |some i =>
   simp only [sliceBounds,HT.ir,Option.getD_none,show(1:Int) > 0 by decide,if_true]
   by_cases h:i<0
   ·simp only [h,if_true] <;> omega
   ·simp only [h,if_false] <;> omega
 ·cases hi with
  |none=>simp[sliceBounds,HT.ir]
  |some i =>
   simp only [sliceBounds,HT.ir,Option.getD_none,show(1:Int) > 0 by decide,if_true]
   by_cases h:i<0
   ·simp only [h,if_true] <;> omega
   ·simp only [h,if_false] <;> omega
theorem AH (its:List Value)(lo hi:Option Int):slicePick its.toArray lo hi none=((its.drop (HT.ir its.length 0 lo)).take (HT.ir its.length its.length hi-HT.ir its.length 0 lo)).toArray:=by
 obtain⟨h1,h2,h3⟩:=C0 lo hi its.toArray.size;unfold slicePick;rw[h1,h2,h3];simp only [sliceRange_one,pick_run,Zm'] <;> rfl
inductive Pm (K:Frag)(x:V)(lo:Option Int)(hi:Option Int)(H:Hp)(Q:VK):Prop
 |mk (a:_) (xs:_) (cL:x=.ref a) (cM:aL K H a xs) (dA:∀ p,H p=none->Q (.ref p) (upd H p (.lst (qY xs lo hi)))):Pm K x lo hi H Q
def VH (K:Frag):V->Option Int->Option Int->Hp->VK->Prop:=fun x lo hi H Q=>Pm K x lo hi H Q
theorem eR:Pf X (VH X.K):=by
 intro pins s σ H x v vl vu lo hi sl Q I rx hs pl pu h;obtain⟨a,xs,rfl,hx,q⟩:=h;cases rx;obtain⟨its,r,ht,hz⟩:=I.list hx;have hlen:=r.length;refine⟨"list",_,slot_list_getitem.lookup,ht.isList.typeIs,?_⟩;refine wpAny_getItem_list_slice ht.isList hs pl pu .none (by simp) ?_ (by rw[Zm'] <;> omega);rw[AH,<-hlen];refine⟨.ref s.heap.objs.size,_,I.laid (t':=s.toks) (o:=.lst (qY xs lo hi)) (fun b ob q=>U' _ q) (X' _) ?_,rfl,q _ (I.hok.fresh (X' _))⟩;exact⟨Zf' (vU xs lo hi) hz,_,0,(r.drop (HT.ir xs.length 0 lo)).take (HT.ir xs.length xs.length hi-HT.ir xs.length 0 lo),Zi' _ rfl⟩
noncomputable def qj:V->Bool
 |.non=>true
 |.bl _=>true
 |.int _=>true
 |.str _=>true
 |_=>false
noncomputable def Ip:V->V->Bool
 |.non,.non=>true
 |.bl a,.bl b=>a==b
 |.bl a,.int b=>(if a then 1 else 0)==b
 |.int a,.bl b=>a==(if b then 1 else 0)
 |.int a,.int b=>a==b
 |.str a,.str b=>a==b
 |_,_=>false
theorem LK {A:Around}{s:Shared}{y x:V}{u v:Value}(ry:RelV y u)(rx:RelV x v)(fy:qj y=true)(fx:qj x=true):SeqAt.EqAt A s u v (Ip y x):=by
 cases y with
 |non =>
  cases ry;cases x with
  |non=>cases rx;exact SeqAt.EqAt.same _
  |bl b=>cases rx;exact SeqAt.EqAt.none_bool b
  |int b=>obtain⟨t,rfl⟩:=rx;exact SeqAt.EqAt.none_int b t
  |str b=>obtain⟨t,rfl⟩:=rx;exact SeqAt.EqAt.none_str b t
  |_=>exact j' (show false=true from fx) Zg'
 |bl a =>
  cases ry;cases x with
  |non=>cases rx;exact SeqAt.EqAt.bool_none a
  |bl b=>cases rx;exact SeqAt.EqAt.bool_bool a b
  |int b=>obtain⟨t,rfl⟩:=rx;exact SeqAt.EqAt.bool_int a b t
  |str b=>obtain⟨t,rfl⟩:=rx;exact SeqAt.EqAt.bool_str a b t
  |_=>exact j' (show false=true from fx) Zg'
 |int a =>
  obtain⟨t',rfl⟩:=ry;cases x with
  |non=>cases rx;exact SeqAt.EqAt.int_none a t'
  |bl b=>cases rx;exact SeqAt.EqAt.int_bool a t' b
  |int b=>obtain⟨t,rfl⟩:=rx;exact SeqAt.EqAt.int_int a t' b t
  |str b=>obtain⟨t,rfl⟩:=rx;exact SeqAt.EqAt.int_str a t' b t
  |_=>exact j' (show false=true from fx) Zg'
 |str a =>
  obtain⟨t',rfl⟩:=ry;cases x with
  |non=>cases rx;exact SeqAt.EqAt.str_none a t'
  |bl b=>cases rx;exact SeqAt.EqAt.str_bool a t' b
  |int b=>obtain⟨t,rfl⟩:=rx;exact SeqAt.EqAt.str_int a t' b t
  |str b=>obtain⟨t,rfl⟩:=rx;exact SeqAt.EqAt.str_str a t' b t
  |_=>exact j' (show false=true from fx) Zg'
 |_=>exact j' (show false=true from fy) Zg'
noncomputable def GQ (x:V)(u:Value):Bool:=match u with
 |.none=>Ip .non x
 |.bool b=>Ip (.bl b) x
 |.int i _=>Ip (.int i) x
 |.str z _=>Ip (.str z) x
 |_=>false
theorem LL {x y:V}{u:Value}(r:RelV y u)(f:qj y=true):GQ x u=Ip y x:=by
 cases y with
 |non=>cases r;rfl
 |bl b=>cases r;rfl
 |int i=>obtain⟨t,rfl⟩:=r;rfl
 |str z=>obtain⟨t,rfl⟩:=r;rfl
 |_=>exact j' (show false=true from f) Zg'
theorem sx {x:V}:∀{xs:List V} {us:List Value},Vals xs us->xs.all qj=true->us.any (GQ x)=xs.any fun y=>Ip y x
 |_,_,.nil,_=>rfl
 |y::xs,u::us,.cons r t,f=>by
  rw[List.all_cons,Bool.and_eq_true]at f;rw[List.any_cons,List.any_cons,LL r f.1,sx t f.2]
theorem oC {A:Around}{s:Shared}{x:V}{v:Value}(rx:RelV x v)(fx:qj x=true):∀{xs:List V} {us:List Value},Vals xs us->xs.all qj=true->∀ u∈us,SeqAt.EqAt A s u v (GQ x u)
 |_,_,.nil,_=>fun u hu=>by cases hu
 |y::xs,u::us,.cons r t,f=>fun u' hu=>by
  rw[List.all_cons,Bool.and_eq_true]at f;rcases List.mem_cons.mp hu with rfl|hu
  ·rw[LL r f.1];exact LK r rx f.1 fx
  ·exact oC rx fx t f.2 u' hu
noncomputable def inV (x:V)(xs:List V):Bool:=xs.any fun y=>Ip y x
inductive SG (K:Frag)(neg:Bool)(x:V)(y:V)(H:Hp)(Q:VK):Prop
 |mk (p:_) (xs:_) (cL:y=.ref p) (cM:(aL K H p xs\/iQ K H p xs)) (dA:qj x=true) (fA:xs.all qj=true) (ki:Q (.bl (if neg then !inV x xs else inV x xs)) H):SG K neg x y H Q
def Xs (K:Frag)(neg:Bool):R2:=fun x y H Q=>SG K neg x y H Q
theorem bX:lW X (compareOp .In) (Xs X.K false):=by
 intro pins s σ H x y v u Q I rx ry h;obtain⟨p,xs,rfl,hq,fx,fs,q⟩:=h;cases ry;rcases hq with hq|hq
 ·obtain⟨its,r,pl,hz⟩:=I.list hq;refine SeqAt.in_listAt (GQ x) pl.isList (fun w hw=>oC rx fx r fs w (by simpa using hw)) ⟨.bl _,H,I,rfl,?_⟩;rw[show its.toArray.any (GQ x)=its.any (GQ x) by simp,sx r fs];exact q
 ·obtain⟨its,r,pl,hz⟩:=I.tuple hq;refine SeqAt.in_tupleAt (GQ x) pl (fun w hw=>oC rx fx r fs w (by simpa using hw)) ⟨.bl _,H,I,rfl,?_⟩;rw[show its.toArray.any (GQ x)=its.any (GQ x) by simp,sx r fs];exact q
theorem cV:lW X (compareOp .NotIn) (Xs X.K true):=by
 intro pins s σ H x y v u Q I rx ry h;obtain⟨p,xs,rfl,hq,fx,fs,q⟩:=h;cases ry;rcases hq with hq|hq
 ·obtain⟨its,r,pl,hz⟩:=I.list hq;refine SeqAt.notIn_listAt (GQ x) pl.isList (fun w hw=>oC rx fx r fs w (by simpa using hw)) ⟨.bl _,H,I,rfl,?_⟩;rw[show its.toArray.any (GQ x)=its.any (GQ x) by simp,sx r fs];exact q
 ·obtain⟨its,r,pl,hz⟩:=I.tuple hq;refine SeqAt.notIn_tupleAt (GQ x) pl (fun w hw=>oC rx fx r fs w (by simpa using hw)) ⟨.bl _,H,I,rfl,?_⟩;rw[show its.toArray.any (GQ x)=its.any (GQ x) by simp,sx r fs];exact q
theorem cW:lW X (compareOp .NotIn) (fun x y H Q=>∃ i j,x=.str i/\y=.str j/\Q (.bl (!(!(Builtin.Str.occurrences j i 0 j.length 1).isEmpty))) H):=by
 intro pins s σ H x y v u Q I rx ry h;obtain⟨i,j,rfl,rfl,q⟩:=h;obtain⟨t,rfl⟩:=rx;obtain⟨t',rfl⟩:=ry;exact notIn_str ⟨.bl _,H,I,rfl,q⟩
theorem aB:fN X (.builtin "len") (fun xs H Q=>∃ p ys,xs=[.ref p]/\(aL X.K H p ys\/iQ X.K H p ys)/\Q (.int ys.length) H):=by
 intro pins s σ H xs us Q I r h;obtain⟨p,ys,rfl,hq,q⟩:=h;obtain⟨u,rfl,rx⟩:=vals1 r;cases rx;have hn:=uW;rcases hq with hq|hq
 ·obtain⟨its,r',pl,hz⟩:=I.list hq;have hlen:=r'.length;exact Calls.call_len_list pl.isList (by simp only [Zm'] <;> omega) ⟨.int ys.length,H,I.tok _,⟨s.toks+1,by rw[Zm',hlen]⟩,q⟩
 ·obtain⟨its,r',pl,hz⟩:=I.tuple hq;have hlen:=r'.length;exact len_tuple pl (by simp only [Zm'] <;> omega) ⟨.int ys.length,H,I.tok _,⟨s.toks+1,by rw[Zm',hlen]⟩,q⟩
theorem aC:fN X (.builtin "len") (fun xs H Q=>∃ z,xs=[.str z]/\z.length<=sizeLine/\Q (.int z.length) H):=by
 intro pins s σ H xs us Q I r h;obtain⟨z,rfl,hz,q⟩:=h;obtain⟨u,rfl,t,rfl⟩:=vals1 r;have hn:=uW;exact len_str (by omega) ⟨.int z.length,H,I.tok _,⟨_,rfl⟩,q⟩
theorem fN.or {f:Value}{r r':List V->Hp->VK->Prop}(h:fN X f r)(h':fN X f r'):fN X f (fun xs H Q=>r xs H Q\/r' xs H Q):=by
 intro pins s σ H xs us Q I rs q;rcases q with q|q
 ·exact h pins s σ H xs us Q I rs q
 ·exact h' pins s σ H xs us Q I rs q
theorem mT:fN X (.type "list") (fun xs H Q=>∃ p ys,xs=[.ref p]/\(aL X.K H p ys\/iQ X.K H p ys)/\∀ l,H l=none->Q (.ref l) (upd H l (.lst ys))):=by
 intro pins s σ H xs us Q I r h;obtain⟨p,ys,rfl,hq,q⟩:=h;obtain⟨u,rfl,rx⟩:=vals1 r;cases rx;have fin:∀(its:List Value),Vals ys its->ys.length<=sizeLine->∀(h':Heap)(c':Nat),(∀ b o',s.heap.get? b=some o'->h'.get? b=some o') ->
   h'.get? s.heap.objs.size=some { cls:=.type "list",dict:=none,data:=.seq its.toArray c',slots:=#[] }->EP X pins σ Q (.ref s.heap.objs.size) { s with heap:=h' }:=fun its r' hz h' c' kp e =>
  ⟨.ref s.heap.objs.size,_,I.laid (t':=s.toks) kp (X' _) (show cP X.prog X.w _ h' _ (.lst ys) from⟨hz,its,c',r',e⟩),rfl,q _ (I.hok.fresh (X' _))⟩
 rcases hq with hq|hq
 ·obtain⟨its,r',pl,hz⟩:=I.list hq;have hlen:=r'.length;obtain⟨o,ho,hc,n,hd⟩:=pl.isList;exact call_list_seq p (.inl rfl) ho hc hd (fun h' c' kp e=>fin its r' hz h' c' kp e) (by simp only [Zm'] <;> omega)
 ·obtain⟨its,r',pl,hz⟩:=I.tuple hq;have hlen:=r'.length;obtain⟨o,ho,hc,n,hd⟩:=pl;exact call_list_seq p (.inr rfl) ho hc hd (fun h' c' kp e=>fin its r' hz h' c' kp e) (by simp only [Zm'] <;> omega)
def VI (K:Frag)(T:String)(x:V)(H:Hp):Prop:=match x with
 |.str _=>T = "str"
 |.int _=>T = "int"
 |.ref p=>(T = "list"/\∃ xs,aL K H p xs)\/(T = "tuple"/\∃ o,K.lookup p=some o/\o.cls=.type "tuple"/\o.dict=none) \/
   (T = "dict"/\((∃ kvs,H p=some (.dK kvs))\/∃ kvs,H p=some (.dT kvs)))\/(T = "set"/\∃ S n,H p=some (.set S n))
 |_=>False
theorem LM {pins:List (Addr×Obj)}{σ:St}{H:Hp}{s:Shared}{T:String}{x:V}{v:Value}(I:Inv X pins σ H s)(r:RelV x v)(ty:VI X.K T x H) :
  s.TypeIs v T/\∀ a,v=.ref a->∃ ob,s.heap.get? a=some ob/\ob.dict=none:=by
 cases x with
 |str z =>
  obtain⟨t,rfl⟩:=r;cases (show T = "str" from ty);exact⟨typeIs_str s z t,fun _ e=>nomatch e⟩
 |int i =>
  obtain⟨t,rfl⟩:=r;cases (show T = "int" from ty);exact⟨typeIs_int s i t,fun _ e=>nomatch e⟩
 |ref p =>
  cases r;rcases ty with ⟨rfl,xs,hq⟩|⟨rfl,o,hk,hc,hd⟩|⟨rfl,hk⟩|⟨rfl,S,n,hk⟩
  ·obtain⟨its,_,pl,_⟩:=I.list hq;refine⟨pl.isList.typeIs,fun a e=>?_⟩;cases e;obtain⟨o,n,e,c,hd,_⟩:=pl;exact⟨o,e,hd⟩
  ·refine⟨⟨o,I.hX p o hk,hc⟩,fun a e=>?_⟩;cases e;exact⟨o,I.hX _ o hk,hd⟩
  ·have z:∃ o,s.heap.get? p=some o/\o.ExactDict:=by
    rcases hk with ⟨kvs,hk⟩|⟨kvs,hk⟩
    ·obtain⟨_,_,_,_,o,_,_,e,ex,_⟩:=I.hok p _ hk;exact⟨o,e,ex⟩
    ·obtain⟨_,_,_,_,o,_,_,e,ex,_⟩:=I.hok p _ hk;exact⟨o,e,ex⟩
   obtain⟨o,e,ex⟩:=z;refine⟨⟨o,e,ex.1⟩,fun a e2=>?_⟩;cases e2;exact⟨o,e,ex.2.1⟩
  ·obtain⟨o,_,_,_,e,ex,_⟩:=I.hok p _ hk;refine⟨⟨o,e,ex.1⟩,fun a e2=>?_⟩;cases e2;exact⟨o,e,ex.2.1⟩
 |_=>exact False.elim ty
def VJ (K:Frag)(T:String)(r:V->List V->Hp->VK->Prop)(to:TE):TE:=fun σ H Q=>to σ H fun x H1=>VI K T x H1/\r x [] H1 Q
def YG (K:Frag)(T:String)(r:V->List V->Hp->VK->Prop)(to:TE)(t:TA):TE:=fun σ H Q=>to σ H fun x H1=>VI K T x H1/\t σ H1 fun xs H2=>r x xs H2 Q
variable {o e:Expr} {es:List Expr} {to:TE} {t:TA} {name:Str} {apos cpos:Pos} {T id:String} {r:V->List V->Hp->VK->Prop}
theorem C1 (pa:PlainAttrs T)(slot:Slot T name id)(hty:typeOf (.builtin id)=pure (.type "method_descriptor"))(hm:Xr X id r)(ho:PE X o to)
  (hbase:attributeBase o name X.env (eval o X.env)=eval o X.env:=by rfl) (hline:(apos.endLine==cpos.line)=true:=by rfl):PE X (.Call (.Attribute o name apos) [] [] cpos) (VJ X.K T r to):=by
 intro pins s σ H Q I h;refine wpAny_Call_method0_late hbase hline (bS (ho pins s σ H _ I h) fun v s1 fu=>?_);obtain⟨x,H1,I1,r1,ty,q1⟩:=fu;obtain⟨h1,h2⟩:=LM I1 r1 ty;exact⟨T,id,pa,slot,hty,h1,h2,Calls.callWith_builtin rfl (PySem.evalArgs_none (hm pins s1 σ H1 x [] v [] Q I1 r1 .nil q1))⟩
theorem cQ (pa:PlainAttrs T)(slot:Slot T name id)(hty:typeOf (.builtin id)=pure (.type "method_descriptor"))(hm:Xr X id r)(ho:PE X o to)(ha:PA X (e::es) t)
  (hbase:attributeBase o name X.env (eval o X.env)=eval o X.env:=by rfl)
  (hfew:((backTo cpos (starEach (e::es) X.env)).all (fun x=>!x.1)&&(backToKw cpos (keywordEach [] X.env)).all (fun x=>x.1.isSome)
   && decide ((e::es).length+([]:List Keyword).length+(if([]:List Keyword).isEmpty then 0 else 1)<30))=true:=by rfl)
  (hline:(apos.endLine==cpos.line)=true:=by rfl) (hs:starEach (e::es) X.env=(false,eval e X.env)::starEach es X.env:=by rfl) (hplain:(backTo cpos (starEach es X.env)).any (·.1)=false:=by rfl) :
  PE X (.Call (.Attribute o name apos) (e::es) [] cpos) (YG X.K T r to t):=by
 intro pins s σ H Q I h;refine wpAny_Call_method_late hbase hfew hline rfl (bS (ho pins s σ H _ I h) fun v s1 fu=>?_);obtain⟨x,H1,I1,r1,ty,q1⟩:=fu;obtain⟨h1,h2⟩:=LM I1 r1 ty;refine⟨T,id,pa,slot,hty,h1,h2,?_⟩;have hA:=ha cpos pins s1 σ H1 _ I1 q1;rw[hs]at hA ⊢;refine Calls.callWith_builtin (by show(false||(backTo cpos (starEach es X.env)).any (·.1))=false;rw[hplain] <;> rfl) (Calls.evalArgs_plain ?_);exact bS hA fun us s2 ⟨vs,H2,I2,r2,q2⟩=>hm pins s2 σ H2 x vs v us Q I2 r1 r2 q2
end
end L2
namespace L2
open PySem PySem.Spec PyProof.Rows
def SH (X:Cx)(id:String)(r:V->List V->Hp->VK->Prop):Prop :=
 ∀(pins:List (Addr×Obj)) (s:Shared) (σ:St) (H:Hp) (x:V) (xs:List V) (v:Value) (us:List Value) (Q:VK),Inv X pins σ H s->RelV x v->Vals xs us->r x xs H Q ->
  wpAny (model X.prog X.w) X.A (call (.builtin id) (v::us)) (EP X pins σ Q) X.xe s
theorem Vals.one {x:V}{us:List Value}(r:Vals [x] us):∃ u,us=[u]/\RelV x u:=vals1 r
theorem Vals.two {x y:V}{us:List Value}(r:Vals [x,y] us):∃ u v,us=[u,v]/\RelV x u/\RelV y v:=vals2 r
theorem Vals.zero:∀{us:List Value},Vals [] us->us=[]
 |_,.nil=>rfl
theorem Vals.reverse {xs:List V}{us:List Value}(h:Vals xs us):Vals xs.reverse us.reverse:=by
 induction h with
 |nil=>exact .nil
 |cons r t ih=>rw[List.reverse_cons,List.reverse_cons];exact Vals.append ih (.cons r .nil)
theorem Vals.rep {xs:List V}{us:List Value}(h:Vals xs us):∀ k:Nat,Vals (List.replicate k xs).flatten (List.replicate k us).flatten
 |0=>.nil
 |k+1=>by
  rw[List.replicate_succ,List.replicate_succ,List.flatten_cons,List.flatten_cons];exact Vals.append h (Vals.rep h k)
theorem foldl_rep (its:List Value):∀(k:Nat)(acc:List Value),
  List.foldl (fun x1 x2=>x1++x2) acc.toArray (List.replicate k its.toArray)=(acc++(List.replicate k its).flatten).toArray
 |0,acc=>by simp
 |k+1,acc=>by
  have e:acc.toArray++its.toArray=(acc++its).toArray:=by simp
  have e2:(acc++its)++(List.replicate k its).flatten=acc++(List.replicate (k+1) its).flatten:=by
   rw[List.replicate_succ,List.flatten_cons,List.append_assoc]
  rw[<-e2,<-foldl_rep its k (acc++its),<-e,List.replicate_succ,List.foldl_cons]
section
variable {X:Cx} {pins:List (Addr×Obj)} {σ:St} {H:Hp} {s:Shared} {l b:Addr} {xs ys zs:List V}
theorem Inv.N4 {its its':List Value}{n:Nat}{f:Array Value->Array Value}{t':Nat}(I:Inv X pins σ H s)(hH:H l=some (.lst xs))
  (e:s.heap.get? l=some { cls:=.type "list",data:=.seq its.toArray n }) (hf:f its.toArray=its'.toArray) (hv:Vals ys its') (hz:ys.length<=sizeLine) :
  Inv X pins σ (upd H l (.lst ys)) { s with heap:=s.heap.update l (Obj.mapSeq f),toks:=t' }:=by
 have q:=PySem.IsL.update e f;rw[hf]at q;refine I.write (x:=l) (e:=l) (by rw[hH];exact trivial) (.inl rfl) (fun b' u hb hu=>(Heap.get?_update_other s.heap (Obj.mapSeq f) (Ne.symm hb)).trans hu) ⟨_,q⟩ ?_;exact⟨hz,its',_,hv,q⟩
theorem Inv.Qj {its:List Value}{t':Nat}(I:Inv X pins σ H s)(hv:Vals ys its)(hz:ys.length<=sizeLine) :
  Inv X pins σ (upd H s.heap.objs.size (.lst ys)) { s with heap:=s.heap.push { cls:=.type "list",data:=.seq its.toArray },toks:=t' } :=
 I.laid (fun _ _ q=>U' _ q) (X' _) ⟨hz,its,0,hv,Zi' _ rfl⟩
theorem Inv.fresh (I:Inv X pins σ H s):H s.heap.objs.size=none:=I.hok.fresh (X' _)
theorem Inv.Ec (I:Inv X pins σ H s)(hH:H l=some (.lst xs)):xs.length<=sizeLine/\∃(its:List Value)(n:Nat),Vals xs its/\xs.length=its.length/\s.heap.get? l=some { cls:=.type "list",data:=.seq its.toArray n }:=by
 obtain⟨z,its,n,r,e⟩:=I.hok l _ hH;exact⟨z,its,n,r,r.length,e⟩
theorem yB {n:Nat}(h:n<=sizeLine):Builtin.List.listTooLong n=false:=by
 unfold Builtin.List.listTooLong;exact V' (by omega)
end
section
variable {X:Cx}
inductive Ed (x:V)(vs:List V)(H:Hp)(Q:VK):Prop
 |mk (l:_) (xs:_) (y:_) (cL:x=.ref l) (cM:vs=[y]) (dA:H l=some (.lst xs)) (fA:xs.length<sizeLine) (ki:Q .non (upd H l (.lst (xs++[y])))):Ed x vs H Q
def N5 :V->List V->Hp->VK->Prop:=fun x vs H Q=>Ed x vs H Q
theorem bp:SH X "list.append" N5:=by
 intro pins s σ H x vs v us Q I rx rv h;obtain⟨l,xs,y,rfl,rfl,hH,hz,q⟩:=h;cases rx;obtain⟨u,rfl,ru⟩:=rv.one;obtain⟨z,its,n,r,hl,e⟩:=I.Ec hH;refine call_meets F.slot_list_append ⟨_,e,rfl⟩ F.entry_list_append (F.args_list_append_2 _ _) (PySem.list_append l its.toArray n u (by rw[Zm'];omega)) ⟨e,?_⟩;refine⟨.non,_,I.N4 (its':=its++[u]) hH e (by simp) (r.append (.cons ru .nil)) ?_,rfl,q⟩;rw[Zd',List.length_singleton];omega
inductive Bi (x:V)(vs:List V)(H:Hp)(Q:VK):Prop
 |mk (l:_) (xs:_) (cL:x=.ref l) (cM:vs=[]) (dA:H l=some (.lst xs)) (fA:Q .non (upd H l (.lst xs.reverse))):Bi x vs H Q
def LN :V->List V->Hp->VK->Prop:=fun x vs H Q=>Bi x vs H Q
theorem GR:SH X "list.reverse" LN:=by
 intro pins s σ H x vs v us Q I rx rv h;obtain⟨l,xs,rfl,rfl,hH,q⟩:=h;cases rx;have hus:=rv.zero;subst hus;obtain⟨z,its,n,r,hl,e⟩:=I.Ec hH;refine call_meets F.slot_list_reverse ⟨_,e,rfl⟩ F.entry_list_reverse (F.args_list_reverse_1 _) (AutoSeq1.list_reverse_list_0 l its.toArray n (by rw[Zm'];omega)) ⟨e,?_⟩;refine⟨.non,_,I.N4 (its':=its.reverse) hH e (by simp) r.reverse ?_,rfl,q⟩;rw[List.length_reverse];omega
inductive Iq (x:V)(vs:List V)(H:Hp)(Q:VK):Prop
 |mk (l:_) (xs:_) (cL:x=.ref l) (cM:vs=[]) (dA:H l=some (.lst xs)) (fA:Q .non (upd H l (.lst []))):Iq x vs H Q
def Qk :V->List V->Hp->VK->Prop:=fun x vs H Q=>Iq x vs H Q
theorem yC:SH X "list.clear" Qk:=by
 intro pins s σ H x vs v us Q I rx rv h;obtain⟨l,xs,rfl,rfl,hH,q⟩:=h;cases rx;have hus:=rv.zero;subst hus;obtain⟨z,its,n,r,hl,e⟩:=I.Ec hH;refine call_meets F.slot_list_clear ⟨_,e,rfl⟩ F.entry_list_clear (F.args_list_clear_1 _) (AutoSeq1.list_clear_list_0 l its.toArray n (by rw[Zm'];omega)) ⟨e,?_⟩;exact⟨.non,_,I.N4 (its':=[]) (ys:=[]) hH e rfl .nil (Nat.zero_le _),rfl,q⟩
inductive Pn (x:V)(y:V)(H:Hp)(Q:VK):Prop
 |mk (l:_) (b:_) (xs:_) (zs:_) (cL:x=.ref l) (cM:y=.ref b) (dA:H l=some (.lst xs)) (fA:H b=some (.lst zs)) (ki:xs.length+zs.length<=sizeLine) (Bb:∀ p,H p=none->Q (.ref p) (upd H p (.lst (xs++zs)))):Pn x y H Q
def Ql :R2:=fun x y H Q=>Pn x y H Q
theorem aP:lW X (binaryOp .Add) Ql:=by
 intro pins s σ H x y v u Q I rx ry h;obtain⟨l,b,xs,zs,rfl,rfl,hH,hB,hz,q⟩:=h;cases rx;cases ry;obtain⟨z,its,n,r,hl,e⟩:=I.Ec hH;obtain⟨z2,its2,n2,r2,hl2,e2⟩:=I.Ec hB;refine PySem.P.add_list e e2 ?_ (by rw[Zm',Zm'];omega);have ea:its.toArray++its2.toArray=(its++its2).toArray:=by simp
 rw[ea];exact⟨.ref _,_,I.Qj (t':=s.toks) (r.append r2) (by rw[Zd'];omega),rfl,q _ I.fresh⟩
def VL:R2:=fun x y H Q=>∃ l k xs,x=.ref l/\y=.int k/\H l=some (.lst xs)/\-(2 ^ 63)<=k/\k<2 ^ 63/\xs.length * k.toNat<=sizeLine /\
 ∀ p,H p=none->Q (.ref p) (upd H p (.lst (List.replicate k.toNat xs).flatten))
theorem len_rep {α:Type}(xs:List α)(k:Nat):(List.replicate k xs).flatten.length=k * xs.length:=by
 induction k with
 |zero=>simp
 |succ k ih=>rw[List.replicate_succ,List.flatten_cons,Zd',ih,Nat.succ_mul,Nat.add_comm]
theorem gN:lW X (binaryOp .Mult) VL:=by
 intro pins s σ H x y v u Q I rx ry h;obtain⟨l,k,xs,rfl,rfl,hH,h1,h2,hz,q⟩:=h;cases rx;obtain⟨t,rfl⟩:=ry;obtain⟨z,its,n,r,hl,e⟩:=I.Ec hH;have hlen:its.toArray.size * k.toNat<=sizeLine:=by rw[Zm',<-hl];exact hz
 have VM:¬ its.toArray.size * k.toNat > (2 ^ 63-1) / 8:=by
  have:(sizeLine:Nat)<=(2 ^ 63-1) / 8:=by decide
  omega
 have hfit:¬(!Builtin.List.listFitsIndex k)=true:=by
  rw[fitsIndex_both h1 h2];exact Zg'
 have SJ:¬ Builtin.List.listTooLong (its.toArray.size * k.toNat)=true:=by
  rw[yB hlen];exact Zg'
 have hnew:List.foldl (fun x1 x2=>x1++x2) #[] (List.replicate (if its.toArray.isEmpty=true then 0 else k.toNat) its.toArray)=(List.replicate k.toNat its).flatten.toArray:=by
  have f0:∀ m:Nat,List.foldl (fun x1 x2=>x1++x2) #[] (List.replicate m its.toArray)=(List.replicate m its).flatten.toArray:=fun m=>by
   have:=foldl_rep its m [];rw[nil_append]at this;exact this
  rw[f0];cases its with
  |nil=>simp
  |cons a r'=>rw[Za' (by simp)]
 refine wpAny_binaryOp_repeat_ref (T:="list") (U:="int") (by decide) ⟨_,e,rfl⟩ (fun s'=>typeIs_int s' k t) noFill_list_mul F.fills_int_mul F.slot_int_rmul repeat_list F.slot_int_index.lookup
  (call_meets F.slot_int_rmul (typeIs_int s k t) F.entry_int_rmul (F.args_int_rmul_2 _ _) (int___rmul___int_list k t l its.toArray n)
   ⟨e,rfl,⟨_,e,rfl⟩,call_meets F.slot_list_mul ⟨_,e,rfl⟩ F.entry_list_mul (F.args_list_mul_2 _ _) (AutoListH.list___mul___list_int_3 l its.toArray n k t hfit VM SJ) ⟨e,?_⟩⟩)
 rw[hnew];exact⟨.ref _,_,I.Qj (t':=s.toks) (r.rep k.toNat) (by rw[len_rep,Nat.mul_comm];exact hz),rfl,q _ I.fresh⟩
end
section
variable {prog:Program} {w:World} {A:Around} {E:Value->Shared->Prop} {s:Shared}
theorem JU (its its2:List Value)(a c:Nat):its.toArray.extract 0 a++its2.toArray++its.toArray.extract c its.toArray.size=(its.take a++its2++its.drop c).toArray:=by
 apply Array.toList_inj.mp
 first
  |(simp;exact List.take_of_length_le (by simp))
  |simp[List.take_of_length_le]
  |simp
theorem GS {a c n:Nat}(hac:a<=c)(hc:c<=n):sliceBounds (some (a:Int)) (some (c:Int)) none n=((a:Int),(c:Int),1):=by
 simp only [sliceBounds,Option.getD_none];have h1:¬((a:Int)<0):=by omega
 have h2:¬((c:Int)<0):=by omega
 simp only [h1,h2,if_false,show(1:Int) > 0 by decide,if_true]
 congr 1
 ·omega
 ·congr 1;omega
set_option maxRecDepth 100000 in
theorem AI {l b sl:Addr}{items new:Array Value}{n n2:Nat}{vl vu:Value}{a c:Nat}{Q:Unit->Shared->Prop}
  (e:s.heap.get? l=some { cls:=.type "list",data:=.seq items n }) (e2:s.heap.get? b=some { cls:=.type "list",data:=.seq new n2 }) (hne:l≠b)
  (hs:s.heap.IsSliceOf sl vl vu .none) (pl:IsPart vl (some (a:Int))) (pu:IsPart vu (some (c:Int))) (hac:a<=c) (hc:c<=items.size)
  (hsz:items.size+new.size<=sizeLine) (h:Q () { s with heap:=s.heap.update l (Obj.mapSeq fun xs=>xs.extract 0 a++new++xs.extract c xs.size) }) :
  wpAny (model prog w) A (setItem (.ref l) (.ref sl) (.ref b)) Q E s:=by
 have hl:s.heap.IsList l items:=PySem.IsL.isList e;have hb:s.heap.IsList b new:=PySem.IsL.isList e2;obtain⟨os,hos,hcs,hds⟩:=id hs;have hTs:s.TypeIs (.ref sl) "slice":=⟨os,hos,hcs⟩;have hstep:¬((rawPart none==rawInt 0)=true):=Zg';have hsame:Builtin.List.listSameRef (.ref l) (.ref b)=false:=by
  unfold Builtin.List.listSameRef;exact beq_eq_false_iff_ne.mpr hne
 have VN:(max (a:Int) (c:Int)).toNat=c:=by omega
 have hz':((fun xs:Array Value=>xs.extract 0 a++new++xs.extract c xs.size) items).size<=sizeLine+1:=by
  simp only [Array.size_append,Array.size_extract];omega
 unfold setItem
 try with_reducible refine wpAny_holding ?_
 first|refine K' (Z' ?_)|skip
 refine K' (wpAny_sequenceKey hl.typeIs (by decide) ?_);refine K' (wpAny_callSpecial?_slot (name:=Str.ofString "__setitem__") hl.typeIs slot_list_setitem
  (wpAny_call_entry slot_list_setitem hl.typeIs entry_list_setitem ?_ (args_list_setitem _ _ _)))
 show wpAny _ _ (Builtin.List.listSubscript? (.ref sl) >>= _) _ _ s;refine K' ?_;unfold Builtin.List.listSubscript?;refine K' (wpAny_specialOf hTs slice_no_index ?_);simp only [Option.isNone_none,if_true];refine Z' ?_;show wpAny _ _ (typeOf (.ref sl) >>= _) _ _ s;refine K' (wpAny_typeOf hTs ?_)
 first
  |rw[Za' (by decide)]
  |refine PySem.W.KFB.if_not (by decide) ?_
 rw[listSliceParts_eq];refine K' (K' (wpAny_field hos hds (x:=.none) rfl (K' (wpAny_listPart .none ?_))));rw[Za' hstep];refine K' (wpAny_field hos hds (x:=vl) rfl (K' (wpAny_listPart pl ?_)));refine K' (wpAny_field hos hds (x:=vu) rfl (K' (wpAny_listPart pu (Z' ?_))))
 first
  |simp only [hsame,Bool.false_eq_true,if_false]
  |refine PySem.W.KFB.if_not hsame ?_
  |(dsimp only;rw[Za' (by rw[hsame];exact Zg')])
 refine K' (m:=Builtin.List.listAllItems (.ref b) "must assign iterable to extended slice") ?_;unfold Builtin.List.listAllItems;refine K' (wpAny_typeOf hb.typeIs ?_)
 first
  |refine PySem.W.KFB.if_so (by decide) ?_
  |rw[Zc' (by decide)]
  |simp only [beq_self_eq_true,Bool.true_or,if_true]
 unfold Builtin.List.listItems;refine K' (wpAny_seqItems e2 rfl (Z' ?_));refine K' (K' (wpAny_seqItems e rfl (Z' ?_)));refine K' (wpAny_of_eq ((sliceIndices_raw (some (a:Int)) (some (c:Int)) none items.size (by simp)).trans (Zn' (pure:Int×Int×Int->Sem (Int×Int×Int)) (GS hac hc))) ?_);show wpAny _ _ (if((1:Int)==1)=true then _ else _) _ _ s;rw[Zc' (by decide)];refine K' (wpAny_rule ?_)
 first
  |simp only [yB hsz,Bool.false_eq_true,if_false]
  |refine PySem.W.KFB.if_not (yB hsz) ?_
 first|refine K' (Z' ?_)|skip
 show wpAny _ _ (updateSeq l (fun xs=>xs.extract 0 ((a:Int)).toNat++new++xs.extract (max (a:Int) (c:Int)).toNat xs.size) >>= _) _ _ s;rw[VN,Int.toNat_natCast];refine K' (wpAny_updateSeq (hz:=Zf' (Nat.le_add_right _ _) hsz) (_hz':=hz') e rfl ?_);refine K' (wpAny_letGo ?_)
 first
  |exact K' (Z' (Z' ⟨.none,rfl,Z' h⟩))
  |exact Z' ⟨.none,rfl,Z' h⟩
end
section
variable {X:Cx}
theorem JV {pins:List (Addr×Obj)}{s:Shared}{σ:St}{H:Hp}{l b sl:Addr}{xs ys:List V}{a c:Int}{vl vu:Value}{Q:Unit->Shared->Prop}(I:Inv X pins σ H s)
  (hH:H l=some (.lst xs)) (hB:H b=some (.lst ys)) (hne:l≠b) (hs:s.heap.IsSliceOf sl vl vu .none) (ra:RelV (.int a) vl) (rc:RelV (.int c) vu) (h0:0<=a) (hac:a<=c) (hc:c<=xs.length)
  (hz:xs.length+ys.length<=sizeLine) (h:∀ s',Inv X pins σ (upd H l (.lst (xs.take a.toNat++ys++xs.drop c.toNat))) s'->Q () s') :
  wpAny (model X.prog X.w) X.A (setItem (.ref l) (.ref sl) (.ref b)) Q X.xe s:=by
 obtain⟨ta,rfl⟩:=ra;obtain⟨tc,rfl⟩:=rc;obtain⟨z,its,n,r,hl,e⟩:=I.Ec hH;obtain⟨z2,its2,n2,r2,hl2,e2⟩:=I.Ec hB;obtain⟨a',rfl⟩:=Int.eq_ofNat_of_zero_le h0;obtain⟨c',rfl⟩:=Int.eq_ofNat_of_zero_le (Int.le_trans h0 hac);simp only [Int.toNat_natCast]at h;refine AI (a:=a') (c:=c') e e2 hne hs (.int _ _) (.int _ _) (by omega) (by rw[Zm'];omega) (by rw[Zm',Zm'];omega) (h _ ?_);refine I.N4 (its':=its.take a'++its2++its.drop c') (t':=s.toks) hH e ?_ (Vals.append (Vals.append (r.take _) r2) (r.drop _)) ?_
 ·exact JU its its2 a' c'
 ·rw[Zd',Zd',length_take,length_drop];omega
end
end L2
namespace Xt
open PySem PySem.W PySem.Calls PyProof.Rows
theorem xX {P:Params}{h:Heap}:∀(ns:List Int)(vs:List Value),WellAll P h vs (ns.map WData.int)->IntsAre vs ns:=by
 intro ns
 induction ns with
 |nil =>
  intro vs w;rw[List.map_nil]at w;cases w;exact .nil
 |cons n ns ih =>
  intro vs w;rw[map_cons]at w;cases w with
  |cons a b =>
   cases a;exact .cons _ _ (ih _ b)
theorem JW {l:OpenLaw}{n:Nat}(hn:l.most=some n){P:Params}{h:Heap}{args:List WData}{vals:List Value}
  (hpre:l.row.toRowW.claim.pre args=true) (hwl:WellAll P h vals args) :
  ∃ a vs ns,vals=[Value.ref a]/\args=[WData.list (ns.map WData.int)]/\h.get? a=some { cls:=.type "list",data:=.seq vs.toArray }/\IntsAre vs ns/\ns.length<=n:=by
 have hsh:WShape.hasAll [] args [.list .int]=true:=(pre_splitW hpre).1;have hc:l.pre.holds [] { args:=args } = true:=(pre_splitW hpre).2;obtain⟨d,r,rfl,h1,h2⟩:=hasAllW_cons hsh;obtain rfl:=hasAllW_nil h2;obtain⟨xs,rfl,h3⟩:=hasW_list h1;obtain⟨ns,rfl⟩:=items_int h3;have hlen:ns.length<=n:=by
  unfold OpenLaw.pre at hc;have h4:(WTm.not (.lt (.lit (.int (n:Int))) (.len (.arg 0)))).holds [] { args:=[.list (ns.map .int)] } = true:=by
   have h4:=(holds_andW hc).1;rw[hn]at h4;exact h4
  have h5:=condW_of h4 (w_not (w_lt w_lit (w_len_list (w_arg rfl))));rw[P']at h5;refine Nat.le_of_not_lt fun q=>?_;have q':(n:Int)<((ns.length:Nat):Int):=by omega
  first
   |(rw[L' q']at h5;exact j' h5 (by decide))
   |(simp at h5;omega)
 cases hwl with
 |cons w1 w2 =>
  cases w2;cases w1 with
  |list ho hall=>exact⟨_,_,ns,rfl,rfl,ho,xX ns _ hall,hlen⟩
theorem JX (l:OpenLaw)(args:List WData):l.row.toRowW.claim.post args (.bool true) args=true :=
 postW_of (r:=l.row.toRowW) (X:=(true==true))
  (show WShape.has [] (.bool true) .bool=true by first|rfl|decide|simp[WShape.has,WShape.arms,WShape.armsAll])
  (show(WTm.eq .res (.lit (.bool true))).value [] { args:=args,res:=some (.bool true),after:=args } = some (.bool (true==true)) from w_eq_bool (w_res rfl) w_lit) rfl
theorem Ee {l:OpenLaw}{n:Nat}{q:Program}{loose:List Str}{XP:(Str->Option Value)->Heap->Prop}{YP:World->Heap->Prop}{d:DefRec}
  (hn:l.most=some n) (hdf:d.params.defaults=[])
  (call:∀(w:World)(s₀ s₁:Shared)(mg mb:Str->Option Value)(fa:Addr)(o:Obj)(pm cd doc:Value)(a:Addr)(vs:List Value)(ns:List Int),
   Ground q loose [] XP w s₀ mg mb s₁.heap->YP w s₁.heap ->
   s₁.heap.get? fa=some o->o.data=.func (docDef d.name d.params d.body d.scope pm cd doc)->s₁.heap.CodeRec cd d.name->mg d.name=some (.ref fa) ->
   s₁.heap.get? a=some { cls:=.type "list",data:=.seq vs.toArray }->IntsAre vs ns->ns.length<=n->s₁.gens = #[] ->
   codeAny (model l.prog w) callerA (.call (.ref fa) ⟨[.ref a],[]⟩) (fun r s'=>r=.ok (.ret (.bool true))/\OldK s₁.heap s'.heap/\s'.os=s₁.os/\AllBare s'.gens) s₁) :
  WalkO q loose XP YP l.row.toRowW d [] (fun f vs=>PySem.call f vs):=by
 intro w s₀ s₁ mg mb G Y fa o pm cd doc dV kV ho hd hcd hD hmg hg args vals as hpre hlay hrd hwl hlo;obtain rfl:dV=.none:=Dflts.none hD hdf;obtain rfl:kV=.none:=Dflts.noKw hD;obtain⟨a,vs,ns,rfl,rfl,hobj,hints,hlen⟩:=JW hn hpre hwl;refine enter_call (codeAny_mono (call w s₀ s₁ mg mb fa o pm cd doc a vs ns G Y ho (fd_plain hd) hcd hmg hobj hints hlen hg) fun r s' hq=>?_);obtain⟨rfl,h2,h3,h4⟩:=hq;exact⟨.inl ⟨.bool true,.bool true,[],rfl,fun _=>rfl,.bool true,JX l _,fun _=>⟨List.Pairwise.nil,fun _ hm=>(nomatch hm)⟩⟩,h2,h3,h4⟩
section
variable {prog:Program} {w:World} {A:Around} {E:Value->Shared->Prop} {s:Shared} {K:Frag}
end
end Xt
namespace L2
open PySem PySem.Spec PyProof.Rows
theorem Bj:∀{vs:List Value} {ns:List Int},IntsAre vs ns->Vals (ns.map V.int) vs
 |_,_,.nil=>.nil
 |_,_,.cons n t h=>.cons ⟨t,rfl⟩ (Bj h)
def Only (H:Hp):Prop:=∀ b,H b=none\/∃ o xs,H b=some (.Gz o (.lst xs))
theorem LO {P:Program}{w:World}{K:Frag}{mg mb:Str->Option Value}{CX:Gw}{k:Nat}{fa a:Addr}{fd:FuncData}{x:Str}{sp:Sp}{s₁:Shared}{vs:List Value}{ns:List Int}
  (KX:K.In s₁.heap) (hns:s₁.heap.Ns mainGlobals mg) (hb:s₁.heap.Ns builtinsNs mb) (hbb:∀ x:Str,x ≠ "__name__"->mb x=bootBuiltins x) (hlim:s₁.heap.NoLimit) (hg:s₁.gens = #[])
  (ha:s₁.heap.get? a=some { cls:=.type "list",data:=.seq vs.toArray }) (hi:IntsAre vs ns) (hl:ns.length<=sizeLine) (hr:dm k callerA)
  (F:∀ base:Heap,K.In base->base.Ns mainGlobals mg->aR P w K mg base CX k fa fd [x] sp) (hbind:∀(s:Shared)(u:Value),BindsTo s fd ⟨[u],[]⟩ [(x,u)])
  (hsp:∀ H:Hp,Only H->aL K H a (ns.map V.int)->sp [.ref a] H (fun v _=>v=.bl true) fun _ _ _=>False)
  (VO:∀ H e s',CX [] H s₁ (fun _ _ _=>False) e s'->False) :
  codeAny (model P w) callerA (.call (.ref fa) ⟨[.ref a],[]⟩) (fun r s'=>r=.ok (.ret (.bool true))/\OldK s₁.heap s'.heap/\s'.os=s₁.os/\AllBare s'.gens) s₁:=by
 have rv:=Bj hi;have lenV:=hi.length;have core:∀ H:Hp,Only H->aL K H a (ns.map V.int)->oj P w H s₁.heap->(∀ b,H b≠none->b=a)->(H a≠none->K.lookup a=none) ->
   codeAny (model P w) callerA (.call (.ref fa) ⟨[.ref a],[]⟩) (fun r s'=>r=.ok (.ret (.bool true))/\OldK s₁.heap s'.heap/\s'.os=s₁.os/\AllBare s'.gens) s₁:=by
  intro H hO hS hok hA hK;have Ir:∀{b:Addr} {o:Obj},s₁.heap.get? b=some o->H b=none->(CN s₁.heap H).get? b=some o:=fun e n=>Lg e n;have SA:∀{b:Addr} {o:Obj} {es:Array DictEntry} {ep:Nat},s₁.heap.get? b=some o->o.data=.dict es ep->H b=none:=fun {b o es ep} e d=>by
   cases q:H b with
   |none=>rfl
   |some u =>
    have e':b=a:=hA b (by rw[q];simp);subst e';rw[ha]at e;cases e;have d':Data.seq vs.toArray _=Data.dict es ep:=d;cases d'
  have UD:∀{b:Addr} {m:Str->Option Value},s₁.heap.Ns b m->(CN s₁.heap H).Ns b m:=fun {b m} ⟨o,es,ep,e,d,r⟩=>⟨o,es,ep,Ir e (SA e d),d,r⟩;have Xu:K.In (CN s₁.heap H):=fun b o e=>Ir (KX b o e) (by
   cases q:H b with
   |none=>rfl
   |some u =>
    have e':b=a:=hA b (by rw[q];simp);subst e';rw[hK (by rw[q];simp)]at e;cases e)
  have hM:Mod K mg (CN s₁.heap H):=⟨Xu,UD hns,⟨mb,UD hb,hbb⟩,let ⟨mc,h1,h2⟩:=hlim;⟨mc,UD h1,h2⟩⟩;have e0:CS P w K mg (CN s₁.heap H) callerA [] s₁ H:=⟨rfl,hM,fun b o e=>NU e,Nat.le_of_eq (JI _ _),trivial,fun b hb=>j' (show b∈([]:List Addr) from hb) (by simp),hok,.of_eq hg⟩;refine codeAny_mono ((F _ Xu (UD hns)).run callerA [] s₁ H ⟨[.ref a],[]⟩ [.ref a] [.ref a] _ _ hr e0 (hbind s₁ (.ref a)) (.cons rfl .nil) (hsp H hO hS)) fun r s' h=>?_;cases r with
  |error e=>exact(VO H e s' h).elim
  |ok fl =>
   cases fl with
   |next=>exact False.elim h
   |brk=>exact False.elim h
   |cont=>exact False.elim h
   |ret u =>
    obtain⟨v,H',os,bare,un,hok',r',q⟩:=h;have q':v=.bl true:=q;subst q';obtain rfl:u=Value.bool true:=r';refine⟨rfl,OldK.of_keep fun b o e=>?_,os,bare⟩;cases q:H b with
    |none=>exact un.keep b o e q (by intro z;exact j' (show b∈([]:List Addr) from z) (by simp)) (by simp)
    |some u =>
     rcases hO b with z|⟨ob,xs,z⟩
     ·rw[q]at z;cases z
     ·have z2:=un.si b ob _ z;obtain⟨e1,_⟩:=hok b _ z;obtain⟨e2,_⟩:=hok' b _ z2;rw[e]at e1;cases e1;exact e2
 cases hk:K.lookup a with
 |some o =>
  have e:=KX a o hk;rw[ha]at e;cases e;refine core (fun _=>none) (fun _=>.inl rfl) (.inr ⟨_,vs.toArray,_,hk,rfl,rfl,rfl,by rw[Zm',lenV];exact hl,by simpa using rv⟩) (fun b u z=>by have z':(none:Option HO)=some u:=z;cases z') (fun b z=>j' rfl z) fun z=>j' rfl z
 |none =>
  refine core (fun b=>if b=a then some (.Gz { cls:=.type "list",data:=.seq vs.toArray } (.lst (ns.map V.int))) else none) (fun b=>?_) (.inl (.inr ⟨{ cls:=.type "list",data:=.seq vs.toArray },Zc' rfl⟩)) (fun b u z=>?_) (fun b z=>?_) fun _=>hk
  ·by_cases hb:b=a
   ·exact .inr ⟨_,_,Zc' hb⟩
   ·exact .inl (Za' hb)
  ·by_cases hb:b=a
   ·have z':=(Zc' hb).symm.trans z;cases z';subst hb;exact⟨ha,by rw[P'];exact hl,vs,_,rv,ha⟩
   ·have z':=(Za' hb).symm.trans z;cases z'
  ·by_cases hb:b=a
   ·exact hb
   ·exact j' (Za' hb) z
end L2
namespace L2
open PySem PySem.Spec PyProof.Rows
theorem N6 {l:OpenLaw}{n k:Nat}{q:Program}{loose:List Str}{XP:(Str->Option Value)->Heap->Prop}{YP:World->Heap->Prop}{d:DefRec}{K:Params->Frag}{CX:World->Gw}{sp:World->Sp}{x:Str}
  (hn:l.most=some n) (hn2:n<=sizeLine) (hdf:d.params.defaults=[]) (hr:dm k callerA)
  (hY:∀(w:World)(h:Heap),YP w h->(K w.params).In h)
  (F:∀(w:World)(mg:Str->Option Value)(fa:Addr)(h:Heap),(K w.params).In h->h.Ns mainGlobals mg->mg d.name=some (.ref fa) ->
   ∃ fd:FuncData,(∀(s:Shared)(u:Value),BindsTo s fd ⟨[u],[]⟩ [(x,u)]) /\
    ∀ base:Heap,(K w.params).In base->base.Ns mainGlobals mg->aR l.prog w (K w.params) mg base (CX w) k fa fd [x] (sp w))
  (hsp:∀(w:World)(H:Hp)(a:Addr)(ns:List Int),ns.length<=n->Only H->aL (K w.params) H a (ns.map V.int)->sp w [.ref a] H (fun v _=>v=.bl true) fun _ _ _=>False)
  (VO:∀(w:World)(H:Hp)(s:Shared)(e:Value)(s':Shared),CX w [] H s (fun _ _ _=>False) e s'->False) :
  WalkO q loose XP YP l.row.toRowW d [] (fun f vs=>PySem.call f vs):=by
 refine Xt.Ee hn hdf fun w s₀ s₁ mg mb fa o pm cd doc a vs ns G Y ho hd hcd hmg hobj hints hlen hg=>?_;have KX:=hY w _ Y;obtain⟨fd,hb,hF⟩:=F w mg fa _ KX G.T.g hmg;exact LO KX G.T.g G.T.b G.T.builtins G.T.nolimit hg hobj hints (Zf' hlen hn2) hr hF hb (fun H hO hS=>hsp w H a ns hlen hO hS) fun H e s'=>VO w H s₁ e s'
end L2
namespace L2
open PySem PySem.Spec PyProof.Rows
noncomputable def inClass (s:Stmt)(j:Nat):Stmt:=match s with
 |.ClassDef _ _ _ body _ _ _ _ _ _ _=>body.getD j (.Pass ⟨0,0,0,0⟩)
 |_=>.Pass ⟨0,0,0,0⟩
noncomputable def cv (s:Stmt):Arguments:=match s with
 |.FunctionDef _ a _ _ _ _ _ _ _ _=>a
 |_=>{ posonlyargs:=[],args:=[],vararg:=none,kwonlyargs:=[],kw_defaults:=[],kwarg:=none,defaults:=[] }
noncomputable def a8 (s:Stmt):List Stmt:=match s with
 |.FunctionDef _ _ b _ _ _ _ _ _ _=>b
 |_=>[]
noncomputable def aj (s:Stmt):Scope:=match s with
 |.FunctionDef _ _ _ _ _ _ sc _ _ _=>sc
 |_=>{ kind:=.function,names:=[],isGenerator:=false,isCoroutine:=false }
noncomputable abbrev d3:Gw:=fun _ _ _ _ _ _=>False
noncomputable abbrev E0:XK:=fun _ _ _=>False
theorem fS {X:Cx}:Passes d3 X E0:=fun _ _ _ _ _ _ _ h=>h.elim
structure Gx (K:Frag)(x qual:Str)(st:Stmt)(f:Addr)(fd:FuncData):Prop where
 ex:∃(oc:Value)(od:Option Addr)(kV doc pm:Value)(an:Option Addr)(cdv ct:Value)(osl:Array (Option Value)),
  fd=fnOf x qual (cv st) (a8 st) (aj st) .none kV doc pm an cdv ct/\K.lookup f=some ⟨oc,od,.func fd,osl⟩/\codeIn K cdv qual=true
 kp:keepIn K (.ref f)=true
section
variable {P:Program} {w:World} {K:Frag} {mg:Str->Option Value} {base:Heap}
theorem Gx.ok {x qual:Str}{st:Stmt}{f:Addr}{fd:FuncData}{N ps:List Str}{k:Nat}{sp:Sp}(F:Gx K x qual st f fd)(S:az N ps (aj st))(len:∀ vs H Q E,sp vs H Q E->vs.length=ps.length)
  (hbody:∀(cdv:Value)(A:Around)(outer:List Env)(s:Shared)(H:Hp)(vs:List V)(Q:VK)(E:XK),dm k (A.deeper (envOfC qual (aj st) s.heap.objs.size f cdv))->sp vs H Q E ->
   ∃ t,se (dM d3 P w K mg base N qual (aj st) f cdv A outer s H E).Lk (a8 st) t/\t { nx:=fun _ H'=>Q .non H',rt:=Q } (start N vs) H):aR P w K mg base d3 (k+1) f fd ps sp:=by
 obtain⟨oc,od,kV,doc,pm,an,cdv,ct,osl,rfl,lk,hcd⟩:=F.ex;refine Bh lk hcd S len fun A outer s H vs Q E hr hsp=>?_;obtain⟨t,h,q⟩:=hbody cdv A outer s H vs Q E hr hsp;exact⟨t,h.Lk,q⟩
theorem C2 {x qual:Str}{st:Stmt}{f:Addr}{oc:Value}{od an:Option Addr}{osl:Array (Option Value)}{kV doc pm cdv ct:Value}(l:K.lookup f=some ⟨oc,od,.func (fnOf x qual (cv st) (a8 st) (aj st) .none kV doc pm an cdv ct),osl⟩)
  (c:codeIn K cdv qual=true) (k:keepIn K (.ref f)=true):Gx K x qual st f (fnOf x qual (cv st) (a8 st) (aj st) .none kV doc pm an cdv ct):=⟨⟨oc,od,kV,doc,pm,an,cdv,ct,osl,rfl,l,c⟩,k⟩
end
theorem lZ {A:Around}{k:Nat}(hr:dm k A):A.units+1<cLine:=Nat.lt_of_le_of_lt (Nat.add_le_add_left (by decide:1<=64) _) hr.units
theorem aJ {n:Nat}(h:n<=1000):n<sizeLine:=Nat.lt_of_le_of_lt h (by decide)
section
variable {X:Cx}
theorem pv (i:Nat){x:Str}{pos:Pos}(hN:X.N[i]? = some x:=by rfl)(hv:Sb X.env.scope x:=by first|exact Or.inl rfl|exact Or.inr (Or.inl rfl)|exact Or.inr (Or.inr rfl))(hd:(x==("__debug__":Str))=false:=by decide)
  (hcd:(x==("__classdict__":Str))=false:=by decide):PE X (.Name x pos) (Se i):=P6 hN hv hd hcd
end
theorem cf {A B:Prop}(h:B):if false=true then A else B:=by
 rw[Za' Zg'];exact h
theorem cX {A B:Prop}(h:A):if true=true then A else B:=by
 rw[Zc' rfl];exact h
theorem aG {c A B:Prop}[Decidable c](h1:c->A)(h2:¬ c->B):if c then A else B:=by
 by_cases h:c
 ·rw[Zc' h];exact h1 h
 ·rw[Za' h];exact h2 h
def ao (H H':Hp):Prop:=∀ b o,H b=some o->H' b=some o
theorem ao.refl (H:Hp):ao H H:=fun _ _ h=>h
theorem ao.trans {H H1 H2:Hp}(a:ao H H1)(b:ao H1 H2):ao H H2:=fun c o h=>b c o (a c o h)
theorem ao.free {H H':Hp}(e:ao H H'){l:Addr}(h:H' l=Option.none):H l=Option.none:=by
 cases q:H l with
 |none=>rfl
 |some o =>
  rw[e l o q]at h;cases h
theorem ao.seq {K:Frag}{H H':Hp}{a:Addr}{xs:List V}(e:ao H H')(h:aL K H a xs):aL K H' a xs:=by
 rcases h with (h|⟨o,h⟩)|h
 ·exact .inl (.inl (e _ _ h))
 ·exact .inl (.inr ⟨o,e _ _ h⟩)
 ·exact .inr h
end L2
set_option maxHeartbeats 4000000
namespace L2
open PySem PySem.Spec PyProof.Rows
noncomputable def eM (env:Env):List (Str×NameKind)->List (Str×Addr)->List (Str×Addr)
 |[],acc=>acc
 |p::l,acc=>eM env l (if p.2 == .free then(p.1,(env.cells.lookup p.1).getD 0)::acc else acc)
theorem Iu {env:Env}{scope:Scope}(h:∀ p∈scope.names,p.2=.free->∃ c,env.cells.lookup p.1=some c):closureFor scope env=pure (eM env scope.names []):=by
 have go:∀(l:List (Str×NameKind)) (acc:List (Str×Addr)),(∀ p∈l,p.2=.free->∃ c,env.cells.lookup p.1=some c) ->
   (forIn l acc fun(p:Str×NameKind) cs=>if(p.2==NameKind.free)=true then(cellOf env p.1 >>= fun a=>pure (ForInStep.yield ((p.1,a)::cs))) else pure (ForInStep.yield cs))=(pure (eM env l acc):Sem (List (Str×Addr))):=by
  intro l
  induction l with
  |nil=>intro acc _;rfl
  |cons p l ih =>
   intro acc hl;rw[List.forIn_cons];have hr:=fun q hq=>hl q (mem_cons_of_mem _ hq)
   by_cases hk:p.2=.free
   ·obtain⟨c,hc⟩:=hl p mem_cons_self hk;have e1:(p.2==NameKind.free)=true:=by rw[hk];rfl
    rw[Zc' e1];have e2:cellOf env p.1=pure c:=by unfold cellOf;rw[hc]
    rw[e2,pure_bind,pure_bind];show forIn l ((p.1,c)::acc) _=_;rw[ih _ hr];show _=pure (eM env l (if p.2 == .free then(p.1,(env.cells.lookup p.1).getD 0)::acc else acc));rw[Zc' e1,hc];rfl
   ·have e1:¬(p.2==NameKind.free)=true:=by intro z;exact hk (by simpa using z)
    rw[Za' e1,pure_bind];show forIn l acc _=_;rw[ih _ hr];show _=pure (eM env l (if p.2 == .free then(p.1,(env.cells.lookup p.1).getD 0)::acc else acc));rw[Za' e1]
 have e:=go scope.names [] h;unfold closureFor;show(forIn scope.names ([]:List (Str×Addr)) _ >>= fun r=>pure r)=_;rw[bind_pure];exact e
theorem Bl {env:Env}{x:Str}:∀(l:List (Str×NameKind)) (acc:List (Str×Addr)) {c:Addr},(eM env l acc).lookup x=some c->acc.lookup x=some c\/((x,NameKind.free)∈l/\c=(env.cells.lookup x).getD 0)
 |[],acc,c,h=>.inl h
 |p::l,acc,c,h=>by
  rcases Bl l _ h with z|⟨z,e⟩
  ·by_cases hk:(p.2==NameKind.free)=true
   ·rw[Zc' hk,List.lookup_cons]at z
    by_cases hx:(x==p.1)=true
    ·rw[hx]at z;have e:x=p.1:=by simpa using hx
     have e2:p.2=.free:=by simpa using hk
     refine .inr ⟨?_,?_⟩
     ·rw[e,<-e2];exact mem_cons_self
     ·rw[e];exact(W' z).symm
    ·have hx':(x==p.1)=false:=by simpa using hx
     rw[hx']at z;exact .inl z
   ·rw[Za' hk]at z;exact .inl z
  ·exact .inr ⟨mem_cons_of_mem _ z,e⟩
theorem yD {env:Env}{x:Str}:∀(l:List (Str×NameKind)) (acc:List (Str×Addr)),((acc.lookup x).isSome=true\/(x,NameKind.free)∈l)->((eM env l acc).lookup x).isSome=true
 |[],acc,h=>by
  rcases h with h|h
  ·exact h
  ·cases h
 |p::l,acc,h=>by
  refine yD l _ ?_;rcases h with h|h
  ·left
   by_cases hk:(p.2==NameKind.free)=true
   ·rw[Zc' hk,List.lookup_cons];cases (x==p.1) with
    |true=>rfl
    |false=>exact h
   ·rw[Za' hk];exact h
  ·rcases List.mem_cons.mp h with e|h
   ·left
    have e1:p.1=x:=by rw[<-e]
    have e2:(p.2==NameKind.free)=true:=by rw[<-e];rfl
    rw[Zc' e2,List.lookup_cons,e1];simp
   ·exact .inr h
theorem jE {env:Env}{x:Str}{k:NameKind}:∀(l:List (Str×NameKind)),
  (l.map fun(n,k)=>if(k==NameKind.free&&env.scope.kind == .function&&env.kindOf n==some .cell) then(n,NameKind.cell) else(n,k)).lookup x=some k ->
   l.lookup x=some k\/(k=.cell/\l.lookup x=some .free)
 |[],h=>by cases h
 |(n,q)::l,h=>by
  rw[map_cons]at h;cases hx:(x==n) with
  |true =>
   rw[List.lookup_cons,hx]
   by_cases hc:(q==NameKind.free&&env.scope.kind == .function&&env.kindOf n==some .cell)=true
   ·simp only [hc,if_true,List.lookup_cons,hx]at h;have e:q=.free:=by
     have:=(Bool.and_eq_true_iff.mp (Bool.and_eq_true_iff.mp hc).1).1
     simpa using this
    right
    exact⟨(W' h).symm,by rw[e]⟩
   ·have hc':(q==NameKind.free&&env.scope.kind == .function&&env.kindOf n==some .cell)=false:=by simpa using hc
    simp only [hc',Bool.false_eq_true,if_false,List.lookup_cons,hx]at h;exact .inl h
  |false =>
   rw[List.lookup_cons,hx];refine jE (env:=env) l ?_
   by_cases hc:(q==NameKind.free&&env.scope.kind == .function&&env.kindOf n==some .cell)=true
   ·simp only [hc,if_true,List.lookup_cons,hx]at h;exact h
   ·have hc':(q==NameKind.free&&env.scope.kind == .function&&env.kindOf n==some .cell)=false:=by simpa using hc
    simp only [hc',Bool.false_eq_true,if_false,List.lookup_cons,hx]at h;exact h
structure Bk where
 C:Addr
 s₂:Shared
 ab8:Hp
 fp:List Addr
 xe:Value->Shared->Prop
noncomputable def cB (X:Cx)(cn:List Str)(scope:Scope)(b:Bk):Cx where
 prog:=X.prog
 w:=X.w
 K:=X.K
 mg:=X.mg
 base:=X.base
 A:=X.A
 N:=cn++X.N
 s₀:=b.s₂
 H₀:=b.ab8
 env:=compEnvC scope (eM X.env scope.names []) b.C X.env
 outer:=X.stack
 stack:=X.stack
 ex:=b.fp
 fn:=fun _=>false
 calm:=X.calm
 pn:=[]
 xe:=b.xe
noncomputable def LP (sc:Scope)(N:List Str)(scope:Scope):Bool :=
 (scope.kind == .function) &&
 (scope.names.all fun p=>(p.2 != .cell)&&((p.2 != .free)||(sc.names.lookup p.1==some .cell)||(sc.names.lookup p.1==some .free))&&((p.2 != .local)||(scope.names.lookup p.1==some .local))) &&
 (N.all fun x=>scope.names.lookup x != some .local)
structure b8 (sc:Scope)(N:List Str)(scope:Scope):Prop where
 kind:scope.kind=.function
 LQ:∀ p∈scope.names,p.2≠.cell
 free:∀ p∈scope.names,p.2=.free->sc.names.lookup p.1=some .cell\/sc.names.lookup p.1=some .free
 loc:∀ p∈scope.names,p.2=.local->scope.names.lookup p.1=some .local
 apart:∀ x∈N,scope.names.lookup x≠some .local
theorem b8.of {sc:Scope}{N:List Str}{scope:Scope}(h:LP sc N scope=true):b8 sc N scope:=by
 unfold LP at h;rw[Bool.and_eq_true,Bool.and_eq_true]at h;obtain⟨⟨h1,h2⟩,h3⟩:=h;rw[all_eq_true]at h2 h3;refine⟨by simpa using h1,fun p hp=>?_,fun p hp e=>?_,fun p hp e=>?_,fun x hx=>?_⟩
 ·have:=h2 p hp;rw[Bool.and_eq_true,Bool.and_eq_true]at this
  simpa using this.1.1
 ·have:=h2 p hp;rw[Bool.and_eq_true,Bool.and_eq_true]at this;have q:=this.1.2;rw[e]at q;rw[Bool.or_eq_true,Bool.or_eq_true]at q;rcases q with (q|q)|q
  ·exact j' q (by decide)
  ·exact .inl (by simpa using q)
  ·exact .inr (by simpa using q)
 ·have:=h2 p hp;rw[Bool.and_eq_true,Bool.and_eq_true]at this;have q:=this.2;rw[e]at q;rw[Bool.or_eq_true]at q;rcases q with q|q
  ·exact j' q (by decide)
  ·simpa using q
 ·have:=h3 x hx
  simpa using this
section
variable {X:Cx} {pins:List (Addr×Obj)} {σ:St} {H:Hp}
theorem oE {l:List (Str×NameKind)}{x:Str}{k:NameKind}(h:l.lookup x=some k):(x,k)∈l:=PySem.mem_of_lookup h
theorem Inv.block {s₂:Shared}{h₁:Heap}{tk:Nat}{cn:List Str}{scope:Scope}{fp:List Addr}{xe:Value->Shared->Prop}{C D:Addr}{m:Str->Option Value}
  (I:Inv X pins σ H s₂) (F:b8 X.env.scope X.N scope) (hc:X.calm=true) (hf:∀ b∈fp,iZ X pins H b) (hfl:∀ b∈fp,b<s₂.heap.objs.size)
  (hC:s₂.heap.objs.size<=C) (hD:s₂.heap.objs.size<=D) (hDC:D≠C) (hn:h₁.Ns C m) (old:∀ b o,s₂.heap.get? b=some o->h₁.get? b=some o)
  (hacc:h₁.get? D=some { cls:=.type "list",data:=.seq ([]:List Value).toArray 0 }) :
  Inv (cB X cn scope ⟨C,s₂,H,fp,xe⟩) [] (List.replicate cn.length none++σ) (upd H D (.lst [])) { s₂ with heap:=h₁,toks:=tk }:=by
 have C3:∀ x,((cB X cn scope ⟨C,s₂,H,fp,xe⟩).env.kindOf x=some .cell\/(cB X cn scope ⟨C,s₂,H,fp,xe⟩).env.kindOf x=some .free)->(x,NameKind.free)∈scope.names:=by
  intro x hx;have hx':(relabel scope X.env).names.lookup x=some .cell\/(relabel scope X.env).names.lookup x=some .free:=hx;rcases hx' with z|z
  ·rcases jE scope.names z with z|⟨_,z⟩
   ·exact j' rfl (F.LQ _ (oE z))
   ·exact oE z
  ·rcases jE scope.names z with z|⟨e,_⟩
   ·exact oE z
   ·cases e
 have Iv:∀ x,(x,NameKind.free)∈scope.names->X.env.kindOf x=some .cell\/X.env.kindOf x=some .free:=fun x hx=>F.free _ hx rfl;have mU:∀ x c,(eM X.env scope.names []).lookup x=some c->X.env.cells.lookup x=some c:=by
  intro x c e;rcases Bl _ _ e with z|⟨z,e2⟩
  ·cases z
  ·obtain⟨c',hc'⟩:=I.ok.has x (Iv x z);rw[hc']at e2 ⊢;rw[e2];rfl
 have YH:(cB X cn scope ⟨C,s₂,H,fp,xe⟩).fs=frs X.stack:=rfl;have VP:∀ b∈fp,b ∉ frs X.stack:=by
  intro b hb z;obtain⟨_,f1,f2,_⟩:=hf b hb;rcases List.mem_cons.mp (I.GC b z) with e|e
  ·exact f1 e
  ·exact f2 e
 have Qm:∀ x c,X.env.cells.lookup x=some c->c<s₂.heap.objs.size:=by
  intro x c e;obtain⟨v,o,ho,_⟩:=I.cell x c e;exact Zb' ho
 have ok:(cB X cn scope ⟨C,s₂,H,fp,xe⟩).Ok:=by
  refine⟨I.ok.mod,?_,I.ok.glob,I.ok.blt,hC,fun x y c h1 h2=>I.ok.inj x y c (mU x c h1) (mU y c h2),fun x hx=>?_,fun x c z=>?_,fun _=>I.ok.hd hc,I.ok.frames,.inl rfl,fun b hb=>⟨?_,fun x c e=>?_⟩,
   fun b o e=>I.bs b o e,Zf' I.ok.JJ I.sz,fun b o e hb=>?_,fun b hb=>?_,I.stack,I.CO⟩
  ·show(relabel scope X.env).kind=.function;exact F.kind
  ·have:=yD (env:=X.env) (x:=x) scope.names [] (.inr (C3 x hx));exact Option.isSome_iff_exists.mp this
  ·cases z
  ·exact Zo' (Ze' (hfl b hb) hC)
  ·exact(hf b hb).2.2.2.2.1 x c (mU x c e)
  ·have:X.base.objs.size<=X.s₀.heap.objs.size:=I.ok.JJ;rcases (hf b hb).2.2.2.1 with z|z
   ·exact I.ok.GA b o e z
   ·exact j' (Ze' (Zb' e) (Zf' I.ok.JJ z)) (Nat.lt_irrefl _)
  ·exact VP b hb
 have YI:H D=none:=I.hok.fresh hD;have VQ:oj X.prog X.w (upd H D (.lst [])) h₁:=I.hok.laid old hD ⟨Nat.zero_le _,[],0,.nil,hacc⟩;refine⟨ok,rfl,I.bare,Un.laid old hD YI,⟨m,hn,fun i x v e1 e2 e3=>?_⟩,fun x c e=>?_,?_,fun x c e=>?_,fun p hp=>j' (show p∈([]:List (Addr×Obj)) from hp) (by simp),VQ,?_⟩
 ·have hi:¬ i<cn.length:=by
   intro hi;rw[getElem?_append_left (by simpa using hi),List.getElem?_replicate]at e2;split at e2 <;> cases e2
  rw[List.getElem?_append_right (by simpa using hi),List.length_replicate]at e2;have e1':(cn++X.N)[i]? = some x:=e1;rw[List.getElem?_append_right (by omega)]at e1';obtain⟨m0,hm0,hl⟩:=I.loc;have Xv:x∈X.N:=Zh' e1';have hfr:(x,NameKind.free)∈scope.names:=by
   have e3':(relabel scope X.env).names.lookup x=some .local\/(relabel scope X.env).names.lookup x=some .cell\/(relabel scope X.env).names.lookup x=some .free:=e3;rcases e3' with z|z|z
   ·rcases jE scope.names z with z|⟨e,_⟩
    ·exact j' z (F.apart x Xv)
    ·cases e
   ·exact C3 x (.inl z)
   ·exact C3 x (.inr z)
  have hk:=Iv x hfr;have Vs:Sb X.env.scope x:=by
   rcases hk with z|z
   ·exact .inr (.inl z)
   ·exact .inr (.inr z)
  obtain⟨u,r,lk⟩:=hl (i-cn.length) x v e1' e2 Vs;refine⟨u,r,?_⟩;rcases lk with ⟨z,_⟩|⟨_,c,ec,z⟩
  ·rcases hk with q|q
   ·rw[z]at q;cases q
   ·rw[z]at q;cases q
  ·have hcl:(eM X.env scope.names []).lookup x=some c:=by
    obtain⟨c',e'⟩:=Option.isSome_iff_exists.mp (yD (env:=X.env) (x:=x) scope.names [] (.inr hfr));rw[e'];have:=mU x c' e';rw[ec]at this;exact this.symm
   refine .inr ⟨?_,c,hcl,?_⟩
   ·have e3':(relabel scope X.env).names.lookup x=some .local\/(relabel scope X.env).names.lookup x=some .cell\/(relabel scope X.env).names.lookup x=some .free:=e3;rcases e3' with y|y|y
    ·rcases jE scope.names y with y|⟨e,_⟩
     ·exact j' y (F.apart x Xv)
     ·cases e
    ·exact .inl y
    ·exact .inr y
   ·obtain⟨o,ho,hd⟩:=z;exact⟨o,old c o ho,hd⟩
 ·obtain⟨v,o,ho,hd⟩:=I.cell x c (mU x c e);exact⟨v,o,old c o ho,hd⟩
 ·show upd H D (.lst []) C=none;rw[ak (Ne.symm hDC)];exact I.hok.fresh hC
 ·rw[ak (Zo' (Ze' (Qm x c (mU x c e)) hD))];exact I.gB x c (mU x c e)
 ·show(List.replicate cn.length none++σ).length=(cn++X.N).length;rw[Zd',List.length_replicate,Zd',I.len]
theorem Inv.Iw {s₂ s':Shared}{h':Heap}{cn:List Str}{scope:Scope}{fp:List Addr}{xe:Value->Shared->Prop}{C:Addr}{H':Hp}{σ':St}{pl:List (Addr×Obj)}
  (I:Inv X pins σ H s₂) (hf:∀ b∈fp,iZ X pins H b) (hC:s₂.heap.objs.size<=C) (J:Inv (cB X cn scope ⟨C,s₂,H,fp,xe⟩) pl σ' H' s') (sb:Heap.SameBut C s'.heap h') :
  Inv X pins σ H' { s' with heap:=h' }:=by
 have O5:∀ b o,s₂.heap.get? b=some o->b≠C:=fun b o e=>Zo' (Ze' (Zb' e) hC);have u:Un (frs X.stack) fp H H' s₂.heap s'.heap:=J.base;have un:Un (frs X.stack) fp H H' s₂.heap h' :=
  ⟨fun b o e n hb hx=>(sb.2 b (O5 b o e)).trans (u.keep b o e n hb hx),
   fun b o e n hb hx=>by
   obtain⟨sl,q⟩:=u.slot b o e n hb hx;exact⟨sl,(sb.2 b (O5 b o e)).trans q⟩,
   u.free,fun b o e hx=>by
   obtain⟨o',q⟩:=u.there b o e hx;exact⟨o',(sb.2 b (O5 b o e)).trans q⟩,u.tups,u.si,u.uV⟩
 have fC:H' C=none:=J.free;have hok:oj X.prog X.w H' h':=fun b o e=>by
  refine(J.hok b o e).stay (fun c v hc q=>(sb.2 c ?_).trans q) (fun _ q=>q) fun _ _ q=>q;rintro rfl;rcases hc with z|z
  ·rw[<-z,fC]at e;cases e
  ·rw[fC]at z;cases z
 have os:s'.os=s₂.os:=J.os;refine I.call' (s':={ s' with heap:=h' }) os un hok J.bare fun b hb=>?_;obtain⟨_,f1,_,f3,f4,f5⟩:=hf b hb;exact⟨f3,f1,f4,f5⟩
end
end L2
namespace L2
open PySem PySem.Spec PyProof.Rows
theorem JY {prog:Program}{w:World}{A:Around}{R:Result->Shared->Prop}{s:Shared}{elt tg iter:Expr}{ifs:List Expr}{scope:Scope}{pos:Pos}{it acc:Value}{env:Env}(J:Nat->Shared->Prop)
  (turn:∀ n s,J n s->wpAny (model prog w) A (pyNext it) (fun r s₁=>(r=none/\R (.ok .next) s₁)\/∃ v,r=some v /\
   wpAny (model prog w) A (letOwnedTupleGo tg it v) (fun _ s₂=>wpAny (model prog w) A (assign tg env v) (fun _ s₃ =>
    wpAny (model prog w) A (forIn ifs true fun c r=>if r=true then do let ok <-isTrue c env (eval c env);pure (ForInStep.yield ok) else pure (ForInStep.yield r)) (fun ok s₄ =>
     if ok=true then wpAny (model prog w) A (eval elt env) (fun x s₅=>wpAny (model prog w) A (call (.builtin "list.append") [acc,x]) (fun _ s₆=>∃ m,m<n/\J m s₆) (notedBy (model prog w) A env fun e s'=>R (.error e) s') s₅)
      (notedBy (model prog w) A env fun e s'=>R (.error e) s') s₄
     else ∃ m,m<n/\J m s₄) (notedBy (model prog w) A env fun e s'=>R (.error e) s') s₃) (notedBy (model prog w) A env fun e s'=>R (.error e) s') s₂) (notedBy (model prog w) A env fun e s'=>R (.error e) s') s₁)
   (notedBy (model prog w) A env fun e s'=>R (.error e) s') s)
  (n:Nat) (h:J n s):codeAny (model prog w) A (.compLoop (.ListComp elt [⟨tg,iter,ifs,0⟩] scope pos) 0 it acc env) R s:=by
 refine codeAny_loop rfl J (fun n s hJ=>?_) n h;refine wpAny_noted (A:=A) (m:=compTurn (.ListComp elt [⟨tg,iter,ifs,0⟩] scope pos) 0 it acc env) (env:=env) ?_;rw[compTurn_list];refine K' (wpAny_standAt (K' (bS (turn n s hJ) fun r s₁ h₁=>?_)));rcases h₁ with ⟨e,h₁⟩|⟨v,e,h₁⟩
 ·subst e;exact Z' h₁
 ·subst e;refine K' (bS h₁ fun _ s₂ h₂=>K' (bS h₂ fun _ s₃ h₃=>K' (bS h₃ fun ok s₄ h₄=>?_)));cases ok with
  |false=>exact Z' ⟨rfl,h₄⟩
  |true=>exact K' (K' (bS h₄ fun x s₅ h₅=>K' (bS h₅ fun _ s₆ h₆=>Z' (Z' ⟨rfl,h₆⟩))))
def PF (X:Cx)(ifs:List Expr)(t:TT):Prop :=
 ∀(pins:List (Addr×Obj)) (s:Shared) (σ:St) (H:Hp) (Q:Bool->Hp->Prop),Inv X pins σ H s->t σ H Q ->
  wpAny (model X.prog X.w) X.A (forIn ifs true fun c r=>if r=true then do let ok <-isTrue c X.env (eval c X.env);pure (ForInStep.yield ok) else pure (ForInStep.yield r)) (TP X pins σ Q) X.xe s
def Qn:TT:=fun _ H Q=>Q true H
theorem eZ {X:Cx}:PF X [] Qn:=by
 intro pins s σ H Q I h;rw[List.forIn_nil];exact Z' ⟨H,I,h⟩
def GU (X:Cx)(C:Addr)(e:Value)(s':Shared):Prop :=
 ∃ m,s'.heap.Ns C m/\∀ h',Heap.SameBut C s'.heap h'->∀ cenv:Env,cenv.locals=C->wpAny (model X.prog X.w) X.A (passOn "comprehension.variables-let-go" e cenv:Sem Value) (fun _ _=>False) X.xe { s' with heap:=h' }
def l8 (X:Cx)(scope:Scope)(C:Addr):Value->Shared->Prop :=
 notedBy (model X.prog X.w) X.A (compEnvC scope (eM X.env scope.names []) C X.env) (GU X C)
def LR (n:Nat)(wi:TI)(g:Bk->TG)(tc:Bk->TT)(te:Bk->TE):TE:=fun σ H Q=>wi σ H fun J H1=>∀(D:Addr)(b:Bk),H1 D=none->∃ W:Nat->Nat->List V->St->Hp->Prop,
 (∃ m,W 0 m [] (List.replicate n none++σ) (upd H1 D (.lst [])))/\∀ i m ys σ H,W i m ys σ H ->
  (J.stop i H/\Q (.ref D) H)\/(J.go i H/\∀ x H',J.JL i H x H'->g b x σ H' fun σ2 H2=>tc b σ2 H2 fun ok H3 =>
   if ok=true then te b σ2 H3 fun y H4=>H4 D=some (.lst ys)/\ys.length<sizeLine/\∃ m',m'<m/\W (i+1) m' (ys++[y]) σ2 (upd H4 D (.lst (ys++[y])))
   else ∃ m',m'<m/\W (i+1) m' ys σ2 H3)
section
variable {X:Cx} {tg iter elt:Expr} {ifs:List Expr} {scope:Scope} {pos:Pos} {cn:List Str} {wi:TI} {g:Bk->TG} {tc:Bk->TT} {te:Bk->TE} {TH:Bk->Prop}
theorem Ef {pins:List (Addr×Obj)}{σ:St}{H:Hp}{s₂:Shared}{it:Addr}{fp:List Addr}{tn:Nat->Heap->Prop}{J:It}{RR:Value->Addr->Result->Shared->Prop}{QQ:Addr->Hp->Prop}{EE:Value->Shared->Prop}
  (hcalm:X.calm=true) (F:b8 X.env.scope X.N scope) (hg:∀ b,TH b->PG (cB X cn scope b) tg (g b)) (ht:∀ b,TH b->PF (cB X cn scope b) ifs (tc b)) (he:∀ b,TH b->PE (cB X cn scope b) elt (te b))
  (VR:∀ C,s₂.heap.objs.size<=C->TH ⟨C,s₂,H,fp,l8 X scope C⟩)
  (I:Inv X pins σ H s₂) (T:Turn X.prog X.w X.K tg J fp it tn) (st:tn 0 s₂.heap) (hf:∀ b∈fp,iZ X pins H b)
  (h:∀(D:Addr)(b:Bk),H D=none->∃ W:Nat->Nat->List V->St->Hp->Prop,(∃ m,W 0 m [] (List.replicate cn.length none++σ) (upd H D (.lst [])))/\∀ i m ys σ H,W i m ys σ H ->
   (J.stop i H/\QQ D H)\/(J.go i H/\∀ x H',J.JL i H x H'->g b x σ H' fun σ2 H2=>tc b σ2 H2 fun ok H3 =>
    if ok=true then te b σ2 H3 fun y H4=>H4 D=some (.lst ys)/\ys.length<sizeLine/\∃ m',m'<m/\W (i+1) m' (ys++[y]) σ2 (upd H4 D (.lst (ys++[y])))
    else ∃ m',m'<m/\W (i+1) m' ys σ2 H3))
  (hR:∀ C D σ' H' s',s₂.heap.objs.size<=C->Inv (cB X cn scope ⟨C,s₂,H,fp,l8 X scope C⟩) [] σ' H' s'->QQ D H'->RR (.ref D) C (.ok .next) s')
  (hE:∀ C D e s',GU X C e s'->RR (.ref D) C (.error e) s') :
  wpAny (model X.prog X.w) X.A (newList []) (fun acc s₃=>wpAny (model X.prog X.w) X.A (newFunctionEnv scope X.env.globals (eM X.env scope.names []) [] X.env.qual none .none (some X.env)) (fun cenv s₄ =>
   codeAny (model X.prog X.w) X.A (.compStart (.ListComp elt [⟨tg,iter,ifs,0⟩] scope pos) 0 (.ref it) acc { cenv with scope:=relabel scope X.env }) (RR acc cenv.locals) s₄) EE s₃) EE s₂:=by
 refine wpAny_newObj_type (wpAny_newFunctionEnv F.LQ (by intro y hy;simp at hy) (fun h₁ hns₁ hsb₁=>?_) F.kind);dsimp only at hns₁ hsb₁ ⊢;generalize hH2:s₂.heap.push { cls:=.type "list",dict:=none,data:=.seq ([]:List Value).toArray } = H2 at hns₁ hsb₁ ⊢;have hC:H2.objs.size=s₂.heap.objs.size+1:=by rw[<-hH2,Heap.size_push]
 have hDC:s₂.heap.objs.size≠H2.objs.size:=by omega
 have hCle:s₂.heap.objs.size<=H2.objs.size:=by omega
 have hfl:∀ b∈fp,b<s₂.heap.objs.size:=fun b hb=>by
  obtain⟨o,e,_⟩:=T.obj 0 _ st b hb;exact Zb' e
 have VS:∀ b o,s₂.heap.get? b=some o->H2.get? b=some o:=fun b o e=>hH2 ▸ U' _ e;have old:∀ b o,s₂.heap.get? b=some o->h₁.get? b=some o:=fun b o e=>by
  have hb:=Zb' e;refine hsb₁.extBut b o (Zo' (Ze' hb hCle)) (U' _ (VS b o e))
 have hacc:h₁.get? s₂.heap.objs.size=some { cls:=.type "list",data:=.seq ([]:List Value).toArray 0 } :=
  hsb₁.extBut _ _ hDC (U' _ (hH2 ▸ Zi' _ rfl))
 have I0:=Inv.block (cn:=cn) (xe:=l8 X scope H2.objs.size) (tk:=s₂.toks+([]:List (Str×Value)).length) I F hcalm hf hfl hCle (X' _) hDC hns₁ old hacc;have th:=VR _ hCle;obtain⟨W,⟨m0,w0⟩,turn⟩:=h s₂.heap.objs.size ⟨H2.objs.size,s₂,H,fp,l8 X scope H2.objs.size⟩ (I.hok.fresh (X' _));have VT:∀{H':Hp},(∀ b∈fp,H' b=none)->∀ b∈fp,iZ (cB X cn scope ⟨H2.objs.size,s₂,H,fp,l8 X scope H2.objs.size⟩) [] H' b:=fun {H'} hn b hb=>by
  refine⟨hn b hb,(I0.ok.RS b hb).1,I0.ok.GB b hb,.inl hb,(I0.ok.RS b hb).2,fun p hp=>j' (show p∈([]:List (Addr×Obj)) from hp) (by simp)⟩
 have Po:(cB X cn scope ⟨H2.objs.size,s₂,H,fp,l8 X scope H2.objs.size⟩).calm=true:=hcalm;have loop:∀ s₃:Shared,s₃ = { s₂ with heap:=h₁,toks:=s₂.toks+([]:List (Str×Value)).length } ->
   codeAny (model X.prog X.w) X.A (.compLoop (.ListComp elt [⟨tg,iter,ifs,0⟩] scope pos) 0 (.ref it) (.ref s₂.heap.objs.size) (compEnvC scope (eM X.env scope.names []) H2.objs.size X.env))
    (RR (.ref s₂.heap.objs.size) H2.objs.size) s₃:=by
  rintro s₃ rfl;have UE:∀ e s',(cB X cn scope ⟨H2.objs.size,s₂,H,fp,l8 X scope H2.objs.size⟩).xe e s' ->
    notedBy (model X.prog X.w) X.A (compEnvC scope (eM X.env scope.names []) H2.objs.size X.env) (fun e s'=>RR (.ref s₂.heap.objs.size) H2.objs.size (.error e) s') e s':=fun e s' z =>
   wpAny_mono (show notedBy (model X.prog X.w) X.A (compEnvC scope (eM X.env scope.names []) H2.objs.size X.env) (GU X H2.objs.size) e s' from z) (fun _ _ q=>hE _ _ _ _ q) fun _ _ q=>hE _ _ _ _ q
  refine JY (env:=compEnvC scope (eM X.env scope.names []) H2.objs.size X.env)
   (fun n s'=>∃ i ys σ' H',Inv (cB X cn scope ⟨H2.objs.size,s₂,H,fp,l8 X scope H2.objs.size⟩) [] σ' H' s'/\tn i s'.heap/\(∀ b∈fp,H' b=none)/\W i n ys σ' H') ?_ m0
   ⟨0,[],_,_,I0,T.keep _ _ _ st fun b _ o e=>old b o e,fun b hb=>?_,w0⟩
  ·rintro n s' ⟨i,ys,σ',H',I',st',fr',w'⟩;rcases turn i n ys σ' H' w' with ⟨stop,qn⟩|⟨go,step⟩
   ·refine wpAny_mono (T.done (cB X cn scope ⟨H2.objs.size,s₂,H,fp,l8 X scope H2.objs.size⟩) rfl rfl rfl Po i [] s' σ' H' (fun _ _=>False) I' (VT fr') st' stop) (fun r s4 ⟨hr,I4⟩=>?_) fun _ _ z=>z.elim;exact .inl ⟨hr,hR _ _ _ _ _ hCle I4 qn⟩
   ·refine wpAny_mono (T.item (cB X cn scope ⟨H2.objs.size,s₂,H,fp,l8 X scope H2.objs.size⟩) rfl rfl rfl Po i [] s' σ' H' (fun _ _=>False) I' (VT fr') st' go) (fun r s4 ⟨u,hr,h4⟩=>?_) fun _ _ z=>z.elim;refine .inr ⟨u,hr,wpAny_mono h4 (fun _ s5 ⟨x,H5,I5,r5,y5,Qb,Vu⟩=>?_) fun _ _ z=>z.elim⟩;have Vv:=I5.pinned (VT Vu) (T.obj _ _ Qb);refine wpAny_mono (hg _ th _ s5 σ' H5 x u _ Vv r5 (step x H5 y5)) (fun _ s6 ⟨σ6,H6,I6,q6⟩=>?_) UE;refine wpAny_mono (ht _ th _ s6 σ6 H6 _ I6 q6) (fun ok s7 ⟨H7,I7,q7⟩=>?_) UE;have back:∀{σ8:St} {H8:Hp} {s8:Shared},Inv (cB X cn scope ⟨H2.objs.size,s₂,H,fp,l8 X scope H2.objs.size⟩) ([]++yz fp s5.heap) σ8 H8 s8->tn (i+1) s8.heap/\∀ b∈fp,H8 b=none:=fun {σ8 H8 s8} I8=>by
     refine⟨T.keep _ _ _ Qb fun b hb o e=>(I8.pin (b,o) (mem_append_right _ (mem_append_right _ (mQ hb e)))).1,fun b hb=>?_⟩;obtain⟨o,e,d⟩:=T.obj _ _ Qb b hb;exact(I8.pin (b,o) (mem_append_right _ (mem_append_right _ (mQ hb e)))).2.1
    cases ok with
    |false =>
     rw[Za' Zg']at q7 ⊢;obtain⟨m',hm,w7⟩:=q7;obtain⟨t8,f8⟩:=back I7;exact⟨m',hm,i+1,ys,σ6,H7,I7.oy,t8,f8,w7⟩
    |true =>
     rw[Zc' rfl]at q7 ⊢;refine wpAny_mono (he _ th _ s7 σ6 H7 _ I7 q7) (fun v s8 ⟨y,H8,I8,r8,hl,hz,m',hm,w8⟩=>?_) UE;refine wpAny_mono (bp (X:=cB X cn scope ⟨H2.objs.size,s₂,H,fp,l8 X scope H2.objs.size⟩) _ s8 σ6 H8 (.ref s₂.heap.objs.size) [y] (.ref s₂.heap.objs.size) [v] (fun _ H9=>W (i+1) m' (ys++[y]) σ6 H9) I8 rfl (.cons r8 .nil) ⟨_,ys,y,rfl,rfl,hl,hz,w8⟩)
      (fun _ s9 ⟨_,H9,I9,_,w9⟩=>?_) UE
     obtain⟨t9,f9⟩:=back I9;exact⟨m',hm,i+1,_,σ6,H9,I9.oy,t9,f9,w9⟩
  ·rw[ak (Zo' (hfl b hb))];exact(hf b hb).1
 exact codeAny_compStart_list (loop _ rfl) (T.self _ 0 _ _ _ (T.keep _ _ _ st fun b _ o e=>old b o e) (loop _ rfl))
theorem LS (hcalm:X.calm=true)(F:b8 X.env.scope X.N scope)(hi:PI X tg iter wi)(hg:∀ b,TH b->PG (cB X cn scope b) tg (g b))(ht:∀ b,TH b->PF (cB X cn scope b) ifs (tc b))
  (he:∀ b,TH b->PE (cB X cn scope b) elt (te b))
  (VR:∀ pins σ H s₂ fp C,Inv X pins σ H s₂->(∀ b∈fp,iZ X pins H b)->s₂.heap.objs.size<=C->TH ⟨C,s₂,H,fp,l8 X scope C⟩)
  (hs:∀ x,foldedSetIterable iter X.env x=pure x:=by intro _;rfl):PE X (.ListComp elt [⟨tg,iter,ifs,0⟩] scope pos) (LR cn.length wi g tc te):=by
 intro pins s σ H Q I h;rw[eval_ListComp];have hcl:closureFor scope X.env=pure (eM X.env scope.names []):=Iu fun p hp e=>I.ok.has p.1 (F.free p hp e);refine wpAny_comprehension_free (use:=none) rfl hs hcl F.kind F.loc (bS (hi pins s σ H _ I h) fun xv s₁ h₁=>bS h₁ fun itv s₂ h₂=>?_);obtain⟨it,fp,tn,J,H2,rfl,I2,T,st,f2,R⟩:=h₂;refine Ef (QQ:=fun D H'=>Q (.ref D) H') (RR:=fun acc C=>compPost (model X.prog X.w) X.A X.xe none (EP X pins σ Q) acc C) hcalm F hg ht he (fun C hC=>VR pins σ H2 s₂ fp C I2 f2 hC) I2 T st f2 R ?_ ?_
 ·intro C D σ' H' s' hC I' q;obtain⟨m,hm,_⟩:=I'.loc;exact⟨m,hm,fun h' sb=>⟨.ref D,H',I2.Iw f2 hC I' sb,rfl,q⟩⟩
 ·intro C D e s' z;exact z
theorem eB (hcalm:X.calm=true)(F:b8 X.env.scope X.N scope)(hi:PI X tg iter wi)(hg:∀ b,PG (cB X cn scope b) tg (g b))(ht:∀ b,PF (cB X cn scope b) ifs (tc b))(he:∀ b,PE (cB X cn scope b) elt (te b))
  (hs:∀ x,foldedSetIterable iter X.env x=pure x:=by intro _;rfl):PE X (.ListComp elt [⟨tg,iter,ifs,0⟩] scope pos) (LR cn.length wi g tc te) :=
 LS (TH:=fun _=>True) hcalm F hi (fun b _=>hg b) (fun b _=>ht b) (fun b _=>he b) (fun _ _ _ _ _ _ _ _ _=>trivial) hs
end
end L2
namespace L2
open PySem PySem.Spec PyProof.Rows
section
variable {X:Cx} {e:Expr} {es:List Expr} {te:TE} {pos:Pos}
abbrev SK:=St->Hp->(Str->Hp->Prop)->Prop
abbrev Qo:=Str->St->Hp->(Str->Hp->Prop)->Prop
def VU (X:Cx)(pins:List (Addr×Obj))(σ:St)(Q:Str->Hp->Prop)(u:Value)(s':Shared):Prop:=∃ y t H',u=.str y t/\Inv X pins σ H' s'/\Q y H'
def PP (X:Cx)(e:Expr)(t:SK):Prop :=
 ∀(pins:List (Addr×Obj)) (s:Shared) (σ:St) (H:Hp) (Q:Str->Hp->Prop),Inv X pins σ H s->t σ H Q->wpAny (model X.prog X.w) X.A (eval e X.env) (VU X pins σ Q) X.xe s
def UG (X:Cx)(es:List Expr)(t:Qo):Prop :=
 ∀(pins:List (Addr×Obj)) (s:Shared) (σ:St) (H:Hp) (acc:Str) (Q:Str->Hp->Prop),Inv X pins σ H s->t acc σ H Q ->
  Joins (model X.prog X.w) X.A X.xe (evalEach es X.env) acc (fun out s₁=>∃ H',Inv X pins σ H' s₁/\Q out H') s
noncomputable def YJ (x:Str):SK:=fun _ H Q=>Q x H
def YK (te:TE):SK:=fun σ H Q=>te σ H fun v H1=>(∃ z,v=.str z/\z.length<=sizeLine/\Q z H1)\/∃ i:Int,v=.int i/\i.natAbs.log2<1920/\Q (toString i) H1
theorem eI {x j}:PP X (.Constant (.str x) j pos) (YJ x):=fun _ _ _ H _ I h=>Calls.Constant_str ⟨x,_,H,rfl,I.tok _,h⟩
theorem gO (he:PE X e te):PP X (.FormattedValue e (-1) none pos) (YK te):=by
 intro pins s σ H Q I h;refine FormattedValue_plain (bS (he pins s σ H _ I h) fun v s1 fu=>?_);obtain⟨x,H1,I1,r1,q1⟩:=fu;rcases q1 with ⟨z,rfl,hz,q⟩|⟨i,rfl,hi,q⟩
 ·obtain⟨t,rfl⟩:=r1;exact formatField_str (fun t' tk=>⟨z,t',H1,rfl,I1.tok _,q⟩) hz
 ·obtain⟨t,rfl⟩:=r1;exact formatField_int_small hi ⟨_,_,H1,rfl,I1.tok _,q⟩
noncomputable def YL:Qo:=fun acc _ H Q=>Q acc H
noncomputable def tJ (t:SK)(u:Qo):Qo:=fun acc σ H Q=>t σ H fun y H1=>(acc++y).length<=sizeLine/\u (acc++y) σ H1 Q
theorem sy:UG X [] YL:=fun _ _ _ H _ _ I h=>⟨H,I,h⟩
theorem bx {t:SK}{u:Qo}(h1:PP X e t)(h2:UG X es u):UG X (e::es) (tJ t u):=by
 intro pins s σ H acc Q I h;refine wpAny_mono (h1 pins s σ H _ I h) (fun v s1 q=>?_) fun _ _ z=>z;obtain⟨y,tk,H1,rfl,I1,hz,q⟩:=q;exact⟨y,tk,rfl,hz,h2 pins s1 σ H1 _ Q I1 q⟩
def tF (u:Qo):TE:=fun σ H Q=>u Str.empty σ H fun out H1=>out.length<=sizeLine/\Q (.str out) H1
theorem sC {e2:Expr}{u:Qo}(h:UG X (e::e2::es) u):PE X (.JoinedStr (e::e2::es) pos) (tF u):=by
 intro pins s σ H Q I hw;refine wpAny_JoinedStr ?_;have mono:∀(l:List (Sem Value)) (acc:Str) (Q1 Q2:Str->Shared->Prop) (s:Shared),(∀ o s,Q1 o s->Q2 o s)->Joins (model X.prog X.w) X.A X.xe l acc Q1 s->Joins (model X.prog X.w) X.A X.xe l acc Q2 s:=by
  intro l
  induction l with
  |nil=>intro acc Q1 Q2 s hm h;exact hm _ _ h
  |cons a l ih =>
   intro acc Q1 Q2 s hm h;refine wpAny_mono h (fun v s1 q=>?_) fun _ _ z=>z;obtain⟨y,t,e1,hz,q⟩:=q;exact⟨y,t,e1,hz,ih _ _ _ _ hm q⟩
 refine mono _ _ _ _ _ (fun out s1 q=>?_) (h pins s σ H _ _ I hw);obtain⟨H1,I1,hz,q⟩:=q;exact⟨hz,.str out,H1,I1.tok _,⟨_,rfl⟩,q⟩
theorem cG:fN X (.type "int") (fun xs H Q=>∃ z n,xs=[.str z]/\PySem.intText? z=some n/\z.length<=640/\Q (.int n) H):=by
 intro pins s σ H xs us Q I r h;obtain⟨z,n,rfl,hn,hl,q⟩:=h;obtain⟨u,rfl,t,rfl⟩:=r.one;exact PySem.W.KIN.call_text hn hl ⟨.int n,H,I.tok _,⟨_,rfl⟩,q⟩
theorem GW {ys:List Str}:∀{us:List Value},Vals (ys.map V.str) us->StrsAre us ys:=by
 induction ys with
 |nil=>intro us r;rw[List.map_nil]at r;cases r;exact .nil
 |cons n ns ih =>
  intro us r;rw[map_cons]at r;cases r with
  |cons r1 r2 =>
   obtain⟨t,e⟩:=r1;subst e;exact .cons n t (ih r2)
def rJoin (K:Frag):V->List V->Hp->VK->Prop:=fun x vs H Q=>∃ sep a ys,x=.str sep/\vs=[.ref a]/\aL K H a (ys.map V.str)/\(ys.map (·.length)).sum+ys.length * sep.length<=16777216/\Q (.str (Str.join sep ys)) H
theorem pW:SH X "str.join" (rJoin X.K):=by
 intro pins s σ H x vs v us Q I rx rv h;obtain⟨sep,a,ys,rfl,rfl,hq,hz,q⟩:=h;obtain⟨t,rfl⟩:=rx;obtain⟨u,rfl,rfl⟩:=rv.one;obtain⟨its,r,p,_⟩:=I.list hq;refine join_list p.isList (GW r) hz fun t' k=>⟨.str (Str.join sep ys),H,I.tok _,⟨t',?_⟩,q⟩;show Value.str (Builtin.Str.glued sep ys) t'=_;rw[StrLaws.glued_eq_join]
theorem qk:∀(tk:Nat)(ys:List Str),Vals (ys.map V.str) (strsFrom tk ys)
 |_,[]=>.nil
 |tk,y::r=>.cons ⟨tk,rfl⟩ (qk (tk+1) r)
def Qp:V->List V->Hp->VK->Prop:=fun x vs H Q=>∃ z y,x=.str z/\vs=[.str y]/\(y.length==0)=false/\z.length<=sizeLine/\(Txt.split z y).length<=sizeLine /\
 ∀ p,H p=none->Q (.ref p) (upd H p (.lst ((Txt.split z y).map V.str)))
theorem oF:SH X "str.split" Qp:=by
 intro pins s σ H x vs v us Q I rx rv h;obtain⟨z,y,rfl,rfl,hy,hz,hn,q⟩:=h;obtain⟨t,rfl⟩:=rx;obtain⟨u,rfl,tu,rfl⟩:=rv.one;have lay:∀(ws:List Value)(tk:Nat),Vals ((Txt.split z y).map V.str) ws->EP X pins σ Q (.ref s.heap.objs.size) { s with heap:=s.heap.push { cls:=.type "list",data:=.seq ws.toArray },toks:=tk }:=by
  intro ws tk hv;refine⟨.ref s.heap.objs.size,_,I.Qj hv (by rw[P'];exact hn),rfl,q _ I.fresh⟩
 cases h1:(decide (z.length<y.length)||decide (Builtin.Str.strKind z<Builtin.Str.strKind y))
 ·cases hf:(Builtin.Str.occurrences z y 0 z.length (z.length+1)).isEmpty
  ·have es:Txt.split z y=Builtin.Str.partsBetween z (Builtin.Str.occurrences z y 0 z.length (z.length+1)) y.length:=(Za' (ne_true_of_eq_false h1)).trans (Za' (ne_true_of_eq_false hf));refine call_meets F.slot_str_split (typeIs_str _ _ _) F.entry_str_split (F.args_str_split_2 _ _) (meets_str_split_sep z y t tu h1 hy hf hz (by rw[<-es];exact hn)) ?_;rw[<-es];exact lay _ _ (qk _ _)
  ·have es:Txt.split z y=[z]:=(Za' (ne_true_of_eq_false h1)).trans (Zc' hf);refine call_meets F.slot_str_split (typeIs_str _ _ _) F.entry_str_split (F.args_str_split_2 _ _) (meets_str_split_not_found z y t tu h1 hy hf) ?_;exact lay [.str z t] s.toks (by rw[es];exact .cons ⟨t,rfl⟩ .nil)
 ·have es:Txt.split z y=[z]:=Zc' h1;refine call_meets F.slot_str_split (typeIs_str _ _ _) F.entry_str_split (F.args_str_split_2 _ _) (meets_str_split_cannot_occur z y t tu h1) ?_;exact lay [.str z t] s.toks (by rw[es];exact .cons ⟨t,rfl⟩ .nil)
def VW:V->Option Int->Option Int->Hp->VK->Prop:=fun x lo hi H Q=>∃ z,x=.str z/\z.length<=sizeLine/\Q (.str (Txt.slice z lo hi)) H
theorem Bm {v:Value}{o:Option Int}(p:IsPart v o):∃ l:Option (Int×Tok),v=partValue l/\l.map (·.1)=o:=by
 cases p with
 |none=>exact⟨none,rfl,rfl⟩
 |int i t=>exact⟨some (i,t),rfl,rfl⟩
theorem gP:Pf X VW:=by
 intro pins s σ H x v vl vu lo hi sl Q I rx hs pl pu h;obtain⟨z,rfl,hz,q⟩:=h;obtain⟨t,rfl⟩:=rx;obtain⟨l,rfl,el⟩:=Bm pl;obtain⟨u,rfl,eu⟩:=Bm pu;subst el eu;refine⟨"str",_,F.slot_str_getitem.lookup,typeIs_str _ _ _,?_⟩;obtain⟨o,ho,hc,hd⟩:=hs;refine wpAny_getItem_str_slice (l:=l) (u:=u) (st:=none) ⟨o,ho,hc,hd⟩ rfl ?_;exact post_val_or_str ⟨Zf' (Txt.slice_le z _ _) hz,fun t' k=>⟨.str _,H,I.tok _,⟨t',rfl⟩,q⟩⟩
noncomputable def RU (z:Str):It:=⟨fun i _=>i<z.cps.size,fun i H x H'=>H'=H/\∃ c,z.cps[i]? = some c/\x=.str ⟨#[c]⟩,fun i _=>z.cps.size<=i⟩
def VX (tl:TE):TI:=fun σ H R=>tl σ H fun x H1=>∃ z,x=.str z/\R (RU z) H1
theorem Eg {P:Program}{w:World}{K:Frag}{tg:Expr}{z:Str}{it:Addr}{T:String}{t:Tok}(hT:["enumerate","zip","dict_itemiterator","dict_reverseitemiterator","odict_iterator","itertools.zip_longest","itertools.pairwise"].contains T=false)
  (W:∀ A:Around,A.handled=none->Walks P w A it [it] [it] z.cps.size (SignAt z) (fun i h=>h.IsStrIter it T z t i)) 
  (S:∀(A:Around)(i:Nat)(s:Shared)(Q:Value->Shared->Prop)(E:Value->Shared->Prop),s.heap.IsStrIter it T z t i->Q (.ref it) s->wpAny (model P w) A (pyIter (.ref it)) Q E s) :
  Turn P w K tg (RU z) [it] it (fun i h=>h.IsStrIter it T z t i/\i<=z.cps.size) where
 mem:=by simp
 obj:=fun i h st b hb=>by
  have e:b=it:=by simpa using hb
  subst e;obtain⟨⟨o,e,c,d⟩,_⟩:=st;exact⟨o,e,fun v q=>by rw[d]at q;cases q⟩
 keep:=fun i h h' st k=>⟨by
  obtain⟨⟨o,e,c,d⟩,_⟩:=st;exact⟨o,k it (by simp) o e,c,d⟩,st.2⟩
 item:=by
  intro X hP hw hK hc i pins s σ H E I hf st hg;subst hP hw hK;obtain⟨f0,f1,f2,f3,f4,f5⟩:=hf it (by simp);have hgi:i<z.cps.size:=hg;refine(W X.A (I.ok.hd hc)).item i s _ _ hgi st.1 fun v h' tk hv st' kk=>?_;obtain⟨c,u,hc',rfl⟩:=hv;have I1:Inv X pins σ H { s with heap:=h',toks:=tk }:=I.turned (fun b o hb e=>kk b o (by simpa using hb) e) f0 f1 f3 f4 f5;obtain⟨o,e,cc,d⟩:=id st';exact⟨_,rfl,Ic (s:={ s with heap:=h',toks:=tk }) e cc d hT ⟨.str ⟨#[c]⟩,H,I1,⟨u,rfl⟩,⟨rfl,c,hc',rfl⟩,⟨st',hgi⟩,fun b hb=>(hf b hb).1⟩⟩
 done:=by
  intro X hP hw hK hc i pins s σ H E I hf st hg;subst hP hw hK;obtain⟨f0,f1,f2,f3,f4,f5⟩:=hf it (by simp);have hge:z.cps.size<=i:=hg;have e:i=z.cps.size:=Nat.le_antisymm st.2 hge;subst e;exact(W X.A (I.ok.hd hc)).done s _ _ st.1 fun h' tk kk=>⟨rfl,I.turned (fun b o hb e=>kk b o (by simpa using hb) e) f0 f1 f3 f4 f5⟩
 self:=fun A i s Q E st h=>S A i s Q E st.1 h
theorem uZ {tg l:Expr}{tl:TE}(hl:PE X l tl):PI X tg l (VX tl):=by
 intro pins s σ H R I h;refine bS (hl pins s σ H _ I h) fun v s1 fu=>?_;obtain⟨x,H1,I1,r1,q1⟩:=fu;obtain⟨z,rfl,q⟩:=q1;obtain⟨t,rfl⟩:=r1;have fp:∀ b∈[s1.heap.objs.size],iZ X pins H1 b:=fun b hb=>by
  have e:b=s1.heap.objs.size:=by simpa using hb
  subst e;exact I1.CQ (X' _) (I1.hok.fresh (X' _))
 cases ha:z.cps.all (· < 128)
 ·refine wpAny_pyIter_wide ha ?_;refine⟨s1.heap.objs.size,[s1.heap.objs.size],_,_,H1,rfl,I1.kept (t':=s1.toks) fun b o e=>U' _ e,Eg (T:="str_iterator") (t:=t) (by decide) (fun A hA=>Walks.strWide hA _ z t)
   (fun A i s Q E st hq=>wpAny_pyIter_striter_wide st hq),⟨⟨_,Zi' _ rfl,rfl,rfl⟩,Nat.zero_le _⟩,fp,q⟩
 ·refine wpAny_pyIter_ascii ha ?_;refine⟨s1.heap.objs.size,[s1.heap.objs.size],_,_,H1,rfl,I1.kept (t':=s1.toks) fun b o e=>U' _ e,Eg (T:="str_ascii_iterator") (t:=t) (by decide) (fun A hA=>Walks.strAscii hA _ z t)
   (fun A i s Q E st hq=>wpAny_pyIter_striter_ascii st hq),⟨⟨_,Zi' _ rfl,rfl,rfl⟩,Nat.zero_le _⟩,fp,q⟩
theorem any_range:∀ bs:List Bool,(List.range bs.length).any (fun i=>bs.getD i false)=bs.any id
 |[]=>rfl
 |b::bs=>by
  rw[Zk',List.range_succ_eq_map,List.any_cons,List.any_map,List.any_cons];have:((fun i=>(b::bs).getD i false) ∘ Nat.succ)=fun i=>bs.getD i false:=by
   funext i
   rfl
  rw[this,any_range bs];rfl
theorem Eh:fN X (.builtin "any") (fun xs H Q=>X.calm=true/\∃(a:Addr)(bs:List Bool),xs=[.ref a]/\aL X.K H a (bs.map V.bl)/\Q (.bl (bs.any id)) H):=by
 intro pins s σ H xs us Q I r h;obtain⟨hc,a,bs,rfl,hq,q⟩:=h;obtain⟨u,rfl,rfl⟩:=r.one;obtain⟨its,rv,p,hz⟩:=I.list hq;have hl:=rv.length;rw[P']at hl;have Qq:∀(i:Nat)(v:Value),its.toArray[i]? = some v->v=Value.bool (bs.getD i false):=by
  intro i v hv;have hv':its[i]? = some v:=by simpa using hv
  have hi:i<its.length:=(S'.mp hv').1;have hb:i<bs.length:=by omega
  obtain⟨u,hu,ru⟩:=rv.get (i:=i) (x:=.bl (bs[i])) (by rw[Zl',R' hb];rfl);rw[hv']at hu;cases hu;have:v=.bool bs[i]:=ru;rw[this,List.getD_eq_getElem?_getD,R' hb];rfl
 refine call_any_walk (wpAny_pyIter_list p.isList ?_);have VY:a≠s.heap.objs.size:=by
  obtain⟨o,ho,_⟩:=p.isList;exact Zo' (Zb' ho)
 have hd:X.A.in1.handled=none:=I.ok.hd hc;refine⟨s.heap.objs.size,_,_,_,_,_,fun i=>bs.getD i false,rfl,Walks.list hd s.heap.objs.size a VY its.toArray,⟨⟨_,Zi' _ rfl,rfl,rfl⟩,p.isList.push _⟩,?_,?_⟩
 ·intro i v s' Q' E' hP hQ';rw[Qq i v hP];exact wpAny_truthy_bool hQ'
 ·intro h' tk kk;have e:(List.range its.toArray.size).any (fun i=>bs.getD i false)=bs.any id:=by
   rw[Zm',<-hl];exact any_range bs
  rw[e];refine⟨.bl _,H,I.kept (t':=tk) fun b o e=>kk b o (fun z=>?_) (U' _ e),rfl,q⟩;have:b=s.heap.objs.size:=by simpa using z
  exact j' (Zb' e) (by rw[this];exact Nat.lt_irrefl _)
end
end L2
namespace L2
open PySem PySem.Spec PyProof.Rows PySem.SeqAt
inductive LV (K:Frag)(H:Hp):Nat->V->V->Prop where
 |flat {n:Nat} {x:V} (f:qj x=true):LV K H n x x
 |tup {n:Nat} {a b:Addr} {xs ys:List V} (ha:iQ K H a xs) (hb:iQ K H b ys) (hl:xs.length=ys.length) (h:∀(i:Nat) x y,xs[i]? = some x->ys[i]? = some y->LV K H n x y):LV K H (n+1) (.ref a) (.ref b)
 |lst {n:Nat} {a b:Addr} {xs ys:List V} (ha:aL K H a xs) (hb:aL K H b ys) (hl:xs.length=ys.length) (h:∀(i:Nat) x y,xs[i]? = some x->ys[i]? = some y->LV K H n x y):LV K H (n+1) (.ref a) (.ref b)
section
variable {X:Cx} {pins:List (Addr×Obj)} {σ:St} {H:Hp} {s:Shared}
theorem LW:∀{x:V},qj x=true->Ip x x=true:=by
 intro x f;cases x <;> first|(simp[Ip];done)|(cases f)
theorem oG (n:Nat):(List.range n).all (fun _=>true)=true:=by simp
theorem LV.at {n:Nat}{x y:V}(d:LV X.K H n x y)(I:Inv X pins σ H s):∀{A:Around} {u v:Value},A.units+n<cLine->RelV x u->RelV y v ->
  EqAt A s u v true/\(∀ a b,x=.ref a->y=.ref b->RcAt A s u v true/\RcNeAt A s u v false):=by
 induction d with
 | @flat n x f =>
  intro A u v hu ru rv;refine⟨?_,fun a b e _=>?_⟩
  ·have:=LK (A:=A) (s:=s) ru rv f f;rw[LW f]at this;exact this
  ·subst e;cases f
 | @tup n a b xs ys ha hb hl h ih =>
  intro A u v hu ru rv;cases ru;cases rv;obtain⟨its,r,p,_⟩:=I.tuple ha;obtain⟨its',r',p',_⟩:=I.tuple hb;have e1:=r.length;have e2:=r'.length;have he:∀ j (h1:j<its.toArray.size) (h2:j<its'.toArray.size),EqAt A.in1 s its.toArray[j] its'.toArray[j] true:=by
   intro j h1 h2;have h1':j<its.length:=by simpa using h1
   have h2':j<its'.length:=by simpa using h2
   have g1:xs[j]? = some xs[j]:=R' (by omega);have g2:ys[j]? = some ys[j]:=R' (by omega);obtain⟨u1,q1,k1⟩:=r.get g1;obtain⟨u2,q2,k2⟩:=r'.get g2;have z1:its.toArray[j]=u1:=by
    rw[R' h1']at q1
    simpa using q1
   have z2:its'.toArray[j]=u2:=by
    rw[R' h2']at q2
    simpa using q2
   rw[z1,z2];exact(ih j _ _ g1 g2 (by show A.units+1+n<cLine;omega) k1 k2).1
  have bt:((List.range (min its.toArray.size its'.toArray.size)).all (fun _=>true)&&its.toArray.size==its'.toArray.size)=true:=by
   rw[oG];simp;omega
  have rc:RcAt A s (.ref a) (.ref b) true:=by
   have:=RcAt.tuples (A:=A) (e:=fun _=>true) (show s.heap.IsTuple a its.toArray from p) (show s.heap.IsTuple b its'.toArray from p') (by omega) he;rw[bt]at this;exact this
  have rn:RcNeAt A s (.ref a) (.ref b) false:=by
   have:=RcNeAt.tuples (A:=A) (e:=fun _=>true) (show s.heap.IsTuple a its.toArray from p) (show s.heap.IsTuple b its'.toArray from p') (by omega) he;rw[bt]at this;exact this
  refine⟨?_,fun _ _ _ _=>⟨rc,rn⟩⟩
  by_cases e:a=b
  ·subst e;exact EqAt.same _
  ·exact EqAt.of_refs e rc
 | @lst n a b xs ys ha hb hl h ih =>
  intro A u v hu ru rv;cases ru;cases rv;obtain⟨its,r,p,_⟩:=I.list ha;obtain⟨its',r',p',_⟩:=I.list hb;have e1:=r.length;have e2:=r'.length;have he:∀ j (h1:j<its.toArray.size) (h2:j<its'.toArray.size),EqAt A.in1 s its.toArray[j] its'.toArray[j] true:=by
   intro j h1 h2;have h1':j<its.length:=by simpa using h1
   have h2':j<its'.length:=by simpa using h2
   have g1:xs[j]? = some xs[j]:=R' (by omega);have g2:ys[j]? = some ys[j]:=R' (by omega);obtain⟨u1,q1,k1⟩:=r.get g1;obtain⟨u2,q2,k2⟩:=r'.get g2;have z1:its.toArray[j]=u1:=by
    rw[R' h1']at q1
    simpa using q1
   have z2:its'.toArray[j]=u2:=by
    rw[R' h2']at q2
    simpa using q2
   rw[z1,z2];exact(ih j _ _ g1 g2 (by show A.units+1+n<cLine;omega) k1 k2).1
  have bt:(List.range its.toArray.size).all (fun _=>true)=true:=oG _;have rc:RcAt A s (.ref a) (.ref b) true:=by
   have:=RcAt.lists (A:=A) (e:=fun _=>true) p.isList p'.isList (by simp;omega) (by omega) he;rw[bt]at this;exact this
  have rn:RcNeAt A s (.ref a) (.ref b) false:=by
   have:=RcNeAt.lists (A:=A) (e:=fun _=>true) p.isList p'.isList (by simp;omega) (by omega) he;rw[bt]at this;exact this
  refine⟨?_,fun _ _ _ _=>⟨rc,rn⟩⟩
  by_cases e:a=b
  ·subst e;exact EqAt.same _
  ·exact EqAt.of_refs e rc
inductive Pp (K:Frag)(b:Bool)(x:V)(y:V)(H:Hp)(Q:VK):Prop
 |mk (a:_) (c:_) (cL:x=.ref a) (cM:y=.ref c) (dA:LV K H 60 x y/\Q (.bl b) H):Pp K b x y H Q
def SM (K:Frag)(b:Bool):R2:=fun x y H Q=>Pp K b x y H Q
theorem aN (hu:X.A.units+64<cLine):lW X (compareOp .Eq) (SM X.K true):=by
 intro pins s σ H x y v u Q I r1 r2 h;obtain⟨a,c,rfl,rfl,d,q⟩:=h;exact(((d.at I (A:=X.A) (by omega) r1 r2).2 a c rfl rfl).1) X.prog X.w X.xe _ ⟨.bl true,H,I,rfl,q⟩
theorem fb (hu:X.A.units+64<cLine):lW X (compareOp .NotEq) (SM X.K false):=by
 intro pins s σ H x y v u Q I r1 r2 h;obtain⟨a,c,rfl,rfl,d,q⟩:=h;exact(((d.at I (A:=X.A) (by omega) r1 r2).2 a c rfl rfl).2) X.prog X.w X.xe _ ⟨.bl false,H,I,rfl,q⟩
theorem cK:fN X (.builtin "isinstance") (fun xs H Q=>∃ x T t b,xs=[x,.ty T]/\eY X.K H x t/\kitOne X.K t (.type T)=some b/\Q (.bl b) H):=by
 intro pins s σ H xs us Q I r h;obtain⟨x,T,t,b,rfl,ty,e,q⟩:=h;obtain⟨u,v,rfl,r1,r2⟩:=r.two;cases r2;exact JT I r1 ty e fun tk=>⟨.bl b,H,I.tok _,rfl,q⟩
noncomputable def SN (K:Frag)(a:Addr):It :=
 ⟨fun i H=>∃ xs x,aL K H a xs/\xs[i]? = some x,fun i H x H'=>∃ y t,x=.ref t/\H t=none/\(∀ xs,aL K H a xs->xs[i]? = some y)/\H'=upd H t (.tup [.int i,y]),fun i H=>∃ xs,aL K H a xs/\xs.length<=i⟩
noncomputable def SO (K:Frag)(a b:Addr):It :=
 ⟨fun i H=>∃ xs ys x y,aL K H a xs/\aL K H b ys/\xs[i]? = some x/\ys[i]? = some y,
  fun i H p H'=>∃ x y t,p=.ref t/\H t=none/\(∀ xs,aL K H a xs->xs[i]? = some x)/\(∀ ys,aL K H b ys->ys[i]? = some y)/\H'=upd H t (.tup [x,y]),
  fun i H=>∃ xs ys,aL K H a xs/\aL K H b ys/\min xs.length ys.length=i⟩
theorem cw {a:Addr}{K:Frag}{X:Cx}{pins:List (Addr×Obj)}{σ:St}{H:Hp}{s:Shared}{xs:List V}{b:Addr}{o:Obj}(I:Inv X pins σ H s)(hq:aL X.K H a xs)(e:s.heap.get? b=some o)(hc:o.cls≠.type "list"):a≠b:=by
 rintro rfl;obtain⟨its,_,p,_⟩:=I.list hq;obtain⟨o',e',c',_⟩:=p.isList;rw[e]at e';cases e';exact hc c'
theorem Inv.Ei {tk:Nat}{h':Heap}{wr:List Addr}{T:Addr}{xs:List V}{vals:List Value}(I:Inv X pins σ H s)(hw:∀ b∈wr,iZ X pins H b)(hT:s.heap.objs.size<=T)(ht:h'.IsTuple T vals.toArray)(rv:Vals xs vals)(hz:xs.length<=sizeLine)
  (kk:∀ b o,b ∉ wr->s.heap.get? b=some o->h'.get? b=some o) (there:∀ b∈wr,∃ o,h'.get? b=some o):Inv X pins σ (upd H T (.tup xs)) { s with heap:=h',toks:=tk }:=by
 have LX:H T=none:=I.hok.fresh hT;have nT:∀ b o,s.heap.get? b=some o->b≠T:=fun b o e=>Zo' (Ze' (Zb' e) hT);refine I.step (g':=s.gens) (d':=s.drawn) (ch:=wr) (fun b hb=>?_) (fun b o _ _ hc e _=>kk b o hc e) (fun b o _ _ hc e _=>⟨o.slots,kk b o hc e⟩) (fun b o _ e n=>by rw[ak (nT b o e)];exact n)
  (fun b o hc e=>⟨o,kk b o hc e⟩) (fun b ys e=>by rw[ak (au e LX)];exact e) (fun b o u e=>by rw[ak (au e LX)];exact e) (fun b ps e=>⟨#[],by rw[ak (au e LX),e];simp⟩) (fun m hm=>?_) (fun b u e=>?_) I.bare
 ·obtain⟨_,f1,_,f3,f4,f5⟩:=hw b hb;exact⟨f3,f1,f4,f5⟩
 ·obtain⟨o,es,ep,ho,r⟩:=hm;exact⟨o,es,ep,kk _ o (fun z=>(hw _ z).2.1 rfl) ho,r⟩
 ·by_cases hb:b=T
  ·subst hb;rw[ag]at e;cases e;exact⟨hz,vals,rv,ht⟩
  ·rw[ak hb]at e;refine(I.hok b u e).stay (fun c v hc q=>kk c v (fun z=>?_) q) (fun c q=>by rw[ak (au q LX)];exact q) fun c ys q=>by rw[ak (au q LX)];exact q
   have hn:=(hw c z).1;rcases hc with hc|hc
   ·rw[hc,e]at hn;cases hn
   ·rw[hc]at hn;cases hn
theorem Inv.gp {tk:Nat}{h':Heap}{wr:List Addr}(I:Inv X pins σ H s)(hw:∀ b∈wr,iZ X pins H b)(kk:∀ b o,b ∉ wr->s.heap.get? b=some o->h'.get? b=some o):Inv X pins σ H { s with heap:=h',toks:=tk }:=by
 refine I.step (g':=s.gens) (d':=s.drawn) (ch:=wr) (fun b hb=>?_) (fun b o _ _ hc e _=>kk b o hc e) (fun b o _ _ hc e _=>⟨o.slots,kk b o hc e⟩) (fun b o _ e n=>n)
  (fun b o hc e=>⟨o,kk b o hc e⟩) (fun b ys e=>e) (fun b o u e=>e) (fun b ps e=>⟨#[],by rw[e];simp⟩) (fun m hm=>?_) (fun b u e=>?_) I.bare
 ·obtain⟨_,f1,_,f3,f4,f5⟩:=hw b hb;exact⟨f3,f1,f4,f5⟩
 ·obtain⟨o,es,ep,ho,r⟩:=hm;exact⟨o,es,ep,kk _ o (fun z=>(hw _ z).2.1 rfl) ho,r⟩
 ·refine(I.hok b u e).stay (fun c v hc q=>kk c v (fun z=>?_) q) (fun c q=>q) fun c ys q=>q;have hn:=(hw c z).1;rcases hc with hc|hc
  ·rw[hc,e]at hn;cases hn
  ·rw[hc]at hn;cases hn
end
end L2
namespace L2
open PySem PySem.Spec PyProof.Rows PySem.SeqAt
section
variable {X:Cx}
theorem aF {k:Nat}{A:Around}(hr:dm k A):A.units+64<cLine:=hr.units
theorem bf:bootBuiltins "len"=some (.builtin "len"):=by lk
theorem Qr:bootBuiltins "min"=some (.builtin "min"):=by lk
theorem Qs:bootBuiltins "max"=some (.builtin "max"):=by lk
theorem sE:bootBuiltins "enumerate"=some (.type "enumerate"):=by lk
theorem LY:bootBuiltins "zip"=some (.type "zip"):=by lk
theorem aU:bootBuiltins "isinstance"=some (.builtin "isinstance"):=by lk
theorem jF:bootBuiltins "int"=some (.type "int"):=by lk
theorem C4:bootBuiltins "bool"=some (.type "bool"):=by lk
theorem GX:bootBuiltins "str"=some (.type "str"):=by lk
theorem fE:bootBuiltins "list"=some (.type "list"):=by lk
theorem yE:bootBuiltins "tuple"=some (.type "tuple"):=by lk
theorem LZ:bootBuiltins "any"=some (.builtin "any"):=by lk
theorem Qt:bootBuiltins "all"=some (.builtin "all"):=by lk
theorem N7:bootBuiltins "dict"=some (.type "dict"):=by lk
end
end L2
namespace L2
open PySem PySem.Spec PyProof.Rows
end L2
namespace L2
open PySem
theorem dX {K:Frag}{H:Hp}{a l:Addr}{o:HO}{xs:List V}(h:aL K H a xs)(hn:H l=none):aL K (upd H l o) a xs:=by
 have ne:∀{u},H a=some u->a≠l:=fun e=>au e hn;rcases h with (h|⟨u,h⟩)|h
 ·exact .inl (.inl (by rw[ak (ne h)];exact h))
 ·exact .inl (.inr ⟨u,by rw[ak (ne h)];exact h⟩)
 ·exact .inr h
theorem ao.upd {H:Hp}{l:Addr}{o:HO}(hn:H l=none):ao H (upd H l o):=fun b u e=>by
 rw[ak (au e hn)];exact e
end L2
namespace L2
theorem aH {X:Cx}{b:List PySem.Stmt}{t:TS}{D:Ends}{σ:St}{H:Hp}(h:se X b t)(q:t D σ H):∃ t,se X b t/\t D σ H:=⟨t,h,q⟩
theorem dq (i j:Int):decide (V.int i=V.int j)=decide (i=j):=by
 by_cases h:i=j
 ·subst h;simp
 ·rw[V' h];exact V' fun e=>h (V.int.inj e)
end L2
namespace L2
open PySem
theorem Bn {X:Cx}:∀ cs:List (Str×Pos),PA X (cs.map fun c=>Expr.Constant (.str c.1) 0 c.2) (fun _ H Q=>Q (cs.map fun c=>V.str c.1) H)
 |[]=>af
 |c::cs=>aa aA (Bn cs)
end L2
namespace L2
open PySem
theorem Ej {X:Cx}{i:Nat}{x:Str}{pos pos' p:Pos}(cs:List (Str×Pos))(hN:X.N.Nodup)(hi:X.N[i]? = some x)(hx:Loc X.env.scope x)(hf:X.fn x=true\/X.env.scope.names.lookup x=some .local:=by first|exact .inl rfl|exact .inr rfl|assumption) :
  PS X (.Assign [.Name x pos'] (.List (cs.map fun c=>Expr.Constant (.str c.1) 0 c.2) p) pos) (Ln (Sz (fun _ H Q=>Q (cs.map fun c=>V.str c.1) H)) (vQ i)):=CP hN hi hx (bC (Bn cs)) rfl hf
end L2
namespace L2
open PySem PySem.Spec PyProof.Rows
section
variable {X:Cx} {tg:Expr}
theorem l9 {pins:List (Addr×Obj)}{σ:St}{H:Hp}{s:Shared}{a:Addr}{xs:List V}{i:Nat}{y:V}(I:Inv X pins σ H s)(hq:aL X.K H a xs)(hy:xs[i]? = some y):∀ ys,aL X.K H a ys->ys[i]? = some y:=fun ys h=>by
 rw[I.D4 h hq];exact hy
theorem JZ {P:Program}{w:World}{K:Frag}{es:List Expr}{k:Nat}{tp:Pos}(a e it:Addr)(hei:e≠it) :
  Turn P w K (.Tuple es k tp) (SN K a) [e,it] e (fun i h=>(∃ old,IsEnum h e it i old)/\h.IsListIter it a i) where
 mem:=by simp
 obj:=fun i h st b hb=>by
  obtain⟨⟨old,he⟩,o,e2,c,d⟩:=st;rcases List.mem_cons.mp hb with rfl|hb
  ·exact⟨_,he,fun v z=>by
    have z':Data.fields _=Data.cell v:=z;cases z'⟩
  ·have:b=it:=by simpa using hb
   subst this;exact⟨o,e2,fun v z=>by rw[d]at z;cases z⟩
 keep:=fun i h h' st kp=>by
  obtain⟨⟨old,he⟩,hit⟩:=st;exact⟨⟨old,kp e (by simp) _ he⟩,hit.at fun o x=>kp it (by simp) o x⟩
 item:=by
  intro X hP hw hK hc i pins s σ H E I hf st hg;subst hP hw hK;obtain⟨xs,x,hq,hx⟩:=hg;obtain⟨its,rv,p,hz⟩:=I.list hq;obtain⟨u,hu,ru⟩:=rv.get hx;obtain⟨⟨old,he⟩,hit⟩:=st;have hle:a≠e:=cw (K:=X.K) I hq he (by intro z;injection z with z;exact j' z (by decide));have hli:a≠it:=by
   obtain⟨o,e2,c,_⟩:=hit;exact cw (K:=X.K) I hq e2 (by rw[c];intro z;injection z with z;exact j' z (by decide))
  have YM:i<its.toArray.size:=by
   have:=(S'.mp hu).1
   simpa using this
  have W:=WalksT.enumerate (prog:=X.prog) (w:=X.w) (I.ok.hd hc) e it a hei hle hli its.toArray;refine W.item i s _ _ YM ⟨⟨old,he⟩,hit,p.isList⟩ fun T vals h' tk hv hT ht mid kk=>?_;refine⟨_,rfl,?_⟩;obtain⟨t,x',hx',rfl⟩:=hv;have ex:x'=u:=by
   have:its[i]? = some x':=by simpa using hx'
   rw[hu]at this;exact(W' this).symm
  subst ex;have fw:∀ b∈[e,it],iZ X pins H b:=hf;have I1:Inv X pins σ (upd H T (.tup [.int i,x])) { s with heap:=h',toks:=tk }:=by
   refine I.Ei (vals:=[.int i t,x']) fw hT (by simpa using ht) (.cons ⟨t,rfl⟩ (.cons ru .nil)) (by show 2<=sizeLine;decide) kk fun b hb=>?_;obtain⟨⟨xx,ho⟩,⟨o,e2,_⟩,_⟩:=mid;rcases List.mem_cons.mp hb with rfl|hb
   ·exact⟨_,ho⟩
   ·have:b=it:=by simpa using hb
    subst this;exact⟨o,e2⟩
  have LX:H T=none:=I.hok.fresh hT;have neT:∀ b∈[e,it],b≠T:=fun b hb z=>by
   subst z;exact W.apart i b _ mid hb
  refine W.go es k tp i T _ _ _ mid fun h'' st'' Qu=>?_;have hf2:∀ b∈[e,it],iZ X pins (upd H T (.tup [.int i,x])) b:=fun b hb=>by
   obtain⟨f0,fr⟩:=hf b hb;exact⟨by rw[ak (neT b hb)];exact f0,fr⟩
  refine⟨.ref T,upd H T (.tup [.int i,x]),I1.gp (tk:=tk) hf2 Qu,rfl,⟨x,T,rfl,LX,l9 I hq hx,rfl⟩,⟨st''.1,st''.2.1⟩,fun b hb=>(hf2 b hb).1⟩
 done:=by
  intro X hP hw hK hc i pins s σ H E I hf st hg;subst hP hw hK;obtain⟨xs,hq,hx⟩:=hg;obtain⟨its,rv,p,hz⟩:=I.list hq;obtain⟨⟨old,he⟩,hit⟩:=st;have hl:=rv.length;refine wpAny_pyNext_enum_end (I.ok.hd hc) he hit p.isList (Array.getElem?_eq_none (by simp;omega)) fun h' hx'=>?_;exact⟨rfl,I.gp (tk:=s.toks) hf fun b o hb q=>hx' b o (fun z=>hb (by simp[z])) q⟩
 self:=fun _ _ _ _ _ st h=>by
  obtain⟨⟨old,he⟩,_⟩:=st;exact wpAny_pyIter_enum he h
theorem Qv {l:Expr}{tl:TE}(hl:PE X l tl)(hs:starEach [l] X.env=[(false,eval l X.env)])(pos:Pos)(pins:List (Addr×Obj))(s:Shared)(σ:St)(H:Hp){Q:VK}(I:Inv X pins σ H s)(h:tl σ H Q) :
  wpAny (model X.prog X.w) X.A (spliced (backTo pos (starEach [l] X.env))) (fun us s1=>∃ v u H1,Inv X pins σ H1 s1/\us=[u]/\RelV v u/\Q v H1) X.xe s:=by
 have ha:PA X [l] (fun σ H Q=>tl σ H fun x H1=>Q [x] H1):=aa hl af hs;have mono:wpAny (model X.prog X.w) X.A (spliced (backTo pos (starEach [l] X.env))) (AP X pins σ fun vs H1=>∃ v,vs=[v]/\Q v H1) X.xe s:=by
  have he:PE X l (fun σ' H' Q'=>σ'=σ/\H'=H/\∀ v H1,Q v H1->Q' v H1):=by
   intro pins s σ' H' Q' I' hw;obtain⟨rfl,rfl,hm⟩:=hw;exact bS (hl pins s σ' H' Q I' h) fun u s1 ⟨v,H1,I1,r,q⟩=>⟨v,H1,I1,r,hm v H1 q⟩
  exact aa he af hs pos pins s σ H _ I ⟨rfl,rfl,fun v H1 q=>⟨v,rfl,q⟩⟩
 refine bS mono fun us s1 fu=>?_;obtain⟨vs,H1,I1,r,v,e,q⟩:=fu;subst e;obtain⟨u,rfl,ru⟩:=r.one;exact⟨v,u,H1,I1,rfl,ru,q⟩
inductive L0 (K:Frag)(R:(It->Hp->Prop))(x:V)(H1:Hp):Prop
 |mk (a:_) (cL:x=.ref a) (cM:(∃ xs,aL K H1 a xs)/\R (SN K a) H1):L0 K R x H1
def SQ (K:Frag)(tl:TE):TI:=fun σ H R=>tl σ H fun x H1=>L0 K R x H1
theorem yk {l:Expr}{tl:TE}{p pos tp:Pos}{es:List Expr}{k:Nat}(hg:Gl X "enumerate")(hm:X.mg "enumerate"=none)(hl:PE X l tl)(hs:starEach [l] X.env=[(false,eval l X.env)]:=by rfl) :
  PI X (.Tuple es k tp) (.Call (.Name "enumerate" p) [l] [] pos) (SQ X.K tl):=by
 intro pins s σ H R I h;refine Call_ (lL I hg hm sE (PyProof.Rows.callWith_type1 (bS (Qv hl hs pos pins s σ H I h) fun us s1 ⟨v,u,H1,I1,e1,r1,q1⟩=>?_) (by rw[hs];rfl) (by rfl)))
 ·obtain⟨a,rfl,⟨xs,hq⟩,q⟩:=q1;subst e1;cases r1;obtain⟨its,rv,pl,hz⟩:=I1.list hq;refine call_enumerate_list pl.isList fun h' he hit hsz kk=>?_;have YN:s1.heap.objs.size+1≠s1.heap.objs.size:=Nat.succ_ne_self _;refine wpAny_pyIter_enum he ?_;refine⟨s1.heap.objs.size+1,[s1.heap.objs.size+1,s1.heap.objs.size],_,_,H1,rfl,I1.kept (t':=s1.toks) kk,JZ a _ _ YN,⟨⟨.none,he⟩,hit⟩,fun b hb=>?_,q⟩;have hb':s1.heap.objs.size<=b:=by
   rcases List.mem_cons.mp hb with rfl|hb
   ·exact Nat.le_succ _
   ·have:b=s1.heap.objs.size:=by simpa using hb
    rw[this];exact X' _
  exact I1.CQ hb' (I1.hok.fresh hb')
end
end L2
namespace L2
open PySem PySem.Spec PyProof.Rows
structure qZ (z TI TO i1 i2:Addr):Prop where
 TIz:TI≠z
 TOz:TO≠z
 i1z:i1≠z
 i2z:i2≠z
 TITO:TI≠TO
 TIi1:TI≠i1
 TIi2:TI≠i2
 TOi1:TO≠i1
 TOi2:TO≠i2
 i12:i1≠i2
section
variable {X:Cx}
def Iy (z TI TO i1 i2 a b:Addr)(i:Nat)(h:Heap):Prop:=IsZip h z TI TO .none/\IsPair h TI (.ref i1) (.ref i2)/\(∃ x y,IsPair h TO x y)/\h.IsListIter i1 a i/\h.IsListIter i2 b i
theorem Bo {pins:List (Addr×Obj)}{σ:St}{H:Hp}{s:Shared}{z TI TO i1 i2 a b:Addr}{i:Nat}{xs ys:List V}(I:Inv X pins σ H s)(O:qZ z TI TO i1 i2)(st:Iy z TI TO i1 i2 a b i s.heap)(ha:aL X.K H a xs)(hb:aL X.K H b ys) :
  ZipApart z TI TO i1 i2 a b:=by
 obtain⟨hz,hTI,⟨x,y,hTO⟩,⟨o1,e1,c1,_⟩,⟨o2,e2,c2,_⟩⟩:=st;have nz:∀{c:Addr} {zs:List V},aL X.K H c zs->c≠z:=fun h=>cw (K:=X.K) I h hz (by intro q;injection q with q;exact j' q (by decide));have nT:∀{c:Addr} {zs:List V},aL X.K H c zs->c≠TO:=fun h=>cw (K:=X.K) I h hTO (by intro q;injection q with q;exact j' q (by decide));have n1:∀{c:Addr} {zs:List V},aL X.K H c zs->c≠i1:=fun h=>cw (K:=X.K) I h e1 (by rw[c1];intro q;injection q with q;exact j' q (by decide));have n2:∀{c:Addr} {zs:List V},aL X.K H c zs->c≠i2:=fun h=>cw (K:=X.K) I h e2 (by rw[c2];intro q;injection q with q;exact j' q (by decide));exact⟨O.TIz,O.TOz,O.i1z,O.i2z,O.TITO,O.TIi1,O.TIi2,O.TOi1,O.TOi2,O.i12,nz ha,nT ha,n1 ha,n2 ha,nz hb,nT hb,n1 hb,n2 hb⟩
theorem L1 {P:Program}{w:World}{K:Frag}{es:List Expr}{k:Nat}{tp:Pos}{z TI TO i1 i2:Addr}(a b:Addr)(O:qZ z TI TO i1 i2) :
  Turn P w K (.Tuple es k tp) (SO K a b) [z,TI,TO,i1,i2] z (Iy z TI TO i1 i2 a b) where
 mem:=by simp
 obj:=fun i h st c hc=>by
  obtain⟨hz,hTI,⟨x,y,hTO⟩,⟨o1,e1,_,d1⟩,⟨o2,e2,_,d2⟩⟩:=st;have hc':c=z\/c=TI\/c=TO\/c=i1\/c=i2:=by simpa using hc
  rcases hc' with rfl|rfl|rfl|rfl|rfl
  ·exact⟨_,hz,fun v q=>by
    have q':Data.fields _=Data.cell v:=q;cases q'⟩
  ·exact⟨_,hTI,fun v q=>by
    have q':Data.seq _ _=Data.cell v:=q;cases q'⟩
  ·exact⟨_,hTO,fun v q=>by
    have q':Data.seq _ _=Data.cell v:=q;cases q'⟩
  ·exact⟨o1,e1,fun v q=>by rw[d1]at q;cases q⟩
  ·exact⟨o2,e2,fun v q=>by rw[d2]at q;cases q⟩
 keep:=fun i h h' st kp=>by
  obtain⟨hz,hTI,⟨x,y,hTO⟩,h1,h2⟩:=st;exact⟨kp z (by simp) _ hz,kp TI (by simp) _ hTI,⟨x,y,kp TO (by simp) _ hTO⟩,h1.at fun o q=>kp i1 (by simp) o q,h2.at fun o q=>kp i2 (by simp) o q⟩
 item:=by
  intro X hP hw hK hc i pins s σ H E I hf st hg;subst hP hw hK;obtain⟨xs,ys,x,y,hq,hq2,hx,hy⟩:=hg;have D:=Bo I O st hq hq2;obtain⟨its,rv,p,_⟩:=I.list hq;obtain⟨its2,N8,p2,_⟩:=I.list hq2;obtain⟨u,hu,ru⟩:=rv.get hx;obtain⟨u2,hu2,VZ⟩:=N8.get hy;have h1:i<its.length:=(S'.mp hu).1;have h2:i<its2.length:=(S'.mp hu2).1;have W:=WalksT.zip2 (prog:=X.prog) (w:=X.w) (I.ok.hd hc) z TI TO i1 i2 a b D its.toArray its2.toArray;obtain⟨hz,hTI,hTO,g1,g2⟩:=st;refine W.item i s _ _ (by simp;omega) ⟨hz,hTI,hTO,g1,g2,p.isList,p2.isList⟩ fun T vals h' tk hv hT ht mid kk=>?_;refine⟨_,rfl,?_⟩;obtain⟨x',y',hx',hy',rfl⟩:=hv;have ex:x'=u:=by
   have:its[i]? = some x':=by simpa using hx'
   rw[hu]at this;exact(W' this).symm
  have ey:y'=u2:=by
   have:its2[i]? = some y':=by simpa using hy'
   rw[hu2]at this;exact(W' this).symm
  subst ex ey;have sub:∀ c∈[z,TO,i1,i2],c∈[z,TI,TO,i1,i2]:=fun c hc=>by
   have:c=z\/c=TO\/c=i1\/c=i2:=by simpa using hc
   simp;rcases this with r|r|r|r <;> simp[r]
  have fw:∀ c∈[z,TO,i1,i2],iZ X pins H c:=fun c hc=>hf c (sub c hc);have I1:Inv X pins σ (upd H T (.tup [x,y])) { s with heap:=h',toks:=tk }:=by
   refine I.Ei (vals:=[x',y']) fw hT (by simpa using ht) (.cons ru (.cons VZ .nil)) (by show 2<=sizeLine;decide) kk fun c hc=>?_;obtain⟨m1,_,⟨_,_,m2⟩,⟨o1,m3,_⟩,⟨o2,m4,_⟩,_⟩:=mid;have:c=z\/c=TO\/c=i1\/c=i2:=by simpa using hc
   rcases this with rfl|rfl|rfl|rfl
   ·exact⟨_,m1⟩
   ·exact⟨_,m2⟩
   ·exact⟨_,m3⟩
   ·exact⟨_,m4⟩
  have LX:H T=none:=I.hok.fresh hT;have neT:∀ c∈[z,TI,TO,i1,i2],c≠T:=fun c hc q=>by
   subst q;have:c=TI\/c∈[z,TO,i1,i2]:=by
    have:c=z\/c=TI\/c=TO\/c=i1\/c=i2:=by simpa using hc
    simp;rcases this with r|r|r|r|r <;> simp[r]
   rcases this with r|r
   ·subst r;exact j' (Ze' (Zb' hTI) hT) (Nat.lt_irrefl _)
   ·exact W.apart i c _ mid r
  refine W.go es k tp i T _ _ _ mid fun h'' st'' Qu=>?_;have hf2:∀ c∈[z,TI,TO,i1,i2],iZ X pins (upd H T (.tup [x,y])) c:=fun c hc=>by
   obtain⟨f0,fr⟩:=hf c hc;exact⟨by rw[ak (neT c hc)];exact f0,fr⟩
  obtain⟨s1,s2,s3,s4,s5,_⟩:=st'';refine⟨.ref T,upd H T (.tup [x,y]),I1.gp (tk:=tk) (fun c hc=>hf2 c (sub c hc)) Qu,rfl,⟨x,y,T,rfl,LX,l9 I hq hx,l9 I hq2 hy,rfl⟩,⟨s1,s2,s3,s4,s5⟩,fun c hc=>(hf2 c hc).1⟩
 done:=by
  intro X hP hw hK hc i pins s σ H E I hf st hg;subst hP hw hK;obtain⟨xs,ys,hq,hq2,hx⟩:=hg;have D:=Bo I O st hq hq2;obtain⟨its,rv,p,_⟩:=I.list hq;obtain⟨its2,N8,p2,_⟩:=I.list hq2;have W:=WalksT.zip2 (prog:=X.prog) (w:=X.w) (I.ok.hd hc) z TI TO i1 i2 a b D its.toArray its2.toArray;obtain⟨hz,hTI,hTO,g1,g2⟩:=st;have e:min its.toArray.size its2.toArray.size=i:=by
   rw[Zm',Zm',<-rv.length,<-N8.length];exact hx
  refine W.done s _ _ (by rw[e];exact⟨hz,hTI,hTO,g1,g2,p.isList,p2.isList⟩) fun h' tk kk=>?_;refine⟨rfl,I.gp (tk:=tk) (wr:=[z,TO,i1,i2]) (fun c hc=>hf c ?_) kk⟩;have:c=z\/c=TO\/c=i1\/c=i2:=by simpa using hc
  simp;rcases this with r|r|r|r <;> simp[r]
 self:=fun _ i s _ _ st h=>by
  obtain⟨hz,_⟩:=st;exact wpAny_pyIter_zip hz h
inductive Pq (K:Frag)(R:(It->Hp->Prop))(x:V)(y:V)(H2:Hp):Prop
 |mk (a:_) (b:_) (cL:x=.ref a) (cM:y=.ref b) (dA:(∃ xs,aL K H2 a xs)/\(∃ ys,aL K H2 b ys)/\R (SO K a b) H2):Pq K R x y H2
def V0 (K:Frag)(tl tm:TE):TI:=fun σ H R=>tl σ H fun x H1=>tm σ H1 fun y H2=>Pq K R x y H2
theorem L3 {l m:Expr}{tl tm:TE}(hl:PE X l tl)(hm:PE X m tm)(hs:starEach [l,m] X.env=[(false,eval l X.env),(false,eval m X.env)])(hs2:starEach [m] X.env=[(false,eval m X.env)])(pos:Pos)(pins:List (Addr×Obj))(s:Shared)(σ:St)(H:Hp){Q:V->V->Hp->Prop}(I:Inv X pins σ H s)(h:tl σ H fun x H1=>tm σ H1 fun y H2=>Q x y H2) :
  wpAny (model X.prog X.w) X.A (spliced (backTo pos (starEach [l,m] X.env))) (fun us s1=>∃ x y u v H1,Inv X pins σ H1 s1/\us=[u,v]/\RelV x u/\RelV y v/\Q x y H1) X.xe s:=by
 have he:PE X l (fun σ' H' Q'=>σ'=σ/\H'=H/\∀ x H1,(tm σ H1 fun y H2=>Q x y H2)->Q' x H1):=by
  intro pins s σ' H' Q' I' hw;obtain⟨rfl,rfl,k⟩:=hw;exact bS (hl pins s σ' H' _ I' h) fun u s1 ⟨v,H1,I1,r,q⟩=>⟨v,H1,I1,r,k v H1 q⟩
 have hf:PE X m (fun σ' H' Q'=>∃ x,σ'=σ/\(tm σ H' fun y H2=>Q x y H2)/\∀ y H2,Q x y H2->Q' y H2):=by
  intro pins s σ' H' Q' I' hw;obtain⟨x,rfl,hh,k⟩:=hw;exact bS (hm pins s σ' H' _ I' hh) fun u s1 ⟨v,H1,I1,r,q⟩=>⟨v,H1,I1,r,k v H1 q⟩
 have main:=aa he (aa hf af hs2) (by rw[hs,hs2]) pos pins s σ H (fun vs H2=>∃ x y,vs=[x,y]/\Q x y H2) I ⟨rfl,rfl,fun x H1 q=>⟨x,rfl,q,fun y H2 q2=>⟨x,y,rfl,q2⟩⟩⟩;refine bS main fun us s1 fu=>?_;obtain⟨vs,H1,I1,r,x,y,e,q⟩:=fu;subst e;obtain⟨u,v,rfl,r1,r2⟩:=r.two;exact⟨x,y,u,v,H1,I1,rfl,r1,r2,q⟩
theorem Qw {l m:Expr}{tl tm:TE}{p pos tp:Pos}{es:List Expr}{k:Nat}(hg:Gl X "zip")(hz:X.mg "zip"=none)(hl:PE X l tl)(hm:PE X m tm)(hs:starEach [l,m] X.env=[(false,eval l X.env),(false,eval m X.env)]:=by rfl)(hs2:starEach [m] X.env=[(false,eval m X.env)]:=by rfl) :
  PI X (.Tuple es k tp) (.Call (.Name "zip" p) [l,m] [] pos) (V0 X.K tl tm):=by
 intro pins s σ H R I h;refine Call_ (lL I hg hz LY (PyProof.Rows.callWith_type1 (bS (L3 hl hm hs hs2 pos pins s σ H I h) fun us s1 ⟨x,y,u,v,H1,I1,e1,r1,r2,q1⟩=>?_) (by rw[hs,hs2]) (by rw[hs2];rfl)));obtain⟨a,b,rfl,rfl,⟨xs,hq⟩,⟨ys,hq2⟩,q⟩:=q1;subst e1;cases r1;cases r2;obtain⟨its,rv,pl,_⟩:=I1.list hq;obtain⟨its2,N8,SR,_⟩:=I1.list hq2;refine call_zip_2 pl.isList SR.isList fun h' z1 z2 z3 z4 z5 hsz kk=>?_;refine wpAny_pyIter_zip z1 ?_;have O:qZ (s1.heap.objs.size+4) (s1.heap.objs.size+2) (s1.heap.objs.size+3) s1.heap.objs.size (s1.heap.objs.size+1):=by
  constructor <;> exact(by intro q;have q':(_:Nat)=_:=q;omega)
 refine⟨_,[s1.heap.objs.size+4,s1.heap.objs.size+2,s1.heap.objs.size+3,s1.heap.objs.size,s1.heap.objs.size+1],_,_,H1,rfl,I1.kept (t':=s1.toks) kk,L1 a b O,⟨z1,z2,⟨_,_,z3⟩,z4,z5⟩,fun c hc=>?_,q⟩;have hc':s1.heap.objs.size<=c:=by
  have:c=s1.heap.objs.size+4\/c=s1.heap.objs.size+2\/c=s1.heap.objs.size+3\/c=s1.heap.objs.size\/c=s1.heap.objs.size+1:=by simpa using hc
  rcases this with r|r|r|r|r <;> (rw[r];first|exact Nat.le_add_right _ _|exact X' _)
 exact I1.CQ hc' (I1.hok.fresh hc')
end
end L2
namespace L2
open PySem
abbrev L4 (J:It)(g:TG)(tc:TT)(te:TE)(D:Addr)(R:Hp->Prop)(σ:St)(H:Hp):Prop:=∃ W:Nat->Nat->List V->St->Hp->Prop,(∃ m,W 0 m [] σ H)/\∀ i m ys σ H,W i m ys σ H ->
  (J.stop i H/\R H)\/(J.go i H/\∀ x H',J.JL i H x H'->g x σ H' fun σ2 H2=>tc σ2 H2 fun ok H3 =>
   if ok=true then te σ2 H3 fun y H4=>H4 D=some (.lst ys)/\ys.length<sizeLine/\∃ m',m'<m/\W (i+1) m' (ys++[y]) σ2 (upd H4 D (.lst (ys++[y])))
   else ∃ m',m'<m/\W (i+1) m' ys σ2 H3)
abbrev Bp (g:TG)(tc:TT)(te:TE)(D:Addr)(ys:List V)(x:V)(σ:St)(H:Hp)(N:List V->St->Hp->Prop):Prop :=
 g x σ H fun σ2 H2=>tc σ2 H2 fun ok H3=>if ok=true then te σ2 H3 fun y H4=>H4 D=some (.lst ys)/\ys.length<sizeLine/\N (ys++[y]) σ2 (upd H4 D (.lst (ys++[y]))) else N ys σ2 H3
theorem yF {lo:Int}{n:Nat}{g:TG}{tc:TT}{te:TE}{D:Addr}{R:Hp->Prop}{σ:St}{H:Hp}(Pv:Nat->List V->St->Hp->Prop)(h0:Pv 0 [] σ H)
  (hs:∀ i ys σ H,i<n->Pv i ys σ H->∀ N:List V->St->Hp->Prop,(∀ ys σ H,Pv (i+1) ys σ H->N ys σ H)->Bp g tc te D ys (.int (lo+i)) σ H N) (hd:∀ ys σ H,Pv n ys σ H->R H):L4 (O8 lo n) g tc te D R σ H:=by
 refine⟨fun i m ys σ H=>m=n-i/\i<=n/\Pv i ys σ H,⟨n,by simp,Nat.zero_le _,h0⟩,?_⟩;rintro i m ys σ H ⟨rfl,hi,p⟩
 by_cases hlt:i<n
 ·refine .inr ⟨hlt,fun x H' y=>?_⟩;obtain⟨e,y⟩:=y;subst e y;exact hs i ys σ _ hlt p (fun ys' σ' H'=>∃ m',m'<n-i/\m'=n-(i+1)/\i+1<=n/\Pv (i+1) ys' σ' H') fun ys' σ' H' q=>⟨n-(i+1),by omega,rfl,hlt,q⟩
 ·have e:i=n:=by omega
  subst e;exact .inl ⟨X' _,hd ys σ H p⟩
theorem dH {K:Frag}{a:Addr}{xs:List V}{g:TG}{tc:TT}{te:TE}{D:Addr}{R:Hp->Prop}{σ:St}{H:Hp}(Pv:Nat->List V->St->Hp->Prop)(h0:Pv 0 [] σ H)(hl:∀ i ys σ H,Pv i ys σ H->aL K H a xs)
  (hs:∀ i ys x σ H,xs[i]? = some x->Pv i ys σ H->∀ N:List V->St->Hp->Prop,(∀ ys σ H,Pv (i+1) ys σ H->N ys σ H)->Bp g tc te D ys x σ H N) (hd:∀ ys σ H,Pv xs.length ys σ H->R H):L4 (RT K a) g tc te D R σ H:=by
 refine⟨fun i m ys σ H=>m=xs.length-i/\i<=xs.length/\Pv i ys σ H,⟨xs.length,by simp,Nat.zero_le _,h0⟩,?_⟩;rintro i m ys σ H ⟨rfl,hi,p⟩;have q:=hl i ys σ H p
 by_cases hlt:i<xs.length
 ·refine .inr ⟨⟨xs,xs[i],q,by simp[hlt]⟩,fun x H' y=>?_⟩;obtain⟨e,y⟩:=y;subst e;exact hs i ys x σ _ (y xs q) p (fun ys' σ' H'=>∃ m',m'<xs.length-i/\m'=xs.length-(i+1)/\i+1<=xs.length/\Pv (i+1) ys' σ' H') fun ys' σ' H' q=>⟨xs.length-(i+1),by omega,rfl,hlt,q⟩
 ·have e:i=xs.length:=by omega
  subst e;exact .inl ⟨⟨xs,q,X' _⟩,hd ys σ H p⟩
theorem yG {z:Str}{g:TG}{tc:TT}{te:TE}{D:Addr}{R:Hp->Prop}{σ:St}{H:Hp}(Pv:Nat->List V->St->Hp->Prop)(h0:Pv 0 [] σ H)
  (hs:∀ i ys c σ H,z.cps[i]? = some c->Pv i ys σ H->∀ N:List V->St->Hp->Prop,(∀ ys σ H,Pv (i+1) ys σ H->N ys σ H)->Bp g tc te D ys (.str ⟨#[c]⟩) σ H N) (hd:∀ ys σ H,Pv z.cps.size ys σ H->R H):L4 (RU z) g tc te D R σ H:=by
 refine⟨fun i m ys σ H=>m=z.cps.size-i/\i<=z.cps.size/\Pv i ys σ H,⟨z.cps.size,by simp,Nat.zero_le _,h0⟩,?_⟩;rintro i m ys σ H ⟨rfl,hi,p⟩
 by_cases hlt:i<z.cps.size
 ·refine .inr ⟨hlt,fun x H' y=>?_⟩;obtain⟨e,c,hc,y⟩:=y;subst e y;exact hs i ys c σ _ hc p (fun ys' σ' H'=>∃ m',m'<z.cps.size-i/\m'=z.cps.size-(i+1)/\i+1<=z.cps.size/\Pv (i+1) ys' σ' H') fun ys' σ' H' q=>⟨z.cps.size-(i+1),by omega,rfl,hlt,q⟩
 ·have e:i=z.cps.size:=by omega
  subst e;exact .inl ⟨X' _,hd ys σ H p⟩
theorem sF {K:Frag}{a:Addr}{xs:List V}{g:TG}{tb:TS}{D:Ends}{σ:St}{H:Hp}(Pv:Nat->St->Hp->Prop)(h0:Pv 0 σ H)(hl:∀ i σ H,Pv i σ H->aL K H a xs)
  (hs:∀ i x t σ H,xs[i]? = some x->Pv i σ H->H t=none->g (.ref t) σ (upd H t (.tup [.int i,x])) fun σ2 H2=>tb { D with nx:=Pv (i+1),ct:=Pv (i+1),bk:=D.nx } σ2 H2) (hd:∀ σ H,Pv xs.length σ H->D.nx σ H) :
  ∃ W:Nat->Nat->St->Hp->Prop,(∃ m,W 0 m σ H)/\∀ i m σ H,W i m σ H ->
   ((SN K a).stop i H/\D.nx σ H)\/((SN K a).go i H/\∃ N:St->Hp->Prop,(∀ σ' H',N σ' H'->∃ m',m'<m/\W (i+1) m' σ' H')/\∀ x H',(SN K a).JL i H x H'->g x σ H' fun σ2 H2=>tb { D with nx:=N,ct:=N,bk:=D.nx } σ2 H2):=by
 refine⟨fun i m σ H=>m=xs.length-i/\i<=xs.length/\Pv i σ H,⟨xs.length,by simp,Nat.zero_le _,h0⟩,?_⟩;rintro i m σ H ⟨rfl,hi,p⟩;have q:=hl i σ H p
 by_cases hlt:i<xs.length
 ·refine .inr ⟨⟨xs,xs[i],q,by simp[hlt]⟩,Pv (i+1),fun σ' H' p'=>⟨xs.length-(i+1),by omega,rfl,hlt,p'⟩,fun x H' y=>?_⟩;obtain⟨y0,t,rfl,hn,hy,rfl⟩:=y;exact hs i y0 t σ H (hy xs q) p hn
 ·have e:i=xs.length:=by omega
  subst e;exact .inl ⟨⟨xs,q,X' _⟩,hd σ H p⟩
theorem N9 {K:Frag}{a b:Addr}{xs ys:List V}{g:TG}{tb:TS}{D:Ends}{σ:St}{H:Hp}(Pv:Nat->St->Hp->Prop)(he:xs.length=ys.length)(h0:Pv 0 σ H)(hl:∀ i σ H,Pv i σ H->aL K H a xs/\aL K H b ys)
  (hs:∀ i x y t σ H,xs[i]? = some x->ys[i]? = some y->Pv i σ H->H t=none->g (.ref t) σ (upd H t (.tup [x,y])) fun σ2 H2=>tb { D with nx:=Pv (i+1),ct:=Pv (i+1),bk:=D.nx } σ2 H2) (hd:∀ σ H,Pv xs.length σ H->D.nx σ H) :
  ∃ W:Nat->Nat->St->Hp->Prop,(∃ m,W 0 m σ H)/\∀ i m σ H,W i m σ H ->
   ((SO K a b).stop i H/\D.nx σ H)\/((SO K a b).go i H/\∃ N:St->Hp->Prop,(∀ σ' H',N σ' H'->∃ m',m'<m/\W (i+1) m' σ' H')/\∀ x H',(SO K a b).JL i H x H'->g x σ H' fun σ2 H2=>tb { D with nx:=N,ct:=N,bk:=D.nx } σ2 H2):=by
 refine⟨fun i m σ H=>m=xs.length-i/\i<=xs.length/\Pv i σ H,⟨xs.length,by simp,Nat.zero_le _,h0⟩,?_⟩;rintro i m σ H ⟨rfl,hi,p⟩;obtain⟨q,q2⟩:=hl i σ H p
 by_cases hlt:i<xs.length
 ·have hlt2:i<ys.length:=by omega
  refine .inr ⟨⟨xs,ys,xs[i],ys[i],q,q2,by simp[hlt],by simp[hlt2]⟩,Pv (i+1),fun σ' H' p'=>⟨xs.length-(i+1),by omega,rfl,hlt,p'⟩,fun x H' y=>?_⟩;obtain⟨x0,y0,t,rfl,hn,hx,hy,rfl⟩:=y;exact hs i x0 y0 t σ H (hx xs q) (hy ys q2) p hn
 ·have e:i=xs.length:=by omega
  subst e;exact .inl ⟨⟨xs,ys,q,q2,by omega⟩,hd σ H p⟩
end L2
namespace L2
open PySem
theorem bT {j:Nat}{te:TE}{D:Addr}{ys:List V}{x:V}{σ:St}{H:Hp}{N:List V->St->Hp->Prop}
  (h:te (σ.set j (some x)) H fun y H4=>H4 D=some (.lst ys)/\ys.length<sizeLine/\N (ys++[y]) (σ.set j (some x)) (upd H4 D (.lst (ys++[y])))):Bp (vQ j) Qn te D ys x σ H N:=by
 unfold Bp vQ Qn;exact(Zc' (rfl:true=true)).mpr h
end L2
namespace L2
open PySem PySem.Spec PyProof.Rows
open Sem (wp)
abbrev q8 (h:Heap)(z TI TO:Addr)(f0 f1:Value):Prop :=
 h.get? z=some { cls:=.type "zip",dict:=none,data:=.fields #[f0,f1,.bool false,.ref TI,.ref TO],slots:=#[] }
def Loose (f0 f1:Value):Prop:=(f0=.none\/∃ a:Nat,f0=rawInt (a:Int))/\∃ b,f1=.bool b
section
variable {prog:Program} {w:World} {A:Around} {E:Value->Shared->Prop} {s:Shared}
theorem J0 {a:Addr}{Q:Option Obj->Shared->Prop}(h:∀ o,Q o s):wpAny (model prog w) A (loadIfAlive a) Q E s:=fun _ _ _=>h _
theorem Ek {z TI TO:Addr}{f0 f1:Value}{Q:Bool->Shared->Prop}(hz:q8 s.heap z TI TO f0 f1)(hf:Loose f0 f1)
  (hQ:∀(r:Bool)(h':Heap)(g1:Value),q8 h' z TI TO f0 g1->Loose f0 g1->Heap.SameBut z s.heap h'->Q r { s with heap:=h' }) :
  wpAny (model prog w) A (Builtin.SmallTypes.ownedTupleIsFree (.ref z)) Q E s:=by
 unfold Builtin.SmallTypes.ownedTupleIsFree;refine K' (wpAny_field hz rfl (x:=f0) rfl ?_);obtain⟨YO,b,rfl⟩:=hf;rcases YO with rfl|⟨a,rfl⟩
 ·exact Z' (hQ true s.heap _ hz ⟨.inl rfl,b,rfl⟩ ⟨rfl,fun _ _=>rfl⟩)
 ·show wpAny _ _ (loadIfAlive ((a:Int).toNat) >>= _) _ _ _;refine K' (J0 fun o=>?_);cases o with
  |none =>
   simp only [Option.isNone_none,if_true];exact Z' (hQ true s.heap _ hz ⟨.inr ⟨a,rfl⟩,b,rfl⟩ ⟨rfl,fun _ _=>rfl⟩)
  |some o =>
   simp only [Option.isNone_some,Bool.false_eq_true,if_false];refine K' (wpAny_field hz rfl (x:=.bool b) rfl ?_);cases b with
   |true =>
    exact Z' (hQ false s.heap _ hz ⟨.inr ⟨a,rfl⟩,true,rfl⟩ ⟨rfl,fun _ _=>rfl⟩)
   |false =>
    show wpAny _ _ (setField (.ref z) 1 (.bool true) >>= _) _ _ _;refine K' (wpAny_setField_rec hz (by simp) fun h₁ hz₁ hs₁=>?_);exact Z' (hQ false h₁ _ hz₁ ⟨.inr ⟨a,rfl⟩,true,rfl⟩ hs₁)
theorem J1 {z TI TO i1 i2 l1 l2:Addr}{k1 k2:Nat}{xs ys:Array Value}{x y a b f0 f1:Value}{Q:Value->Shared->Prop}(D:ZipApart z TI TO i1 i2 l1 l2)
  (hz:q8 s.heap z TI TO f0 f1) (hf:Loose f0 f1) (hTI:IsPair s.heap TI (.ref i1) (.ref i2)) (hTO:IsPair s.heap TO a b)
  (h1:s.heap.IsListIter i1 l1 k1) (h2:s.heap.IsListIter i2 l2 k2) (hl1:s.heap.IsList l1 xs) (hl2:s.heap.IsList l2 ys) (hx:xs[k1]? = some x) (hy:ys[k2]? = some y)
  (hQ:∀ h',(∃ g0 g1,q8 h' z TI TO g0 g1/\Loose g0 g1)->(∃ a b,IsPair h' TO a b)->h'.IsListIter i1 l1 (k1+1)->h'.IsListIter i2 l2 (k2+1)->IsPair h' s.heap.objs.size x y->h'.objs.size=s.heap.objs.size+1 ->
   (∀ c o,c≠z->c≠TO->c≠i1->c≠i2->s.heap.get? c=some o->h'.get? c=some o)->Q (.ref s.heap.objs.size) { s with heap:=h' }) :
  wpAny (model prog w) A (Builtin.«zip.__next__» ⟨[.ref z],[]⟩) (fun fin s'=>∃ v,fin=.done (.ret v)/\Q v s') E s:=by
 show wpAny _ _ (field (.ref z) 2 >>= _) _ _ _;refine K' (wpAny_field hz rfl (x:=.bool false) rfl ?_);show wpAny _ _ (field (.ref z) 3 >>= _) _ _ _;refine K' (wpAny_field hz rfl (x:=.ref TI) rfl ?_);refine K' (wpAny_seqItems hTI rfl ?_);show wpAny _ _ (Builtin.SmallTypes.ownedTupleIsFree (.ref z) >>= _) _ _ _;refine K' (Ek hz hf fun r h₀ g1 RV hl₀ hs₀=>?_);cases r with
 |true =>
  simp only [if_true];refine K' (wpAny_rule ?_);refine K' (wpAny_field RV rfl (x:=.ref TO) rfl ?_);refine K' (wpAny_setField_rec RV (by simp) fun h₁ hz₁ L5=>?_)
  replace hz₁:q8 h₁ z TI TO .ellipsis g1:=hz₁
  have hs₁:Heap.SameBut z s.heap h₁:=⟨L5.1.trans hs₀.1,fun c hc=>(L5.2 c hc).trans (hs₀.2 c hc)⟩;refine K' ?_;simp only [List.zipIdx_cons,List.zipIdx_nil,List.forIn_cons,List.forIn_nil];refine K' (K' (wpAny_onRaise ?_));show wpAny _ _ (Builtin.SmallTypes.nextOf (.ref i1) >>= _) _ _ _;refine K' (wpAny_nextOf_list_item (h1.extBut hs₁.extBut D.i1z) (hl1.extBut hs₁.extBut D.l1z) hx fun h₂ h1₂ hs₂=>Z' ?_);have hTO₂:IsPair h₂ TO a b:=hs₂.extBut _ _ D.TOi1 (hs₁.extBut _ _ D.TOz hTO);refine K' (wpAny_seqItems hTO₂ rfl ?_);refine K' (wpAny_updateSeq_pair hTO₂ fun h₃ hTO₃ hs₃=>?_)
  replace hTO₃:IsPair h₃ TO x b:=hTO₃
  refine K' (wpAny_letGo (Z' ?_));refine K' (K' (wpAny_onRaise ?_));show wpAny _ _ (Builtin.SmallTypes.nextOf (.ref i2) >>= _) _ _ _;refine K' (wpAny_nextOf_list_item (((h2.extBut hs₁.extBut D.i2z).extBut hs₂.extBut D.i12.symm).extBut hs₃.extBut D.TOi2.symm)
   (((hl2.extBut hs₁.extBut D.l2z).extBut hs₂.extBut D.l2i1).extBut hs₃.extBut D.l2TO) hy fun h₄ h2₄ hs₄=>Z' ?_)
  have hTO₄:IsPair h₄ TO x b:=hs₄.extBut _ _ D.TOi2 hTO₃;refine K' (wpAny_seqItems hTO₄ rfl ?_);refine K' (wpAny_updateSeq_pair hTO₄ fun h₅ hTO₅ hs₅=>?_)
  replace hTO₅:IsPair h₅ TO x y:=hTO₅
  refine K' (wpAny_letGo (Z' (Z' ?_)));refine K' (wpAny_seqItems hTO₅ rfl ?_);refine K' (wpAny_newTuple ?_);have hsz:h₅.objs.size=s.heap.objs.size:=by rw[hs₅.1,hs₄.1,hs₃.1,hs₂.1,hs₁.1]
  have hz₅:q8 h₅ z TI TO .ellipsis g1:=hs₅.extBut _ _ D.TOz.symm (hs₄.extBut _ _ D.i2z.symm (hs₃.extBut _ _ D.TOz.symm (hs₂.extBut _ _ D.i1z.symm hz₁)));have hk₅:∀ c o,c≠z->c≠TO->c≠i1->c≠i2->s.heap.get? c=some o->h₅.get? c=some o:=fun c o c1 c2 c3 c4 e =>
   hs₅.extBut _ _ c2 (hs₄.extBut _ _ c4 (hs₃.extBut _ _ c2 (hs₂.extBut _ _ c3 (hs₁.extBut _ _ c1 e))))
  have h1₅:h₅.IsListIter i1 l1 (k1+1):=((h1₂.extBut hs₃.extBut D.TOi1.symm).extBut hs₄.extBut D.i12).extBut hs₅.extBut D.TOi1.symm;have h2₅:h₅.IsListIter i2 l2 (k2+1):=h2₄.extBut hs₅.extBut D.TOi2.symm;have hzlt:z<h₅.objs.size:=Zb' hz₅;show wpAny _ _ (Builtin.SmallTypes.ownedTupleHandOut (.ref z) (.ref h₅.objs.size) >>= _) _ _ _;refine K' ?_;unfold Builtin.SmallTypes.ownedTupleHandOut;have hz₆:q8 (h₅.push { cls:=.type "tuple",data:=.seq #[x,y] }) z TI TO .ellipsis g1:=U' _ hz₅;refine K' (wpAny_setField_rec hz₆ (by simp) fun h₇ hz₇ hs₇=>?_)
  replace hz₇:q8 h₇ z TI TO (rawInt h₅.objs.size) g1:=hz₇
  refine wpAny_setField_rec hz₇ (by simp) fun h₈ hz₈ hs₈=>?_
  replace hz₈:q8 h₈ z TI TO (rawInt h₅.objs.size) (.bool false):=hz₈
  have up:∀ c o,c≠z->h₅.get? c=some o->h₈.get? c=some o:=fun c o c1 e=>hs₈.extBut _ _ c1 (hs₇.extBut _ _ c1 (U' _ e));have hT₈:IsPair h₈ h₅.objs.size x y:=hs₈.extBut _ _ (Nat.ne_of_gt hzlt) (hs₇.extBut _ _ (Nat.ne_of_gt hzlt) (Zi' _ rfl));have hz8:h₈.objs.size=h₅.objs.size+1:=by rw[hs₈.1,hs₇.1,Heap.size_push]
  have hloose:∃ g0 g1,q8 h₈ z TI TO g0 g1/\Loose g0 g1:=⟨_,_,hz₈,.inr ⟨_,rfl⟩,_,rfl⟩;rw[hsz]at hT₈ hz8;refine Z' ⟨_,rfl,?_⟩;show Q (.ref h₅.objs.size) _;rw[hsz];exact hQ h₈ hloose ⟨_,_,up _ _ D.TOz hTO₅⟩ (h1₅.at fun o e=>up _ o D.i1z e) (h2₅.at fun o e=>up _ o D.i2z e) hT₈ hz8 fun c o c1 c2 c3 c4 e=>up c o c1 (hk₅ c o c1 c2 c3 c4 e)
 |false =>
  simp only [Bool.false_eq_true,if_false];have hs₁:=hs₀;refine K' ?_;rw[<-Array.forIn_toList];simp only [List.forIn_cons,List.forIn_nil];refine K' (K' (wpAny_holding ?_));show wpAny _ _ (Builtin.SmallTypes.nextOf (.ref i1) >>= _) _ _ _;refine K' (wpAny_nextOf_list_item (h1.extBut hs₁.extBut D.i1z) (hl1.extBut hs₁.extBut D.l1z) hx fun h₂ h1₂ hs₂=>Z' (Z' ?_));refine K' (K' (wpAny_holding ?_));show wpAny _ _ (Builtin.SmallTypes.nextOf (.ref i2) >>= _) _ _ _;refine K' (wpAny_nextOf_list_item ((h2.extBut hs₁.extBut D.i2z).extBut hs₂.extBut D.i12.symm)
   ((hl2.extBut hs₁.extBut D.l2z).extBut hs₂.extBut D.l2i1) hy fun h₄ h2₄ hs₄=>Z' (Z' (Z' ?_)))
  have hsz:h₄.objs.size=s.heap.objs.size:=by rw[hs₄.1,hs₂.1,hs₁.1]
  refine K' (wpAny_newTuple (hsz:=by show 2<=sizeLine;decide) ?_);have up:∀ c o,c≠z->c≠i1->c≠i2->s.heap.get? c=some o->(h₄.push { cls:=.type "tuple",data:=.seq #[x,y] }).get? c=some o:=fun c o c1 c3 c4 e =>
   U' _ (hs₄.extBut _ _ c4 (hs₂.extBut _ _ c3 (hs₁.extBut _ _ c1 e)))
  have hz₄:q8 (h₄.push { cls:=.type "tuple",data:=.seq #[x,y] }) z TI TO f0 g1:=U' _ (hs₄.extBut _ _ D.i2z.symm (hs₂.extBut _ _ D.i1z.symm RV));have hT₈:IsPair (h₄.push { cls:=.type "tuple",data:=.seq #[x,y] }) h₄.objs.size x y:=Zi' _ rfl;have hz8:(h₄.push { cls:=.type "tuple",data:=.seq #[x,y] }).objs.size=h₄.objs.size+1:=Heap.size_push ..;refine Z' ⟨_,rfl,?_⟩;show Q (.ref h₄.objs.size) { s with heap:=h₄.push { cls:=.type "tuple",data:=.seq #[x,y] } };rw[hsz]at hT₈ hz8 ⊢;exact hQ _ ⟨_,_,hz₄,hl₀⟩ ⟨a,b,up _ _ D.TOz D.TOi1 D.TOi2 hTO⟩ ((h1₂.extBut hs₄.extBut D.i12).at fun o e=>U' _ e) (h2₄.at fun o e=>U' _ e) hT₈ hz8 fun c o c1 _ c3 c4 e=>up c o c1 c3 c4 e
theorem L7 {z TI TO i1 i2 l1 l2:Addr}{k1:Nat}{xs:Array Value}{a b f0 f1:Value}{Q:Fin->Shared->Prop}(hh:A.handled=none)(D:ZipApart z TI TO i1 i2 l1 l2)
  (hz:q8 s.heap z TI TO f0 f1) (hf:Loose f0 f1) (hTI:IsPair s.heap TI (.ref i1) (.ref i2)) (hTO:IsPair s.heap TO a b)
  (h1:s.heap.IsListIter i1 l1 k1) (hl1:s.heap.IsList l1 xs) (hend:xs[k1]? = none)
  (hE:∀ h' e,(∀ c o,c≠z->c≠TO->c≠i1->c≠i2->s.heap.get? c=some o->h'.get? c=some o)->(∃ o,h'.get? e=some o/\o.cls=.type "StopIteration")->E (.ref e) { s with heap:=h' }) :
  wpAny (model prog w) A (Builtin.«zip.__next__» ⟨[.ref z],[]⟩) Q E s:=by
 show wpAny _ _ (field (.ref z) 2 >>= _) _ _ _;refine K' (wpAny_field hz rfl (x:=.bool false) rfl ?_);show wpAny _ _ (field (.ref z) 3 >>= _) _ _ _;refine K' (wpAny_field hz rfl (x:=.ref TI) rfl ?_);refine K' (wpAny_seqItems hTI rfl ?_);show wpAny _ _ (Builtin.SmallTypes.ownedTupleIsFree (.ref z) >>= _) _ _ _;refine K' (Ek hz hf fun r h₀ g1 RV hl₀ hs₀=>?_);cases r with
 |true =>
  simp only [if_true];refine K' (wpAny_rule ?_);refine K' (wpAny_field RV rfl (x:=.ref TO) rfl ?_);refine K' (wpAny_setField_rec RV (by simp) fun h₁ hz₁ L5=>?_)
  replace hz₁:q8 h₁ z TI TO .ellipsis g1:=hz₁
  have hs₁:Heap.SameBut z s.heap h₁:=⟨L5.1.trans hs₀.1,fun c hc=>(L5.2 c hc).trans (hs₀.2 c hc)⟩;refine K' ?_;simp only [List.zipIdx_cons,List.zipIdx_nil,List.forIn_cons,List.forIn_nil];refine K' (K' (wpAny_onRaise ?_));show wpAny _ _ (Builtin.SmallTypes.nextOf (.ref i1) >>= _) _ _ _;refine K' (wpAny_nextOf_list_end hh (h1.extBut hs₁.extBut D.i1z) (hl1.extBut hs₁.extBut D.l1z) hend fun h₂ e hs₂ he=>?_);obtain⟨oe,hoe,hce⟩:=he;have hz₂:q8 h₂ z TI TO .ellipsis g1:=hs₂ _ _ D.i1z.symm hz₁;have hez:e≠z:=fun x=>by subst x;rw[hz₂]at hoe;cases hoe;simp at hce
  refine wpAny_setField_rec hz₂ (by simp) fun h₃ _ hs₃=>hE h₃ e (fun c o c1 _ c3 _ x=>hs₃.extBut _ _ c1 (hs₂ _ _ c3 (hs₁.extBut _ _ c1 x))) ⟨oe,hs₃.extBut _ _ hez hoe,hce⟩
 |false =>
  simp only [Bool.false_eq_true,if_false];refine K' ?_;rw[<-Array.forIn_toList];simp only [List.forIn_cons,List.forIn_nil];refine K' (K' (wpAny_holding ?_));show wpAny _ _ (Builtin.SmallTypes.nextOf (.ref i1) >>= _) _ _ _;exact K' (wpAny_nextOf_list_end hh (h1.extBut hs₀.extBut D.i1z) (hl1.extBut hs₀.extBut D.l1z) hend fun h₂ e hs₂ he=>hE h₂ e (fun c o c1 _ c3 _ x=>hs₂ _ _ c3 (hs₀.extBut _ _ c1 x)) he)
def L8 (z TI TO i1 i2 a b:Addr)(i:Nat)(h:Heap):Prop:=(∃ f0 f1,q8 h z TI TO f0 f1/\Loose f0 f1)/\IsPair h TI (.ref i1) (.ref i2)/\(∃ x y,IsPair h TO x y)/\h.IsListIter i1 a i/\h.IsListIter i2 b i
theorem Oa {e z TI TO i1 i2 l1 l2:Addr}{i:Nat}{xs ys:Array Value}{x y old:Value}{Q:Option Value->Shared->Prop}(D:ZipApart z TI TO i1 i2 l1 l2)(hne:∀ c∈[z,TI,TO,i1,i2],e≠c)
  (he:IsEnum s.heap e z i old) (hst:L8 z TI TO i1 i2 l1 l2 i s.heap) (hl1:s.heap.IsList l1 xs) (hl2:s.heap.IsList l2 ys) (hx:xs[i]? = some x) (hy:ys[i]? = some y)
  (hQ:∀ h' tk,IsEnumOut h' e z ((i:Int)+1) (.ref s.heap.objs.size) (s.heap.objs.size+1)->L8 z TI TO i1 i2 l1 l2 (i+1) h'->IsPair h' s.heap.objs.size x y ->
   h'.get? (s.heap.objs.size+1)=some { cls:=.type "tuple",data:=.seq #[.int i tk,.ref s.heap.objs.size] } ->
   (∀ c o,c ∉ [e,z,TO,i1,i2]->s.heap.get? c=some o->h'.get? c=some o)->Q (some (.ref (s.heap.objs.size+1))) { s with heap:=h',toks:=tk+1 }) :
  wpAny (model prog w) A (pyNext (.ref e)) Q E s:=by
 have hT:s.TypeIs (.ref e) "enumerate":=⟨_,he,rfl⟩;unfold pyNext;refine K' (wpAny_attempt (wpAny_callSpecial?_slot (name:=Str.ofString "__next__") hT slot_enumerate_next
  (wpAny_call_entry slot_enumerate_next hT PySem.F.entry_enumerate_next ?_ (PySem.F.args_enumerate_next_1 _))))
 obtain⟨hp,g,d,tk,os⟩:=s;obtain⟨⟨f0,f1,hz,hlo⟩,hTI,⟨ta,tb,hTO⟩,g1,g2⟩:=hst;have ne:=fun c hc=>(hne c hc);have ez:e≠z:=hne z (by simp);have YQ:e≠TI:=hne TI (by simp);have Xw:e≠TO:=hne TO (by simp);have Xx:e≠i1:=hne i1 (by simp);have Xy:e≠i2:=hne i2 (by simp);show wpAny _ _ (field (.ref e) 2 >>= _) _ _ _;refine K' (wpAny_field he rfl (x:=.ref z) rfl ?_);refine K' ?_;have SS:Shared.TypeIs ⟨hp,g,d,tk,os⟩ (.ref z) "zip":=⟨_,hz,rfl⟩;unfold Builtin.SmallTypes.nextOf;refine K' (wpAny_callSpecial?_slot (name:=Str.ofString "__next__") SS slot_zip_next
  (wpAny_call_entry slot_zip_next SS entry_zip_next (J1 D hz hlo hTI hTO g1 g2 hl1 hl2 hx hy fun h₁ q1 q2 q3 q4 q5 q6 q7=>Z' ?_) (PySem.F.args_zip_next_1 _)))
 replace q5:IsPair h₁ hp.objs.size x y:=q5
 replace q6:h₁.objs.size=hp.objs.size+1:=q6
 replace q7:∀ c o,c≠z->c≠TO->c≠i1->c≠i2->hp.get? c=some o->h₁.get? c=some o:=q7
 have he₁:IsEnum h₁ e z i old:=q7 e _ ez Xw Xx Xy he;have st₁:L8 z TI TO i1 i2 l1 l2 (i+1) h₁:=⟨q1,q7 TI _ D.TIz D.TITO D.TIi1 D.TIi2 hTI,q2,q3,q4⟩;show wpAny _ _ (field (.ref e) 3 >>= _) _ _ ⟨h₁,g,d,tk,os⟩;refine K' (wpAny_field he₁ rfl (x:=rawInt i) rfl ?_);show wpAny _ _ (field (.ref e) 4 >>= _) _ _ ⟨h₁,g,d,tk,os⟩;refine K' (wpAny_field he₁ rfl (x:=.none) rfl ?_);show wpAny _ _ (mkInt i >>= _) _ _ ⟨h₁,g,d,tk,os⟩;refine K' (wpAny_mkInt ?_);show wpAny _ _ (setField (.ref e) 3 (rawInt ((i:Int)+1)) >>= _) _ _ ⟨h₁,g,d,tk+1,os⟩;refine K' (wpAny_setField_rec he₁ (by simp) fun h₂ he₂ hs₂=>?_)
 replace hs₂:Heap.SameBut e h₁ h₂:=hs₂
 replace he₂:IsEnum h₂ e z ((i:Int)+1) old:=he₂
 show wpAny _ _ (setField (.ref e) 4 .none >>= _) _ _ ⟨h₂,g,d,tk+1,os⟩;refine K' (wpAny_setField_rec he₂ (by simp) fun h₃ he₃ hs₃=>?_)
 replace hs₃:Heap.SameBut e h₂ h₃:=hs₃
 replace he₃:IsEnum h₃ e z ((i:Int)+1) old:=he₃
 show wpAny _ _ (newTuple [.int i tk,.ref hp.objs.size] >>= _) _ _ ⟨h₃,g,d,tk+1,os⟩;refine K' (wpAny_newTuple ?_);have he₄:IsEnum (h₃.push { cls:=.type "tuple",data:=.seq #[.int i tk,.ref hp.objs.size] }) e z ((i:Int)+1) old:=U' _ he₃;have hsz:h₃.objs.size=hp.objs.size+1:=by rw[hs₃.1,hs₂.1,q6]
 have hel:e<hp.objs.size:=Zb' he;have ht₄:(h₃.push { cls:=.type "tuple",data:=.seq #[.int i tk,.ref hp.objs.size] }).get? (hp.objs.size+1)=some { cls:=.type "tuple",data:=.seq #[.int i tk,.ref hp.objs.size] }:=by rw[<-hsz];exact Zi' _ rfl
 have Xz:∀ c o,c≠e->h₁.get? c=some o->(h₃.push { cls:=.type "tuple",data:=.seq #[.int i tk,.ref hp.objs.size] }).get? c=some o:=fun c o hc q =>
  U' _ (hs₃.extBut c o hc (hs₂.extBut c o hc q))
 generalize h₃.push { cls:=.type "tuple",data:=.seq #[.int i tk,.ref hp.objs.size] } = h₄ at he₄ ht₄ Xz;show wpAny _ _ (Builtin.SmallTypes.ownedTupleIsFree (.ref e) >>= _) _ _ ⟨h₄,g,d,tk+1,os⟩;rw[hsz];refine K' ?_;unfold Builtin.SmallTypes.ownedTupleIsFree;refine K' (wpAny_field he₄ rfl (x:=.none) rfl (Z' ?_));simp only [if_true];refine K' (wpAny_rule ?_);refine K' (wpAny_field he₄ rfl (x:=old) rfl ?_);refine K' (wpAny_setField_rec he₄ (by simp) fun h₅ he₅ hs₅=>?_)
 replace hs₅:Heap.SameBut e h₄ h₅:=hs₅
 replace he₅:IsEnum h₅ e z ((i:Int)+1) (.ref hp.objs.size):=he₅
 show wpAny _ _ (Builtin.SmallTypes.ownedTupleHandOut (.ref e) (.ref (hp.objs.size+1)) >>= _) _ _ ⟨h₅,g,d,tk+1,os⟩;refine K' ?_;unfold Builtin.SmallTypes.ownedTupleHandOut;refine K' (wpAny_setField_rec he₅ (by simp) fun h₆ he₆ hs₆=>?_)
 replace hs₆:Heap.SameBut e h₅ h₆:=hs₆
 replace he₆:IsEnumOut h₆ e z ((i:Int)+1) (.ref hp.objs.size) (hp.objs.size+1):=he₆
 refine wpAny_setField_rec he₆ (by simp) fun h₇ he₇ hs₇=>?_
 replace hs₇:Heap.SameBut e h₆ h₇:=hs₇
 replace he₇:IsEnumOut h₇ e z ((i:Int)+1) (.ref hp.objs.size) (hp.objs.size+1):=he₇
 have up:∀ c o,c≠e->h₁.get? c=some o->h₇.get? c=some o:=fun c o hc q=>hs₇.extBut c o hc (hs₆.extBut c o hc (hs₅.extBut c o hc (Xz c o hc q)));have nT:(hp.objs.size:Nat)≠e:=Nat.ne_of_gt hel;have V1:(hp.objs.size+1:Nat)≠e:=Nat.ne_of_gt (Nat.lt_succ_of_lt hel);refine K' (wpAny_letGo (Z' ⟨_,rfl,Z' (hQ h₇ tk he₇ ?_ (up _ _ nT q5) ?_ ?_)⟩))
 ·obtain⟨⟨u0,u1,u2,u3⟩,u4,⟨u5,u6,u7⟩,u8,u9⟩:=st₁;exact⟨⟨u0,u1,up _ _ ez.symm u2,u3⟩,up _ _ YQ.symm u4,⟨u5,u6,up _ _ Xw.symm u7⟩,u8.at fun o q=>up _ o Xx.symm q,u9.at fun o q=>up _ o Xy.symm q⟩
 ·exact hs₇.extBut _ _ V1 (hs₆.extBut _ _ V1 (hs₅.extBut _ _ V1 ht₄))
 ·intro c o hc q;have hc':c≠e/\c≠z/\c≠TO/\c≠i1/\c≠i2:=by simpa using hc
  exact up c o hc'.1 (q7 c o hc'.2.1 hc'.2.2.1 hc'.2.2.2.1 hc'.2.2.2.2 q)
theorem Qx {e z TI TO i1 i2 l1 l2:Addr}{i:Nat}{xs:Array Value}{old:Value}{Q:Option Value->Shared->Prop}(hh:A.handled=none)(D:ZipApart z TI TO i1 i2 l1 l2)
  (he:IsEnum s.heap e z i old) (hst:L8 z TI TO i1 i2 l1 l2 i s.heap) (hl1:s.heap.IsList l1 xs) (hx:xs[i]? = none)
  (hQ:∀ h',(∀ c o,c ∉ [e,z,TO,i1,i2]->s.heap.get? c=some o->h'.get? c=some o)->Q none { s with heap:=h' }):wpAny (model prog w) A (pyNext (.ref e)) Q E s:=by
 have hT:s.TypeIs (.ref e) "enumerate":=⟨_,he,rfl⟩;obtain⟨⟨f0,f1,hz,hlo⟩,hTI,⟨ta,tb,hTO⟩,g1,g2⟩:=hst;unfold pyNext;refine K' (wpAny_attempt (wpAny_callSpecial?_slot (name:=Str.ofString "__next__") hT slot_enumerate_next
  (wpAny_call_entry slot_enumerate_next hT PySem.F.entry_enumerate_next ?_ (PySem.F.args_enumerate_next_1 _))))
 show wpAny _ _ (field (.ref e) 2 >>= _) _ _ _;refine K' (wpAny_field he rfl (x:=.ref z) rfl ?_);refine K' ?_;have SS:s.TypeIs (.ref z) "zip":=⟨_,hz,rfl⟩;unfold Builtin.SmallTypes.nextOf;refine K' (wpAny_callSpecial?_slot (name:=Str.ofString "__next__") SS slot_zip_next
  (wpAny_call_entry slot_zip_next SS entry_zip_next (L7 hh D hz hlo hTI hTO g1 hl1 hx fun h' x hk hx'=>?_) (PySem.F.args_zip_next_1 _)))
 obtain⟨o,ho,hc⟩:=hx';refine K' (wpAny_isInstance (T:="StopIteration") (b:=true) ⟨o,ho,hc⟩ isSubtype_stop ?_);refine Z' (hQ _ fun c o hc q=>?_);have hc':c≠e/\c≠z/\c≠TO/\c≠i1/\c≠i2:=by simpa using hc
 exact hk c o hc'.2.1 hc'.2.2.1 hc'.2.2.2.1 hc'.2.2.2.2 q
theorem oH (z TI TO:Addr) :
  Meets (Builtin.«enumerate.__new__» ⟨[.type "enumerate",.ref z],[]⟩) (fun _ R s=>IsZip s.heap z TI TO .none /\
   R (.ok (.ret (.ref s.heap.objs.size)))
    { s with heap:=s.heap.push { cls:=.type "enumerate",data:=.fields #[.none,.bool false,.ref z,rawInt 0,.none,.none] } }) :=
 .of_wp fun prog w A R s h=>by
  obtain⟨hp,g,d,tk,os⟩:=s;obtain⟨hl,h⟩:=h;have hsub:=sub_enumerate;have hL:IsZip (Shared.heap ⟨hp,g,d,tk,os⟩) z TI TO .none:=hl
  wp_walk using wpAny_loadPart' hl
  refine wpAny_stack_any fun st=>Z' ?_;split
  ·rename_i c _ _ _ _ _
   cases (c==Value.type "enumerate")
   ·wp_walk using wpAny_loadPart' hl,wpAny_pyIter_zip hL
    exact⟨_,rfl,h⟩
   ·wp_walk using wpAny_loadPart' hl,wpAny_pyIter_zip hL
    exact⟨_,rfl,h⟩
  ·wp_walk using wpAny_loadPart' hl,wpAny_pyIter_zip hL
   exact⟨_,rfl,h⟩
theorem q9 {z TI TO:Addr}{Q:Value->Shared->Prop}(hz:IsZip s.heap z TI TO .none)
  (h:∀ h',IsEnum h' s.heap.objs.size z 0 .none->(∀ b o,s.heap.get? b=some o->h'.get? b=some o)->Q (.ref s.heap.objs.size) { s with heap:=h' }) :
  wpAny (model prog w) A (call (.type "enumerate") [.ref z]) Q E s:=by
 refine callType_new PySem.F.called_enumerate (by decide) (PySem.F.typeCall_enumerate_1 _) (PySem.F.newCall_enumerate_1 _) (fun obj=>PySem.F.args_object_init_2 obj _) PySem.F.entry_enumerate_new
  (oH z TI TO) ⟨hz,?_⟩
 show _/\_;have he:IsEnum (s.heap.push { cls:=.type "enumerate",data:=.fields #[.none,.bool false,.ref z,rawInt 0,.none,.none] }) s.heap.objs.size z 0 .none:=Zi' _ rfl;exact⟨⟨_,he,rfl⟩,h _ he fun b o x=>U' _ x⟩
end
end L2
namespace L2
open PySem PySem.Spec PyProof.Rows
section
variable {X:Cx} {pins:List (Addr×Obj)} {σ:St} {H:Hp} {s:Shared}
theorem Inv.Ob {tk:Nat}{h':Heap}{wr:List Addr}{T U:Addr}{xs ys:List V}{vals vals2:List Value}(I:Inv X pins σ H s)(hw:∀ b∈wr,iZ X pins H b)(hT:s.heap.objs.size<=T)(hU:s.heap.objs.size<=U)(hTU:T≠U)
  (ht:h'.IsTuple T vals.toArray) (rv:Vals xs vals) (hz:xs.length<=sizeLine) (hu:h'.IsTuple U vals2.toArray) (N8:Vals ys vals2) (hz2:ys.length<=sizeLine)
  (kk:∀ b o,b ∉ wr->s.heap.get? b=some o->h'.get? b=some o) (there:∀ b∈wr,∃ o,h'.get? b=some o):Inv X pins σ (upd (upd H T (.tup xs)) U (.tup ys)) { s with heap:=h',toks:=tk }:=by
 have LX:H T=none:=I.hok.fresh hT;have YR:H U=none:=I.hok.fresh hU;have nT:∀ b o,s.heap.get? b=some o->b≠T:=fun b o e=>Zo' (Ze' (Zb' e) hT);have nU:∀ b o,s.heap.get? b=some o->b≠U:=fun b o e=>Zo' (Ze' (Zb' e) hU);have up:∀{b:Addr} {o:HO},H b=some o->upd (upd H T (.tup xs)) U (.tup ys) b=some o:=fun e=>by
  rw[ak (au e YR),ak (au e LX)];exact e
 refine I.step (g':=s.gens) (d':=s.drawn) (ch:=wr) (fun b hb=>?_) (fun b o _ _ hc e _=>kk b o hc e) (fun b o _ _ hc e _=>⟨o.slots,kk b o hc e⟩) (fun b o _ e n=>by rw[ak (nU b o e),ak (nT b o e)];exact n)
  (fun b o hc e=>⟨o,kk b o hc e⟩) (fun b ys e=>up e) (fun b o u e=>up e) (fun b ps e=>⟨#[],by rw[up e];simp⟩) (fun m hm=>?_) (fun b u e=>?_) I.bare
 ·obtain⟨_,f1,_,f3,f4,f5⟩:=hw b hb;exact⟨f3,f1,f4,f5⟩
 ·obtain⟨o,es,ep,ho,r⟩:=hm;exact⟨o,es,ep,kk _ o (fun z=>(hw _ z).2.1 rfl) ho,r⟩
 ·by_cases hb:b=U
  ·subst hb;rw[ag]at e;cases e;exact⟨hz2,vals2,N8,hu⟩
  ·rw[ak hb]at e
   by_cases hb2:b=T
   ·subst hb2;rw[ag]at e;cases e;exact⟨hz,vals,rv,ht⟩
   ·rw[ak hb2]at e;refine(I.hok b u e).stay (fun c v hc q=>kk c v (fun z=>?_) q) (fun c q=>up q) fun c ys q=>up q;have hn:=(hw c z).1;rcases hc with hc|hc
    ·rw[hc,e]at hn;cases hn
    ·rw[hc]at hn;cases hn
noncomputable def J2 (K:Frag)(a b:Addr):It :=
 ⟨fun i H=>∃ xs ys x y,aL K H a xs/\aL K H b ys/\xs[i]? = some x/\ys[i]? = some y,
  fun i H p H'=>∃ x y t0 t1,p=.ref t1/\H t0=none/\H t1=none/\t0≠t1/\(∀ xs,aL K H a xs->xs[i]? = some x)/\(∀ ys,aL K H b ys->ys[i]? = some y)/\H'=upd (upd H t0 (.tup [x,y])) t1 (.tup [.int i,.ref t0]),
  fun i H=>∃ xs ys,aL K H a xs/\aL K H b ys/\xs.length<=i⟩
theorem Oc {P:Program}{w:World}{K:Frag}{es:List Expr}{k:Nat}{tp:Pos}{e z TI TO i1 i2:Addr}(a b:Addr)(O:qZ z TI TO i1 i2)(hne:∀ c∈[z,TI,TO,i1,i2],e≠c) :
  Turn P w K (.Tuple es k tp) (J2 K a b) [e,z,TI,TO,i1,i2] e (fun i h=>(∃ old,IsEnum h e z i old)/\L8 z TI TO i1 i2 a b i h) where
 mem:=by simp
 obj:=fun i h st c hc=>by
  obtain⟨⟨old,he⟩,⟨f0,f1,hz,_⟩,hTI,⟨x,y,hTO⟩,⟨o1,e1,_,d1⟩,⟨o2,e2,_,d2⟩⟩:=st;have hc':c=e\/c=z\/c=TI\/c=TO\/c=i1\/c=i2:=by simpa using hc
  rcases hc' with rfl|rfl|rfl|rfl|rfl|rfl
  ·exact⟨_,he,fun v q=>by
    have q':Data.fields _=Data.cell v:=q;cases q'⟩
  ·exact⟨_,hz,fun v q=>by
    have q':Data.fields _=Data.cell v:=q;cases q'⟩
  ·exact⟨_,hTI,fun v q=>by
    have q':Data.seq _ _=Data.cell v:=q;cases q'⟩
  ·exact⟨_,hTO,fun v q=>by
    have q':Data.seq _ _=Data.cell v:=q;cases q'⟩
  ·exact⟨o1,e1,fun v q=>by rw[d1]at q;cases q⟩
  ·exact⟨o2,e2,fun v q=>by rw[d2]at q;cases q⟩
 keep:=fun i h h' st kp=>by
  obtain⟨⟨old,he⟩,⟨f0,f1,hz,hl⟩,hTI,⟨x,y,hTO⟩,h1,h2⟩:=st;exact⟨⟨old,kp e (by simp) _ he⟩,⟨f0,f1,kp z (by simp) _ hz,hl⟩,kp TI (by simp) _ hTI,⟨x,y,kp TO (by simp) _ hTO⟩,h1.at fun o q=>kp i1 (by simp) o q,h2.at fun o q=>kp i2 (by simp) o q⟩
 item:=by
  intro X hP hw hK hc i pins s σ H E I hf st hg;subst hP hw hK;obtain⟨xs,ys,x,y,hq,hq2,hx,hy⟩:=hg;obtain⟨⟨old,he⟩,RW⟩:=st;have D:ZipApart z TI TO i1 i2 a b:=by
   obtain⟨⟨f0,f1,hz,_⟩,hTI,⟨x,y,hTO⟩,⟨o1,e1,c1,_⟩,⟨o2,e2,c2,_⟩⟩:=RW;have nz:∀{c:Addr} {zs:List V},aL X.K H c zs->c≠z:=fun h=>cw (K:=X.K) I h hz (by intro q;injection q with q;exact j' q (by decide));have nT:∀{c:Addr} {zs:List V},aL X.K H c zs->c≠TO:=fun h=>cw (K:=X.K) I h hTO (by intro q;injection q with q;exact j' q (by decide));have n1:∀{c:Addr} {zs:List V},aL X.K H c zs->c≠i1:=fun h=>cw (K:=X.K) I h e1 (by rw[c1];intro q;injection q with q;exact j' q (by decide));have n2:∀{c:Addr} {zs:List V},aL X.K H c zs->c≠i2:=fun h=>cw (K:=X.K) I h e2 (by rw[c2];intro q;injection q with q;exact j' q (by decide));exact⟨O.TIz,O.TOz,O.i1z,O.i2z,O.TITO,O.TIi1,O.TIi2,O.TOi1,O.TOi2,O.i12,nz hq,nT hq,n1 hq,n2 hq,nz hq2,nT hq2,n1 hq2,n2 hq2⟩
  obtain⟨its,rv,p,_⟩:=I.list hq;obtain⟨its2,N8,p2,_⟩:=I.list hq2;obtain⟨u,hu,ru⟩:=rv.get hx;obtain⟨u2,hu2,VZ⟩:=N8.get hy;refine Oa D hne he RW p.isList p2.isList (x:=u) (y:=u2) (by simpa using hu) (by simpa using hu2) fun h' tk q1 q2 q3 q4 kk=>?_;refine⟨_,rfl,?_⟩;have sub:∀ c∈[e,z,TO,i1,i2],c∈[e,z,TI,TO,i1,i2]:=fun c hc=>by
   have:c=e\/c=z\/c=TO\/c=i1\/c=i2:=by simpa using hc
   simp;rcases this with r|r|r|r|r <;> simp[r]
  have fw:∀ c∈[e,z,TO,i1,i2],iZ X pins H c:=fun c hc=>hf c (sub c hc);have I1:Inv X pins σ (upd (upd H s.heap.objs.size (.tup [x,y])) (s.heap.objs.size+1) (.tup [.int i,.ref s.heap.objs.size])) { s with heap:=h',toks:=tk+1 }:=by
   refine I.Ob (vals:=[u,u2]) (vals2:=[.int i tk,.ref s.heap.objs.size]) fw (X' _) (Nat.le_succ _) (Zo' (Nat.lt_succ_self _)) ⟨_,q3,rfl,_,rfl⟩ (.cons ru (.cons VZ .nil)) (by show 2<=sizeLine;decide)
    ⟨_,q4,rfl,_,rfl⟩ (.cons ⟨tk,rfl⟩ (.cons rfl .nil)) (by show 2<=sizeLine;decide) kk fun c hc=>?_
   obtain⟨⟨f0,f1,m1,_⟩,_,⟨_,_,m2⟩,⟨o1,m3,_⟩,⟨o2,m4,_⟩⟩:=q2;have:c=e\/c=z\/c=TO\/c=i1\/c=i2:=by simpa using hc
   rcases this with rfl|rfl|rfl|rfl|rfl
   ·exact⟨_,q1⟩
   ·exact⟨_,m1⟩
   ·exact⟨_,m2⟩
   ·exact⟨_,m3⟩
   ·exact⟨_,m4⟩
  have hT0:H s.heap.objs.size=none:=I.hok.fresh (X' _);have hT1:H (s.heap.objs.size+1)=none:=I.hok.fresh (Nat.le_succ _);have lt:∀ c∈[e,z,TI,TO,i1,i2],c<s.heap.objs.size:=fun c hc=>by
   obtain⟨⟨f0,f1,m1,_⟩,m5,⟨_,_,m2⟩,⟨o1,m3,_⟩,⟨o2,m4,_⟩⟩:=RW;have hc':c=e\/c=z\/c=TI\/c=TO\/c=i1\/c=i2:=by simpa using hc
   rcases hc' with rfl|rfl|rfl|rfl|rfl|rfl
   ·exact Zb' he
   ·exact Zb' m1
   ·exact Zb' m5
   ·exact Zb' m2
   ·exact Zb' m3
   ·exact Zb' m4
  refine wpAny_letOwnedTupleGo_enum q1 fun h'' V2 hs''=>?_;have hf2:∀ c∈[e,z,TI,TO,i1,i2],iZ X pins (upd (upd H s.heap.objs.size (.tup [x,y])) (s.heap.objs.size+1) (.tup [.int i,.ref s.heap.objs.size])) c:=fun c hc=>by
   obtain⟨f0,fr⟩:=hf c hc;have l:=lt c hc;exact⟨by rw[ak (Zo' (Nat.lt_succ_of_lt l)),ak (Zo' l)];exact f0,fr⟩
  have YS:∀ c o,c ∉ [e]->h'.get? c=some o->h''.get? c=some o:=fun c o hc q=>hs''.extBut c o (fun r=>hc (by simp[r])) q;have up:∀{c:Addr} {o:Obj},c∈[z,TI,TO,i1,i2]->h'.get? c=some o->h''.get? c=some o:=fun hc q=>hs''.extBut _ _ (hne _ hc).symm q;have fe:∀ c∈[e],iZ X pins (upd (upd H s.heap.objs.size (.tup [x,y])) (s.heap.objs.size+1) (.tup [.int i,.ref s.heap.objs.size])) c:=fun c hc=>by
   have:c=e:=by simpa using hc
   exact hf2 c (by simp[this])
  refine⟨.ref (s.heap.objs.size+1),_,I1.gp (tk:=tk+1) (wr:=[e]) fe YS,rfl,⟨x,y,s.heap.objs.size,s.heap.objs.size+1,rfl,hT0,hT1,Zo' (Nat.lt_succ_self _),l9 I hq hx,l9 I hq2 hy,rfl⟩,?_,fun c hc=>(hf2 c hc).1⟩;obtain⟨⟨f0,f1,m1,m1'⟩,m5,⟨_,_,m2⟩,m3,m4⟩:=q2;exact⟨⟨_,by simpa using V2⟩,⟨f0,f1,up (by simp) m1,m1'⟩,up (by simp) m5,⟨_,_,up (by simp) m2⟩,m3.at fun o q=>up (by simp) q,m4.at fun o q=>up (by simp) q⟩
 done:=by
  intro X hP hw hK hc i pins s σ H E I hf st hg;subst hP hw hK;obtain⟨xs,ys,hq,hq2,hx⟩:=hg;obtain⟨⟨old,he⟩,RW⟩:=st;have D:ZipApart z TI TO i1 i2 a b:=by
   obtain⟨⟨f0,f1,hz,_⟩,hTI,⟨x,y,hTO⟩,⟨o1,e1,c1,_⟩,⟨o2,e2,c2,_⟩⟩:=RW;have nz:∀{c:Addr} {zs:List V},aL X.K H c zs->c≠z:=fun h=>cw (K:=X.K) I h hz (by intro q;injection q with q;exact j' q (by decide));have nT:∀{c:Addr} {zs:List V},aL X.K H c zs->c≠TO:=fun h=>cw (K:=X.K) I h hTO (by intro q;injection q with q;exact j' q (by decide));have n1:∀{c:Addr} {zs:List V},aL X.K H c zs->c≠i1:=fun h=>cw (K:=X.K) I h e1 (by rw[c1];intro q;injection q with q;exact j' q (by decide));have n2:∀{c:Addr} {zs:List V},aL X.K H c zs->c≠i2:=fun h=>cw (K:=X.K) I h e2 (by rw[c2];intro q;injection q with q;exact j' q (by decide));exact⟨O.TIz,O.TOz,O.i1z,O.i2z,O.TITO,O.TIi1,O.TIi2,O.TOi1,O.TOi2,O.i12,nz hq,nT hq,n1 hq,n2 hq,nz hq2,nT hq2,n1 hq2,n2 hq2⟩
  obtain⟨its,rv,p,_⟩:=I.list hq;have hl:=rv.length;refine Qx (I.ok.hd hc) D he RW p.isList (Array.getElem?_eq_none (by simp;omega)) fun h' kk=>?_;refine⟨rfl,I.gp (tk:=s.toks) (wr:=[e,z,TO,i1,i2]) (fun c hc=>hf c ?_) kk⟩;have:c=e\/c=z\/c=TO\/c=i1\/c=i2:=by simpa using hc
  simp;rcases this with r|r|r|r|r <;> simp[r]
 self:=fun _ _ _ _ _ st h=>by
  obtain⟨⟨old,he⟩,_⟩:=st;exact wpAny_pyIter_enum he h
inductive SU (K:Frag)(R:(It->Hp->Prop))(x:V)(y:V)(H2:Hp):Prop
 |mk (a:_) (b:_) (cL:x=.ref a) (cM:y=.ref b) (dA:(∃ xs,aL K H2 a xs)/\(∃ ys,aL K H2 b ys)/\R (J2 K a b) H2):SU K R x y H2
def YT (K:Frag)(tl tm:TE):TI:=fun σ H R=>tl σ H fun x H1=>tm σ H1 fun y H2=>SU K R x y H2
theorem Oe {l m:Expr}{tl tm:TE}{p pos:Pos}(hg:Gl X "zip")(hz:X.mg "zip"=none)(hl:PE X l tl)(hm:PE X m tm)(hs:starEach [l,m] X.env=[(false,eval l X.env),(false,eval m X.env)])(hs2:starEach [m] X.env=[(false,eval m X.env)])
  {R:V->V->Hp->Prop} (I:Inv X pins σ H s) (h:tl σ H fun x H1=>tm σ H1 fun y H2=>R x y H2) (hR:∀ x y H1,R x y H1->∃ a b,x=.ref a/\y=.ref b/\(∃ xs,aL X.K H1 a xs)/\∃ ys,aL X.K H1 b ys) :
  wpAny (model X.prog X.w) X.A (eval (.Call (.Name "zip" p) [l,m] [] pos) X.env) (fun v s1=>∃ a b z TI TO i1 i2 H1,R (.ref a) (.ref b) H1/\v=.ref z/\Inv X pins σ H1 s1/\qZ z TI TO i1 i2/\IsZip s1.heap z TI TO .none/\Iy z TI TO i1 i2 a b 0 s1.heap/\∀ c∈[z,TI,TO,i1,i2],iZ X pins H1 c) X.xe s:=by
 refine Call_ (lL I hg hz LY (PyProof.Rows.callWith_type1 (bS (L3 hl hm hs hs2 pos pins s σ H I h) fun us s1 ⟨x,y,u,v,H1,I1,e1,r1,r2,q1⟩=>?_) (by rw[hs,hs2]) (by rw[hs2];rfl)));obtain⟨a,b,rfl,rfl,⟨xs,hq⟩,⟨ys,hq2⟩⟩:=hR _ _ _ q1;subst e1;cases r1;cases r2;obtain⟨its,rv,pl,_⟩:=I1.list hq;obtain⟨its2,N8,SR,_⟩:=I1.list hq2;refine call_zip_2 pl.isList SR.isList fun h' z1 z2 z3 z4 z5 hsz kk=>?_;have O:qZ (s1.heap.objs.size+4) (s1.heap.objs.size+2) (s1.heap.objs.size+3) s1.heap.objs.size (s1.heap.objs.size+1):=by
  constructor <;> exact(by intro q;have q':(_:Nat)=_:=q;omega)
 refine⟨a,b,_,_,_,_,_,H1,q1,rfl,I1.kept (t':=s1.toks) kk,O,z1,⟨z1,z2,⟨_,_,z3⟩,z4,z5⟩,fun c hc=>?_⟩;have hc':s1.heap.objs.size<=c:=by
  have:c=s1.heap.objs.size+4\/c=s1.heap.objs.size+2\/c=s1.heap.objs.size+3\/c=s1.heap.objs.size\/c=s1.heap.objs.size+1:=by simpa using hc
  rcases this with r|r|r|r|r <;> (rw[r];first|exact Nat.le_add_right _ _|exact X' _)
 exact I1.CQ hc' (I1.hok.fresh hc')
theorem SV {l m:Expr}{tl tm:TE}{p p2 pos pos2 tp:Pos}{es:List Expr}{k:Nat}(hg:Gl X "zip")(hz:X.mg "zip"=none)(hg2:Gl X "enumerate")(hm2:X.mg "enumerate"=none)(hl:PE X l tl)(hm:PE X m tm)
  (hs:starEach [l,m] X.env=[(false,eval l X.env),(false,eval m X.env)]:=by rfl) (hs2:starEach [m] X.env=[(false,eval m X.env)]:=by rfl)
  (hs3:starEach [Expr.Call (.Name "zip" p) [l,m] [] pos] X.env=[(false,eval (.Call (.Name "zip" p) [l,m] [] pos) X.env)]:=by rfl) :
  PI X (.Tuple es k tp) (.Call (.Name "enumerate" p2) [.Call (.Name "zip" p) [l,m] [] pos] [] pos2) (YT X.K tl tm):=by
 intro pins s σ H R I h;have hev:wpAny (model X.prog X.w) X.A (spliced (backTo pos2 (starEach [Expr.Call (.Name "zip" p) [l,m] [] pos] X.env))) (fun us s1=>∃ a b z TI TO i1 i2 H1,R (J2 X.K a b) H1/\us=[.ref z]/\Inv X pins σ H1 s1/\qZ z TI TO i1 i2/\IsZip s1.heap z TI TO .none/\Iy z TI TO i1 i2 a b 0 s1.heap/\∀ c∈[z,TI,TO,i1,i2],iZ X pins H1 c) X.xe s:=by
  rw[hs3];refine Calls.spliced_cons (bS (Oe hg hz hl hm hs hs2 I h fun x y H1 ⟨a,b,e1,e2,q1,q2,_⟩=>⟨a,b,e1,e2,q1,q2⟩) fun v s1 ⟨a,b,z,TI,TO,i1,i2,H1,q,e,I1,O,g1,g2,g3⟩=>Calls.spliced_nil ?_);obtain⟨a',b',e1,e2,_,_,q⟩:=q;cases e1;cases e2;exact⟨a,b,z,TI,TO,i1,i2,H1,q,by rw[e],I1,O,g1,g2,g3⟩
 refine Call_ (lL I hg2 hm2 sE (PyProof.Rows.callWith_type1 (bS hev fun us s1 ⟨a,b,z,TI,TO,i1,i2,H1,q,e,I1,O,g1,g2,g3⟩=>?_) (by rw[hs3];rfl) (by rfl)));subst e;refine q9 g1 fun h' he kk=>?_;refine wpAny_pyIter_enum he ?_;obtain⟨y1,y2,⟨y3,y4,y5⟩,y6,y7⟩:=g2;have hne:∀ c∈[z,TI,TO,i1,i2],s1.heap.objs.size≠c:=fun c hc=>by
  have hc':c=z\/c=TI\/c=TO\/c=i1\/c=i2:=by simpa using hc
  rcases hc' with rfl|rfl|rfl|rfl|rfl
  ·exact Nat.ne_of_gt (Zb' y1)
  ·exact Nat.ne_of_gt (Zb' y2)
  ·exact Nat.ne_of_gt (Zb' y5)
  ·obtain⟨_,y,_⟩:=y6;exact Nat.ne_of_gt (Zb' y)
  ·obtain⟨_,y,_⟩:=y7;exact Nat.ne_of_gt (Zb' y)
 refine⟨s1.heap.objs.size,[s1.heap.objs.size,z,TI,TO,i1,i2],_,_,H1,rfl,I1.kept (t':=s1.toks) kk,Oc a b O hne,⟨⟨.none,he⟩,⟨.none,.bool false,kk _ _ y1,.inl rfl,false,rfl⟩,kk _ _ y2,⟨y3,y4,kk _ _ y5⟩,y6.at fun o q=>kk _ _ q,y7.at fun o q=>kk _ _ q⟩,fun c hc=>?_,q⟩;rcases List.mem_cons.mp hc with rfl|hc
 ·exact I1.CQ (X' _) (I1.hok.fresh (X' _))
 ·exact g3 c hc
end
theorem Qy {K:Frag}{a b:Addr}{xs ys:List V}{g:TG}{tb:TS}{D:Ends}{σ:St}{H:Hp}(Pv:Nat->St->Hp->Prop)(he:xs.length=ys.length)(h0:Pv 0 σ H)(hl:∀ i σ H,Pv i σ H->aL K H a xs/\aL K H b ys)
  (hs:∀ i x y t u σ H,xs[i]? = some x->ys[i]? = some y->Pv i σ H->H t=none->H u=none->t≠u->g (.ref u) σ (upd (upd H t (.tup [x,y])) u (.tup [.int i,.ref t])) fun σ2 H2=>tb { D with nx:=Pv (i+1),ct:=Pv (i+1),bk:=D.nx } σ2 H2) (hd:∀ σ H,Pv xs.length σ H->D.nx σ H) :
  ∃ W:Nat->Nat->St->Hp->Prop,(∃ m,W 0 m σ H)/\∀ i m σ H,W i m σ H ->
   ((J2 K a b).stop i H/\D.nx σ H)\/((J2 K a b).go i H/\∃ N:St->Hp->Prop,(∀ σ' H',N σ' H'->∃ m',m'<m/\W (i+1) m' σ' H')/\∀ x H',(J2 K a b).JL i H x H'->g x σ H' fun σ2 H2=>tb { D with nx:=N,ct:=N,bk:=D.nx } σ2 H2):=by
 refine⟨fun i m σ H=>m=xs.length-i/\i<=xs.length/\Pv i σ H,⟨xs.length,by simp,Nat.zero_le _,h0⟩,?_⟩;rintro i m σ H ⟨rfl,hi,p⟩;obtain⟨q,q2⟩:=hl i σ H p
 by_cases hlt:i<xs.length
 ·have hlt2:i<ys.length:=by omega
  refine .inr ⟨⟨xs,ys,xs[i],ys[i],q,q2,by simp[hlt],by simp[hlt2]⟩,Pv (i+1),fun σ' H' p'=>⟨xs.length-(i+1),by omega,rfl,hlt,p'⟩,fun x H' y=>?_⟩;obtain⟨x0,y0,t,u,rfl,hn,hn2,tu,hx,hy,rfl⟩:=y;exact hs i x0 y0 t u σ H (hx xs q) (hy ys q2) p hn hn2 tu
 ·have e:i=xs.length:=by omega
  subst e;exact .inl ⟨⟨xs,ys,q,q2,X' _⟩,hd σ H p⟩
end L2
namespace L2
open PySem PySem.Spec PyProof.Rows
structure C5 (K:Frag)(x qual:Str)(st:Stmt)(f:Addr)(fd:FuncData)(dV:Value):Prop where
 ex:∃(oc:Value)(od:Option Addr)(kV doc pm:Value)(an:Option Addr)(cdv ct:Value)(osl:Array (Option Value)),
  fd=fnOf x qual (cv st) (a8 st) (aj st) dV kV doc pm an cdv ct/\K.lookup f=some ⟨oc,od,.func fd,osl⟩/\codeIn K cdv qual=true
 kp:keepIn K (.ref f)=true
section
variable {P:Program} {w:World} {K:Frag} {mg:Str->Option Value} {base:Heap}
theorem C5.ok {x qual:Str}{st:Stmt}{f:Addr}{fd:FuncData}{dV:Value}{N ps:List Str}{k:Nat}{sp:Sp}(F:C5 K x qual st f fd dV)(S:az N ps (aj st))(len:∀ vs H Q E,sp vs H Q E->vs.length=ps.length)
  (hbody:∀(cdv:Value)(A:Around)(outer:List Env)(s:Shared)(H:Hp)(vs:List V)(Q:VK)(E:XK),dm k (A.deeper (envOfC qual (aj st) s.heap.objs.size f cdv))->sp vs H Q E ->
   ∃ t,se (dM d3 P w K mg base N qual (aj st) f cdv A outer s H E).Lk (a8 st) t/\t { nx:=fun _ H'=>Q .non H',rt:=Q } (start N vs) H):aR P w K mg base d3 (k+1) f fd ps sp:=by
 obtain⟨oc,od,kV,doc,pm,an,cdv,ct,osl,rfl,lk,hcd⟩:=F.ex;refine Bh lk hcd S len fun A outer s H vs Q E hr hsp=>?_;obtain⟨t,h,q⟩:=hbody cdv A outer s H vs Q E hr hsp;exact⟨t,h.Lk,q⟩
theorem C5.binds {x qual:Str}{st:Stmt}{f:Addr}{fd:FuncData}{T:Addr}{o:Obj}{items:Array Value}{n:Nat}{ps:List Str}{ds:List Value}(F:C5 K x qual st f fd (.ref T))(lk:K.lookup T=some o)(hs:o.data=.seq items n)
  (h:∀(kV doc pm:Value)(an:Option Addr)(cdv ct:Value)(us:List Value),(us++ds).length=ps.length->∃ k,bindArgs (fnOf x qual (cv st) (a8 st) (aj st) (.ref T) kV doc pm an cdv ct) ⟨us,[]⟩=seqItems? (.ref T) >>= k/\k (some items)=pure (ps.zip (us++ds))):Binds K fd ps ds:=by
 obtain⟨oc,od,kV,doc,pm,an,cdv,ct,osl,rfl,lkf,hcd⟩:=F.ex;intro s us KI hl;obtain⟨k,h1,h2⟩:=h kV doc pm an cdv ct us hl;exact BindsTo.of_defaults rfl (KI _ _ lk) hs h1 h2
theorem Iz {x qual:Str}{st:Stmt}{f:Addr}{oc:Value}{od an:Option Addr}{osl:Array (Option Value)}{dV kV doc pm cdv ct:Value}(l:K.lookup f=some ⟨oc,od,.func (fnOf x qual (cv st) (a8 st) (aj st) dV kV doc pm an cdv ct),osl⟩)
  (c:codeIn K cdv qual=true) (k:keepIn K (.ref f)=true):C5 K x qual st f (fnOf x qual (cv st) (a8 st) (aj st) dV kV doc pm an cdv ct) dV:=⟨⟨oc,od,kV,doc,pm,an,cdv,ct,osl,rfl,l,c⟩,k⟩
end
inductive El (w:World):List DictEntry->List (Str×V)->Prop
 |nil:El w [] []
 |cons {x:Str} {t:Tok} {u:Value} {v:V} {es:List DictEntry} {kvs:List (Str×V)}:RelV v u->El w es kvs->El w (⟨PyData.keyHash w.params x,.str x t,u⟩::es) ((x,v)::kvs)
structure KD (K:Frag)(w:World)(a:Addr)(kvs:List (Str×V)):Prop where
 sys:(a==sysModules)=false
 ok:∃ es n,K.lookup a=some ⟨.type "dict",none,.dict es n,#[]⟩/\El w es.toList kvs/\(kvs.map (·.1)).Nodup
theorem El.vs (P:Program){w:World}:∀{es:List DictEntry} {kvs:List (Str×V)},El w es kvs->∃ vs:List (Key×Value),Pairs (ck P w) es vs/\vs.map (·.1)=kvs.map (fun p=>(Sum.inr p.1:Key)) /\
  (∀ e∈es,∃ k,(ck P w).is k e.key=true/\e.hash=(ck P w).hash k)/\∀ x,jC (kvs.lookup x) (valueAt vs (Sum.inr x))
 |_,_,.nil=>⟨[],.nil,rfl,fun e h=>by simp at h,fun x=>True.intro⟩
 |_,_,.cons (x:=x) (t:=t) (u:=u) (v:=v) r q=>by
  obtain⟨vs,h1,h2,h3,h4⟩:=El.vs P q;refine⟨(Sum.inr x,u)::vs,.cons (eW P w x t) rfl h1,by rw[map_cons,map_cons,h2],fun e he=>?_,fun y=>?_⟩
  ·rcases List.mem_cons.mp he with rfl|he
   ·exact⟨Sum.inr x,eW P w x t,rfl⟩
   ·exact h3 e he
  ·by_cases hy:y=x
   ·subst hy;unfold valueAt;simp only [List.lookup_cons,List.find?_cons];simp;exact r
   ·unfold valueAt;have h5:=h4 y;unfold valueAt at h5;have e1:(y==x)=false:=by simpa using hy
    have e2:decide ((Sum.inr x:Key)=Sum.inr y)=false:=V' fun e=>hy (Sum.inr.inj e).symm;simp only [List.lookup_cons,e1,List.find?_cons,e2];exact h5
theorem Br:∀{l:List Str},l.Nodup->(l.map (fun p=>(Sum.inr p:Key))).Nodup
 |[],_=>.nil
 |x::l,h=>by
  rw[map_cons,List.nodup_cons];obtain⟨h1,h2⟩:=List.nodup_cons.mp h;refine⟨fun z=>?_,Br h2⟩;obtain⟨y,hy,e⟩:=mem_map.mp z;cases e;exact h1 hy
theorem KD.dict (P:Program){K:Frag}{w:World}{a:Addr}{kvs:List (Str×V)}{h:Heap}(d:KD K w a kvs)(hi:K.In h):∃ vs,h.DictOf (ck P w) a vs/\∀ x,jC (kvs.lookup x) (valueAt vs (Sum.inr x)):=by
 obtain⟨es,n,lk,ok,nd⟩:=d.ok;obtain⟨vs,h1,h2,h3,h4⟩:=ok.vs P;refine⟨vs,⟨_,es,n,hi _ _ lk,⟨rfl,rfl,rfl⟩,rfl,fun e he=>h3 e (by simpa using he),h1,?_⟩,h4⟩;rw[h2];have:=Br nd;rw[List.map_map]at this;exact this
theorem jC.IA {o:Option V}{u:Option Value}(r:jC o u):o.isSome=u.isSome:=by
 cases o <;> cases u <;> first|rfl|exact False.elim r
theorem jC.SW {o:Option V}{u:Option Value}{d:V}{d':Value}(r:jC o u)(rd:RelV d d'):RelV (o.getD d) (u.getD d'):=by
 cases o with
 |none=>cases u with
  |none=>exact rd
  |some _=>exact False.elim r
 |some v=>cases u with
  |none=>exact False.elim r
  |some _=>exact r
section
variable {X:Cx}
theorem L9:lW X (compareOp .In) (fun x y H Q=>∃ a z kvs,x=.str z/\y=.ref a/\KD X.K X.w a kvs/\Q (.bl (kvs.lookup z).isSome) H):=by
 intro pins s σ H x y v u Q I rx ry h;obtain⟨a,z,kvs,rfl,rfl,d,q⟩:=h;obtain⟨t,rfl⟩:=rx;cases ry;obtain⟨vs,dd,rel⟩:=d.dict X.prog I.hX;refine wpAny_in_of (knd:=ck X.prog X.w) (k:=Sum.inr z) (eW _ _ z t) d.sys dd.mapOf ?_;rw[<-(rel z).IA];exact⟨.bl _,H,I.tok _,rfl,q⟩
theorem Em:lW X (compareOp .NotIn) (fun x y H Q=>∃ a z kvs,x=.str z/\y=.ref a/\KD X.K X.w a kvs/\Q (.bl (!(kvs.lookup z).isSome)) H):=by
 intro pins s σ H x y v u Q I rx ry h;obtain⟨a,z,kvs,rfl,rfl,d,q⟩:=h;obtain⟨t,rfl⟩:=rx;cases ry;obtain⟨vs,dd,rel⟩:=d.dict X.prog I.hX;refine wpAny_notIn_of (knd:=ck X.prog X.w) (k:=Sum.inr z) (eW _ _ z t) d.sys dd.mapOf ?_;rw[<-(rel z).IA];exact⟨.bl _,H,I.tok _,rfl,q⟩
theorem Ma:LH X (fun x y H Q=>∃ a z kvs r,x=.ref a/\y=.str z/\KD X.K X.w a kvs/\kvs.lookup z=some r/\Q r H):=by
 intro value slice pins s σ H x y v u Q I rx ry h hs;obtain⟨a,z,kvs,r,rfl,rfl,d,l,q⟩:=h;cases rx;obtain⟨t,rfl⟩:=ry;obtain⟨vs,dd,rel⟩:=d.dict X.prog I.hX;have hr:=rel z;rw[l]at hr;cases hv:valueAt vs (Sum.inr z) with
 |none=>rw[hv]at hr;exact False.elim hr
 |some rv =>
  rw[hv]at hr;exact subscriptTail_builtinR (x:=rv) dd.typeIs PySem.F.slot_dict_getitem.lookup
   (wpAny_getItem_of (knd:=ck X.prog X.w) (k:=Sum.inr z) (eW _ _ z t) dd.mapOf hv ⟨rfl,⟨r,H,I.tok _,hr,q⟩⟩) hs
def Qz (K:Frag)(w:World)(td ty tx:TE):TE:=fun σ H Q=>td σ H fun x H1=>∃ a kvs,x=.ref a/\KD K w a kvs/\ty σ H1 fun y H2=>tx σ H2 fun z H3=>∃ k,y=.str k/\Q ((kvs.lookup k).getD z) H3
theorem Mb {o e f:Expr}{apos cpos:Pos}{td ty tx:TE}(ho:PE X o td)(he:PE X e ty)(hf:PE X f tx)
  (base:attributeBase o "get" X.env (eval o X.env)=eval o X.env:=by rfl)
  (few:((backTo cpos (starEach [e,f] X.env)).all (fun x=>!x.1)&&(backToKw cpos (keywordEach [] X.env)).all (fun x=>x.1.isSome)
   && decide (([e,f]:List Expr).length+([]:List Keyword).length+(if([]:List Keyword).isEmpty then 0 else 1)<30))=true:=by rfl)
  (line:(apos.endLine==cpos.line)=true:=by rfl) (trees:backTo cpos (starEach [e,f] X.env)=[(false,eval e X.env),(false,eval f X.env)]:=by rfl) :
  PE X (.Call (.Attribute o "get" apos) [e,f] [] cpos) (Qz X.K X.w td ty tx):=by
 intro pins s σ H Q I h;refine wpAny_Call_method base few line PySem.F.plainAttrs_dict slot_dict_get PySem.F.type_dict_get (bS (ho pins s σ H _ I h) fun u s1 fu=>?_);obtain⟨x,H1,I1,rx,a,kvs,ex,d,q1⟩:=fu;subst ex;obtain rfl:u=Value.ref a:=rx;obtain⟨vs,dd,rel⟩:=d.dict X.prog I1.hX;refine⟨dd.typeIs,fun b q=>?_,?_⟩
 ·cases q;obtain⟨ob,_,_,h1,h2,_⟩:=dd;exact⟨ob,h1,h2.2.1⟩
 rw[trees];refine Calls.callWith_builtin rfl (Calls.evalArgs_plain (Calls.spliced_cons (bS (he pins s1 σ H1 _ I1 q1) fun iv s2 ⟨y,H2,I2,ry,q2⟩ =>
  Calls.spliced_cons (bS (hf pins s2 σ H2 _ I2 q2) fun fv s3 ⟨z,H3,I3,rz,k,ek,q3⟩=>Calls.spliced_nil ?_))))
 subst ek;obtain⟨t,rfl⟩:=ry;obtain⟨V3,XA,V4⟩:=d.dict X.prog I3.hX;exact call_meetsIn slot_dict_get XA.typeIs PySem.F.entry_dict_get (PySem.F.args_dict_get_3 _ _ _) (meets_dict_get_default (ck X.prog X.w) a (eW _ _ k t) d.sys fv) ⟨_,XA.mapOf,_,H3,I3.tok _,(V4 k).SW rz,q3⟩
end
end L2
namespace L2
open PySem PySem.Spec PyProof.Rows
def SX (t:TE):TE:=fun σ H Q=>∃ R:V->Hp->Prop,t σ H R/\∀ v H',R v H'->Q v H'
def SY (t:TT):TT:=fun σ H Q=>∃ R:Bool->Hp->Prop,t σ H R/\∀ v H',R v H'->Q v H'
def S0 (t:TS):TS:=fun D σ H=>∃ R:St->Hp->Prop,t { D with nx:=R } σ H/\∀ σ' H',R σ' H'->D.nx σ' H'
section
variable {X:Cx}
theorem bJ {e:Expr}{t:TE}(h:PE X e t):PE X e (SX t):=by
 intro pins s σ H Q I ⟨R,hR,hQ⟩;exact bS (h pins s σ H R I hR) fun u s1 ⟨v,H1,I1,r,q⟩=>⟨v,H1,I1,r,hQ v H1 q⟩
theorem bq {e:Expr}{t:TT}(h:PT X e t):PT X e (SY t):=by
 intro pins s σ H Q I ⟨R,hR,hQ⟩;exact bS (h pins s σ H R I hR) fun u s1 ⟨H1,I1,q⟩=>⟨H1,I1,hQ u H1 q⟩
theorem gQ {st:Stmt}{t:TS}(h:PS X st t):PS X st (S0 t):=by
 intro pins s σ H D I ⟨R,hR,hQ⟩;refine bS (h pins s σ H _ I hR) fun f s1 q=>?_;cases f with
 |next=>exact let ⟨σ',H',I',q'⟩:=q;⟨σ',H',I',hQ _ _ q'⟩
 |brk=>exact q
 |cont=>exact q
 |ret u=>exact q
end
theorem rb {t:TE}{σ:St}{H:Hp}{Q:VK}(v:V)(h:t σ H fun x H1=>x=v/\H1=H)(q:Q v H):∃ R:V->Hp->Prop,t σ H R/\∀ v H',R v H'->Q v H':=⟨_,h,by rintro _ _ ⟨rfl,rfl⟩;exact q⟩
theorem dG {t:TT}{σ:St}{H:Hp}{Q:Bool->Hp->Prop}(b:Bool)(h:t σ H fun x H1=>x=b/\H1=H)(q:Q b H):∃ R:Bool->Hp->Prop,t σ H R/\∀ v H',R v H'->Q v H':=⟨_,h,by rintro _ _ ⟨rfl,rfl⟩;exact q⟩
theorem Mc {t:TS}{σ:St}{H:Hp}{D:Ends}(σ':St)(H':Hp)(h:t { D with nx:=fun σ1 H1=>σ1=σ'/\H1=H' } σ H)(q:D.nx σ' H'):∃ R:St->Hp->Prop,t { D with nx:=R } σ H/\∀ σ' H',R σ' H'->D.nx σ' H' :=
 ⟨_,h,by rintro _ _ ⟨rfl,rfl⟩;exact q⟩
theorem i0 {x v:V}{H:Hp}(e:x=v):x=v/\H=H:=⟨e,rfl⟩
theorem bD {x v:Bool}{H:Hp}(e:x=v):x=v/\H=H:=⟨e,rfl⟩
end L2
namespace L2
open PySem PySem.Spec PyProof.Rows
noncomputable abbrev Cx.names (X:Cx)(N:List Str):Cx:={ X with N:=N }
section
variable {X:Cx} {pins:List (Addr×Obj)} {σ:St} {H:Hp} {s:Shared}
end
end L2
namespace L2
open PySem PySem.Spec PyProof.Rows
section
variable {X:Cx} {tg iter elt:Expr} {ifs:List Expr} {scope:Scope} {pos:Pos} {cn:List Str} {wi:TI} {g:Bk->TG} {tc:Bk->TT} {te:Bk->TE}
theorem yH {i:Nat}{x:Str}{pos' spos:Pos}(hN:X.N.Nodup)(hix:X.N[i]? = some x)(hx:X.env.scope.names.lookup x=some .local)(hcalm:X.calm=true)(F:b8 X.env.scope X.N scope)(hi:PI X tg iter wi)
  (hg:∀ b,PG (cB X cn scope b) tg (g b)) (ht:∀ b,PF (cB X cn scope b) ifs (tc b)) (he:∀ b,PE (cB X cn scope b) elt (te b))
  (hsw:swapsWith (.ListComp elt [⟨tg,iter,ifs,0⟩] scope pos) (some (.Name x pos')) spos.line X.env=pure true:=by rfl)
  (hs:∀ x,foldedSetIterable iter X.env x=pure x:=by intro _;rfl):PS X (.Assign [.Name x pos'] (.ListComp elt [⟨tg,iter,ifs,0⟩] scope pos) spos) (Ln (LR cn.length wi g tc te) (vQ i)):=by
 intro pins s σ H D I h;rw[exec_Assign_Name_used _ _ _ _ hsw];refine K' (wpAny_standAt (K' ?_));rw[arm_evalThenUse_ListComp];refine K' ?_;have hcl:closureFor scope X.env=pure (eM X.env scope.names []):=Iu fun p hp e=>I.ok.has p.1 (F.free p hp e);refine wpAny_comprehension_free (use:=some (assign (.Name x pos') X.env)) rfl hs hcl F.kind F.loc (bS (hi pins s σ H _ I h) fun xv s₁ h₁=>bS h₁ fun itv s₂ h₂=>?_);obtain⟨it,fp,tn,J,H2,rfl,I2,T,st,f2,R⟩:=h₂;refine Ef (TH:=fun _=>True) (QQ:=fun D' H'=>D.nx (σ.set i (some (.ref D'))) H') (RR:=fun acc C=>compPost (model X.prog X.w) X.A X.xe (some (assign (.Name x pos') X.env)) _ acc C) hcalm F (fun b _=>hg b) (fun b _=>ht b) (fun b _=>he b) (fun _ _=>trivial) I2 T st f2 R ?_ ?_
 ·intro C D' σ' H' s' hC I' q;obtain⟨m,hm,_⟩:=I'.loc;have YU:H' C=none:=I'.free;have fC:iZ X pins H' C:=I2.CQ hC YU;have I3:Inv X pins σ H' s':=I2.Iw f2 hC I' ⟨rfl,fun _ _=>rfl⟩;show wpAny (model X.prog X.w) X.A (assign (.Name x pos') X.env (.ref D')) _ X.xe s';refine wpAny_assign_Name (Ba I3 hN hix (.inl hx) (v:=.ref D') rfl (fun s'' I4 ⟨a,sa,ha⟩=>?_) (.inr hx));have hne:C≠a:=by
   rcases ha with e|e
   ·rw[e];exact fC.2.1
   ·exact fun z=>fC.2.2.2.2.1 _ _ e z.symm
  obtain⟨o,es,ep,ho,r⟩:=hm;refine⟨m,⟨o,es,ep,(sa.2 C hne).trans ho,r⟩,fun h' sb=>?_⟩;refine Z' (Z' ⟨_,H',?_,q⟩);exact I4.gp (tk:=s''.toks) (wr:=[C]) (fun b hb=>by
   have:b=C:=by simpa using hb
   rw[this];exact fC) fun b o hb e=>(sb.2 b (fun z=>hb (by simp[z]))).trans e
 ·intro C D' e s' z;exact z
end
end L2
namespace L2
open PySem PySem.Spec PyProof.Rows PySem.SeqAt
section
variable {X:Cx}
inductive Pr (K:Frag)(neg:Bool)(x:V)(y:V)(H:Hp)(Q:VK):Prop
 |mk (a:_) (c:_) (xs:_) (cL:x=.ref a) (cM:y=.ref c) (dA:aL K H a xs) (fA:aL K H c []) (ki:Q (.bl (if neg then !xs.isEmpty else xs.isEmpty)) H):Pr K neg x y H Q
def V5 (K:Frag)(neg:Bool):R2:=fun x y H Q=>Pr K neg x y H Q
theorem QA {pins:List (Addr×Obj)}{σ:St}{H:Hp}{s:Shared}{a c:Addr}{xs:List V}(hu:X.A.units+64<cLine)(I:Inv X pins σ H s)(ha:aL X.K H a xs)(hc:aL X.K H c []):RcAt X.A s (.ref a) (.ref c) xs.isEmpty/\RcNeAt X.A s (.ref a) (.ref c) (!xs.isEmpty):=by
 obtain⟨its,r,p,_⟩:=I.list ha;obtain⟨its',r',p',_⟩:=I.list hc;have e1:=r.length;have e2:=r'.length;simp at e2;cases xs with
 |nil =>
  simp at e1;have z1:its=[]:=by simpa using e1.symm
  have z2:its'=[]:=by simpa using e2.symm
  subst z1 z2;constructor
  ·have:=RcAt.lists (A:=X.A) (e:=fun _=>true) p.isList p'.isList rfl (by omega) (fun j h1 _=>j' h1 (by simp))
   simpa using this
  ·have:=RcNeAt.lists (A:=X.A) (e:=fun _=>true) p.isList p'.isList rfl (by omega) (fun j h1 _=>j' h1 (by simp))
   simpa using this
 |cons x t =>
  have hne:(its.toArray.size != its'.toArray.size)=true:=by
   simp at e1;have z2:its'=[]:=by simpa using e2.symm
   subst z2;have:its.length≠0:=by omega
   simpa using this
  exact⟨RcAt.lists_lengths p.isList p'.isList hne (by omega),RcNeAt.lists_lengths p.isList p'.isList hne (by omega)⟩
theorem Md (hu:X.A.units+64<cLine):lW X (compareOp .Eq) (V5 X.K false):=by
 intro pins s σ H x y v u Q I r1 r2 h;obtain⟨a,c,xs,rfl,rfl,ha,hc,q⟩:=h;cases r1;cases r2;exact(QA hu I ha hc).1 X.prog X.w X.xe _ ⟨.bl _,H,I,rfl,q⟩
end
end L2
namespace L2
open PySem PySem.Spec PyProof.Rows
end L2
namespace L2
open PySem PySem.Spec PyProof.Rows
def Ld (l:List Env)(G:Heap)(e:Addr)(cls:Value)(h:Heap):Prop :=
 ∃ B a0,(∀ b o,G.get? b=some o->b ∉ frs l->B.get? b=some o)/\Heap.FlyingW B l e cls a0 h/\G.UpToSlots h/\G.get? e=none
noncomputable def hZ (P:Program)(w:World):Gw:=fun outer H s E ev s' =>
 ∃ a cls H' G,ev=.ref a/\s'.os=s.os/\AllBare s'.gens/\Un (frs outer) [] H H' s.heap G/\oj P w H' G/\Ld outer G a cls s'.heap/\E cls none H'
abbrev Le:=St->Value->Hp->Prop
def WX (X:Cx)(XS:Le):Value->Shared->Prop:=fun ev s' =>
 ∃ pins σ H' G a cls,ev=.ref a/\Inv X pins σ H' { s' with heap:=G }/\Ld X.stack G a cls s'.heap/\XS σ cls H'
def WD (X:Cx)(XS:Le):Value->Shared->Prop:=fun ev s'=>WX X XS ev s' \/
 ∃ pins σ H' G a cls args,ev=.ref a/\Inv X pins σ H' { s' with heap:=G }/\Heap.MadeExcOf G s'.heap a cls args/\XS σ cls H'
section
variable {X:Cx} {pins:List (Addr×Obj)} {σ:St} {H H':Hp} {s s':Shared}
theorem S1 {XS:Le}{ev:Value}(I:Inv X pins σ H s)(h:hZ X.prog X.w X.stack H s (fun cls _ H'=>XS σ cls H') ev s'):WX X XS ev s':=by
 obtain⟨a,cls,H',G,e,os,bare,un,hok,Me,q⟩:=h;refine⟨pins,σ,H',G,a,cls,e,?_,Me,q⟩;exact I.call' (s':={ s' with heap:=G }) (ch:=[]) os un hok bare fun b z=>j' z (by simp)
theorem strike {P:Program}{w:World}{h G:Heap}{L:Addr}{fs:List Addr}(un:Un fs [] H H' h G)(hok:oj P w H' G)(hL:h.objs.size<=L)(hf:H' L=none):Un fs [] H H' h (hideAll G [L])/\oj P w H' (hideAll G [L]):=by
 have get:∀{b o},G.get? b=some o->b≠L->(hideAll G [L]).get? b=some o:=fun e hn=>hideAll_get _ e (by simpa using hn);have ne:∀{b o},h.get? b=some o->b≠L:=fun e z=>j' (z ▸ Zb' e) (Nat.not_lt.mpr hL);refine⟨⟨fun b o e n hb hx=>get (un.keep b o e n hb hx) (ne e),fun b o e n hb hx=>?_,un.free,fun b o e hx=>?_,un.tups,un.si,un.uV⟩,fun b u e=>?_⟩
 ·obtain⟨sl,z⟩:=un.slot b o e n hb hx;exact⟨sl,get z (ne e)⟩
 ·obtain⟨o',z⟩:=un.there b o e hx;exact⟨o',get z (ne e)⟩
 ·refine(hok b u e).stay (fun c v hc q=>get q ?_) (fun _ q=>q) fun _ _ q=>q;rintro rfl;rcases hc with rfl|hc
  ·rw[hf]at e;cases e
  ·rw[hf]at hc;cases hc
theorem Ld.strike {env:Env}{outer:List Env}{G h:Heap}{B:Heap}{e L:Addr}{cls a0:Value}(hf:env.frame=some L)(cov:∀ b o,G.get? b=some o->b ∉ frs (env::outer)->B.get? b=some o)(fl:Heap.FlyingW B outer e cls a0 h)(up:G.UpToSlots h)(hn:G.get? e=none):Ld outer (hideAll G [L]) e cls h:=by
 have back:∀{b o},(hideAll G [L]).get? b=some o->G.get? b=some o/\b≠L:=fun {b o} q=>⟨of_hideAll _ q,fun z=>by
  rw[hideAll_none [L] (by rw[z];simp)]at q;cases q⟩
 refine⟨B,a0,fun b o q hb=>?_,fl,fun b o q hd=>up b o (back q).1 hd,?_⟩
 ·obtain⟨q1,q2⟩:=back q;refine cov b o q1 ?_;unfold frs;rw[List.filterMap_cons,hf];intro z;rcases List.mem_cons.mp z with z|z
  ·exact q2 z
  ·exact hb z
 ·cases q:(hideAll G [L]).get? e with
  |none=>rfl
  |some o=>rw[(back q).1]at hn;cases hn
end
theorem leaveX {P:Program}{w:World}{K:Frag}{mg:Str->Option Value}{base:Heap}{N:List Str}{qual:Str}{scope:Scope}{f:Addr}{cdv:Value}{A:Around}{outer:List Env}{s:Shared}{H:Hp}{E:XK}{ev:Value}{s':Shared}
  (h:WD (dM (hZ P w) P w K mg base N qual scope f cdv A outer s H E) (fun _ cls H'=>E cls none H') ev s'):(dM (hZ P w) P w K mg base N qual scope f cdv A outer s H E).xe ev s':=by
 rcases h with ⟨pins,σ,H',G,a,cls,rfl,I,⟨B,a0,cov,fl,up,hn⟩,q⟩|⟨pins,σ,H',G,a,cls,args,rfl,I,hm,q⟩
 ·show wpAny (model P w) _ (leaving _ (.ref a)) _ _ s';refine wpAny_leaves_onW I.ok.frames rfl fl fun h' QB QC=>?_;obtain⟨un,hok⟩:=strike I.base I.hok I.ok.above I.free;exact⟨a,cls,H',_,rfl,I.os,I.bare,un,hok,Ld.strike rfl cov QB (up.trans QC) hn,q⟩
 ·show wpAny (model P w) _ (leaving _ (.ref a)) _ _ s';have hin:∀ env∈(dM (hZ P w) P w K mg base N qual scope f cdv A outer s H E).stack,∀ b,env.frame=some b->b∈frs (dM (hZ P w) P w K mg base N qual scope f cdv A outer s H E).stack:=fun env he b hb=>List.mem_filterMap.mpr ⟨env,he,hb⟩;refine wpAny_leaves_madeW (base:=hideAll G (frs (dM (hZ P w) P w K mg base N qual scope f cdv A outer s H E).stack)) (h:=G) I.ok.frames rfl (fun b o z=>of_hideAll _ z) (PySem.W.funFrames_hide I.stack hin) hm fun h' t QB _ _ QC=>?_;obtain⟨un,hok⟩:=strike I.base I.hok I.ok.above I.free;exact⟨a,cls,H',_,rfl,I.os,I.bare,un,hok,Ld.strike rfl (fun b o z hb=>hideAll_get _ z hb) QB ((Heap.UpToSlots.of_keeps hm.keeps).trans QC) hm.new,q⟩
theorem se.Mf {X:Cx}{E1:Value->Shared->Prop}{st:List Stmt}{t:TS}(h:se (X.wish E1) st t)(hE:∀ e s,E1 e s->X.xe e s):se X st t:=fun pins s σ H D I hw =>
 wpAny_mono (h pins s σ H D (I.wish _) hw) (fun _ _ q=>q.fO) hE
section
variable {P:Program} {w:World} {K:Frag} {mg:Str->Option Value} {base:Heap}
theorem Gx.GY {x qual:Str}{st:Stmt}{f:Addr}{fd:FuncData}{N ps:List Str}{k:Nat}{sp:Sp}(F:Gx K x qual st f fd)(S:az N ps (aj st))(len:∀ vs H Q E,sp vs H Q E->vs.length=ps.length)
  (hbody:∀(cdv:Value)(A:Around)(outer:List Env)(s:Shared)(H:Hp)(vs:List V)(Q:VK)(E:XK),dm k (A.deeper (envOfC qual (aj st) s.heap.objs.size f cdv))->sp vs H Q E ->
   ∃ t,se ((dM (hZ P w) P w K mg base N qual (aj st) f cdv A outer s H E).wish (WD (dM (hZ P w) P w K mg base N qual (aj st) f cdv A outer s H E) fun _ cls H'=>E cls none H')) (a8 st) t/\t { nx:=fun _ H'=>Q .non H',rt:=Q } (start N vs) H):aR P w K mg base (hZ P w) (k+1) f fd ps sp:=by
 obtain⟨oc,od,kV,doc,pm,an,cdv,ct,osl,rfl,lk,hcd⟩:=F.ex;refine Bh lk hcd S len fun A outer s H vs Q E hr hsp=>?_;obtain⟨t,h,q⟩:=hbody cdv A outer s H vs Q E hr hsp;exact⟨t,h.Mf fun _ _ z=>leaveX z,q⟩
end
def QD (sp:Sp)(iq:List V)(XS:Le)(t:TA):TE:=fun σ H Q=>t σ H fun vs H1=>sp (vs++iq) H1 Q fun cls _ H'=>XS σ cls H'
inductive IB (C:Addr)(m:Str)(sp:Sp)(iq:List V)(XS:Le)(t:TA)(σ:St)(Q:VK)(x:V)(H1:Hp):Prop
 |mk (a:_) (dx:_) (fs:_) (cL:x=.ref a) (cM:H1 a=some (.ins C dx fs)) (dA:fs.lookup m=none) (fA:t σ H1 fun vs H2=>sp (x::(vs++iq)) H2 Q fun cls _ H'=>XS σ cls H'):IB C m sp iq XS t σ Q x H1
def QE (C:Addr)(m:Str)(sp:Sp)(iq:List V)(XS:Le)(ta:TE)(t:TA):TE:=fun σ H Q=>ta σ H fun x H1=>IB C m sp iq XS t σ Q x H1
section
variable {X:Cx} {W:Value->Shared->Prop} {XS:Le} {k:Nat} {f C:Addr} {fd:FuncData} {ps:List Str} {sp:Sp} {iq:List V} {ds:List Value} {x m:Str} {p pos apos:Pos} {e o:Expr} {es:List Expr} {ta:TE} {t:TA}
theorem IC {pins:List (Addr×Obj)}{σ:St}{H:Hp}{s:Shared}{Q:VK}{us:List Value}{vs:List V}(F:aR X.prog X.w X.K X.mg X.base (hZ X.prog X.w) k f fd ps sp)(hr:dm k X.A)(hb:Binds X.K fd ps ds)(hd:Vals iq ds)(hx:∀ ev s',WX X XS ev s'->W ev s')
  (I:Inv (X.wish W) pins σ H s) (r:Vals vs us) (h:sp (vs++iq) H Q fun cls _ H'=>XS σ cls H'):wpAny (model X.prog X.w) X.A (call (.ref f) us) (EP (X.wish W) pins σ Q) W s:=by
 have I0:=I.fO;have r2:Vals (vs++iq) (us++ds):=r.append hd;have hl:(us++ds).length=ps.length:=by rw[<-r2.length];exact F.len _ _ _ _ h
 refine wpAny_call (codeAny_mono (F.run X.A X.stack s H ⟨us,[]⟩ (us++ds) (vs++iq) Q _ hr I0.env0 (hb s us I0.hX hl) r2 h) fun r s' hq=>?_);cases r with
 |error e=>exact hx _ _ (S1 I0 hq)
 |ok fl =>
  cases fl with
  |ret u=>exact I.after hq
  |next=>exact False.elim hq
  |brk=>exact False.elim hq
  |cont=>exact False.elim hq
theorem yI (F:aR X.prog X.w X.K X.mg X.base (hZ X.prog X.w) k f fd ps sp)(hr:dm k X.A)(hg:Gl (X.wish W) x)(hm:X.mg x=some (.ref f))(hk:keepIn X.K (.ref f)=true)(hb:Binds X.K fd ps ds)(hd:Vals iq ds)(hx:∀ ev s',WX X XS ev s'->W ev s')
  (ha:PA (X.wish W) (e::es) t) (hdb:(x==("__debug__":Str))=false:=by decide) (he:starEach (e::es) X.env=(false,eval e X.env)::starEach es X.env:=by rfl) (hpl:(backTo pos (starEach es X.env)).any (·.1)=false:=by rfl) :
  PE (X.wish W) (.Call (.Name x p) (e::es) [] pos) (QD sp iq XS t):=by
 intro pins s σ H Q I h;refine wpAny_Call_Name_kw (fq I hg hm ?_ hdb);refine callWith_K (h₀:=X.base) I.ok.mod.Ia hk (bS (ha pos pins s σ H _ I h) fun us s1 ⟨vs,H1,I1,r,q⟩=>⟨I1.hX,?_⟩) he hpl;exact IC (X:=X) F hr hb hd hx I1 r q
theorem dr {pl:Sem Bool}(ho:PE (X.wish W) o ta)(c:GG X.K C)(hm:Meth X.K C m f)(F:aR X.prog X.w X.K X.mg X.base (hZ X.prog X.w) k f fd ps sp)(hr:dm k X.A)(hb:Binds X.K fd ps ds)(hd:Vals iq ds)(hx:∀ ev s',WX X XS ev s'->W ev s')(ha:PA (X.wish W) (e::es) t)
  (hst:starEach (e::es) X.env=(false,eval e X.env)::starEach es X.env:=by rfl) (hpl:(backTo pos (starEach es X.env)).any (·.1)=false:=by rfl)
  (ht:eval (.Call (.Attribute o m apos) (e::es) [] pos) X.env=(do
   let ov <-eval o X.env
   standAt apos.atName
   let (f,first) <-holding [ov] (getMethod ov m pl)
   callWith pos f first (backTo pos (starEach (e::es) X.env)) (backToKw pos (keywordEach [] X.env))):=by rfl) :
  PE (X.wish W) (.Call (.Attribute o m apos) (e::es) [] pos) (QE C m sp iq XS ta t):=by
 intro pins s σ H Q I h;refine methodCall_KW (pl:=pl) (bS (ho pins s σ H _ I h) fun u s1 ⟨x,H1,I1,rx,a,dx,fs,ex,ea,l,q⟩=>?_) ht;subst ex;obtain rfl:u=Value.ref a:=rx;refine mS I1 ea c hm l ?_;refine callWith_K (first:=[.ref a]) (h₀:=X.base) I.ok.mod.Ia hm.kp (bS (ha pos pins s1 σ H1 _ I1 q) fun us s2 ⟨vs,H2,I2,r,q2⟩=>⟨I2.hX,?_⟩) hst hpl;exact IC (X:=X) (us:=.ref a::us) (vs:=.ref a::vs) F hr hb hd hx I2 (.cons rfl r) q2
end
abbrev cz:List Value:=[.type "ValueError",.type "Exception",.type "BaseException",.type "object"]
def UH (K:Frag)(C:Addr):Prop:=excIn K C cz "ValueError.__new__" = true
theorem UH.obj {K:Frag}{C:Addr}{h:Heap}(q:UH K C)(X:K.In h):∃ bm N nm qn bs hdct sn sub ab col dd k0 k1 k2 k3 k5 mN,h.get? C=some (excClassObj nm qn C N bs bm hdct sn sub ab col dd k0 k1 k2 k3 k5 "ValueError.__new__")/\h.Ns N mN/\mN "__init__"=none/\OwnTail h cz bm:=by
 have q:excIn K C cz "ValueError.__new__" = true:=q;unfold excIn at q;split at q
 ·next dd cd sl ho =>
  split at q
  ·next C' bm k0 k1 k2 k3 n k5 hm hs =>
   simp only [Bool.and_eq_true,beq_iff_eq,Bool.not_eq_true']at q;obtain⟨⟨⟨⟨⟨rfl,rfl⟩,hdel⟩,ht⟩,hok⟩,hni⟩:=q;obtain⟨nm,bs,mro,ns,qn,hd,sn,sub,ab,col,del⟩:=cd;dsimp only at hm hdel hok hni;subst hm;subst hdel;obtain⟨l⟩:=sl;have hl:l=[k0,k1,k2,k3,some (.builtin "ValueError.__new__"),k5]:=hs;subst hl;refine⟨bm,ns,nm,qn,bs,hd,sn,sub,ab,col,dd,k0,k1,k2,k3,k5,h.nsMap ns,X _ _ ho,?_,?_,tail_of_in X ht⟩
   ·exact .of_isNs (isNs_of_in X hok)
   ·exact PySem.W.nsMap_none_of_in X hok hni
  ·cases q
 ·cases q
def QF (C:Addr)(XS:Le)(te:TA):TS:=fun _ σ H=>te σ H fun vs H1=>vs.length<=sizeLine/\XS σ (.ref C) H1
theorem fT {X:Cx}{XS:Le}{W:Value->Shared->Prop}{C:Addr}{x:Str}{np cpos pos:Pos}{e:Expr}{es:List Expr}{t:TA}(hx:∀ ev s',WD X XS ev s'->W ev s')(hc:X.calm=true)(q:UH X.K C)(hg:Gl (X.wish W) x)(hm:X.mg x=some (.ref C))(ha:PA (X.wish W) (e::es) t)
  (hdb:(x==("__debug__":Str))=false:=by decide) (he:starEach (e::es) X.env=(false,eval e X.env)::starEach es X.env:=by rfl) (hpl:(backTo cpos (starEach es X.env)).any (·.1)=false:=by rfl) :
  PS (X.wish W) (.Raise (some (.Call (.Name x np) (e::es) [] cpos)) none pos) (QF C XS t):=by
 intro pins s σ H D I h;obtain⟨bm,N,nm,qn,bs,hdct,sn,sub,ab,col,dd,k0,k1,k2,k3,k5,mN,hC,hN,hni,T⟩:=q.obj I.mod.Ia;refine wpAny_Raise_call_subT (C:=C) (nm:=nm) (q:=qn) (N:=N) (bs:=bs) (bm:=bm) (hdct:=hdct) (sn:=sn) (sub:=sub) (ab:=ab) (col:=col) (dd:=dd) (k0:=k0) (k1:=k1) (k2:=k2) (k3:=k3) (k5:=k5) (mN:=mN)
  excBase_ValueError (T.hasType excBase_ValueError.hasBase) (I.ok.hd hc) ?_ hni (fq I hg hm ⟨rfl,?_⟩ hdb)
 ·show(backTo cpos (starEach (e::es) X.env)).any (·.1)=false;rw[he];show(false||(backTo cpos (starEach es X.env)).any (·.1))=false;rw[hpl];rfl
 ·have h1:=ha cpos pins s σ H _ I h;show wpAny (model X.prog X.w) X.A (evalArgs (.ref C) true (backTo cpos (starEach (e::es) X.env)) []) _ W s;have h1:wpAny (model X.prog X.w) X.A (spliced (backTo cpos (starEach (e::es) X.env))) _ W s:=h1;rw[he]at h1 ⊢;refine Calls.evalArgs_plain (wpAny_mono h1 (fun us s1 ⟨vs,H1,I1,r,hz,q1⟩=>?_) fun _ _ z=>z);refine⟨rfl,by rw[<-r.length];exact hz,I1.bk _ _ hC,hN.keeps I1.bk,T.keeps I1.bk,fun h' a hm'=>hx _ _ (.inr ?_)⟩;exact⟨pins,σ,H1,s1.heap,a,.ref C,us,rfl,I1.fO,hm',q1⟩
noncomputable abbrev Cx.uT (X:Cx)(pn:List (Addr×Obj)):Cx:={ X with pn:=pn }
noncomputable abbrev Cx.hand (X:Cx)(a:Addr):Cx:={ X with A:=X.A.mark (some (.ref a)),calm:=false,xe:=fun _ _=>False }
theorem Cx.Ok.uT {X:Cx}(ok:X.Ok)(pn:List (Addr×Obj)):(X.uT pn).Ok :=
 ⟨ok.mod,ok.kind,ok.glob,ok.blt,ok.above,ok.inj,ok.has,ok.cab,ok.hd,ok.frames,ok.RQ,ok.RS,ok.bs,ok.JJ,ok.GA,ok.GB,ok.qX,ok.NP⟩
theorem Cx.Ok.hand {X:Cx}(ok:X.Ok)(a:Addr):(X.hand a).Ok :=
 ⟨ok.mod,ok.kind,ok.glob,ok.blt,ok.above,ok.inj,ok.has,ok.cab,(fun z=>nomatch z),ok.frames,ok.RQ,ok.RS,ok.bs,ok.JJ,ok.GA,ok.GB,ok.qX,ok.NP⟩
section
variable {X:Cx} {pins A9:List (Addr×Obj)} {σ:St} {H H':Hp} {s:Shared}
theorem Inv.uT (I:Inv X pins σ H s):Inv (X.uT (X.pn++pins)) [] σ H s:=⟨I.ok.uT _,I.os,I.bare,I.base,I.loc,I.cell,I.free,I.gB,fun p hp=>I.pin p (by simpa using hp),I.hok,I.len⟩
theorem Inv.kr (I:Inv (X.uT (X.pn++pins)) A9 σ H s)(ok:X.Ok):Inv X pins σ H s:=⟨ok,I.os,I.bare,I.base,I.loc,I.cell,I.free,I.gB,fun p hp=>I.pin p (mem_append_left _ hp),I.hok,I.len⟩
theorem SP.kr {D:Ends}{f:Flow}{s':Shared}(ok:X.Ok)(h:SP (X.uT (X.pn++pins)) [] D f s'):SP X pins D f s':=by
 cases f with
 |next=>obtain⟨σ',H',I,q⟩:=h;exact⟨σ',H',I.kr ok,q⟩
 |brk=>obtain⟨σ',H',I,q⟩:=h;exact⟨σ',H',I.kr ok,q⟩
 |cont=>obtain⟨σ',H',I,q⟩:=h;exact⟨σ',H',I.kr ok,q⟩
 |ret u=>obtain⟨v,σ',H',I,r,q⟩:=h;exact⟨v,σ',H',I.kr ok,r,q⟩
theorem Inv.hand (I:Inv X pins σ H s)(a:Addr):Inv (X.hand a) pins σ H s:=⟨I.ok.hand a,I.os,I.bare,I.base,I.loc,I.cell,I.free,I.gB,I.pin,I.hok,I.len⟩
theorem Inv.yJ {a:Addr}(I:Inv (X.hand a) pins σ H s)(ok:X.Ok):Inv X pins σ H s:=⟨ok,I.os,I.bare,I.base,I.loc,I.cell,I.free,I.gB,I.pin,I.hok,I.len⟩
theorem Inv.flown {G h' B:Heap}(I:Inv X pins σ H { s with heap:=G })(cov:∀ b o,G.get? b=some o->b ∉ frs X.stack->B.get? b=some o)(st:B.StaysIn h')(up:G.UpToSlots h'):Inv X pins σ H { s with heap:=h' }:=by
 have keep:∀ b o,G.get? b=some o->b ∉ frs X.stack->h'.get? b=some o:=fun b o e hb=>st b o (cov b o e hb);have slot:∀ b o,G.get? b=some o->b∈frs X.stack->∃ sl,h'.get? b=some { o with slots:=sl }:=fun b o e hb=>by
  obtain⟨_,o',e',hd⟩:=I.stack.mem hb;have:o'=o:=W' (e'.symm.trans e);subst this;exact up b o' e hd
 refine I.call' (s':={ s with heap:=h' }) (ch:=[]) rfl ⟨fun b o e _ hb _=>keep b o e hb,fun b o e _ hb _=>slot b o e hb,fun _ _ _ n _=>n,fun b o e _=>?_,fun _ _ q=>q,fun _ _ _ q=>q,fun _ ps q=>⟨#[],by rw[q];simp⟩⟩ (fun b u e=>?_) I.bare fun b z=>j' z (by simp)
 ·by_cases hb:b∈frs X.stack
  ·obtain⟨sl,z⟩:=slot b o e hb;exact⟨_,z⟩
  ·exact⟨o,keep b o e hb⟩
 ·refine(I.hok b u e).stay (fun c v hc q=>keep c v q fun hm=>?_) (fun _ q=>q) fun _ _ q=>q;have hf:=I.CO c hm;rcases hc with rfl|hc
  ·rw[hf]at e;cases e
  ·rw[hf]at hc;cases hc
theorem cP.is {P:Program}{w:World}{h:Heap}{a:Addr}{o:HO}(x:cP P w H h a o):∃ ob,h.get? a=some ob:=by
 cases o with
 |lst xs=>obtain⟨_,_,_,_,e⟩:=x;exact⟨_,e⟩
 |tup xs=>obtain⟨_,_,_,p⟩:=x;obtain⟨ob,e,_⟩:=p;exact⟨ob,e⟩
 |dK kvs=>obtain⟨_,_,_,_,o,_,_,e,_⟩:=x;exact⟨_,e⟩
 |dT kvs=>obtain⟨_,_,_,_,o,_,_,e,_⟩:=x;exact⟨_,e⟩
 |set S n=>obtain⟨o,_,_,_,e,_⟩:=x;exact⟨_,e⟩
 |ins C dx fs=>obtain⟨_,_,_,e,_⟩:=x;exact⟨_,e⟩
 |own y=>exact x
 |xd fs=>obtain⟨_,⟨_,_,_,e,_⟩,_⟩:=x;exact⟨_,e⟩
 |Uw lo hi=>obtain⟨_,_,_,e⟩:=x;exact⟨_,e⟩
 |Gz ob u=>obtain⟨e,_⟩:=x;exact⟨_,e⟩
 |O4 ps=>exact⟨_,show h.get? a=some _ from x⟩
 |met f y=>exact⟨_,show h.get? a=some _ from x⟩
 |ext φ=>obtain⟨_,e,_⟩:=x;exact e
theorem Inv.va {G:Heap}{a:Addr}(I0:Inv X pins σ H { s with heap:=G })(hn:G.get? a=none):H a=none:=by
 cases q:H a with
 |none=>rfl
 |some u =>
  obtain⟨ob,e⟩:=(I0.hok a u q).is;have e:G.get? a=some ob:=e;rw[hn]at e;cases e
theorem Inv.track {G:Heap}{a:Addr}{o:HO}(I0:Inv X pins σ H { s with heap:=G })(hn:G.get? a=none)(I:Inv X pins σ H s)(new:cP X.prog X.w (upd H a o) s.heap a o):Inv X pins σ (upd H a o) s:=by
 have hH:=I0.va hn;have ne:∀{b ob},G.get? b=some ob->b≠a:=fun e z=>by rw[z,hn]at e;cases e
 have YV:∀{b ob},X.s₀.heap.get? b=some ob->b ∉ X.ex->b≠a:=fun {b ob} e hx=>by
  obtain⟨o',z⟩:=I0.base.there b ob e hx;exact ne z
 refine⟨I.ok,I.os,I.bare,⟨I.base.keep,I.base.slot,fun b ob e n hx=>?_,I.base.there,fun b xs q=>?_,fun b ob u q=>?_,fun b ps q=>?_⟩,I.loc,I.cell,?_,fun x c e=>?_,fun p hp=>?_,fun b u e=>?_,I.len⟩
 ·rw[ak (YV e hx)];exact I.base.free b ob e n hx
 ·have:=I.base.tups b xs q;rw[ak (au this hH)];exact this
 ·have:=I.base.si b ob u q;rw[ak (au this hH)];exact this
 ·obtain⟨m,this⟩:=I.base.uV b ps q;exact⟨m,by rw[ak (au this hH)];exact this⟩
 ·obtain⟨m,⟨ob,_,_,e,_⟩,_⟩:=I0.loc;rw[ak (ne e)];exact I.free
 ·obtain⟨v,ob,z,_⟩:=I0.cell x c e;rw[ak (ne z)];exact I.gB x c e
 ·obtain⟨e,n,r⟩:=I.pin p hp;refine⟨e,?_,r⟩;rw[ak (ne (I0.pin p hp).1)];exact n
 ·by_cases hb:b=a
  ·subst hb;rw[ag]at e;cases e;exact new
  ·rw[ak hb]at e;refine(I.hok b u e).stay (fun _ _ _ q=>q) (fun c q=>?_) fun c xs q=>?_
   ·rw[ak (au q hH)];exact q
   ·rw[ak (au q hH)];exact q
theorem J3 {M:Model}{A:Around}{E:Value->Shared->Prop}{i:Nat}{n:Str}{pos:Pos}{Q:Unit->Shared->Prop}(I:Inv X pins σ H s)(hN:X.N.Nodup)(hi:X.N[i]? = some n)(hl:X.env.kindOf n=some .local)
  (h:∀ s',Inv X pins (σ.set i none) H s'->Q () s'):wpAny M A (do bindName X.env n .none;unbindBehindTheSuite X.env n pos) Q E s:=by
 obtain⟨m,hn,hm⟩:=id I.loc;have Uy:i<σ.length:=by rw[I.len];exact(S'.mp hi).1
 refine wpAny_nameGoes_keeps hl hn (by rw[I.ok.kind];rfl) fun h' v hn' hs=>h _ ?_;obtain⟨oL,_,_,hoL,_⟩:=id hn;have old:∀{b o},X.s₀.heap.get? b=some o->b≠X.env.locals:=fun e=>Zo' (Ze' (Zb' e) I.ok.above);refine⟨I.ok,I.os,I.bare,⟨fun b o e n hb hx=>(hs.2 b (old e)).trans (I.base.keep b o e n hb hx),fun b o e n hb hx=>?_,I.base.free,fun b o e hx=>?_,I.base.tups,I.base.si,I.base.uV⟩,⟨_,hn',fun j y v' e1 e2 e3=>?_⟩,fun y c e=>?_,I.free,I.gB,fun p hp=>?_,fun b ob e=>?_,by simpa using I.len⟩
 ·obtain⟨sl,z⟩:=I.base.slot b o e n hb hx;exact⟨sl,(hs.2 b (old e)).trans z⟩
 ·obtain⟨o',z⟩:=I.base.there b o e hx;exact⟨o',(hs.2 b (old e)).trans z⟩
 ·by_cases hj:j=i
  ·subst hj;rw[List.getElem?_set_self Uy]at e2;cases e2
  ·rw[List.getElem?_set_ne (Ne.symm hj)]at e2;obtain⟨u',r',q⟩:=hm j y v' e1 e2 e3;refine⟨u',r',?_⟩;rcases q with ⟨k,z⟩|⟨k,c,z1,z2⟩
   ·have:y≠n:=fun z=>hj (yx hN e1 (z ▸ hi));exact .inl ⟨k,by simp[this,z]⟩
   ·exact .inr ⟨k,c,z1,z2.sameBut hs (I.NW y c z1)⟩
 ·obtain⟨w',z⟩:=I.cell y c e;exact⟨w',z.sameBut hs (I.NW y c e)⟩
 ·obtain⟨e,n,ne,nf,d⟩:=I.pin p hp;exact⟨(hs.2 p.1 ne).trans e,n,ne,nf,d⟩
 ·refine(I.hok b ob e).stay (fun c w' hc q=>(hs.2 c ?_).trans q) (fun _ q=>q) fun _ _ q=>q;rintro rfl;rcases hc with rfl|hc
  ·rw[I.free]at e;cases e
  ·rw[I.free]at hc;cases hc
end
noncomputable def Ends.gone (D:Ends)(i:Nat):Ends:={ nx:=fun σ H=>D.nx (σ.set i none) H,rt:=D.rt,bk:=fun σ H=>D.bk (σ.set i none) H,ct:=fun σ H=>D.ct (σ.set i none) H }
end L2
namespace L2
open PySem PySem.Spec PyProof.Rows
structure Pt (K:Frag)(C:Addr):Prop where
 exc:UH K C
 ga:findIn K (.ref C) "__getattribute__"=some (some (.builtin "BaseException.__getattribute__"))
 Mg:findIn K (.ref C) "__getattr__"=some none
 cl:findIn K (.ref C) "__class__"=some (some (.builtin "object.__class__"))
section
variable {prog:Program} {w:World} {A:Around} {E:Value->Shared->Prop} {h:Heap} {g:Array GenState} {d:Drawn} {t:Nat} {os:OsState} {a:Addr} {o:Obj} {vs:Array Value} {K:Frag}
 {nm q:Str} {C N:Addr} {bs bm:List Value} {hdct:Bool} {sn:List Str} {sub:List Value} {ab:Bool} {col:Option Bool} {dd:Option Addr} {k0 k1 k2 k3 k5:Option Value} {newId:String}
theorem GZ {R:Result->Shared->Prop}(hC:h.get? C=some (excClassObj nm q C N bs bm hdct sn sub ab col dd k0 k1 k2 k3 k5 newId))(T:OwnTail h cz bm)(hx:h.get? a=some o)(hc:o.cls=.ref C)(hq:R (.ok (.ret (.ref C))) ⟨h,g,d,t,os⟩) :
  codeAny (model prog w) A (.call (.builtin "getset_descriptor.__get__") ⟨[.builtin "object.__class__",.ref a,.ref C],[]⟩) R ⟨h,g,d,t,os⟩:=by
 have hG:(⟨h,g,d,t,os⟩:Shared).TypeIs (.builtin "object.__class__") "getset_descriptor":=F.typeOf_object_class;have own:(Value.ref C::bm).contains (.type (".".intercalate ("object.__class__".cutAt '.').dropLast))=true:=by
  rw[F.owner_object_class,List.contains_cons,T.hasType (show cz.contains (.type "object")=true from rfl)];rfl
 refine codeAny_call_builtin F.slot_gs_get.plain F.entry_gs_get (F.slot_gs_get.check _ _ _ _ _ _ _ _ hG (F.args_gs_get _ _ _) ?_)
 repeat (any_goals (first|assumption|(with_reducible refine wpAny_loadPart_at hx ?_;rw[hc])|(with_reducible refine wpAny_isSubtype_exc hC ?_;rw[own])|wp_step))
 refine⟨Code.quiet_builtin _ (by lk),codeAny_builtin F.entry_object_class ?_⟩
 repeat (any_goals (first|assumption|(with_reducible refine wpAny_loadPart_at hx ?_;rw[hc])|wp_step))
theorem vV {M:Model}{nameV:Value}{Q:Unit->Shared->Prop}(hC:h.get? C=some (excClassObj nm q C N bs bm hdct sn sub ab col dd k0 k1 k2 k3 k5 newId))(T:OwnTail h cz bm)
  (hx:h.get? a=some o) (hc:o.cls=.ref C) (hq:Q () ⟨h,g,d,t,os⟩):wpAny M A (checkBuiltinCall "BaseException.__getattribute__" ⟨[.ref a,nameV],[]⟩) Q E ⟨h,g,d,t,os⟩:=by
 have kd:builtinKind "BaseException.__getattribute__" = some .slot:=by lk
 have sp:splitId "BaseException.__getattribute__" = some ("BaseException","__getattribute__"):=by lk
 have own:(Value.ref C::bm).contains (.type "BaseException")=true:=by rw[List.contains_cons,T.hasType (show cz.contains (.type "BaseException")=true from rfl)];rfl
 have ar:=F.args_bexc_ga (.ref a) nameV;simp only [checkBuiltinCall,kd,sp];refine K' ?_;unfold isInstance
 repeat (first|(with_reducible refine wpAny_loadPart_at hx ?_;rw[hc])|(with_reducible refine wpAny_isSubtype_exc hC ?_;rw[own])|wp_step)
 exact hq
end
section
variable {X:Cx}
theorem ID:∀{cs:List Addr} {us:List Value},Vals (cs.map V.ref) us->us=cs.map Value.ref
 |[],_,.nil=>rfl
 |c::t,_,.cons r s=>by
  have:_=Value.ref c:=r;rw[this,ID s];rfl
theorem vW:Passes (hZ X.prog X.w) X E0:=fun _ _ _ _ _ _ _ ⟨_,_,_,_,_,_,_,_,_,_,z⟩=>z.elim
end
end L2
namespace L2
open PySem PySem.Spec PyProof.Rows
section
variable {P:Program} {w:World} {K:Frag} {mg:Str->Option Value} {base:Heap}
end
section
variable {X:Cx} {tg iter elt:Expr} {ifs:List Expr} {scope:Scope} {pos:Pos} {cn:List Str} {wi:TI} {g:Bk->TG} {tc:Bk->TT} {te:Bk->TE} {TH:Bk->Prop}
end
noncomputable def En (x:Str)(n:Int):Str:=if n<1 then Str.empty else if(n==1||x.length==0)=true then x else { cps:=List.foldl (fun x1 x2=>x1++x2) #[] (List.replicate n.toNat x.cps) }
theorem Of {X:Cx}:lW X (binaryOp .Mult) (fun x y H Q=>∃ i n,x=.str i/\y=.int n/\-1000<n/\n<1000/\i.length<1000/\(En i n).length<=sizeLine/\Q (.str (En i n)) H):=by
 intro pins s σ H x y v u Q I rx ry h;obtain⟨i,n,rfl,rfl,h1,h2,h3,h4,q⟩:=h;obtain⟨t,rfl⟩:=rx;obtain⟨t',rfl⟩:=ry;refine PySem.P.mul_str ?_ (fun a b=>?_) (fun a b=>?_) ?_
 ·have e1:¬ n < -2 ^ 63:=by omega
  have e2:¬ n ≥ 2 ^ 63:=by omega
  rw[V' e1,V' e2];rfl
 ·have n1:1<=n:=by omega
  have:(1000:Int)<=(2 ^ 63-1) / n:=by
   refine Int.le_ediv_of_mul_le (by omega) ?_;omega
  omega
 ·have:i.length * n.toNat<=1000 * 1000:=Nat.mul_le_mul (by omega) (by omega);exact V' (Nat.not_lt.mpr (Zf' this (by decide)))
 ·unfold En at q h4;split
  ·next z=>rw[Zc' z]at q;exact⟨by decide,.str _,H,I.tok _,⟨_,rfl⟩,q⟩
  ·next z =>
   rw[Za' z]at q h4;split
   ·next z2=>rw[Zc' z2]at q;exact⟨.str _,H,I,⟨_,rfl⟩,q⟩
   ·next z2=>rw[Za' z2]at q h4;exact⟨h4,.str _,H,I.tok _,⟨_,rfl⟩,q⟩
end L2
namespace L2
open PySem PySem.Spec PyProof.Rows
def QG (to:TE)(tl th:St->Hp->(Option Int->Hp->Prop)->Prop):TG:=fun v σ H Q=>to σ H fun x H1=>tl σ H1 fun l H2=>th σ H2 fun u H3 =>
 ∃(p b:Addr)(xs ys:List V)(a c:Int),x=.ref p/\v=.ref b/\l=some a/\u=some c/\H3 p=some (.lst xs)/\H3 b=some (.lst ys)/\p≠b/\0<=a/\a<=c/\c<=xs.length/\xs.length+ys.length<=sizeLine/\Q σ (upd H3 p (.lst (xs.take a.toNat++ys++xs.drop c.toNat)))
theorem Mh {X:Cx}{o:Expr}{lo hi:Option Expr}{p2 pos:Pos}{to:TE}{tl th:St->Hp->(Option Int->Hp->Prop)->Prop}(ho:PE X o to)(hl:PO X lo tl)(hu:PO X hi th)
  (ha:∀ v,assign (.Subscript o (.Slice lo hi none p2) pos) X.env v=(do
   let ov <-holding [v] (eval o X.env)
   let iv <-holding [v,ov] (eval (.Slice lo hi none p2) X.env)
   standAt pos
   holding [v,ov,iv] (setItem ov iv v)
   release [iv,v,ov] []):=by intro _;rfl):PG X (.Subscript o (.Slice lo hi none p2) pos) (QG to tl th):=by
 intro pins s σ H v u Q I r h;rw[ha];refine K' (wpAny_holding (bS (ho pins s σ H _ I h) fun ov s1 fu=>?_));obtain⟨x,H1,I1,r1,q1⟩:=fu;refine K' (wpAny_holding ?_);refine wpAny_Slice (bS (hl pins s1 σ H1 _ I1 q1) fun vl s2 ⟨l,H2,I2,pl,q2⟩=>bS (hu pins s2 σ H2 _ I2 q2) fun vu s3 ⟨uu,H3,I3,pu,q3⟩=>?_);rw[evalPart_none];refine Z' ?_;have I4:Inv X pins σ H3 { s3 with heap:=s3.heap.push { cls:=.type "slice",data:=.fields #[vl,vu,.none] } }:=I3.kept (t':=s3.toks) fun b ob q=>U' _ q;obtain⟨p,b,xs,ys,a,c,rfl,rfl,rfl,rfl,hp,hb,hne,h0,hac,hc,hz,q4⟩:=q3;cases r1;cases r;refine K' (wpAny_standAt (K' (wpAny_holding ?_)));refine JV I4 hp hb hne (Heap.IsSliceOf.new ..) (by cases pl;exact⟨_,rfl⟩) (by cases pu;exact⟨_,rfl⟩) h0 hac hc hz fun s5 I5=>?_;exact wpAny_release ⟨σ,_,I5,q4⟩
end L2
namespace L2
open PySem PySem.Spec PyProof.Rows
section
variable {X:Cx}
theorem all_range:∀ bs:List Bool,(List.range bs.length).all (fun i=>bs.getD i false)=bs.all id
 |[]=>rfl
 |b::bs=>by
  rw[Zk',List.range_succ_eq_map,List.all_cons,List.all_map,List.all_cons];have:((fun i=>(b::bs).getD i false) ∘ Nat.succ)=fun i=>bs.getD i false:=by
   funext i
   rfl
  rw[this,all_range bs];rfl
theorem Mi:fN X (.builtin "all") (fun xs H Q=>X.calm=true/\∃(a:Addr)(bs:List Bool),xs=[.ref a]/\aL X.K H a (bs.map V.bl)/\Q (.bl (bs.all id)) H):=by
 intro pins s σ H xs us Q I r h;obtain⟨hc,a,bs,rfl,hq,q⟩:=h;obtain⟨u,rfl,rfl⟩:=r.one;obtain⟨its,rv,p,hz⟩:=I.list hq;have hl:=rv.length;rw[P']at hl;have Qq:∀(i:Nat)(v:Value),its.toArray[i]? = some v->v=Value.bool (bs.getD i false):=by
  intro i v hv;have hv':its[i]? = some v:=by simpa using hv
  have hi:i<its.length:=(S'.mp hv').1;have hb:i<bs.length:=by omega
  obtain⟨u,hu,ru⟩:=rv.get (i:=i) (x:=.bl (bs[i])) (by rw[Zl',R' hb];rfl);rw[hv']at hu;cases hu;have:v=.bool bs[i]:=ru;rw[this,List.getD_eq_getElem?_getD,R' hb];rfl
 refine call_all_walk (wpAny_pyIter_list p.isList ?_);have VY:a≠s.heap.objs.size:=by
  obtain⟨o,ho,_⟩:=p.isList;exact Zo' (Zb' ho)
 have hd:X.A.in1.handled=none:=I.ok.hd hc;refine⟨s.heap.objs.size,_,_,_,_,_,fun i=>bs.getD i false,rfl,Walks.list hd s.heap.objs.size a VY its.toArray,⟨⟨_,Zi' _ rfl,rfl,rfl⟩,p.isList.push _⟩,?_,?_⟩
 ·intro i v s' Q' E' hP hQ';rw[Qq i v hP];exact wpAny_truthy_bool hQ'
 ·intro h' tk kk;have e:(List.range its.toArray.size).all (fun i=>bs.getD i false)=bs.all id:=by
   rw[Zm',<-hl];exact all_range bs
  rw[e];refine⟨.bl _,H,I.kept (t':=tk) fun b o e=>kk b o (fun z=>?_) (U' _ e),rfl,q⟩;have:b=s.heap.objs.size:=by simpa using z
  exact j' (Zb' e) (by rw[this];exact Nat.lt_irrefl _)
noncomputable def RY (lo:Int)(n:Nat):It:={ go:=fun i _=>i<n,JL:=fun i H x H'=>H'=H/\x=V.int (lo-(i:Int)),stop:=fun i _=>n<=i }
theorem J4 {P:Program}{w:World}{K:Frag}{tg:Expr}(it:Addr)(lo:Int)(n:Nat):Turn P w K tg (RY lo n) [it] it (fun i h=>IsRangeIter h it (lo+(i:Nat) * (-1)) ((n:Int)-(i:Nat)) (-1)) where
 mem:=by simp
 obj:=fun i h st b hb=>by
  have e:b=it:=by simpa using hb
  subst e;exact⟨_,st,fun v z=>by
   have z':Data.fields _=Data.cell v:=z;cases z'⟩
 keep:=fun i h h' st k=>k it (by simp) _ st
 item:=by
  intro X hP hw hK hc i pins s σ H E I hf st hg;subst hP hw hK;obtain⟨f0,f1,f2,f3,f4,f5⟩:=hf it (by simp);have W:=Walks.range (prog:=X.prog) (w:=X.w) (I.ok.hd hc) it lo (-1) n;refine W.item i s _ _ hg st fun v h' tk hv st' kk=>?_;obtain⟨t,rfl⟩:=hv;have I1:Inv X pins σ H { s with heap:=h',toks:=tk }:=I.turned (fun b o hb e=>kk b o (by simpa using hb) e) f0 f1 f3 f4 f5;refine⟨_,rfl,Ic (s:={ s with heap:=h',toks:=tk }) (n:="range_iterator") st' rfl rfl (by decide) ⟨.int (lo-i),H,I1,⟨t,?_⟩,⟨rfl,rfl⟩,st',fun b hb=>(hf b hb).1⟩⟩;have:lo+(i:Int) * (-1)=lo-i:=by omega
  rw[this]
 done:=by
  intro X hP hw hK hc i pins s σ H E I hf st hg;subst hP hw hK;obtain⟨f0,f1,f2,f3,f4,f5⟩:=hf it (by simp);exact wpAny_pyNext_range_end (I.ok.hd hc) st (by have:n<=i:=hg;omega) fun h' eb=>⟨rfl,I.turned (t':=s.toks) (fun b o hb e=>eb b o hb e) f0 f1 f3 f4 f5⟩
 self:=fun _ _ _ _ _ st h=>wpAny_pyIter_rangeiter st h
theorem rangeSize_down (a b:Int):Builtin.Range.rangeSize a b (-1)=if b<a then a-b else 0:=by
 unfold Builtin.Range.rangeSize;rw[Za' (by decide)]
 by_cases h:a > b
 ·rw[Zc' h,Zc' h];show(a-b-1) / 1+1=a-b;omega
 ·rw[Za' h,Za' h]
theorem small_down {a b:Int}(h1:-(2 ^ 62)<=a)(h2:a<2 ^ 62)(h3:-(2 ^ 62)<=b)(h4:b<2 ^ 62):Builtin.Range.small a b (-1)=true:=by
 unfold Builtin.Range.small;rw[rangeSize_down];have f:∀ x:Int,-(2 ^ 63)<=x->x<2 ^ 63->Builtin.Range.rangeFitsLong x=true:=fun x p q=>by
  unfold Builtin.Range.rangeFitsLong;simp;omega
 rw[f a (by omega) (by omega),f b (by omega) (by omega),f (-1) (by omega) (by omega),f _ (by split <;> omega) (by split <;> omega),Za' (show ¬((-1:Int) > 0) by decide),f (b+(-1+1)) (by omega) (by omega)];simp
theorem Og {tg:Expr}{pins:List (Addr×Obj)}{σ:St}{H:Hp}{s:Shared}{R:It->Hp->Prop}{E:Value->Shared->Prop}{lo hi:Int}{t u v:Tok}{tk:Nat}(I:Inv X pins σ H s)(h1:-(2 ^ 62)<=lo)(h2:lo<2 ^ 62)(h3:-(2 ^ 62)<=hi)(h4:hi<2 ^ 62)
  (q:R (RY lo (lo-hi).toNat) H):wpAny (model X.prog X.w) X.A (pyIter (.ref s.heap.objs.size)) (PIE X pins σ tg R) E { s with heap:=s.heap.push { cls:=.type "range",data:=.fields #[.int lo t,.int hi u,.int (-1) v] },toks:=tk }:=by
 refine wpAny_pyIter_range (IsRange.new ..) (small_down h1 h2 h3 h4) ?_;have I1:Inv X pins σ H { s with heap:=s.heap.push { cls:=.type "range",data:=.fields #[.int lo t,.int hi u,.int (-1) v] },toks:=tk }:=I.kept fun b o e=>U' _ e;refine⟨(s.heap.push { cls:=.type "range",data:=.fields #[.int lo t,.int hi u,.int (-1) v] }).objs.size,[(s.heap.push { cls:=.type "range",data:=.fields #[.int lo t,.int hi u,.int (-1) v] }).objs.size],_,_,H,rfl,
  I1.kept (t':=tk) fun b o e=>U' _ e,J4 _ lo (lo-hi).toNat,?_,fun b hb=>?_,q⟩
 ·have e1:lo+((0:Nat):Int) * (-1)=lo:=by simp
  have e2:(((lo-hi).toNat:Nat):Int)-((0:Nat):Int)=Builtin.Range.rangeSize lo hi (-1):=by rw[rangeSize_down];split <;> omega
  show IsRangeIter _ _ (lo+((0:Nat):Int) * (-1)) ((((lo-hi).toNat:Nat):Int)-((0:Nat):Int)) (-1);rw[e1,e2];exact Zi' _ rfl
 ·have e:b=(s.heap.push { cls:=.type "range",data:=.fields #[.int lo t,.int hi u,.int (-1) v] }).objs.size:=by simpa using hb
  subst e;exact I1.CQ (X' _) (I1.hok.fresh (X' _))
def S9 (ta:TA):TI:=fun σ H R=>ta σ H fun vs H1=>∃ i j:Int,vs=[.int i,.int j,.int (-1)]/\(-(2 ^ 62)<=i/\i<2 ^ 62/\-(2 ^ 62)<=j/\j<2 ^ 62)/\R (RY i (i-j).toNat) H1
theorem J5 {tg:Expr}{a b c:Expr}{ta:TA}{p pos:Pos}(hg:Gl X "range")(hm:X.mg "range"=none)(ha:PA X [a,b,c] ta)(hs:starEach [a,b,c] X.env=[(false,eval a X.env),(false,eval b X.env),(false,eval c X.env)]:=by rfl)(hs2:starEach [b,c] X.env=[(false,eval b X.env),(false,eval c X.env)]:=by rfl) :
  PI X tg (.Call (.Name "range" p) [a,b,c] [] pos) (S9 ta):=by
 intro pins s σ H R I h;refine Call_ (lL I hg hm boot_range (PyProof.Rows.callWith_type1 (bS (ha pos pins s σ H _ I h) fun us s1 ⟨vs,H1,I1,r1,q1⟩=>?_) (by rw[hs,hs2]) (by rw[hs2];rfl)));obtain⟨i,j,e,⟨q1,q2,q3,q4⟩,q⟩:=q1;subst e;cases r1 with
 |cons r rr =>
  cases rr with
  |cons r' rr =>
   cases rr with
   |cons r'' rr =>
    cases rr;obtain⟨t,rfl⟩:=r;obtain⟨t',rfl⟩:=r';obtain⟨t'',rfl⟩:=r'';exact call_range_3 (by decide) (Og I1 q1 q2 q3 q4 q) (.inl rfl)
theorem Mj {lo:Int}{n:Nat}{g:TG}{tb:TS}{D:Ends}{σ:St}{H:Hp}(Pv:Nat->St->Hp->Prop)(h0:Pv 0 σ H)
  (hs:∀ i σ H,i<n->Pv i σ H->g (.int (lo-i)) σ H fun σ2 H2=>tb { D with nx:=Pv (i+1),ct:=Pv (i+1),bk:=D.nx } σ2 H2) (hd:∀ σ H,Pv n σ H->D.nx σ H) :
  ∃ W:Nat->Nat->St->Hp->Prop,(∃ m,W 0 m σ H)/\∀ i m σ H,W i m σ H ->
   ((RY lo n).stop i H/\D.nx σ H)\/((RY lo n).go i H/\∃ N:St->Hp->Prop,(∀ σ' H',N σ' H'->∃ m',m'<m/\W (i+1) m' σ' H')/\∀ x H',(RY lo n).JL i H x H'->g x σ H' fun σ2 H2=>tb { D with nx:=N,ct:=N,bk:=D.nx } σ2 H2):=by
 refine⟨fun i m σ H=>m=n-i/\i<=n/\Pv i σ H,⟨n,by simp,Nat.zero_le _,h0⟩,?_⟩;rintro i m σ H ⟨rfl,hi,p⟩
 by_cases hlt:i<n
 ·refine .inr ⟨hlt,Pv (i+1),fun σ' H' p'=>⟨n-(i+1),by omega,rfl,hlt,p'⟩,fun x H' y=>?_⟩;obtain⟨e,y⟩:=y;subst e y;exact hs i σ _ hlt p
 ·have e:i=n:=by omega
  subst e;exact .inl ⟨X' _,hd _ _ p⟩
def Oh:TE:=fun _ _ _=>False
theorem Ml {e:Expr}:PE X e Oh:=fun _ _ _ _ _ _ h=>h.elim
end
end L2
namespace L2
open PySem PySem.Spec PyProof.Rows
section
variable {κ:Type} [DecidableEq κ]
noncomputable def lN (kvs:List (κ×V))(k:κ):Option V:=(kvs.find? fun kv=>decide (kv.1=k)).map (·.2)
noncomputable def putK (kvs:List (κ×V))(k:κ)(v:V):List (κ×V) :=
 if(kvs.any fun kv=>decide (kv.1=k))=true then kvs.map (fun kv=>if kv.1=k then(kv.1,v) else kv) else kvs++[(k,v)]
theorem yK {p:κ×V}{r:List (κ×V)}{k:κ}(e:p.1=k):lN (p::r) k=some p.2:=by simp[lN,List.find?_cons,e]
theorem yL {p:κ×V}{r:List (κ×V)}{k:κ}(e:¬ p.1=k):lN (p::r) k=lN r k:=by simp[lN,List.find?_cons,e]
theorem sG (k:κ):∀ kvs:List (κ×V),(kvs.any fun kv=>decide (kv.1=k))=(lN kvs k).isSome
 |[]=>rfl
 |p::r=>by
  rw[List.any_cons]
  by_cases e:p.1=k
  ·simp only [yK e,L' e,Bool.true_or,Option.isSome_some]
  ·rw[yL e,V' e,Bool.false_or];exact sG k r
theorem vX (kvs:List (κ×V))(k:κ)(v:V):(putK kvs k v).length<=kvs.length+1:=by
 unfold putK;split
 ·rw[P'];omega
 ·rw[Zd',Zk',List.length_nil];omega
theorem Eo {kvs:List (κ×V)}{k:κ}(v:V)(h:lN kvs k=none):putK kvs k v=kvs++[(k,v)]:=by
 unfold putK;rw[sG,h];exact Za' (by decide)
theorem jC.md {o:Option V}{u:Option Value}(r:jC o u):o.isSome=u.isSome:=by
 cases o with
 |none=>cases u with
  |none=>rfl
  |some _=>exact(show False from r).elim
 |some _=>cases u with
  |none=>exact(show False from r).elim
  |some _=>rfl
theorem KV.val {kvs:List (κ×V)}{vs:List (κ×Value)}(r:KV kvs vs)(k:κ):jC (lN kvs k) (valueAt vs k):=by
 unfold KV at r
 induction r with
 |nil=>exact True.intro
 | @cons p q ps qs h t ih =>
  obtain⟨h1,h2⟩:=h
  by_cases e:p.1=k
  ·have e':q.1=k:=h1.symm.trans e;have b:valueAt (q::qs) k=some q.2:=by simp[valueAt,List.find?_cons,e']
   rw[yK e,b];exact h2
  ·have e':¬ q.1=k:=fun z=>e (h1.trans z);have b:valueAt (q::qs) k=valueAt qs k:=by simp[valueAt,List.find?_cons,e']
   rw[yL e,b];exact ih
theorem KV.any {kvs:List (κ×V)}{vs:List (κ×Value)}(r:KV kvs vs)(k:κ):(kvs.any fun kv=>decide (kv.1=k))=vs.any fun kv=>decide (kv.1=k):=by
 unfold KV at r
 induction r with
 |nil=>rfl
 |cons h t ih=>rw[List.any_cons,List.any_cons,ih,h.1]
theorem KV.repl {kvs:List (κ×V)}{vs:List (κ×Value)}(r:KV kvs vs)(k:κ){y:V}{u:Value}(ry:RelV y u) :
  KV (kvs.map fun kv=>if kv.1=k then(kv.1,y) else kv) (vs.map fun kv=>if kv.1=k then(kv.1,u) else kv):=by
 unfold KV at r ⊢
 induction r with
 |nil=>exact .nil
 | @cons p q ps qs h t ih =>
  rw[map_cons,map_cons];refine .cons ?_ ih;obtain⟨h1,h2⟩:=h
  by_cases e:p.1=k
  ·rw[Zc' e,Zc' (h1.symm.trans e)];exact⟨h1,ry⟩
  ·rw[Za' e,Za' (fun z=>e (h1.trans z))];exact⟨h1,h2⟩
theorem KV.put {kvs:List (κ×V)}{vs:List (κ×Value)}(r:KV kvs vs)(k:κ){y:V}{u:Value}(ry:RelV y u):KV (putK kvs k y) (stored vs k u):=by
 unfold putK stored;rw[r.any k]
 by_cases e:(vs.any fun kv=>decide (kv.1=k))=true
 ·rw[Zc' e,Zc' e];exact r.repl k ry
 ·rw[Za' e,Za' e];exact Paired.snoc r ⟨rfl,ry⟩
theorem KV.keys {kvs:List (κ×V)}{vs:List (κ×Value)}(r:KV kvs vs):kvs.map (·.1)=vs.map (·.1):=by
 unfold KV at r
 induction r with
 |nil=>rfl
 |cons h t ih=>rw[map_cons,map_cons,ih,h.1]
theorem KV.length {kvs:List (κ×V)}{vs:List (κ×Value)}(r:KV kvs vs):kvs.length=vs.length:=Paired.length r
end
theorem Ep {P:Program}{w:World}{k:Key}{u:Value}(r:RelV (kV k) u):(ck P w).is k u=true:=by
 cases k with
 |inl i=>obtain⟨t,e⟩:=(show ∃ t,u=Value.int i t from r);subst e;exact D3 P w i t
 |inr x=>obtain⟨t,e⟩:=(show ∃ t,u=Value.str x t from r);subst e;exact eW P w x t
theorem Bs {P:Program}{w:World}:∀{ks:List Key} {us:List Value},Vals (ks.map kV) us->ItemsAre (ck P w) ks us
 |[],_,r=>by rw[List.map_nil]at r;cases r;exact .nil
 |k::ks,_,r=>by
  rw[map_cons]at r;cases r with
  |cons h t=>exact .cons (Ep h) (Bs t)
abbrev KT (H:Hp):List (List Key×V)->List (List Key×Addr×Value)->Prop:=Paired fun p q=>p.1=q.1/\H q.2.1=some (.tup (p.1.map kV))/\RelV p.2 q.2.2
theorem KT.val {H:Hp}{kvs:List (List Key×V)}{xs:List (List Key×Addr×Value)}(r:KT H kvs xs)(k:List Key):jC (lN kvs k) ((atKey xs k).map (·.2)):=by
 induction r with
 |nil=>exact True.intro
 | @cons p q ps qs h t ih =>
  obtain⟨h1,_,h2⟩:=h
  by_cases e:p.1=k
  ·have e':q.1=k:=h1.symm.trans e;have b:atKey (q::qs) k=some q.2:=by simp[atKey,List.find?_cons,e']
   rw[yK e,b];exact h2
  ·have e':¬ q.1=k:=fun z=>e (h1.trans z);have b:atKey (q::qs) k=atKey qs k:=by simp[atKey,List.find?_cons,e']
   rw[yL e,b];exact ih
theorem KT.repl {H:Hp}{kvs:List (List Key×V)}{xs:List (List Key×Addr×Value)}(r:KT H kvs xs)(k:List Key){y:V}{u:Value}(ry:RelV y u) :
  KT H (kvs.map fun kv=>if kv.1=k then(kv.1,y) else kv) (xs.map (putAt k u)):=by
 induction r with
 |nil=>exact .nil
 | @cons p q ps qs h t ih =>
  rw[map_cons,map_cons];refine .cons ?_ ih;obtain⟨h1,h2,h3⟩:=h;unfold putAt
  by_cases e:p.1=k
  ·rw[Zc' e,Zc' (h1.symm.trans e)];exact⟨h1,h2,ry⟩
  ·rw[Za' e,Za' (fun z=>e (h1.trans z))];exact⟨h1,h2,h3⟩
theorem KT.put {H:Hp}{kvs:List (List Key×V)}{xs:List (List Key×Addr×Value)}(r:KT H kvs xs)(k:List Key){b:Addr}{y:V}{u:Value}(hb:H b=some (.tup (k.map kV)))(ry:RelV y u) :
  KT H (putK kvs k y) (storedH xs k b u):=by
 have e:(kvs.any fun kv=>decide (kv.1=k))=(atKey xs k).isSome:=by
  rw[sG,(r.val k).md,Option.isSome_map]
 unfold putK storedH;rw[e]
 by_cases q:(atKey xs k).isSome=true
 ·rw[Zc' q,Zc' q];exact r.repl k ry
 ·rw[Za' q,Za' q];exact Paired.snoc r ⟨rfl,hb,ry⟩
theorem KT.keeps {H H':Hp}{kvs:List (List Key×V)}{xs:List (List Key×Addr×Value)}(r:KT H kvs xs)(ht:∀ b ys,H b=some (.tup ys)->H' b=some (.tup ys)):KT H' kvs xs :=
 Paired.P5 r fun _ _ z=>⟨z.1,ht _ _ z.2.1,z.2.2⟩
section
variable {P:Program} {w:World} {H:Hp} {h:Heap} {a:Addr}
theorem Pu {u:HO}(ok:oj P w H h)(e:Rd H a u):cP P w H h a u:=e.ok ok
theorem vY {kvs:List (Key×V)}(ok:oj P w H h)(e:Rd H a (.dK kvs)):kvs.length<=sizeLine/\(a==sysModules)=false/\∃ vs,KV kvs vs/\h.DictOf (ck P w) a vs :=
 show cP P w H h a (.dK kvs) from Pu ok e
theorem Ta {kvs:List (Key×V)}(ok:oj P w H h)(e:H a=some (.dK kvs)):kvs.length<=sizeLine/\(a==sysModules)=false/\∃ vs,KV kvs vs/\h.DictOf (ck P w) a vs:=vY ok (.inl e)
theorem yM {ks:List Key}(ok:oj P w H h)(e:H a=some (.tup (ks.map kV))):(tupleKind (ck P w)).is h ks a:=by
 obtain⟨_,its,r,o,h1,h2,n,h3⟩:=(show cP P w H h a (.tup (ks.map kV)) from ok a _ e);exact⟨o,its.toArray,n,h1,h2,h3,by simpa using Bs r⟩
theorem Er {kvs:List (List Key×V)}(ok:oj P w H h)(e:Rd H a (.dT kvs)):kvs.length<=sizeLine/\(a==sysModules)=false /\
  ∃ xs,KT H kvs xs/\h.DictOfH (tupleKind (ck P w)) a xs:=by
 obtain⟨z,y,xs,r,o,es,ep,h1,h2,h3,h4,h5⟩:=(show cP P w H h a (.dT kvs) from Pu ok e);refine⟨z,y,xs,r,o,es,ep,h1,h2,h3,h4,fun x hx=>?_,h5⟩;have all:∀{l:List (List Key×V)} {m:List (List Key×Addr×Value)},KT H l m->∀ x∈m,(tupleKind (ck P w)).is h x.1 x.2.1:=by
  intro l m q
  induction q with
  |nil=>intro x hx;exact nomatch hx
  | @cons p q ps qs hq t ih =>
   intro x hx;rcases List.mem_cons.mp hx with e|hx
   ·subst e;exact yM ok (by rw[<-hq.1];exact hq.2.1)
   ·exact ih x hx
 exact all r x hx
theorem Tb {kvs:List (List Key×V)}(ok:oj P w H h)(e:H a=some (.dT kvs)):kvs.length<=sizeLine/\(a==sysModules)=false /\
  ∃ xs,KT H kvs xs/\h.DictOfH (tupleKind (ck P w)) a xs:=Er ok (.inl e)
end
def mf (H:Hp)(a:Addr)(y:V)(r:Option V):Prop :=
 (∃ kvs k,Rd H a (.dK kvs)/\y=kV k/\r=lN kvs k)\/∃ kvs k b,Rd H a (.dT kvs)/\y=.ref b/\H b=some (.tup (k.map kV))/\r=lN kvs k
def J6 (H:Hp)(a:Addr)(y v:V)(H':Hp):Prop :=
 (∃ kvs k,H a=some (.dK kvs)/\y=kV k/\kvs.length<sizeLine/\H'=upd H a (.dK (putK kvs k v))) \/
 ∃ kvs k b,H a=some (.dT kvs)/\y=.ref b/\H b=some (.tup (k.map kV))/\kvs.length<sizeLine/\H'=upd H a (.dT (putK kvs k v))
theorem mf.k {H:Hp}{a:Addr}{kvs:List (Key×V)}{k:Key}(e:H a=some (.dK kvs)):mf H a (kV k) (lN kvs k):=.inl ⟨kvs,k,.inl e,rfl,rfl⟩
theorem J6.k {H:Hp}{a:Addr}{kvs:List (Key×V)}{k:Key}{v:V}(e:H a=some (.dK kvs))(hl:kvs.length<sizeLine):J6 H a (kV k) v (upd H a (.dK (putK kvs k v))):=.inl ⟨kvs,k,e,rfl,hl,rfl⟩
section
variable {X:Cx} {pins:List (Addr×Obj)} {σ:St} {H:Hp} {s:Shared} {a:Addr} {y v:V} {u r:Value} {o:Option V} {A:Around} {E:Value->Shared->Prop}
theorem Inv.big (I:Inv X pins σ H s):sysModules<s.heap.objs.size:=by
 have h:mainGlobals<s.heap.objs.size:=(I.mod.glob.keeps I.bk).lt;exact Nat.lt_trans (by decide) h
theorem J7 {Q:Value->Shared->Prop}(hu:A.units+1<cLine)(I:Inv X pins σ H s)(g:mf H a y (some v))(ry:RelV y u)(h:∀ w' s',Inv X pins σ H s'->RelV v w'->Q w' s') :
  wpAny (model X.prog X.w) A (getItem (.ref a) u) Q E s:=by
 rcases g with ⟨kvs,k,e,ey,l⟩|⟨kvs,k,b,e,ey,eb,l⟩
 ·subst ey;obtain⟨z,hd,vs,rel,dd⟩:=vY I.hok e;obtain⟨w',hw,LI⟩:=jC.some_of (v:=v) (o:=valueAt vs k) (by rw[l];exact rel.val k);exact wpAny_getItem_of (Ep ry) dd.mapOf hw (h w' _ (I.tok _) LI)
 ·subst ey;cases (show u=Value.ref b from ry);obtain⟨z,hd,xs,rel,dd⟩:=Er I.hok e;obtain⟨w',hw,LI⟩:=jC.some_of (v:=v) (o:=(atKey xs k).map (·.2)) (by rw[l];exact rel.val k);obtain⟨p,hp,hp2⟩:=Option.map_eq_some_iff.mp hw;refine wpAny_getItem_heap (tupleKind_room_in1 hu) (yM I.hok eb) dd hp ?_;rw[hp2];exact h w' _ (I.tok _) LI
theorem V6 {Q:Value->Shared->Prop}(hu:A.units+1<cLine)(I:Inv X pins σ H s)(g:mf H a y o)(ry:RelV y u)(h:∀ s',Inv X pins σ H s'->Q (.bool o.isSome) s') :
  wpAny (model X.prog X.w) A (compareOp .In u (.ref a)) Q E s:=by
 rcases g with ⟨kvs,k,e,ey,l⟩|⟨kvs,k,b,e,ey,eb,l⟩
 ·subst ey;obtain⟨z,hd,vs,rel,dd⟩:=vY I.hok e;refine wpAny_in_of (Ep ry) hd dd.mapOf ?_;rw[<-(rel.val k).md,<-l];exact h _ (I.tok _)
 ·subst ey;cases (show u=Value.ref b from ry);obtain⟨z,hd,xs,rel,dd⟩:=Er I.hok e;refine wpAny_in_heap (tupleKind_room_in1 hu) (yM I.hok eb) hd dd ?_;have q:=(rel.val k).md;rw[Option.isSome_map]at q;rw[<-q,<-l];exact h _ (I.tok _)
theorem Oi {Q:Value->Shared->Prop}(hu:A.units+1<cLine)(I:Inv X pins σ H s)(g:mf H a y o)(ry:RelV y u)(h:∀ s',Inv X pins σ H s'->Q (.bool (!o.isSome)) s') :
  wpAny (model X.prog X.w) A (compareOp .NotIn u (.ref a)) Q E s:=by
 rcases g with ⟨kvs,k,e,ey,l⟩|⟨kvs,k,b,e,ey,eb,l⟩
 ·subst ey;obtain⟨z,hd,vs,rel,dd⟩:=vY I.hok e;refine wpAny_notIn_of (Ep ry) hd dd.mapOf ?_;rw[<-(rel.val k).md,<-l];exact h _ (I.tok _)
 ·subst ey;cases (show u=Value.ref b from ry);obtain⟨z,hd,xs,rel,dd⟩:=Er I.hok e;refine wpAny_notIn_heap (tupleKind_room_in1 hu) (yM I.hok eb) hd dd ?_;have q:=(rel.val k).md;rw[Option.isSome_map]at q;rw[<-q,<-l];exact h _ (I.tok _)
theorem IE {h':Heap}{t':Nat}{ob:HO}(I:Inv X pins σ H s)(mu:R9 (H a))(hs:Heap.SameBut a s.heap h')(he:∃ q,h'.get? a=some q)(new:cP X.prog X.w (upd H a ob) h' a ob) :
  Inv X pins σ (upd H a ob) { s with heap:=h',toks:=t' } :=
 I.write (x:=a) (e:=a) mu (.inl rfl) (fun b q hb z=>(hs.2 b hb).trans z) he new
theorem Mm {P:Program}{w:World}{H':Hp}{h':Heap}{kvs:List (Key×V)}{vs:List (Key×Value)}(z:kvs.length<=sizeLine)(hd:(a==sysModules)=false)(rel:KV kvs vs)(dd:h'.DictOf (ck P w) a vs) :
  cP P w H' h' a (.dK kvs):=⟨z,hd,vs,rel,dd⟩
theorem J8 {H':Hp}{Q:Unit->Shared->Prop}(hu:A.units+1<cLine)(I:Inv X pins σ H s)(g:J6 H a y v H')(ry:RelV y u)(rv:RelV v r)(h:∀ s',Inv X pins σ H' s'->Q () s') :
  wpAny (model X.prog X.w) A (setItem (.ref a) u r) Q E s:=by
 rcases g with ⟨kvs,k,e,ey,l,eH⟩|⟨kvs,k,b,e,ey,eb,l,eH⟩
 ·subst ey eH;obtain⟨z,hd,vs,rel,dd⟩:=Ta I.hok e;have hz:vs.length<=sizeLine:=by rw[<-rel.length];exact z
  have hl:(putK kvs k v).length<=sizeLine:=by have:=vX kvs k v;omega
  refine wpAny_setItem_pairs (hsz:=hz) (Ep ry) dd fun h' Lf hs=>h _ ?_;have he:∃ q,h'.get? a=some q:=let ⟨q,_,_,hq,_⟩:=Lf;⟨q,hq⟩;exact IE I (by rw[e];exact True.intro) hs he (Mm hl hd (rel.put k rv) Lf)
 ·subst ey eH;cases (show u=Value.ref b from ry);obtain⟨z,hd,xs,rel,dd⟩:=Tb I.hok e;have hz:xs.length<=sizeLine:=by rw[<-Paired.length rel];exact z
  have hl:(putK kvs k v).length<=sizeLine:=by have:=vX kvs k v;omega
  refine wpAny_setItem_heap (hsz:=hz) (tupleKind_room_in1 hu) (yM I.hok eb) dd fun h' Lf hs=>h _ ?_;obtain⟨q,es,ep,hq,h2,h3,h4,_,h5⟩:=Lf;refine IE I (by rw[e];exact True.intro) hs ⟨q,hq⟩ ⟨hl,hd,_,(rel.put k eb rv).keeps fun c ys ec=>?_,q,es,ep,hq,h2,h3,h4,h5⟩;rw[ak (qi ec e (fun z=>nomatch z))];exact ec
end
section
variable {X:Cx} {pins:List (Addr×Obj)} {σ:St} {H:Hp} {s:Shared} {a:Addr} {kvs:List (Key×V)} {k:Key} {u:Value} {A:Around} {E:Value->Shared->Prop}
theorem Tc {Q:Value->Shared->Prop}(I:Inv X pins σ H s)(e:Rd H a (.dK kvs))(h:∀ t s',Inv X pins σ H s'->Q (.int kvs.length t) s'):wpAny (model X.prog X.w) A (call (.builtin "len") [.ref a]) Q E s:=by
 obtain⟨z,hd,vs,rel,dd⟩:=vY I.hok e;refine call_len_dict hd dd (by rw[<-rel.length];rw[sizeLine_eq]at z;omega) ?_;rw[<-rel.length];exact h _ _ (I.tok _)
end
def Td (i:Expr):Prop:=∀ ov iv,subscripted i false ov iv=operate [ov,iv] (getItem ov iv)
theorem Oj {prog:Program}{w:World}{A:Around}{E:Value->Shared->Prop}{s:Shared}{env:Env}{value slice:Expr}{pos:Pos}{T id:String}{Q:Value->Shared->Prop}
  (hl:typeLookup (.type T) "__getitem__"=pure (some (.builtin id))) (hs:Td slice)
  (h:wpAny (model prog w) A (eval value env) (fun o s₁=>wpAny (model prog w) A (eval slice env) (fun i s₂=>s₂.TypeIs o T/\wpAny (model prog w) A (getItem o i) Q E s₂) E s₁) E s) :
  wpAny (model prog w) A (eval (.Subscript value slice pos) env) Q E s:=by
 refine Subscript_ (wpAny_mono h (fun o s₁ h₁=>wpAny_mono h₁ (fun i s₂ h₂=>?_) fun _ _ x=>x) fun _ _ x=>x);obtain⟨hT,h₂⟩:=h₂;unfold subscriptTail;refine K' ?_;rw[getitemInPython_of_ne hT.not_modules];refine K' (wpAny_specialOf hT hl ?_);have fin:wpAny (model prog w) A (subscripted slice false o i) (fun r s₃=>wpAny (model prog w) A (letTemporaryGo value o r >>= fun _=>pure r) Q E s₃) E s₂:=by
  rw[hs o i];exact wpAny_operating (wpAny_mono h₂ (fun r s₃ h₃=>K' (wpAny_letTemporaryGo (Z' h₃))) fun _ _ x=>x)
 first
  |exact Z' (K' fin)
  |exact K' (Z' (K' fin))
  |exact K' fin
theorem Es {X:Cx}{pins:List (Addr×Obj)}{σ:St}{H:Hp}{s:Shared}{a:Addr}{y:V}{o:Option V}(I:Inv X pins σ H s)(g:mf H a y o):s.TypeIs (.ref a) "dict":=by
 rcases g with ⟨kvs,k,e,_,_⟩|⟨kvs,k,b,e,_,_,_⟩
 ·obtain⟨_,_,vs,_,dd⟩:=vY I.hok e;exact dd.typeIs
 ·obtain⟨_,_,xs,_,dd⟩:=Er I.hok e;exact dd.typeIs
def Te (td ty:TE):TE:=fun σ H Q=>td σ H fun x H1=>ty σ H1 fun y H2=>∃ a v,x=.ref a/\mf H2 a y (some v)/\Q v H2
def V7 (ty td:TE):TE:=fun σ H Q=>ty σ H fun y H1=>td σ H1 fun x H2=>∃ a o,x=.ref a/\mf H2 a y o/\Q (.bl o.isSome) H2
def Ol (ty td:TE):TE:=fun σ H Q=>ty σ H fun y H1=>td σ H1 fun x H2=>∃ a o,x=.ref a/\mf H2 a y o/\Q (.bl (!o.isSome)) H2
def Tf (td ty tv:TE):TS:=fun D σ H=>tv σ H fun v H1=>td σ H1 fun x H2=>ty σ H2 fun y H3=>∃ a H4,x=.ref a/\J6 H3 a y v H4/\D.nx σ H4
section
variable {X:Cx} {o i e value:Expr} {pos pos' tpos:Pos} {td ty tv:TE}
theorem ku (hu:X.A.units+1<cLine)(ho:PE X o td)(hi:PE X i ty)(hs:Td i):PE X (.Subscript o i pos) (Te td ty):=by
 intro pins s σ H Q I h;refine Oj PySem.F.slot_dict_getitem.lookup hs (bS (ho pins s σ H _ I h) fun u s1 ⟨x,H1,I1,rx,q1⟩=>bS (hi pins s1 σ H1 _ I1 q1) fun iv s2 ⟨y,H2,I2,ry,a,v,ex,g,q2⟩=>?_);subst ex;obtain rfl:u=Value.ref a:=rx;exact⟨Es I2 g,J7 hu I2 g ry fun w' s3 I3 LI=>⟨v,H2,I3,LI,q2⟩⟩
theorem QH (hu:X.A.units+1<cLine)(hi:PE X i ty)(ho:PE X o td):PC X .In i o (V7 ty td):=by
 intro pins s σ H Q I h;refine bS (hi pins s σ H _ I h) fun iv s1 ⟨y,H1,I1,ry,q1⟩=>bS (ho pins s1 σ H1 _ I1 q1) fun u s2 ⟨x,H2,I2,rx,a,ov,ex,g,q2⟩=>?_;subst ex;obtain rfl:u=Value.ref a:=rx;exact V6 hu I2 g ry fun s3 I3=>⟨.bl ov.isSome,H2,I3,rfl,q2⟩
theorem J9 (hu:X.A.units+1<cLine)(hi:PE X i ty)(ho:PE X o td):PC X .NotIn i o (Ol ty td):=by
 intro pins s σ H Q I h;refine bS (hi pins s σ H _ I h) fun iv s1 ⟨y,H1,I1,ry,q1⟩=>bS (ho pins s1 σ H1 _ I1 q1) fun u s2 ⟨x,H2,I2,rx,a,ov,ex,g,q2⟩=>?_;subst ex;obtain rfl:u=Value.ref a:=rx;exact Oi hu I2 g ry fun s3 I3=>⟨.bl (!ov.isSome),H2,I3,rfl,q2⟩
theorem IF (hu:X.A.units+1<cLine)(ho:PE X o td)(hi:PE X i ty)(hv:PE X value tv)(hs:swapsWith value (some (.Subscript o i pos')) pos.line X.env=pure false) :
  PS X (.Assign [.Subscript o i pos'] value pos) (Tf td ty tv):=by
 intro pins s σ H D I h;refine wpAny_Assign_Subscript (bS (hv pins s σ H _ I h) fun r s1 ⟨v,H1,I1,rv,q1⟩=>bS (ho pins s1 σ H1 _ I1 q1) fun u s2 ⟨x,H2,I2,rx,q2⟩=>bS (hi pins s2 σ H2 _ I2 q2) fun iv s3 ⟨y,H3,I3,ry,a,H4,ex,g,q3⟩=>?_) hs;subst ex;obtain rfl:u=Value.ref a:=rx;exact J8 hu I3 g ry rv fun s4 I4=>⟨σ,H4,I4,q3⟩
end
theorem Mn {P:Program}{w:World}{H:Hp}(h:Heap)(hb:sysModules<h.objs.size):cP P w H (h.push { cls:=.type "dict",data:=.dict #[] }) h.objs.size (.dK []) :=
 ⟨Nat.zero_le _,beq_eq_false_iff_ne.mpr (Ne.symm (Zo' hb)),[],.nil,Heap.DictOf.new h⟩
def QI:TE:=fun _ H Q=>∀ p,H p=none->Q (.ref p) (upd H p (.dK []))
section
variable {X:Cx} {pos:Pos}
theorem Mo:PE X (.Dict [] [] pos) QI:=fun pins s σ H Q I h =>
 wpAny_Dict_empty ⟨.ref s.heap.objs.size,_,I.laid (a:=s.heap.objs.size) (o:=.dK []) (t':=s.toks) (fun _ _ q=>U' _ q) (X' _) (Mn s.heap I.big),rfl,h _ (I.hok.fresh (X' _))⟩
end
section
variable {X:Cx} {pins:List (Addr×Obj)} {σ:St} {H:Hp} {s:Shared} {a:Addr} {y d:V} {u r:Value} {o:Option V} {A:Around} {E:Value->Shared->Prop}
end
section
variable {X:Cx} {o e f:Expr} {apos cpos:Pos} {td ty tx:TE}
end
section
variable {X:Cx} {pins:List (Addr×Obj)} {σ:St} {H:Hp} {s:Shared} {a:Addr} {kvs:List (Key×V)} {A:Around} {E:Value->Shared->Prop}
theorem Mq {Q:Value->Shared->Prop}(I:Inv X pins σ H s)(e:Rd H a (.dK kvs))(h:∀ p s',H p=none->Inv X pins σ (upd H p (.dK kvs)) s'->Q (.ref p) s'):wpAny (model X.prog X.w) A (call (.type "dict") [.ref a]) Q E s:=by
 obtain⟨z,hd,vs,rel,dd⟩:=vY I.hok e;refine kt_call_dict hd dd (by rw[<-rel.length];exact z) fun h' Lf hs=>?_;refine h _ _ (I.hok.fresh (X' _)) (I.laid (a:=s.heap.objs.size) (o:=.dK kvs) (t':=s.toks) (fun b q hq=>?_) (X' _) (Mm z (beq_eq_false_iff_ne.mpr (Ne.symm (Zo' I.big))) rel Lf));exact(hs.2 b (Zo' (Zb' hq))).trans (U' _ hq)
end
section
variable {X:Cx} {pins:List (Addr×Obj)} {σ:St} {H:Hp} {s:Shared} {a:Addr} {y:V} {u:Value} {A:Around} {E:Value->Shared->Prop}
end
end L2
namespace L2
open PySem PySem.Spec PyProof.Rows
section
variable {X:Cx}
theorem Ka:fN X (.builtin "len") (fun xs H Q=>∃ a kvs,xs=[V.ref a]/\H a=some (.dK kvs)/\Q (.int kvs.length) H):=by
 intro pins s σ H xs us Q I r h;obtain⟨a,kvs,rfl,ha,q⟩:=h;obtain⟨u,rfl,ru⟩:=vals1 r;cases ru;exact Tc I (.inl ha) fun t s' I'=>⟨.int kvs.length,H,I',⟨t,rfl⟩,q⟩
end
section
variable {κ:Type} [DecidableEq κ]
theorem Om {kvs:List (κ×V)}{k:κ}{v:V}(h:lN kvs k=some v):k∈kvs.map (·.1):=by
 have q:(kvs.any fun kv=>decide (kv.1=k))=true:=by
  rw[sG,h]
  all_goals rfl
 obtain⟨p,hp,e⟩:=any_eq_true.mp q;exact mem_map.mpr ⟨p,hp,G' e⟩
end
end L2
namespace L2
open PySem PySem.Spec PyProof.Rows
theorem Tg {P:Program}{w:World}{k:Key}{u:Value}(h:(ck P w).is k u=true):RelV (kV k) u:=by
 rcases de (show yw k u=true from h) with ⟨i,t,rfl,rfl⟩|⟨x,t,rfl,rfl⟩
 ·exact⟨t,rfl⟩
 ·exact⟨t,rfl⟩
theorem Pw:∀{xs:List V} {us:List Value},xs.length=us.length->(∀(i:Nat)(x:V)(u:Value),xs[i]? = some x->us[i]? = some u->RelV x u)->Vals xs us
 |[],[],_,_=>.nil
 |x::xs,u::us,hl,h=>.cons (h 0 x u rfl rfl) (Pw (by simpa using hl) fun i y v e1 e2=>h (i+1) y v (by simpa using e1) (by simpa using e2))
 |[],_::_,hl,_=>by simp at hl
 |_::_,[],hl,_=>by simp at hl
section
variable {X:Cx}
theorem rg:fN X (.type "list") (fun xs H Q=>X.calm=true/\∃ p kvs,xs=[.ref p]/\Rd H p (.dK kvs)/\∀ l,H l=none->Q (.ref l) (upd H l (.lst (kvs.map fun kv=>kV kv.1)))):=by
 intro pins s σ H xs us Q I r h;obtain⟨hc,p,kvs,rfl,hp,q⟩:=h;obtain⟨u,rfl,rx⟩:=vals1 r;cases rx;obtain⟨z,hd,vs,rel,dd⟩:=vY I.hok hp;obtain⟨ep,da⟩:=dd.dictAt;have hl:=rel.length;refine PySem.W.kdl_call (PySem.W.kdl_dict (knd:=ck X.prog X.w) (kvs:=vs) (ep:=ep) hd) (I.ok.hd hc) da (by omega) fun h' tk acc' c' kp e it=>?_;refine⟨.ref s.heap.objs.size,_,I.laid (t':=tk) kp (X' _) (show cP X.prog X.w _ h' _ (.lst (kvs.map fun kv=>kV kv.1)) from⟨by rw[P'];exact z,acc'.toList,c',?_,by rw[Array.toArray_toList];exact e⟩),rfl,q _ (I.hok.fresh (X' _))⟩;have hk:=rel.keys;have h1:acc'.toList.length=vs.length:=by rw[Array.length_toList];exact it.1
 refine Pw (by rw[P',h1,hl]) fun i x u e1 e2=>?_;obtain⟨k,y,e3,e4⟩:=it.2 i u (by rw[<-Array.getElem?_toList];exact e2);have e5:(kvs.map (·.1))[i]? = some k:=by rw[hk,Zl',e3];rfl
 have e6:(kvs.map fun kv=>kV kv.1)[i]? = some (kV k):=by
  rw[Zl']at e5 ⊢;cases e7:kvs[i]? with
  |none=>rw[e7]at e5;cases e5
  |some w=>rw[e7]at e5;cases e5;rfl
 rw[e6]at e1;cases e1;exact Tg e4
theorem G0:fN X (.type "dict") (fun xs H Q=>∃ p kvs,xs=[.ref p]/\Rd H p (.dK kvs)/\∀ l,H l=none->Q (.ref l) (upd H l (.dK kvs))):=by
 intro pins s σ H xs us Q I r h;obtain⟨p,kvs,rfl,hp,q⟩:=h;obtain⟨u,rfl,rx⟩:=vals1 r;cases rx;exact Mq I hp fun l s' hl I'=>⟨.ref l,_,I',rfl,q l hl⟩
end
section
variable {P:Program} {w:World} {K:Frag} {mg:Str->Option Value} {base:Heap}
theorem C5.GY {x qual:Str}{st:Stmt}{f:Addr}{fd:FuncData}{dV:Value}{N ps:List Str}{k:Nat}{sp:Sp}(F:C5 K x qual st f fd dV)(S:az N ps (aj st))(len:∀ vs H Q E,sp vs H Q E->vs.length=ps.length)
  (hbody:∀(cdv:Value)(A:Around)(outer:List Env)(s:Shared)(H:Hp)(vs:List V)(Q:VK)(E:XK),dm k (A.deeper (envOfC qual (aj st) s.heap.objs.size f cdv))->sp vs H Q E ->
   ∃ t,se ((dM (hZ P w) P w K mg base N qual (aj st) f cdv A outer s H E).wish (WD (dM (hZ P w) P w K mg base N qual (aj st) f cdv A outer s H E) fun _ cls H'=>E cls none H')) (a8 st) t/\t { nx:=fun _ H'=>Q .non H',rt:=Q } (start N vs) H):aR P w K mg base (hZ P w) (k+1) f fd ps sp:=by
 obtain⟨oc,od,kV,doc,pm,an,cdv,ct,osl,rfl,lk,hcd⟩:=F.ex;refine Bh lk hcd S len fun A outer s H vs Q E hr hsp=>?_;obtain⟨t,h,q⟩:=hbody cdv A outer s H vs Q E hr hsp;exact⟨t,h.Mf fun _ _ z=>leaveX z,q⟩
end
end L2
namespace L2
open PySem PySem.Spec PyProof.Rows
section
variable {prog:Program} {w:World} {A:Around} {E:Value->Shared->Prop} {s:Shared}
end
section
variable {X:Cx}
end
end L2
namespace L2
open PySem PySem.Spec PyProof.Rows
section
variable {X:Cx}
theorem QJ {st:Stmt}{t:TS}(h:PS X.Lk st t):PS X st t:=fun pins s σ H D I hw=>wpAny_mono (h pins s σ H D (I.wish _) hw) (fun _ _ q=>q.fO) fun _ _ z=>z.elim
def Mr (K:Frag)(cls:Value)(D:Ends)(σ:St)(H:Hp):List (Addr×TS)->Prop
 |[]=>False
 |c::r=>(exmOne K cls (.ref c.1)=some true/\c.2 D σ H)\/(exmOne K cls (.ref c.1)=some false/\Mr K cls D σ H r)
def PH (X:Cx)(h:ExceptHandler)(c:Addr×TS):Prop:=∃ x np b₀ suite hpos,h=.ExceptHandler (some (.Name x np)) none (b₀::suite) hpos/\Gl X x/\X.mg x=some (.ref c.1)/\(x==("__debug__":Str))=false/\∀ pn a,se ((X.uT pn).hand a) (b₀::suite) c.2
inductive Px (X:Cx):List ExceptHandler->List (Addr×TS)->Prop
 |nil:Px X [] []
 |cons {h:ExceptHandler} {c:Addr×TS} {hs:List ExceptHandler} {cs:List (Addr×TS)}:PH X h c->Px X hs cs->Px X (h::hs) (c::cs)
theorem Oo:Px X [] []:=.nil
theorem Mt {CT:Addr}{x:Str}{b₀:Stmt}{suite:List Stmt}{np hpos:Pos}{ts:TS}{hs:List ExceptHandler}{cs:List (Addr×TS)}(h:∀ pn a,se ((X.uT pn).hand a) (b₀::suite) ts)(hg:Gl X x)(hm:X.mg x=some (.ref CT))(r:Px X hs cs)(hd:(x==("__debug__":Str))=false:=by decide) :
  Px X (.ExceptHandler (some (.Name x np)) none (b₀::suite) hpos::hs) ((CT,ts)::cs):=.cons ⟨x,np,b₀,suite,hpos,rfl,hg,hm,hd,h⟩ r
theorem handles {pins:List (Addr×Obj)}{σ:St}{H:Hp}{G B:Heap}{s1:Shared}{a:Addr}{cls a0:Value}{l:List Env}{D:Ends}(I1:Inv X pins σ H { s1 with heap:=G })(cov:∀ b o,G.get? b=some o->b ∉ frs X.stack->B.get? b=some o)(hok:X.Ok) :
  ∀{hs:List ExceptHandler} {cs:List (Addr×TS)},Px X hs cs->∀ h5,Heap.FlyingW B l a cls a0 h5->G.UpToSlots h5->Mr X.K cls D σ H cs->wpAny (model X.prog X.w) X.A (handleBy (.ref a) X.env hs) (fun f s'=>SP X pins D f s') X.xe { s1 with heap:=h5 }:=by
 intro hs cs hh
 induction hh with
 |nil=>intro h5 _ _ p;exact p.elim
 | @cons h c hs cs h0 _ ih =>
  intro h5 NQ U5 p;obtain⟨x,np,b₀,suite,hpos,rfl,hg,hm,hd,YX⟩:=h0;have I5:Inv X pins σ H { s1 with heap:=h5 }:=I1.flown cov NQ.1 U5;have V9:=I5.hand a;refine wpAny_handleBy_cons (codeAny_handlers_test (fq V9 hg hm ?_ hd)) (by intro q;cases q);obtain⟨ob,hob,hobc⟩:=NQ.there;rcases p with ⟨hx,q⟩|⟨hx,q⟩
  ·refine(exm_one (M:=model X.prog X.w) I5.hX (hobc ▸ (PySem.W.Looks.ld hob).andThen .now) hx).here ?_;refine codeAny_handlers_suite ?_;refine lands_againW NQ fun h6 UI Wa=>?_;have U6:=U5.trans Wa;have I6:Inv X pins σ H { s1 with heap:=h6 }:=I1.flown cov UI.1 U6;refine wpAny_mono ((YX (X.pn++pins) a) [] _ _ _ D (I6.uT.hand a) q) (fun f s9 z=>?_) fun _ _ z=>z.elim;cases f with
   |next=>obtain⟨σ9,H9,J,w⟩:=z;exact⟨_,H9,(J.yJ (hok.uT _)).kr hok,w⟩
   |brk=>obtain⟨σ9,H9,J,w⟩:=z;exact⟨_,H9,(J.yJ (hok.uT _)).kr hok,w⟩
   |cont=>obtain⟨σ9,H9,J,w⟩:=z;exact⟨_,H9,(J.yJ (hok.uT _)).kr hok,w⟩
   |ret u=>obtain⟨v,σ9,H9,J,r,w⟩:=z;exact⟨v,_,H9,(J.yJ (hok.uT _)).kr hok,r,w⟩
  ·refine(exm_one (M:=model X.prog X.w) I5.hX (hobc ▸ (PySem.W.Looks.ld hob).andThen .now) hx).here ?_;exact ih h5 NQ U5 q
def Ti (K:Frag)(cs:List (Addr×TS))(tb:Le->TS):TS:=fun D σ H=>tb (fun σ' cls H'=>Mr K cls D σ' H' cs) D σ H
theorem Oq {body:List Stmt}{h₀:ExceptHandler}{hs:List ExceptHandler}{cs:List (Addr×TS)}{pos:Pos}{tb:Le->TS}
  (hb:∀ pn XS,se ((X.uT pn).wish (WX (X.uT pn) XS)) body (tb XS)) (hh:Px X (h₀::hs) cs) (hst:X.stack=X.env::X.outer) (hfr:X.env.frame=some X.env.locals) :
  PS X (.Try body (h₀::hs) [] [] pos) (Ti X.K cs tb):=by
 intro pins s σ H D I h;refine wpAny_Try_except (wpAny_mono (hb (X.pn++pins) _ [] s σ H D (I.uT.wish _) h) (fun f s1 q=>?_) fun ev s1 z=>?_)
 ·have q':SP X pins D f s1:=q.fO.kr I.ok;cases f with
  |next=>exact wpAny_execs_nil q'
  |brk=>exact q'
  |cont=>exact q'
  |ret u=>exact q'
 ·obtain⟨A9,σ',H',G,a,cls,rfl,I',⟨B,a0,cov,fl,up,hn⟩,q⟩:=z;have I1:Inv X pins σ' H' { s1 with heap:=G }:=I'.kr I.ok;have hF:X.A.frames=some (X.env::X.outer):=by rw[<-hst];exact I.ok.frames
  have fl:Heap.FlyingW B (X.env::X.outer) a cls a0 s1.heap:=by rw[<-hst];exact fl
  refine wpAny_looks_onW hF hfr fl fun h4 Mu Wb=>?_;refine wpAny_landsW Mu fun h5 NQ Wc=>?_;exact handles I1 cov I.ok hh h5 NQ ((up.trans Wb).trans Wc) q
end
end L2
namespace L2
open PySem PySem.Spec PyProof.Rows
inductive Tame {α:Type}:Sem α->Prop
 |pure (a:α):Tame (.pure a)
 |raise (e:Value):Tame (.raise e)
 |mh (w:String):Tame (.unsupported w)
 |rule {t:String} {k:Unit->Sem α} (h:Tame (k ())):Tame (.rule t k)
 |at' {p:Pos} {k:Unit->Sem α} (h:Tame (k ())):Tame (.at p k)
 |load {a:Addr} {q:Option Value} {k:Obj->Sem α} (h:∀ o,Tame (k o)):Tame (.load a q k)
 |update {a:Addr} {q:Option Value} {f:Obj->Obj} {k:Unit->Sem α} (hf:∀ o,(f o).dict=o.dict/\(o.isFreed=false->(f o).isFreed=false)) (h:Tame (k ())):Tame (.update a q f k)
 |alloc {o:Obj} {k:Addr->Sem α} (h:∀ a,Tame (k a)):Tame (.alloc o k)
 |ask {k:Setting->Sem α} (h:∀ a,Tame (k a)):Tame (.ask k)
 |register {a:Addr} {k:Unit->Sem α}:Tame (.register a k)
 |stack {k:List (Code×Pos)->Sem α} (h:∀ a,Tame (k a)):Tame (.stack k)
def jG (D:Addr)(e:Addr)(h:Heap):Prop:=∃ o,h.get? e=some o/\o.dict=some D
theorem Tame.keeps {α:Type}{M:Model}{Γ:PySem.Ctx}{D e:Addr}{m:Sem α}(t:Tame m):∀{Q:α->Pos->Shared->Prop} {E:Value->Pos->Shared->Prop} {p:Pos} {s:Shared},Sem.wp M Γ m Q E p s->jG D e s.heap->Sem.wp M Γ m (fun a p s'=>Q a p s'/\jG D e s'.heap) (fun x p s'=>E x p s'/\jG D e s'.heap) p s:=by
 induction t with
 |pure a=>intro Q E p s h d;rw[Sem.wp]at h ⊢;exact⟨h,d⟩
 |raise x=>intro Q E p s h d;rw[Sem.wp]at h ⊢;exact⟨h,d⟩
 |mh w=>intro Q E p s h d;rw[Sem.wp]at h;exact h.elim
 |rule _ ih=>intro Q E p s h d;rw[Sem.wp]at h ⊢;exact ih h d
 |at' _ ih=>intro Q E p s h d;rw[Sem.wp]at h ⊢;exact ih h d
 |load _ ih =>
  intro Q E p s h d;rw[Sem.wp]at h ⊢;obtain⟨o,ho,h⟩:=h;exact⟨o,ho,ih o h d⟩
 | @update a q f k hf _ ih =>
  intro Q E p s h d;rw[Sem.wp]at h ⊢;obtain⟨hs,h⟩:=h;refine⟨hs,ih h ?_⟩;obtain⟨o,ho,hd⟩:=d
  by_cases z:a=e
  ·subst z;refine⟨f o,Heap.get?_update_self f ho ((hf o).2 (Heap.get?_some_iff.mp ho).2),?_⟩;rw[(hf o).1];exact hd
  ·exact⟨o,(Heap.get?_update_other _ f z).trans ho,hd⟩
 |alloc _ ih =>
  intro Q E p s h d;rw[Sem.wp]at h ⊢;obtain⟨o,ho,hd⟩:=d;exact ih _ h ⟨o,U' _ ho,hd⟩
 |ask _ ih=>intro Q E p s h d;rw[Sem.wp]at h ⊢;exact ih _ h d
 |register=>intro Q E p s h d;rw[Sem.wp]at h;exact h.elim
 |stack _ ih=>intro Q E p s h d;rw[Sem.wp]at h ⊢;exact ih _ h d
theorem Tame.any {α:Type}{M:Model}{A:Around}{D e:Addr}{m:Sem α}(t:Tame m){Q:α->Shared->Prop}{E:Value->Shared->Prop}{s:Shared}(h:wpAny M A m Q E s)(d:jG D e s.heap):wpAny M A m (fun a s'=>Q a s'/\jG D e s'.heap) (fun x s'=>E x s'/\jG D e s'.heap) s :=
 fun Γ p hΓ=>t.keeps (h Γ p hΓ) d
theorem Tame.bnd {α β:Type}{m:Sem α}{f:α->Sem β}(t:Tame m)(hf:∀ a,Tame (f a)):Tame (m.bind f):=by
 induction t with
 |pure a=>exact hf a
 |raise x=>exact .raise x
 |mh w=>exact .mh w
 |rule _ ih=>exact .rule ih
 |at' _ ih=>exact .at' ih
 |load _ ih=>exact .load fun o=>ih o
 |update h _ ih=>exact .update h ih
 |alloc _ ih=>exact .alloc fun a=>ih a
 |ask _ ih=>exact .ask fun a=>ih a
 |register=>exact .register
 |stack _ ih=>exact .stack fun a=>ih a
theorem Tame.bind' {α β:Type}{m:Sem α}{f:α->Sem β}(t:Tame m)(hf:∀ a,Tame (f a)):Tame (m >>= f):=t.bnd hf
theorem vb (a:Addr):Tame (load a):=.load fun o=>.pure o
theorem vZ {a:Addr}{f:Obj->Obj}(hf:∀ o,(f o).dict=o.dict/\(o.isFreed=false->(f o).isFreed=false)):Tame (update a f):=.update hf (.pure ())
theorem rh:Tame stack:=.stack fun l=>.pure l
theorem AJ (v:Value):Tame (fieldsOf v):=by
 unfold fieldsOf;split
 ·refine(vb _).bind' fun o=>?_;split
  ·exact .pure _
  ·exact .mh _
 ·exact .mh _
theorem mV (v:Value)(i:Nat):Tame (field v i):=by
 unfold field;refine(AJ v).bind' fun vs=>?_;split
 ·exact .pure _
 ·exact .mh _
theorem lO (v:Value)(i:Nat)(x:Value):Tame (setField v i x):=by
 unfold setField;split
 ·unfold updateField;refine(vb _).bind' fun o=>?_;split
  ·split
   ·refine vZ fun o=>⟨?_,fun h=>?_⟩
    ·obtain⟨c,d,dt,sl⟩:=o;cases dt <;> rfl
    ·obtain⟨c,d,dt,sl⟩:=o;cases dt <;> first|rfl|exact h
   ·exact .mh _
  ·exact .mh _
 ·exact .mh _
theorem jH (e:Value)(f:Option Addr):Tame (setFlight e f):=by
 unfold setFlight;refine(mV e 1).bind' fun tb=>?_;split
 ·exact lO _ _ _
 ·exact .pure _
theorem jI {α:Type}{c:Prop}[Decidable c]{a b:Sem α}(ha:Tame a)(hb:Tame b):Tame (if c then a else b):=by
 by_cases h:c
 ·rw[Zc' h];exact ha
 ·rw[Za' h];exact hb
theorem AK (env:Env)(b:Bool)(l:List Env):Tame (keptBack env b l):=by
 cases l with
 |nil =>
  refine jI (.pure _) (Tame.bind' ?_ fun r=>.pure _);unfold underTheClaimsCaller;exact rh.bind' fun l=>.pure _
 |cons c r=>exact .pure _
theorem p9 (env:Env)(l:List Env):Tame (behindIsImport env l):=by
 unfold behindIsImport;exact jI (.pure _) (jI (.pure _) ((mV _ _).bind' fun x=>.pure _))
theorem mi:∀ l,Tame (readyFrames l)
 |[]=>.pure _
 |env::outer=>by
  unfold readyFrames;split
  ·refine(vb _).bind' fun o=>?_;refine jI (.pure _) ?_;exact(p9 _ _).bind' fun i=>(AK _ _ _).bind' fun b=>Tame.bind' (vZ (f:=fun o=>{ o with slots:=_ }) fun o=>⟨rfl,fun h=>by
    obtain⟨c,d,dt,sl⟩:=o;cases dt <;> first|rfl|exact h⟩) fun _=>mi outer
  ·exact .mh _
theorem vc (l:List Env):Tame (frameObject l):=by
 cases l with
 |nil=>exact .pure _
 |cons e r=>exact(mi _).bind' fun _=>.pure _
theorem C6 (env:Env):Tame (PySem.frameOf env):=by
 unfold PySem.frameOf;refine Tame.bind' ?_ fun l=>(vc _).bind' fun r=>?_
 ·unfold frameEnvs;exact rh.bind' fun l=>.pure _
 ·split
  ·exact .pure _
  ·exact .mh _
theorem sH (f:Addr)(b:Bool):Tame (entryPlaceOf f b):=by
 unfold entryPlaceOf;refine rh.bind' fun l=>?_;split
 ·exact .pure _
 ·exact .pure _
theorem yN (T:String)(vs:List Value):Tame (newFields T vs):=by
 have h:Tame (newObjAsIs (.type T) (.fields vs.toArray)):=by
  unfold newObjAsIs;exact Tame.bind' (m:=alloc _) (.alloc fun a=>.pure a) fun a=>.pure _
 unfold newFields newObj;exact jI (.mh _) h
theorem yO (e:Value)(env:Env)(hd:Value)(f:Addr)(b:Bool):Tame (do setField e 1 (<-EntryCells.newEntry hd (<-PySem.frameOf env) .none (rawInt f) .none (<-entryPlaceOf f b))) :=
 (C6 _).bind' fun a=>(sH _ _).bind' fun pl=>Tame.bind' (yN _ _) fun x=>lO _ _ _
theorem oJ (e:Value)(env:Env):Tame (noteFrame e env):=by
 unfold noteFrame;split
 ·refine(mV _ _).bind' fun hd=>?_;exact jI ((mV _ _).bind' fun x=>jI (.pure _) ((lO _ _ _).bind' fun _=>yO _ _ _ _ _)) (yO _ _ _ _ _)
 ·exact .mh _
theorem sI (env:Env)(e:Value):Tame (leaving env e):=by
 unfold leaving;exact(oJ e env).bind' fun _=>jH e none
end L2
namespace L2
open PySem PySem.Spec PyProof.Rows
structure UJ (K:Frag)(C f:Addr):Prop where
 obj:∃ bm N nm qn bs sn sub ab col dd k0 k1 k2 k3 k5,K.lookup C=some (excClassObj nm qn C N bs bm true sn sub ab col dd k0 k1 k2 k3 k5 "ValueError.__new__")/\nsOkIn K N=true/\nsIn K N "__init__"=some (some (.ref f))/\tailIn K cz bm=true
 fn:typeIn K (.ref f)=some (.type "function")
theorem nsHas {K:Frag}{h:Heap}{N:Addr}{mg:Str->Option Value}{n:Str}{v:Value}(X:K.In h)(G:h.Ns N mg)(e:nsIn K N n=some (some v)):mg n=some v:=by
 unfold nsIn at e;cases q:K.lookup N with
 |none=>rw[q]at e;cases e
 |some ob =>
  rw[q]at e;obtain⟨c,dd,dt,sl⟩:=ob;cases dt with
  |dict es k =>
   dsimp only at e;obtain⟨o,es1,ep1,ho,hd,_,hf⟩:=G;rw[X _ _ q]at ho;cases ho;cases hd;cases he:es.toList.find? (·.key.isStr n) with
   |none =>
    rw[he]at e;dsimp only at e;split at e <;> cases e
   |some en =>
    rw[he]at e;cases e;rw[<-hf];unfold nsFind findBy;rw[<-Array.find?_toList,he];rfl
  |_=>cases e
theorem UJ.at {K:Frag}{C f:Addr}{h:Heap}(q:UJ K C f)(X:K.In h):∃ bm N nm qn bs sn sub ab col dd k0 k1 k2 k3 k5 mN,h.get? C=some (excClassObj nm qn C N bs bm true sn sub ab col dd k0 k1 k2 k3 k5 "ValueError.__new__")/\h.Ns N mN/\mN "__init__"=some (.ref f)/\OwnTail h cz bm:=by
 obtain⟨bm,N,nm,qn,bs,sn,sub,ab,col,dd,k0,k1,k2,k3,k5,e1,e2,e3,e4⟩:=q.obj;have ns:h.Ns N (h.nsMap N):=.of_isNs (isNs_of_in X e2);exact⟨bm,N,nm,qn,bs,sn,sub,ab,col,dd,k0,k1,k2,k3,k5,h.nsMap N,X _ _ e1,ns,nsHas X ns e3,tail_of_in X e4⟩
section
variable {prog:Program} {w:World} {A:Around} {E:Value->Shared->Prop} {h:Heap} {g:Array GenState} {d:Drawn} {t:Nat} {os:OsState}
 {nm q:Str} {C N:Addr} {bs bm:List Value} {hdct:Bool} {sn:List Str} {sub:List Value} {ab:Bool} {col:Option Bool} {dd:Option Addr} {k0 k1 k2 k3 k5:Option Value} {mN:Str->Option Value}
noncomputable abbrev fV:=excBase_ValueError
theorem Et {us:List Value}{fI:Addr}{oI:Obj}{Q:Fin->Shared->Prop}(T:OwnTail h cz bm)(hC:h.get? C=some (excClassObj nm q C N bs bm hdct sn sub ab col dd k0 k1 k2 k3 k5 "ValueError.__new__"))(hn:h.Ns N mN)(hi:mN "__init__"=some (.ref fI))(ho:h.get? fI=some oI)(hoc:oI.cls=.type "function")(hz:us.length<=sizeLine)
  (go:∀ h' e,Heap.MadeExcOf h h' e (.ref C) us->wpAny (model prog w) A (call (.ref fI) (.ref e::us)) (fun r s'=>r=.none/\Q (.done (.ret (.ref e))) s') E ⟨h',g,d,t,os⟩) :
  wpAny (model prog w) A (Builtin.«type.__call__» ⟨.ref C::us,[]⟩) Q E ⟨h,g,d,t,os⟩:=by
 have nid:=fV
 repeat (first|with_reducible refine wpAny_madeBy_exc hC ?_|with_reducible refine wpAny_loadPart_at hC ?_|wp_step)
 refine codeAny_call_builtin_code (Code.quiet_builtin _ nid.quiet) (wpAny_check_new_subT nid T hC (codeAny_exc_new_subT nid T hC ?_ hz));show wpAny _ _ _ _ _ _;generalize hg1:h.push { cls:=.type "tuple",data:=.seq us.toArray } = h1;have YY:h1.objs.size=h.objs.size+1:=by rw[<-hg1];exact Heap.size_push ..
 have up1:∀ b o,h.get? b=some o->h1.get? b=some o:=fun b o e=>by rw[<-hg1];exact U' _ e
 have ht1:h1.get? h.objs.size=some { cls:=.type "tuple",data:=.seq us.toArray }:=by rw[<-hg1];exact Zi' _ rfl
 generalize hg2:h1.push { cls:=.ref C,data:=.fields #[.ref h.objs.size,.none,.none,.none,.bool false,.none] } = h2;have XB:∀ b o,h1.get? b=some o->h2.get? b=some o:=fun b o e=>by rw[<-hg2];exact U' _ e
 have he2:h2.get? (h.objs.size+1)=some { cls:=.ref C,data:=.fields #[.ref h.objs.size,.none,.none,.none,.bool false,.none] }:=by rw[<-hg2,<-YY];exact Zi' _ rfl
 have up:∀ b o,h.get? b=some o->h2.get? b=some o:=fun b o e=>XB b o (up1 b o e);have XC:=up _ _ hC;have hin:(Value.ref C::bm).contains (.ref C)=true:=by simp
 unfold isInstance
 repeat (first|with_reducible refine wpAny_loadPart_at he2 ?_|(with_reducible refine wpAny_isSubtype_exc XC ?_;rw[hin])|wp_step)
 show wpAny _ _ (typeLookup (.ref C) _) _ _ _;refine wpAny_typeLookup_tail XC (hn.keeps up) (T.keeps up) nid.mroIs nid.init.lookup ?_;rw[hi];refine wpAny_holding (K' ?_);unfold bindSpecial;refine K' (wpAny_typeOf (T:="function") ⟨_,up _ _ ho,hoc⟩ ?_);rw[Zc' (by decide)];refine Z' (K' (wpAny_mono (go h2 (h.objs.size+1) ⟨up,Heap.get?_none_of_le (Nat.le_succ _),h.objs.size,he2,Heap.get?_none_of_le (X' _),XB _ _ ht1⟩) (fun r s' z=>?_) fun _ _ z=>z));obtain⟨rfl,z⟩:=z
 wp_walk
 exact z
theorem Tj {us:List Value}{fI:Addr}{oI:Obj}{Q:Value->Shared->Prop}(T:OwnTail h cz bm)(hC:h.get? C=some (excClassObj nm q C N bs bm hdct sn sub ab col dd k0 k1 k2 k3 k5 "ValueError.__new__"))(hn:h.Ns N mN)(hi:mN "__init__"=some (.ref fI))(ho:h.get? fI=some oI)(hoc:oI.cls=.type "function")(hz:us.length<=sizeLine)
  (go:∀ h' e,Heap.MadeExcOf h h' e (.ref C) us->wpAny (model prog w) (A.under (.builtin "type.__call__" ⟨.ref C::us,[]⟩)) (call (.ref fI) (.ref e::us)) (fun r s'=>r=.none/\Q (.ref e) s') E ⟨h',g,d,t,os⟩) :
  wpAny (model prog w) A (call (.ref C) us) Q E ⟨h,g,d,t,os⟩:=by
 have b1:=tc_lookup;have b2:=tc_bind (.ref C);have isT:(⟨h,g,d,t,os⟩:Shared).TypeIs (.ref C) "type":=⟨_,hC,rfl⟩;refine wpAny_call (codeAny_of_tree ?_);show wpAny _ _ (callAny (.ref C) _) _ _ _
 repeat (any_goals (first|assumption|wp_step|with_reducible refine wpAny_loadPart_at hC ?_))
 exact⟨rfl,codeAny_call_builtin_at (Code.quiet_builtin _ (by lk)) entry_typeCall (wpAny_check_type_call_sub hC (Et T hC hn hi ho hoc hz go))⟩
end
noncomputable def rj:List Value->Bool
 |.ref _::r=>rj r
 |l=>l==cz
theorem Bt (x:Value):∀{l:List Value},rj l=true->refuseLoop x "__setattr__" l=pure ()
 |.ref c::r,e=>by rw[refuseLoop_ref];exact Bt x (l:=r) e
 |[],e=>by cases e
 |.type n::r,e=>by
  have:Value.type n::r=cz:=beq_iff_eq.mp e;rw[this];exact PySem.F.store_ValueError.passes x
 |.none::r,e=>by cases (show _=cz from beq_iff_eq.mp e)
 |.ellipsis::r,e=>by cases (show _=cz from beq_iff_eq.mp e)
 |.notImplemented::r,e=>by cases (show _=cz from beq_iff_eq.mp e)
 |.bool _::r,e=>by cases (show _=cz from beq_iff_eq.mp e)
 |.int _ _::r,e=>by cases (show _=cz from beq_iff_eq.mp e)
 |.float _ _::r,e=>by cases (show _=cz from beq_iff_eq.mp e)
 |.str _ _::r,e=>by cases (show _=cz from beq_iff_eq.mp e)
 |.bytes _ _::r,e=>by cases (show _=cz from beq_iff_eq.mp e)
 |.builtin _::r,e=>by cases (show _=cz from beq_iff_eq.mp e)
theorem has_obj:∀{l:List Value},rj l=true->l.contains (.type "object")=true
 |.ref c::r,e=>by rw[List.contains_cons,has_obj (l:=r) e,Bool.or_true]
 |[],e=>by cases e
 |.type n::r,e=>by
  have:Value.type n::r=cz:=beq_iff_eq.mp e;rw[this];decide +kernel
 |.none::r,e=>by cases (show _=cz from beq_iff_eq.mp e)
 |.ellipsis::r,e=>by cases (show _=cz from beq_iff_eq.mp e)
 |.notImplemented::r,e=>by cases (show _=cz from beq_iff_eq.mp e)
 |.bool _::r,e=>by cases (show _=cz from beq_iff_eq.mp e)
 |.int _ _::r,e=>by cases (show _=cz from beq_iff_eq.mp e)
 |.float _ _::r,e=>by cases (show _=cz from beq_iff_eq.mp e)
 |.str _ _::r,e=>by cases (show _=cz from beq_iff_eq.mp e)
 |.bytes _ _::r,e=>by cases (show _=cz from beq_iff_eq.mp e)
 |.builtin _::r,e=>by cases (show _=cz from beq_iff_eq.mp e)
section
variable {prog:Program} {w:World} {A:Around} {E:Value->Shared->Prop} {s:Shared} {K:Frag} {x C:Addr} {ox:Obj}
theorem Kb {name:Str}{v:Value}{tk:Tok}{cd:ClassData}{vs:Array Value}{R:Result->Shared->Prop}(X:K.In s.heap)(hx:s.heap.get? x=some ox)(hc:ox.cls=.ref C)(hdn:ox.dict=none)(hdt:ox.data=.fields vs)
  (hcd:clsIn K C=some cd) (hm:rj cd.mro=true) (hdd:cd.hasDict=true) (hat:findIn K (.ref C) name=some none)
  (hR:∀ h' tk',(∀ b o,b≠x->s.heap.get? b=some o->h'.get? b=some o)->h'.get? x=some { ox with dict:=some s.heap.objs.size }->h'.Ns1 s.heap.objs.size (fun y=>if y=name then some v else none)->R (.ok (.ret .none)) { s with heap:=h',toks:=tk' }) :
  codeAny (model prog w) A (.call (.builtin "object.__setattr__") ⟨[.ref x,.str name tk,v],[]⟩) R s:=by
 have J:InstAt s.heap x ox C none:=⟨hx,hc,by unfold notCls;rw[hdt],by rw[hdn];trivial⟩;have SF:=PySem.F.store_object;have ne:cd.mro.isEmpty=false:=by cases q:cd.mro with|nil=>rw[q]at hm;cases hm|cons _ _=>rfl
 have YZ:Looks (model prog w) s.heap (isInstance (.ref x) (.type "object")) true:=J.type.andThen (PySem.W.looks_mroIn X (by unfold mroIn;rw[hcd,Option.bind_some,Za' (by rw[ne];decide),has_obj hm]));have lm:Looks (model prog w) s.heap (mroOf (.ref C)) cd.mro:=(looks_clsIn X hcd).andThen .now;have la:Looks (model prog w) s.heap (typeLookup (.ref C) name) none:=looks_findIn X hat;refine codeAny_call_builtin SF.slot.plain SF.entry (@PySem.W.check_slot (model prog w) _ _ s "object.__setattr__" "object" "__setattr__" (.ref x) [.str name tk,v] [] _ SF.kind SF.split YZ (SF.args (.ref x) (.str name tk) v) ?_);rw[PySem.W.osa_eq,refuse_eq];refine K' (K' (J.type.here (K' (lm.here ?_))));rw[Bt (.ref x) hm];refine Z' (K' (J.type.here (K' (la.here (K' (Z' ?_))))));show wpAny _ _ (Builtin.ObjectAttr.storeInOwnDict (.ref x) (.ref C) (.str name tk) name v false) _ _ _;obtain⟨oc,od,dt,sl⟩:=ox;dsimp only at hc hdn hdt;subst hc hdn hdt;unfold Builtin.ObjectAttr.storeInOwnDict;refine K' (Z' ?_);rw[Za' (show ¬(Value.ref C==Value.type "module")=true from Zg')];refine K' ?_;unfold Builtin.ObjectAttr.ownDictForStores instanceDict;refine K' (wpAny_loadPart hx ?_);have lc:Looks (model prog w) s.heap (classData C) cd:=looks_clsIn X hcd;refine K' (lc.here ?_);rw[hdd];have hxs:x≠s.heap.objs.size:=Zo' (Zb' hx);have hx1:(s.heap.push { cls:=.type "dict",data:=.dict #[] }).get? x=some { cls:=.ref C,dict:=none,data:=.fields vs,slots:=sl }:=U' _ hx;refine K' (wpAny_alloc (K' (wpAny_update hx1 (Z' ?_))));generalize hg:(s.heap.push { cls:=.type "dict",data:=.dict #[] }).update x (fun o=>{ o with dict:=some s.heap.objs.size })=h1;have gx:h1.get? x=some { cls:=.ref C,dict:=some s.heap.objs.size,data:=.fields vs,slots:=sl }:=by rw[<-hg];exact Heap.get?_update_self _ hx1 rfl
 have gd:h1.get? s.heap.objs.size=some { cls:=.type "dict",data:=.dict #[] }:=by rw[<-hg,Heap.get?_update_other _ _ hxs];exact Zi' _ rfl
 have gk:∀ b o,b≠x->s.heap.get? b=some o->h1.get? b=some o:=fun b o hb e=>by rw[<-hg,Heap.get?_update_other _ _ (Ne.symm hb)];exact U' _ e
 have nd:h1.Ns s.heap.objs.size (fun _=>none):=⟨_,#[],_,gd,rfl,fun e he=>j' he (by simp),fun _=>rfl⟩;show wpAny _ _ (Builtin.ObjectAttr.storeInDict s.heap.objs.size (.str name tk) name v) _ _ _;unfold Builtin.ObjectAttr.storeInDict Builtin.ObjectAttr.newKeyGuard;refine K' (Z' (K' (wpAny_nsSet1 (Heap.Ns1.of_empty nd) fun h2 n2 s2=>?_)));obtain⟨oD,eD,pD,gD,dD,cD⟩:=n2.count (Within.cons name v Within.nil);refine K' (wpAny_lookBehind gD (by rw[dD];exact pastItsLine_dict (Zf' cD (by show 1<=_;rw[sizeLine_eq];omega))) (Z' ?_));exact hR h2 _ (fun b o hb e=>(s2.2 b (Zo' (Zb' e))).trans (gk b o hb e)) ((s2.2 x hxs).trans gx) n2
theorem Wd {name:Str}{v:Value}{cd:ClassData}{vs:Array Value}{Q:Unit->Shared->Prop}(X:K.In s.heap)(hx:s.heap.get? x=some ox)(hc:ox.cls=.ref C)(hdn:ox.dict=none)(hdt:ox.data=.fields vs)
  (hcd:clsIn K C=some cd) (hm:rj cd.mro=true) (hdd:cd.hasDict=true) (Y0:findIn K (.ref C) "__setattr__"=some (some (.builtin "object.__setattr__"))) (hat:findIn K (.ref C) name=some none)
  (hQ:∀ h' tk,(∀ b o,b≠x->s.heap.get? b=some o->h'.get? b=some o)->h'.get? x=some { ox with dict:=some s.heap.objs.size }->h'.Ns1 s.heap.objs.size (fun y=>if y=name then some v else none)->Q () { s with heap:=h',toks:=tk }) :
  wpAny (model prog w) A (setAttr (.ref x) name v) Q E s:=by
 refine set_plain (od:=none) X ⟨hx,hc,by unfold notCls;rw[hdt],by rw[hdn];trivial⟩ Y0 ?_;exact Kb (s:={ s with toks:=s.toks+1 }) X hx hc hdn hdt hcd hm hdd hat fun h' tk k1 k2 k3=>hQ h' tk k1 k2 k3
end
section
variable {prog:Program} {w:World} {A:Around} {E:Value->Shared->Prop} {h:Heap} {g:Array GenState} {d:Drawn} {t:Nat} {os:OsState}
 {nm q:Str} {C N:Addr} {bs bm:List Value} {hdct:Bool} {sn:List Str} {sub:List Value} {ab:Bool} {col:Option Bool} {dd:Option Addr} {k0 k1 k2 k3 k5:Option Value} {mN:Str->Option Value}
theorem Tn {e:Addr}{oe:Obj}{vs:Array Value}{us:List Value}{Q:Value->Shared->Prop}(T:OwnTail h cz bm)(hC:h.get? C=some (excClassObj nm q C N bs bm hdct sn sub ab col dd k0 k1 k2 k3 k5 "ValueError.__new__"))(he:h.get? e=some oe)(hc:oe.cls=.ref C)(hd:oe.data=.fields vs){a0:Value}(h0:vs[0]? = some a0)(hz:us.length<=sizeLine)
  (hQ:∀ h',(∀ b o,b≠e->h.get? b=some o->h'.get? b=some o)->h'.get? e=some { oe with data:=.fields (vs.setIfInBounds 0 (.ref h.objs.size)) }->Q .none ⟨h',g,d,t,os⟩) :
  wpAny (model prog w) A (call (.builtin "ValueError.__init__") (.ref e::us)) Q E ⟨h,g,d,t,os⟩:=by
 refine wpAny_call (codeAny_call_builtin fV.init.plain fV.initEntry (wpAny_check_init_subT fV T hC he hc ?_));have We:=U' { cls:=.type "tuple",data:=.seq us.toArray } he;refine K' (m:=newTuple us) (wpAny_newTuple ?_ hz);have hs:0<vs.size:=(Array.getElem?_eq_some_iff.mp h0).1;refine K' (m:=field (.ref e) 0 >>= _) (K' (wpAny_field (s:=⟨h.push { cls:=.type "tuple",data:=.seq us.toArray },g,d,t,os⟩) We hd h0 ?_));refine K' (wpAny_setField (s:=⟨h.push { cls:=.type "tuple",data:=.seq us.toArray },g,d,t,os⟩) We hd hs ?_);have fin:wpAny (model prog w) A.in1 (match a0 with|.ref _=>letGo [a0] []|_=>pure ()) (fun _ s'=>wpAny (model prog w) A.in1 (ret .none) (fun fin s'=>match fin with
   |.done f=>(match (Except.ok f:Result) with|.ok (.ret v)=>Q v s'|.ok _=>False|.error e=>E e s')
   |.again c'=>c'.quiet=true/\codeAny (model prog w) A c' (fun r s'=>match r with|.ok (.ret v)=>Q v s'|.ok _=>False|.error e=>E e s') s') (fun x s'=>E x s') s') (fun x s'=>E x s')
   ⟨(h.push { cls:=.type "tuple",data:=.seq us.toArray }).update e (Obj.mapFields (·.setIfInBounds 0 (.ref h.objs.size))),g,d,t,os⟩:=by
  have z:Q .none ⟨(h.push { cls:=.type "tuple",data:=.seq us.toArray }).update e (Obj.mapFields (·.setIfInBounds 0 (.ref h.objs.size))),g,d,t,os⟩:=by
   obtain⟨oc,od,dt,sl⟩:=oe;dsimp only at hc hd;subst hc hd;exact hQ _ (fun b o hb z=>(Heap.get?_update_other _ _ (Ne.symm hb)).trans (U' _ z)) (Heap.get?_update_self _ We rfl)
  cases a0 with
  |ref a=>exact wpAny_letGo (Z' z)
  |_=>exact Z' (Z' z)
 exact fin
end
section
variable {prog:Program} {w:World} {A:Around} {E:Value->Shared->Prop} {h:Heap} {g:Array GenState} {d:Drawn} {t:Nat} {os:OsState} {a D:Addr} {o:Obj} {vs:Array Value} {K:Frag}
 {nm q:Str} {C N:Addr} {bs bm:List Value} {sn:List Str} {sub:List Value} {ab:Bool} {col:Option Bool} {dd:Option Addr} {k0 k1 k2 k3 k5:Option Value} {newId:String} {name:Str} {v:Value} {mA:Str->Option Value}
theorem G1 {tk:Tok}{Q:Fin->Shared->Prop}(X:K.In h)(hat:findIn K (.ref C) name=some none)(hC:h.get? C=some (excClassObj nm q C N bs bm true sn sub ab col dd k0 k1 k2 k3 k5 newId))(hx:h.get? a=some o)(hc:o.cls=.ref C)(hdt:o.data=.fields vs)(hdx:o.dict=some D)(hns:h.Ns D mA)(hv:mA name=some v)(hq:Q (.done (.ret v)) ⟨h,g,d,t,os⟩) :
  wpAny (model prog w) A (Builtin.«object.__getattribute__» ⟨[.ref a,.str name tk],[]⟩) Q E ⟨h,g,d,t,os⟩:=by
 have lk:Looks (model prog w) h (typeLookup (.ref C) name) none:=looks_findIn X hat;unfold Builtin.«object.__getattribute__»
 repeat (first|with_reducible refine lk.at ?_|(with_reducible refine wpAny_loadPart_at hx ?_;rw[hc])|wp_step)
 split
 ·next c e=>rw[hdt]at e;cases e
 unfold instanceDict
 repeat (first|with_reducible refine wpAny_loadPart_at hC ?_|(with_reducible refine wpAny_loadPart_at hx ?_;rw[hc])|wp_step)
 rw[hdx]
 repeat (first|(with_reducible refine wpAny_nsGet hns ?_;rw[hv])|wp_step)
 exact hq
theorem Wf {Q:Value->Shared->Prop}{expr:Bool}(X:K.In h)(hga:findIn K (.ref C) "__getattribute__"=some (some (.builtin "BaseException.__getattribute__")))(Y1:findIn K (.ref C) "__getattr__"=some none)(hat:findIn K (.ref C) name=some none)(hC:h.get? C=some (excClassObj nm q C N bs bm true sn sub ab col dd k0 k1 k2 k3 k5 newId))(T:OwnTail h cz bm)
  (hx:h.get? a=some o) (hc:o.cls=.ref C) (hdt:o.data=.fields vs) (hdx:o.dict=some D) (hns:h.Ns D mA) (hv:mA name=some v) (hh:handedOut v=pure v) (hq:Q v ⟨h,g,d,t+1,os⟩):wpAny (model prog w) A (getAttr (.ref a) name expr) Q E ⟨h,g,d,t,os⟩:=by
 have f3:=PySem.F.attrBase_ValueError.ga.bind (.ref a);have n2:(Value.builtin "BaseException.__getattribute__" == Value.builtin "object.__getattribute__")=false:=by lk
 have n1:(onTheHeap (Value.ref C)&&Value.builtin "BaseException.__getattribute__" == Value.builtin "object.__getattribute__")=false:=by rw[n2];rfl
 have l1:Looks (model prog w) h (typeLookup (.ref C) "__getattribute__") (some (.builtin "BaseException.__getattribute__")):=looks_findIn X hga;have l2:Looks (model prog w) h (typeLookup (.ref C) "__getattr__") none:=looks_findIn X Y1;unfold getAttr getAttrBy
 repeat (any_goals (first|assumption|(with_reducible refine wpAny_loadPart_at hx ?_;rw[hc])|with_reducible refine l1.at ?_|with_reducible refine l2.at ?_|wp_step))
 rw[Za' (show ¬(expr&&onTheHeap (Value.builtin "BaseException.__getattribute__"))=true by rw[show onTheHeap (Value.builtin "BaseException.__getattribute__")=false from rfl,Bool.and_false];exact Zg')]
 repeat (any_goals (first|assumption|wp_step))
 refine codeAny_call_builtin PySem.F.attrBase_ValueError.ga.plain F.entry_bexc_ga (vV hC T hx hc (G1 X hat hC hx hc hdt hdx hns hv ?_))
 repeat (any_goals (first|assumption|wp_step))
end
end L2
namespace L2
open PySem PySem.Spec PyProof.Rows
noncomputable def IG (a C:Addr)(od:Option Addr):HO:=.ext fun h=>∃ o vs a0,h.get? a=some o/\o.cls=.ref C/\o.data=.fields vs/\vs[0]? = some a0/\vs[1]? = some .none/\o.dict=od
theorem G2 {P:Program}{w:World}{H:Hp}{h:Heap}{a C:Addr}{od:Option Addr}{o:Obj}{vs:Array Value}{a0:Value}(e:h.get? a=some o)(hc:o.cls=.ref C)(hd:o.data=.fields vs)(h0:vs[0]? = some a0)(h1:vs[1]? = some .none)(hx:o.dict=od):cP P w H h a (IG a C od) :=
 ⟨⟨o,vs,a0,e,hc,hd,h0,h1,hx⟩,⟨o,e⟩,fun h1 h2 ⟨o1,vs1,a1,e1,r⟩ k=>⟨o1,vs1,a1,k o1 e1,r⟩⟩
structure Mv (K:Frag)(C f:Addr):Prop where
 ini:UJ K C f
 cd:∃ cd,clsIn K C=some cd/\rj cd.mro=true/\cd.hasDict=true
 sa:findIn K (.ref C) "__setattr__"=some (some (.builtin "object.__setattr__"))
 ga:findIn K (.ref C) "__getattribute__"=some (some (.builtin "BaseException.__getattribute__"))
 Mg:findIn K (.ref C) "__getattr__"=some none
 cl:findIn K (.ref C) "__class__"=some (some (.builtin "object.__class__"))
 kp:keepIn K (.ref C)=true
structure XD (K:Frag)(B:Addr):Prop where
 sp:specialIn K (.ref B) "__getattribute__"=some (some (.builtin "type.__getattribute__"))
 rd:PySem.W.readsIn K B (.type "type")=true
 fd:PySem.W.findCls K (.ref B) (.type "type") "__init__"=some (.val (.builtin "ValueError.__init__"))
section
variable {X:Cx} {B C f:Addr} {x fl:Str} {np apos pos pos':Pos} {e o value:Expr} {es:List Expr} {t:TA} {ta tv:TE}
def QK (C:Addr)(t:TA):TE:=fun σ H Q=>t σ H fun vs H1=>∃ a us,vs=V.ref a::us/\us.length<=sizeLine/\H1 a=some (IG a C none)/\Q .non H1
theorem Eu {pl:Sem Bool}(hg:Gl X x)(hm:X.mg x=some (.ref B))(b:XD X.K B)(q:UJ X.K C f)(ha:PA X (e::es) t)
  (hst:starEach (e::es) X.env=(false,eval e X.env)::starEach es X.env:=by rfl) (hpl:(backTo pos (starEach es X.env)).any (·.1)=false:=by rfl) (hdb:(x==("__debug__":Str))=false:=by decide)
  (ht:eval (.Call (.Attribute (.Name x np) "__init__" apos) (e::es) [] pos) X.env=(do
   let ov <-eval (.Name x np) X.env
   standAt apos.atName
   let (f,first) <-holding [ov] (getMethod ov "__init__" pl)
   callWith pos f first (backTo pos (starEach (e::es) X.env)) (backToKw pos (keywordEach [] X.env))):=by rfl) :
  PE X (.Call (.Attribute (.Name x np) "__init__" apos) (e::es) [] pos) (QK C t):=by
 intro pins s σ H Q I h;refine methodCall_KW (pl:=pl) (fq I hg hm ?_ hdb) ht;refine PySem.W.method_cls I.hX b.sp (PySem.W.cls_value I.hX b.rd b.fd (by lk) ?_);have I1:Inv X pins σ H { s with toks:=s.toks+1 }:=I.tok _;have hA:=ha pos pins { s with toks:=s.toks+1 } σ H _ I1 h;rw[hst]at hA ⊢;refine Calls.callWith_builtin (by show(false||(backTo pos (starEach es X.env)).any (·.1))=false;rw[hpl] <;> rfl) (Calls.evalArgs_plain ?_);refine bS hA fun us s2 fu=>?_;obtain⟨vs,H2,I2,r2,a,ws,e1,hz,e2,q2⟩:=fu;subst e1;cases r2 with
 | @cons _ u _ us r1 r2 =>
  obtain rfl:u=Value.ref a:=r1;obtain⟨⟨o,vs,a0,ho,hc,hd,h0,h1,hx⟩,_⟩:=I2.hok a _ e2;obtain⟨bm,N,nm,qn,bs,sn,sub,ab,col,dd,k0,k1,k2,k3,k5,mN,hC,hN,hi,T⟩:=q.at I2.hX;obtain⟨hp,g,d,tk,os⟩:=s2;refine Tn T hC ho hc hd h0 (by rw[<-r2.length];exact hz) fun h' k1' k2'=>?_;have I3:=I2.write (x:=a) (e:=a) (o:=IG a C none) (t':=tk) (h':=h') (by rw[e2];exact trivial) (.inl rfl) k1' ⟨_,k2'⟩ (G2 k2' hc rfl (by rw[Array.getElem?_setIfInBounds_self_of_lt (Array.getElem?_eq_some_iff.mp h0).1]) (by rw[Array.getElem?_setIfInBounds_ne (by decide)];exact h1) hx);have e3:upd H2 a (IG a C none)=H2:=by
   funext b
   by_cases hb:b=a
   ·subst hb;rw[ag,e2]
   ·rw[ak hb]
  rw[e3]at I3;exact⟨.non,H2,I3,rfl,q2⟩
def To (C:Addr)(fl:Str)(ta tv:TE):TS:=fun D σ H=>tv σ H fun y H1=>ta σ H1 fun z H2=>∃ a,z=.ref a/\H2 a=some (IG a C none)/\∀ d,H2 d=none->d≠a->D.nx σ (upd (upd H2 d (.xd [(fl,y)])) a (IG a C (some d)))
theorem IH (q:Mv X.K C f)(hat:findIn X.K (.ref C) fl=some none)(ha:PE X o ta)(hv:PE X value tv)(hs:swapsWith value (some (.Attribute o fl pos')) pos.line X.env=pure false):PS X (.Assign [.Attribute o fl pos'] value pos) (To C fl ta tv):=by
 intro pins s σ H D I h;refine plainObj_wpAny_Assign_Attribute (bS (hv pins s σ H _ I h) fun u s1 ⟨y,H1,I1,ry,z1⟩=>bS (ha pins s1 σ H1 _ I1 z1) fun ov s2 ⟨w,H2,I2,LI,a,ex,ea,z2⟩=>?_) hs;subst ex;obtain rfl:ov=Value.ref a:=LI;obtain⟨⟨ob,vs,a0,ho,hc,hd,h0,h1,hx⟩,_⟩:=I2.hok a _ ea;obtain⟨cd,hcd,hm,hdd⟩:=q.cd;refine Wd I2.hX ho hc hx hd hcd hm hdd q.sa hat fun h' tk k1 k2 k3=>?_;have hn:=I2.hok.fresh (X' s2.heap.objs.size);have hne:s2.heap.objs.size≠a:=fun z=>by rw[z,ea]at hn;cases hn
 have hfr:=(Heap.get?_some_iff.mp ho).2;have ma:(h'.update a fun _=>ob).get? a=some ob:=Heap.get?_update_self _ k2 hfr;have mo:∀ b,b≠a->(h'.update a fun _=>ob).get? b=h'.get? b:=fun b hb=>Heap.get?_update_other _ _ (Ne.symm hb);have I3:Inv X pins σ (upd H2 s2.heap.objs.size (.xd [(fl,y)])) { s2 with heap:=h'.update a fun _=>ob,toks:=tk }:=by
  refine I2.laid (fun b v e=>?_) (X' _) ?_
  ·by_cases hb:b=a
   ·subst hb;rw[ho]at e;cases e;exact ma
   ·rw[mo b hb];exact k1 b v hb e
  ·refine⟨fun n=>if n=fl then some u else none,?_,fun n=>?_⟩
   ·obtain⟨oD,es,ep,e1,r⟩:=k3;exact⟨oD,es,ep,(mo _ hne).trans e1,r⟩
   ·show jC (List.lookup n [(fl,y)]) (if n=fl then some u else none);rw[List.lookup_cons]
    by_cases hb:n=fl
    ·subst hb;rw[Zc' rfl,beq_self_eq_true];exact ry
    ·rw[Za' hb,beq_eq_false_iff_ne.mpr hb];exact trivial
 have I4:=I3.write (x:=a) (e:=a) (o:=IG a C (some s2.heap.objs.size)) (t':=tk) (h':=h') (by rw[ak (Ne.symm hne),ea];exact trivial) (.inl rfl) (fun b v hb e=>by rw[<-mo b hb];exact e) ⟨_,k2⟩ (G2 k2 hc hd h0 h1 rfl);exact⟨σ,_,I4,z2 _ hn hne⟩
end
theorem QL {M:Model}{A:Around}{E:Value->Shared->Prop}{env:Env}{s:Shared}{y:Sem Value}{Q:Flow->Shared->Prop}{C:Addr}(hh:A.handled=none)
  (h:wpAny M A y (fun v s1=>∃ e oe bm N nm qn bs hdct sn sub ab col dd k0 k1 k2 k3 k5,v=.ref e/\s1.heap.get? C=some (excClassObj nm qn C N bs bm hdct sn sub ab col dd k0 k1 k2 k3 k5 "ValueError.__new__")/\bm.contains (.type "BaseException")=true/\s1.heap.get? e=some oe/\oe.cls=.ref C/\(∃ vs,oe.data=.fields vs/\vs[1]? = some .none)/\E (.ref e) s1) E s) :
  wpAny M A (raiseStmt env (some y) none) Q E s:=by
 unfold raiseStmt;refine K' (wpAny_mono h (fun v s1 z=>?_) fun _ _ z=>z);obtain⟨e,oe,bm,N,nm,qn,bs,hdct,sn,sub,ab,col,dd,k0,k1,k2,k3,k5,rfl,hC,hb,he,hc,⟨vs,hd,h1⟩,z⟩:=z;obtain⟨oc,od,dt,sl⟩:=oe;dsimp only at hc hd;subst hc hd;have inB:(Value.ref C::bm).contains (.type "BaseException")=true:=by rw[List.contains_cons,hb,Bool.or_true]
 obtain⟨hp,g,d,tk,os⟩:=s1;have fl:wpAny M A (setFlight (.ref e) none) (fun _ s'=>wpAny M A (raiseNew (.ref e)) Q E s') E ⟨hp,g,d,tk,os⟩:=by
  unfold setFlight;refine K' (wpAny_field (s:=⟨hp,g,d,tk,os⟩) he rfl h1 ?_);rw[Za' (by decide)];exact Z' (wpAny_raiseNew_none hh z)
 repeat (first|with_reducible exact fl|with_reducible refine wpAny_loadPart_at he ?_|with_reducible refine wpAny_loadPart_at hC ?_|(with_reducible refine wpAny_isSubtype_exc hC ?_;rw[inB])|wp_step)
structure QM (G h:Heap)(a:Addr)(cls:Value)(D:Addr):Prop where
 keeps:∀ b o,G.get? b=some o->h.get? b=some o
 new:G.get? a=none
 there:∃ o vs a0,h.get? a=some o/\o.cls=cls/\o.data=.fields vs/\vs[0]? = some a0/\vs[1]? = some .none/\o.dict=some D
abbrev Py:=St->Value->Addr->Hp->Prop
def WR (X:Cx)(XS:Py):Value->Shared->Prop:=fun ev s'=>∃ pins σ H' G a cls D,ev=.ref a/\Inv X pins σ H' { s' with heap:=G }/\QM G s'.heap a cls D/\XS σ cls D H'
noncomputable def without (H:Hp)(a:Addr):Hp:=fun b=>if b=a then none else H b
theorem cC {H:Hp}{a b:Addr}(h:b≠a):without H a b=H b:=Za' h
theorem C7 {H:Hp}{a:Addr}:without H a a=none:=Zc' rfl
theorem Inv.strike {X:Cx}{pins:List (Addr×Obj)}{σ:St}{H:Hp}{s:Shared}{a:Addr}{φ:Heap->Prop}(I:Inv X pins σ H s)(ea:H a=some (.ext φ))(hs:X.s₀.heap.get? a=none):Inv X pins σ (without H a) { s with heap:=hideAll s.heap [a] }:=by
 have get:∀{b o},s.heap.get? b=some o->b≠a->(hideAll s.heap [a]).get? b=some o:=fun e hn=>hideAll_get _ e (by simpa using hn);have ne0:∀{b o},X.s₀.heap.get? b=some o->b≠a:=fun e z=>by rw[z,hs]at e;cases e
 have neN:∀{b},H b=none->b≠a:=fun e z=>by rw[z,ea]at e;cases e
 have ns:∀{b m},H b=none->s.heap.Ns b m->(hideAll s.heap [a]).Ns b m:=fun {b m} hb ⟨o,es,ep,e,r⟩=>⟨o,es,ep,get e (neN hb),r⟩;have cellK:∀{c v},H c=none->s.heap.IsCell c v->(hideAll s.heap [a]).IsCell c v:=fun {c v} hc ⟨o,e,r⟩=>⟨o,get e (neN hc),r⟩;refine⟨I.ok,I.os,I.bare,⟨fun b o e n hb hx=>get (I.base.keep b o e n hb hx) (ne0 e),fun b o e n hb hx=>?_,fun b o e n hx=>?_,fun b o e hx=>?_,fun b xs q=>?_,fun b ob u q=>?_,fun b ps q=>?_⟩,?_,fun x c e=>?_,?_,fun x c e=>?_,fun p hp=>?_,fun b u e=>?_,I.len⟩
 ·obtain⟨sl,z⟩:=I.base.slot b o e n hb hx;exact⟨sl,get z (ne0 e)⟩
 ·rw[cC (ne0 e)];exact I.base.free b o e n hx
 ·obtain⟨o',z⟩:=I.base.there b o e hx;exact⟨o',get z (ne0 e)⟩
 ·have:=I.base.tups b xs q;rw[cC (fun z=>by rw[z,ea]at this;cases this)];exact this
 ·have:=I.base.si b ob u q;rw[cC (fun z=>by rw[z,ea]at this;cases this)];exact this
 ·obtain⟨m,this⟩:=I.base.uV b ps q;exact⟨m,by rw[cC (fun z=>by rw[z,ea]at this;cases this)];exact this⟩
 ·obtain⟨m,hn,hm⟩:=I.loc;refine⟨m,ns I.free hn,fun i y v e1 e2 e3=>?_⟩;obtain⟨u,r,lk⟩:=hm i y v e1 e2 e3;refine⟨u,r,?_⟩;rcases lk with z|⟨k,c,z1,z2⟩
  ·exact .inl z
  ·exact .inr ⟨k,c,z1,cellK (I.gB _ _ z1) z2⟩
 ·obtain⟨v,z⟩:=I.cell x c e;exact⟨v,cellK (I.gB x c e) z⟩
 ·rw[cC (neN I.free)];exact I.free
 ·rw[cC (neN (I.gB x c e))];exact I.gB x c e
 ·obtain⟨q1,q2,q3⟩:=I.pin p hp;exact⟨get q1 (neN q2),by rw[cC (neN q2)];exact q2,q3⟩
 ·by_cases hb:b=a
  ·subst hb;rw[C7]at e;cases e
  ·rw[cC hb]at e;refine(I.hok b u e).stay (fun c v hc q=>get q ?_) (fun c q=>?_) fun c xs q=>?_
   ·rcases hc with rfl|hc
    ·exact hb
    ·exact fun z=>by rw[z,ea]at hc;cases hc
   ·rw[cC (fun z=>by rw[z,ea]at q;cases q)];exact q
   ·rw[cC (fun z=>by rw[z,ea]at q;cases q)];exact q
def Ot (C:Addr)(sp:Sp)(XS:Py)(t:TA):TS:=fun _ σ H=>t σ H fun vs H1=>vs.length<=sizeLine/\∀ a,H1 a=none->sp (.ref a::vs) (upd H1 a (IG a C none)) (fun v H2=>v=.non/\∃ D,H2 a=some (IG a C (some D))/\XS σ (.ref C) D (without H2 a)) E0
theorem Bu {X:Cx}{XS:Py}{C f:Addr}{x:Str}{np cpos pos:Pos}{e:Expr}{es:List Expr}{t:TA}{k:Nat}{fd:FuncData}{ps:List Str}{sp:Sp}(hx:∀ ev s',WR X XS ev s'->X.xe ev s')(hc:X.calm=true)(hex:X.ex=[])(q:Mv X.K C f)(F:aR X.prog X.w X.K X.mg X.base d3 k f fd ps sp)(hr:dm (k+1) X.A)(hb:Binds X.K fd ps [])(hg:Gl X x)(hm:X.mg x=some (.ref C))(ha:PA X (e::es) t)
  (hdb:(x==("__debug__":Str))=false:=by decide) (he:starEach (e::es) X.env=(false,eval e X.env)::starEach es X.env:=by rfl) (hpl:(backTo cpos (starEach es X.env)).any (·.1)=false:=by rfl) :
  PS X (.Raise (some (.Call (.Name x np) (e::es) [] cpos)) none pos) (Ot C sp XS t):=by
 intro pins s σ H D I h;rw[arm_exec_Raise];refine K' (wpAny_standAt (QL (C:=C) (I.ok.hd hc) (K' (wpAny_Call_Name_kw (fq I hg hm ?_ hdb)))));refine callWith_K (h₀:=X.base) I.ok.mod.Ia q.kp (bS (ha cpos pins s σ H _ I h) fun us s1 ⟨vs,H1,I1,r,hz,hq⟩=>⟨I1.hX,?_⟩) he hpl;obtain⟨bm,N,nm,qn,bs,sn,sub,ab,col,dd,k0,k1,k2,k3,k5,mN,hC,hN,hi,T⟩:=q.ini.at I1.hX;obtain⟨oI,Y2,hoc⟩:=Option.map_eq_some_iff.mp q.ini.fn;have ho:=I1.hX _ _ Y2;rw[show([]:List Value)++us=us from rfl];obtain⟨hp,g,d,tk,os⟩:=s1;refine Tj T hC hN hi ho hoc (by rw[<-r.length];exact hz) fun h' ex made=>?_;obtain⟨tt,Wg,_,_⟩:=made.there;have hnone:H1 ex=none:=Inv.va (G:=hp) (s:=⟨hp,g,d,tk,os⟩) I1 made.new;have hS:X.s₀.heap.get? ex=none:=by
  cases z:X.s₀.heap.get? ex with
  |none=>rfl
  |some ob =>
   obtain⟨o',z'⟩:=I1.base.there ex ob z (by rw[hex];simp);rw[made.new]at z';cases z'
 have I2:Inv X pins σ (upd H1 ex (IG ex C none)) ⟨h',g,d,tk,os⟩:=Inv.track (G:=hp) (s:=⟨h',g,d,tk,os⟩) I1 made.new (I1.kept (t':=tk) made.keeps) (G2 Wg rfl rfl rfl rfl rfl);have hq2:=hq ex hnone;have r2:Vals (V.ref ex::vs) (Value.ref ex::us):=.cons rfl r;have hl:(Value.ref ex::us++[]).length=ps.length:=by
  have e1:=r2.length;rw[F.len _ _ _ _ hq2]at e1;rw[append_nil];exact e1.symm
 have hbd:=hb ⟨h',g,d,tk,os⟩ (Value.ref ex::us) I2.hX hl;rw[append_nil]at hbd;refine wpAny_call (codeAny_mono (F.run _ X.stack ⟨h',g,d,tk,os⟩ _ ⟨Value.ref ex::us,[]⟩ (Value.ref ex::us) (V.ref ex::vs) _ E0 (hr.make C us []) (I2.env0.make C us []) hbd r2 hq2) fun rr s' hq'=>?_);cases rr with
 |error z=>exact False.elim hq'
 |ok fl =>
  cases fl with
  |next=>exact False.elim hq'
  |brk=>exact False.elim hq'
  |cont=>exact False.elim hq'
  |ret u =>
   obtain⟨v,H',I3,rv,ev,DD,e3,z3⟩:=I2.after hq';subst ev;obtain rfl:u=Value.none:=rv;obtain⟨⟨o3,V3,a3,XE,hc3,NR,Y3,h13,Y4⟩,_⟩:=I3.hok ex _ e3;obtain⟨bm',N',nm',Y5,bs',Y6,Wh,Y7,Wi,Lf,Y8,k1',k2',Y9,Za,mN',hC',_,_,T'⟩:=q.ini.at I3.hX;refine⟨rfl,K' (wpAny_standAt (Z' ⟨ex,o3,bm',N',nm',Y5,bs',true,Y6,Wh,Y7,Wi,Lf,Y8,k1',k2',Y9,Za,rfl,hC',T'.hasType fV.hasBase,XE,hc3,⟨V3,NR,h13⟩,hx _ _ ?_⟩))⟩;refine⟨pins,σ,without H' ex,hideAll s'.heap [ex],ex,.ref C,DD,rfl,I3.strike e3 hS,⟨fun b o z=>of_hideAll _ z,hideAll_none [ex] (by simp),o3,V3,a3,XE,hc3,NR,Y3,h13,Y4⟩,z3⟩
end L2
namespace L2
open PySem PySem.Spec PyProof.Rows
noncomputable def DZ (P:Program)(w:World):Gw:=fun outer H s E ev s' =>
 ∃ a cls D H' G,ev=.ref a/\s'.os=s.os/\AllBare s'.gens/\Un (frs outer) [] H H' s.heap G/\oj P w H' G/\Ld outer G a cls s'.heap/\jG D a s'.heap/\E cls (some D) H'
theorem Mw {P:Program}{w:World}{K:Frag}{mg:Str->Option Value}{base:Heap}{N:List Str}{qual:Str}{scope:Scope}{f:Addr}{cdv:Value}{A:Around}{outer:List Env}{s:Shared}{H:Hp}{E:XK}{ev:Value}{s':Shared}
  (h:WR (dM (DZ P w) P w K mg base N qual scope f cdv A outer s H E) (fun _ cls D H'=>E cls (some D) H') ev s'):(dM (DZ P w) P w K mg base N qual scope f cdv A outer s H E).xe ev s':=by
 obtain⟨pins,σ,H',G,a,cls,D,rfl,I,⟨keeps,new,oe,vs,a0,he,hc,hd,h0,h1,hx⟩,q⟩:=h;subst hc;show wpAny (model P w) _ (leaving _ (.ref a)) _ _ s';have hin:∀ env∈(dM (DZ P w) P w K mg base N qual scope f cdv A outer s H E).stack,∀ b,env.frame=some b->b∈frs (dM (DZ P w) P w K mg base N qual scope f cdv A outer s H E).stack:=fun env he b hb=>List.mem_filterMap.mpr ⟨env,he,hb⟩;have stay:(hideAll G (frs (dM (DZ P w) P w K mg base N qual scope f cdv A outer s H E).stack)).StaysIn G:=fun b o z=>of_hideAll _ z;have hl:=PySem.W.funFrames_hide I.stack hin;have fresh:(hideAll G (frs (dM (DZ P w) P w K mg base N qual scope f cdv A outer s H E).stack)).get? a=none:=by
  cases z:(hideAll G (frs (dM (DZ P w) P w K mg base N qual scope f cdv A outer s H E).stack)).get? a with
  |none=>rfl
  |some o=>have:=stay a o z;rw[new]at this;cases this
 have key:=(sI (dM (DZ P w) P w K mg base N qual scope f cdv A outer s H E).env (.ref a)).any (D:=D) (e:=a) (wpAny_leaving_firstW (M:=model P w) (E:=fun _ _=>False) (a0:=a0) (Q:=fun _ s2=>∃ h',s2 = { s' with heap:=h' }/\Heap.LeftW (hideAll G (frs (dM (DZ P w) P w K mg base N qual scope f cdv A outer s H E).stack)) (dM (DZ P w) P w K mg base N qual scope f cdv A outer s H E).stack a oe.cls a0 s'.heap h')
  I.ok.frames (hl.of_keeps fun b o hb _=>⟨o,keeps b o hb,rfl⟩) rfl he (fun b o hb=>keeps b o (stay b o hb)) fresh hd h1 h0 (fun h' hL=>⟨h',rfl,hL⟩)) ⟨oe,he,hx⟩
 refine wpAny_mono key (fun _ s2 z=>?_) fun _ _ z=>z.1.elim;obtain⟨⟨h',rfl,k1,⟨_,_,k2⟩,k3,k4⟩,dk⟩:=z;obtain⟨un,hok⟩:=strike I.base I.hok I.ok.above I.free;exact⟨a,oe.cls,D,H',_,rfl,I.os,I.bare,un,hok,Ld.strike rfl (fun b o z hb=>hideAll_get _ z hb) ⟨k1,fresh,k2,k3⟩ ((Heap.UpToSlots.of_keeps keeps).trans k4) new,dk,q⟩
section
variable {P:Program} {w:World} {K:Frag} {mg:Str->Option Value} {base:Heap}
theorem Gx.ok2 {x qual:Str}{st:Stmt}{f:Addr}{fd:FuncData}{N ps:List Str}{k:Nat}{sp:Sp}(F:Gx K x qual st f fd)(S:az N ps (aj st))(len:∀ vs H Q E,sp vs H Q E->vs.length=ps.length)
  (hbody:∀(cdv:Value)(A:Around)(outer:List Env)(s:Shared)(H:Hp)(vs:List V)(Q:VK)(E:XK),dm k (A.deeper (envOfC qual (aj st) s.heap.objs.size f cdv))->sp vs H Q E ->
   ∃ t,se (dM (DZ P w) P w K mg base N qual (aj st) f cdv A outer s H E) (a8 st) t/\t { nx:=fun _ H'=>Q .non H',rt:=Q } (start N vs) H):aR P w K mg base (DZ P w) (k+1) f fd ps sp:=by
 obtain⟨oc,od,kV,doc,pm,an,cdv,ct,osl,rfl,lk,hcd⟩:=F.ex;exact Bh lk hcd S len fun A outer s H vs Q E hr hsp=>hbody cdv A outer s H vs Q E hr hsp
end
def Wj (X:Cx)(XS:Py):Value->Shared->Prop:=fun ev s' =>
 ∃ pins σ H' G a cls D,ev=.ref a/\Inv X pins σ H' { s' with heap:=G }/\Ld X.stack G a cls s'.heap/\jG D a s'.heap/\XS σ cls D H'
def Tp (XS:Value->Addr->Hp->Prop):XK:=fun cls od H'=>∃ D,od=some D/\XS cls D H'
def QN (sp:Sp)(XS:Py)(t:TA):TE:=fun σ H Q=>t σ H fun vs H1=>sp vs H1 Q (Tp (XS σ))
section
variable {X:Cx} {XS:Py} {W:Value->Shared->Prop} {pins:List (Addr×Obj)} {σ:St} {H H':Hp} {s s':Shared} {k:Nat} {f C:Addr} {fd:FuncData} {ps:List Str} {sp:Sp} {x:Str} {p pos:Pos} {e:Expr} {es:List Expr} {t:TA}
theorem QO {ev:Value}(I:Inv X pins σ H s)(h:DZ X.prog X.w X.stack H s (Tp (XS σ)) ev s'):Wj X XS ev s':=by
 obtain⟨a,cls,D,H',G,e,os,bare,un,hok,Me,dk,D',eD,q⟩:=h;cases eD;exact⟨pins,σ,H',G,a,cls,D,e,I.call' (s':={ s' with heap:=G }) (ch:=[]) os un hok bare fun b z=>j' z (by simp),Me,dk,q⟩
theorem Mx (F:aR X.prog X.w X.K X.mg X.base (DZ X.prog X.w) k f fd ps sp)(hr:dm k X.A)(hg:Gl (X.wish W) x)(hm:X.mg x=some (.ref f))(hk:keepIn X.K (.ref f)=true)(hb:Binds X.K fd ps [])(hx:∀ ev s',Wj X XS ev s'->W ev s')
  (ha:PA (X.wish W) (e::es) t) (hdb:(x==("__debug__":Str))=false:=by decide) (he:starEach (e::es) X.env=(false,eval e X.env)::starEach es X.env:=by rfl) (hpl:(backTo pos (starEach es X.env)).any (·.1)=false:=by rfl) :
  PE (X.wish W) (.Call (.Name x p) (e::es) [] pos) (QN sp XS t):=by
 intro pins s σ H Q I h;refine wpAny_Call_Name_kw (fq I hg hm ?_ hdb);refine callWith_K (h₀:=X.base) I.ok.mod.Ia hk (bS (ha pos pins s σ H _ I h) fun us s1 ⟨vs,H1,I1,r,q⟩=>⟨I1.hX,?_⟩) he hpl;have I0:=I1.fO;have hl:(us++[]).length=ps.length:=by rw[append_nil,<-r.length];exact F.len _ _ _ _ q
 have hbd:=hb s1 us I0.hX hl;rw[append_nil]at hbd;refine wpAny_call (codeAny_mono (F.run X.A X.stack s1 H1 ⟨us,[]⟩ us vs Q _ hr I0.env0 hbd r q) fun rr s2 hq=>?_);cases rr with
 |error z=>exact hx _ _ (QO (XS:=XS) I0 hq)
 |ok fl =>
  cases fl with
  |ret u=>exact I1.after hq
  |next=>exact False.elim hq
  |brk=>exact False.elim hq
  |cont=>exact False.elim hq
end
structure Wk (K:Frag)(C:Addr):Prop where
 ga:findIn K (.ref C) "__getattribute__"=some (some (.builtin "BaseException.__getattribute__"))
 Mg:findIn K (.ref C) "__getattr__"=some none
 cl:findIn K (.ref C) "__class__"=some (some (.builtin "object.__class__"))
theorem Mv.g {K:Frag}{C f:Addr}(q:Mv K C f):Wk K C:=⟨q.ga,q.Mg,q.cl⟩
section
variable {prog:Program} {w:World} {A:Around} {E:Value->Shared->Prop} {h:Heap} {g:Array GenState} {d:Drawn} {t:Nat} {os:OsState} {a:Addr} {o:Obj} {vs:Array Value} {K:Frag}
 {nm q:Str} {C N f:Addr} {bs bm:List Value} {hdct:Bool} {sn:List Str} {sub:List Value} {ab:Bool} {col:Option Bool} {dd:Option Addr} {k0 k1 k2 k3 k5:Option Value} {newId:String}
theorem C8 {tk:Tok}{Q:Fin->Shared->Prop}(X:K.In h)(F0:Wk K C)(hC:h.get? C=some (excClassObj nm q C N bs bm hdct sn sub ab col dd k0 k1 k2 k3 k5 newId))(T:OwnTail h cz bm)(hx:h.get? a=some o)(hc:o.cls=.ref C)(hq:Q (.done (.ret (.ref C))) ⟨h,g,d,t,os⟩) :
  wpAny (model prog w) A (Builtin.«object.__getattribute__» ⟨[.ref a,.str "__class__" tk],[]⟩) Q E ⟨h,g,d,t,os⟩:=by
 have hG:(⟨h,g,d,t,os⟩:Shared).TypeIs (.builtin "object.__class__") "getset_descriptor":=F.typeOf_object_class;have g1:=F.typeOf_object_class;have g2:=F.slot_gs_get.lookup;have g3:=F.slot_gs_set.lookup;have lk:Looks (model prog w) h (typeLookup (.ref C) "__class__") (some (.builtin "object.__class__")):=looks_findIn X F0.cl
 repeat (any_goals (first|assumption|(with_reducible refine wpAny_loadPart_at hx ?_;rw[hc])|with_reducible refine lk.at ?_|wp_step))
 refine GZ hC T hx hc ?_
 repeat (any_goals (first|assumption|wp_step))
theorem Kc {tk:Tok}{Q:Value->Shared->Prop}(X:K.In h)(F0:Wk K C)(hC:h.get? C=some (excClassObj nm q C N bs bm hdct sn sub ab col dd k0 k1 k2 k3 k5 newId))(T:OwnTail h cz bm)(hx:h.get? a=some o)(hc:o.cls=.ref C)(hq:Q (.ref C) ⟨h,g,d,t,os⟩) :
  wpAny (model prog w) A (getAttrBy (.ref a) (.str "__class__" tk) false) Q E ⟨h,g,d,t,os⟩:=by
 have f3:=PySem.F.attrBase_ValueError.ga.bind (.ref a);have n2:(Value.builtin "BaseException.__getattribute__" == Value.builtin "object.__getattribute__")=false:=by lk
 have n1:(onTheHeap (Value.ref C)&&Value.builtin "BaseException.__getattribute__" == Value.builtin "object.__getattribute__")=false:=by rw[n2];rfl
 have l1:Looks (model prog w) h (typeLookup (.ref C) "__getattribute__") (some (.builtin "BaseException.__getattribute__")):=looks_findIn X F0.ga;have l2:Looks (model prog w) h (typeLookup (.ref C) "__getattr__") none:=looks_findIn X F0.Mg
 repeat (any_goals (first|assumption|(with_reducible refine wpAny_loadPart_at hx ?_;rw[hc])|with_reducible refine l1.at ?_|with_reducible refine l2.at ?_|wp_step))
 refine codeAny_call_builtin PySem.F.attrBase_ValueError.ga.plain F.entry_bexc_ga (vV hC T hx hc (C8 X F0 hC T hx hc ?_))
 repeat (any_goals (first|assumption|wp_step))
theorem Ou {Q:Option Value->Shared->Prop}(X:K.In h)(F0:Mv K C f)(hx:h.get? a=some o)(hc:o.cls=.ref C)(hq:Q (some (.ref C)) ⟨h,g,d,t+1,os⟩):wpAny (model prog w) A (getAttr? (.ref a) "__class__") Q E ⟨h,g,d,t,os⟩:=by
 obtain⟨bm,N,nm,qn,bs,sn,sub,ab,col,dd,k0,k1,k2,k3,k5,mN,hC,hN,hi,T⟩:=F0.ini.at X;unfold getAttr? getAttrBy?
 repeat (any_goals (first|assumption|with_reducible apply Kc X F0.g hC T hx hc|wp_step))
end
theorem yP {K:Frag}{a C f:Addr}(F0:Mv K C f):KitX K (.ref a) (.ref C) (fun h=>∃ o,h.get? a=some o/\o.cls=.ref C) where
 ty:=fun M h _ ⟨o,e,c⟩=>c ▸ (PySem.W.Looks.ld e).andThen .now
 it:=fun M h X _=>by
  obtain⟨bm,N,nm,qn,bs,sn,sub,ab,col,dd,k0,k1,k2,k3,k5,mN,hC,_⟩:=F0.ini.at X;intro A' Q' E' s' k q;unfold isType loadHead;exact K' (wpAny_loadPart (k _ _ hC) (Z' q))
 ne:=fun h tp dd its n sl X htp=>by
  obtain⟨bm,N,nm,qn,bs,sn,sub,ab,col,dd,k0,k1,k2,k3,k5,mN,hC,_⟩:=F0.ini.at X;refine Y'.mpr fun q=>?_;have e:C=tp:=Value.ref.inj (beq_iff_eq.mp q);subst e;rw[hC]at htp;have z:=Zn' Obj.cls (W' htp);exact j' (Value.type.inj z) (by decide)
 ca:=fun {prog w A E Q s} X ⟨o,e,c⟩ k=>by
  obtain⟨h,g,d,t,os⟩:=s;exact Ou X F0 e c k
noncomputable def AL (a:Addr)(cls:Value)(D:Addr):HO:=.ext fun h=>∃ o,h.get? a=some o/\o.cls=cls/\(∃ vs,o.data=.fields vs)/\o.dict=some D
theorem Ov {P:Program}{w:World}{H:Hp}{h:Heap}{a D:Addr}{cls:Value}{o:Obj}{vs:Array Value}(e:h.get? a=some o)(hc:o.cls=cls)(hd:o.data=.fields vs)(hx:o.dict=some D):cP P w H h a (AL a cls D) :=
 ⟨⟨o,e,hc,⟨vs,hd⟩,hx⟩,⟨o,e⟩,fun h1 h2 ⟨o1,e1,r⟩ k=>⟨o1,k o1 e1,r⟩⟩
section
variable {X:Cx} {f C:Addr}
def Tq (K:Frag):List V->Hp->VK->Prop:=fun xs H Q =>
 (∃ x T t b,xs=[x,.ty T]/\eY K H x t/\kitOne K t (.type T)=some b/\Q (.bl b) H) \/
 (∃ a C D f T b,xs=[.ref a,.ty T]/\H a=some (AL a (.ref C) D)/\Mv K C f/\kitOne K (.ref C) (.type T)=some b/\Q (.bl b) H) \/
 (∃ a C D f C' b,xs=[.ref a,.ref C']/\H a=some (AL a (.ref C) D)/\Mv K C f/\kitOne K (.ref C) (.ref C')=some b/\Q (.bl b) H) \/
 (∃(a C D f p:Addr)(cs:List Addr)(b:Bool),xs=[.ref a,.ref p]/\H a=some (AL a (.ref C) D)/\Mv K C f/\H p=some (.tup (cs.map V.ref))/\kitAny K (.ref C) (cs.map Value.ref)=some b/\Q (.bl b) H)
theorem Ke:fN X (.builtin "isinstance") (Tq X.K):=by
 intro pins s σ H xs us Q I r h;rcases h with h|h|h|h
 ·exact cK pins s σ H xs us Q I r h
 ·obtain⟨a,C,D,f,T,b,rfl,hH,F0,e,q⟩:=h;obtain⟨u1,u2,rfl,r1,r2⟩:=r.two;cases (show _=Value.ref a from r1);cases (show _=Value.type T from r2);obtain⟨⟨o,e1,e2,_⟩,_⟩:=I.hok a _ hH;exact kia_one (yP F0) I.hX ⟨o,e1,e2⟩ e (fun z=>nomatch z) fun tk=>⟨.bl b,H,I.tok _,rfl,q⟩
 ·obtain⟨a,C,D,f,C',b,rfl,hH,F0,e,q⟩:=h;obtain⟨u1,u2,rfl,r1,r2⟩:=r.two;cases (show _=Value.ref a from r1);cases (show _=Value.ref C' from r2);obtain⟨⟨o,e1,e2,_⟩,_⟩:=I.hok a _ hH;exact kia_one (yP F0) I.hX ⟨o,e1,e2⟩ e (fun z=>nomatch z) fun tk=>⟨.bl b,H,I.tok _,rfl,q⟩
 ·obtain⟨a,C,D,f,p,cs,b,rfl,hH,F0,hp,e,q⟩:=h;obtain⟨u1,u2,rfl,r1,r2⟩:=r.two;cases (show _=Value.ref a from r1);cases (show _=Value.ref p from r2);obtain⟨⟨o,e1,e2,_⟩,_⟩:=I.hok a _ hH;obtain⟨_,its,rv,ob,h1,h2,n,h3⟩:=I.hok p _ hp;have:=ID rv;subst this;obtain⟨oc,od,odt,osl⟩:=ob;dsimp only at h2 h3;subst h2 h3;exact PySem.W.kia_tup (yP F0) I.hX ⟨o,e1,e2⟩ h1 e (fun z=>nomatch z) fun tk=>⟨.bl b,H,I.tok _,rfl,q⟩
theorem Ew {K:Frag}(h:X.K=K):fN X (.builtin "isinstance") (Tq K):=h ▸ Ke
def Tr (K:Frag)(ta:TE)(fl:Str):TE:=fun σ H Q=>ta σ H fun x H1=>∃ a C D f fs n,x=.ref a/\H1 a=some (AL a (.ref C) D)/\Mv K C f/\findIn K (.ref C) fl=some none/\H1 D=some (.xd fs)/\fs.lookup fl=some (.int n)/\Q (.int n) H1
theorem II {K:Frag}{e:Expr}{fl:Str}{ta:TE}{pos:Pos}(hK:X.K=K)(he:PE X e ta)(hb:attributeBase e fl X.env (eval e X.env)=eval e X.env):PE X (.Attribute e fl pos) (Tr K ta fl):=by
 subst hK;intro pins s σ H Q I h;refine Ij hb (bS (he pins s σ H _ I h) fun u s1 fu=>?_);obtain⟨x,H1,I1,rx,a,C,D,f,fs,n,ex,ea,F0,hat,eD,l,q⟩:=fu;subst ex;obtain rfl:u=Value.ref a:=rx;obtain⟨⟨o,e1,e2,⟨vs,e3⟩,e4⟩,_⟩:=I1.hok a _ ea;obtain⟨bm,N,nm,qn,bs,sn,sub,ab,col,dd,k0,k1,k2,k3,k5,mN,hC,hN,hi,T⟩:=F0.ini.at I1.hX;obtain⟨mA,hns,rel⟩:=(show cP X.prog X.w H1 s1.heap D (.xd fs) from I1.hok D _ eD);have hr:=rel fl;rw[l]at hr;cases hv:mA fl with
 |none=>rw[hv]at hr;exact hr.elim
 |some v =>
  rw[hv]at hr;obtain⟨tk,rfl⟩:=hr;obtain⟨hp,g,d,t,os⟩:=s1;exact Wf I1.hX F0.ga F0.Mg hat hC T e1 e2 e3 e4 hns.ns hv rfl ⟨.int n,H1,I1.tok _,⟨tk,rfl⟩,q⟩
end
def Ow (K:Frag)(CT:Addr)(i:Nat)(tb:Py->TS)(ts:TS):TS:=fun D σ H =>
 tb (fun σ' cls Dx H'=>exmOne K cls (.ref CT)=some true/\∀ a,H' a=none->ts (D.gone i) (σ'.set i (some (.ref a))) (upd H' a (AL a cls Dx))) D σ H
theorem Kf {X:Cx}{CT:Addr}{i:Nat}{x n:Str}{body:List Stmt}{b₀:Stmt}{suite:List Stmt}{np hpos pos:Pos}{tb:Py->TS}{ts:TS}
  (hb:∀ pn XS,se ((X.uT pn).wish (Wj (X.uT pn) XS)) body (tb XS)) (hs:∀ pn a,se ((X.uT pn).hand a) (b₀::suite) ts) (hN:X.N.Nodup) (hi:X.N[i]? = some n) (hl:X.env.scope.names.lookup n=some .local) (hst:X.stack=X.env::X.outer) (hfr:X.env.frame=some X.env.locals)
  (hg:Gl X x) (hm:X.mg x=some (.ref CT)) (hd:(x==("__debug__":Str))=false:=by decide) :
  PS X (.Try body [.ExceptHandler (some (.Name x np)) (some n) (b₀::suite) hpos] [] [] pos) (Ow X.K CT i tb ts):=by
 intro pins s σ H D I h;refine wpAny_Try_except (wpAny_mono (hb (X.pn++pins) _ [] s σ H D (I.uT.wish _) h) (fun f s1 q=>?_) fun ev s1 z=>?_)
 ·have q':SP X pins D f s1:=q.fO.kr I.ok;cases f with
  |next=>exact wpAny_execs_nil q'
  |brk=>exact q'
  |cont=>exact q'
  |ret u=>exact q'
 ·obtain⟨A9,σ',H',G,a,cls,Dx,rfl,I',⟨B,a0,cov,fl,up,hn⟩,dk,hx,q⟩:=z;have I1:Inv X pins σ' H' { s1 with heap:=G }:=I'.kr I.ok;have hH:=I1.va hn;have q:=q a hH;have hF:X.A.frames=some (X.env::X.outer):=by rw[<-hst];exact I.ok.frames
  have fl:Heap.FlyingW B (X.env::X.outer) a cls a0 s1.heap:=by rw[<-hst];exact fl
  refine wpAny_mono ((oJ _ _).any (D:=Dx) (e:=a) (wpAny_looks_onW (E:=fun _ _=>False) (Q:=fun _ s2=>∃ h',s2 = { s1 with heap:=h' }/\Heap.HeldW B (X.env::X.outer) a cls a0 X.env.locals h'/\s1.heap.UpToSlots h') hF hfr fl fun h' z1 z2=>⟨h',rfl,z1,z2⟩) dk) (fun _ s2 z=>?_) fun _ _ z=>z.1.elim;obtain⟨⟨h4,rfl,Mu,Wb⟩,Zb⟩:=z;refine wpAny_mono ((jH _ _).any (D:=Dx) (e:=a) (wpAny_landsW (E:=fun _ _=>False) (Q:=fun _ s2=>∃ h',s2 = { s1 with heap:=h' }/\Heap.FlyingW B (X.env::X.outer) a cls a0 h'/\h4.UpToSlots h') Mu fun h' z1 z2=>⟨h',rfl,z1,z2⟩) Zb) (fun _ s3 z=>?_) fun _ _ z=>z.1.elim;obtain⟨⟨h5,rfl,NQ,Wc⟩,Zc⟩:=z;have U5:=(up.trans Wb).trans Wc;have I5:Inv X pins σ' H' { s1 with heap:=h5 }:=I1.flown cov NQ.1 U5;have V9:=I5.hand a;refine wpAny_handleBy_cons (codeAny_handlers_test (fq V9 hg hm ?_ hd)) (by intro q;cases q);obtain⟨ob,hob,hobc⟩:=NQ.there;refine(exm_one (M:=model X.prog X.w) I5.hX (hobc ▸ (PySem.W.Looks.ld hob).andThen .now) hx).here ?_;refine codeAny_handlers_suite_as ?_;refine wpAny_mono ((jH _ _).any (D:=Dx) (e:=a) (lands_againW (E:=fun _ _=>False) (Q:=fun _ s2=>∃ h' t,s2 = { s1 with heap:=h',toks:=t }/\Heap.FlyingW B (X.env::X.outer) a cls a0 h'/\h5.UpToSlots h') NQ fun h' z1 z2=>⟨h',_,rfl,z1,z2⟩) Zc) (fun _ s3 z=>?_) fun _ _ z=>z.1.elim;obtain⟨⟨h6,t6,rfl,UI,Wa⟩,Zd⟩:=z;have U6:=U5.trans Wa;have I6:Inv X pins σ' H' { s1 with heap:=h6,toks:=t6 }:=(I1.flown cov UI.1 U6).tok _;obtain⟨oe,vs,hoe,hoec,hoed,_⟩:=UI.first;obtain⟨oe',Wl,hod⟩:=Zd;obtain rfl:oe'=oe:=W' (Wl.symm.trans hoe);have I7:=Inv.track (s:={ s1 with heap:=h6,toks:=t6 }) (I1.tok t6) hn I6 (Ov hoe hoec hoed hod);refine sj I7 hN hi (.inl hl) (show RelV (.ref a) (.ref a) from rfl) (fun s8 I8=>?_) (.inr hl);refine wpAny_mono ((hs (X.pn++pins) a) [] s8 _ _ _ (I8.uT.hand a) q) (fun f s9 z=>?_) fun _ _ z=>z.elim;have gone:∀{σ9:St} {H9:Hp} {R:Prop},Inv ((X.uT (X.pn++pins)).hand a) [] σ9 H9 s9->(∀ s',Inv X pins (σ9.set i none) H9 s'->SP X pins D f s')->wpAny (model X.prog X.w) X.A (do bindName X.env n .none;unbindBehindTheSuite X.env n hpos) (fun _ s'=>SP X pins D f s') X.xe s9:=fun {σ9 H9 _} J k =>
   J3 (X:=X) ((J.yJ (I.ok.uT _)).kr I.ok) hN hi hl fun s' J'=>k s' J'
  cases f with
  |next=>obtain⟨σ9,H9,J,w⟩:=z;exact gone (R:=True) J fun s' J'=>⟨_,H9,J',w⟩
  |brk=>obtain⟨σ9,H9,J,w⟩:=z;exact gone (R:=True) J fun s' J'=>⟨_,H9,J',w⟩
  |cont=>obtain⟨σ9,H9,J,w⟩:=z;exact gone (R:=True) J fun s' J'=>⟨_,H9,J',w⟩
  |ret u=>obtain⟨v,σ9,H9,J,r,w⟩:=z;exact gone (R:=True) J fun s' J'=>⟨v,_,H9,J',r,w⟩
theorem Ts {X:Cx}:Passes (DZ X.prog X.w) X E0:=fun _ _ _ _ _ _ _ ⟨_,_,_,_,_,_,_,_,_,_,_,_,z⟩=>z.elim
end L2
namespace L2
open PySem PySem.Spec PyProof.Rows
structure IJ (P:Program)(w:World)(K:Frag)(mg:Str->Option Value)(base:Heap)(k:Nat)(f:Addr)(fd:FuncData)(ps:List Str)(sp:Sp):Prop where
 len:∀ vs H Q E,sp vs H Q E->vs.length=ps.length
 run:∀(A:Around)(ea:Addr)(outer:List Env)(s:Shared)(H:Hp)(args:Args)(us:List Value)(vs:List V)(Q:VK),dm k A->CS P w K mg base A outer s H->BindsTo s fd args (ps.zip us)->Vals vs us->sp vs H Q E0 ->
  codeAny (model P w) (A.mark (some (.ref ea))) (.call (.ref f) args) (CR d3 outer P w H s Q E0) s
theorem QP {P:Program}{w:World}{K:Frag}{mg:Str->Option Value}{base:Heap}{k:Nat}{f:Addr}{name qual:Str}{params:Arguments}{body:List Stmt}{scope:Scope}{dV kV doc pm cdv ct oc:Value}{an od:Option Addr}
  {osl:Array (Option Value)} {N ps:List Str} {sp:Sp} (lk:K.lookup f=some ⟨oc,od,.func (fnOf name qual params body scope dV kV doc pm an cdv ct),osl⟩) (hcd:codeIn K cdv qual=true) (S:az N ps scope)
  (len:∀ vs H Q E,sp vs H Q E->vs.length=ps.length)
  (hbody:∀(A:Around)(ea:Addr)(outer:List Env)(s:Shared)(H:Hp)(vs:List V)(Q:VK),dm k (A.deeper (envOfC qual scope s.heap.objs.size f cdv))->sp vs H Q E0 ->
   ∃ t,se ((dM d3 P w K mg base N qual scope f cdv A outer s H E0).hand ea) body t/\t { nx:=fun _ H'=>Q .non H',rt:=Q } (start N vs) H) :
  IJ P w K mg base (k+1) f (fnOf name qual params body scope dV kV doc pm an cdv ct) ps sp:=by
 refine⟨len,fun A ea outer s H args us vs Q hr e0 hb r hsp=>?_⟩;have hl:=len _ _ _ _ hsp;have KX:K.In s.heap:=e0.mod.Ia.keeps fun b o e=>(e0.bs b o e).1;have lim:s.heap.NoLimit:=e0.mod.nolimit.keeps fun b o e=>(e0.bs b o e).1;have hkind:∀ y∈ps.zip us,scope.names.lookup y.1=some .local\/(scope.names.lookup y.1=some .cell/\((cellsFrom (s.heap.objs.size+1) scope.names []).lookup y.1).isSome=true):=fun⟨n,v⟩ hy=>by
  rcases S.par n (List.of_mem_zip hy).1 with q|q
  ·exact .inl q
  ·exact .inr ⟨q,cellsFrom_some _ _ _ (.inl q)⟩
 refine codeAny_call_function (show(A.mark (some (.ref ea))).depth<recursionLimit from hr.depth) (KX _ _ lk) rfl S.co S.gen rfl (codeRec_of KX hcd) (hb _ _ _ _ ?_);refine wpAny_newFunctionEnv_cells S.kind hkind fun env he s1 x=>?_;subst he;refine⟨lim.keeps x.toInCall.keep,codeAny_func ?_⟩;obtain⟨t,ht,hq⟩:=hbody A ea outer s H vs Q (hr.deeper _) hsp;have I:Inv (dM d3 P w K mg base N qual scope f cdv A outer s H E0) [] (start N vs) H s1:=Bg S hr.hd e0 hl r x;refine wpAny_mono (ht [] s1 (start N vs) H _ (I.hand ea) hq) (fun fl s' hs=>?_) fun e s' hs=>False.elim hs;have fin:∀{σ':St} {H':Hp} {v:V} {u:Value},Inv ((dM d3 P w K mg base N qual scope f cdv A outer s H E0).hand ea) [] σ' H' s'->RelV v u->Q v H'->CE outer P w H s Q u s' :=
  fun {σ' H' v u} J rv q=>⟨v,H',J.os,J.bare,J.base,J.hok,rv,q⟩
 cases fl with
 |ret u =>
  obtain⟨v,σ',H',J,rv,q⟩:=hs;exact fin J rv q
 |next =>
  obtain⟨σ',H',J,q⟩:=hs;exact fin (v:=V.non) (u:=Value.none) J rfl q
 |brk =>
  obtain⟨_,_,_,q⟩:=hs;exact False.elim q
 |cont =>
  obtain⟨_,_,_,q⟩:=hs;exact False.elim q
section
variable {P:Program} {w:World} {K:Frag} {mg:Str->Option Value} {base:Heap}
theorem Gx.Ze {x qual:Str}{st:Stmt}{f:Addr}{fd:FuncData}{N ps:List Str}{k:Nat}{sp:Sp}(F:Gx K x qual st f fd)(S:az N ps (aj st))(len:∀ vs H Q E,sp vs H Q E->vs.length=ps.length)
  (hbody:∀(cdv:Value)(A:Around)(ea:Addr)(outer:List Env)(s:Shared)(H:Hp)(vs:List V)(Q:VK),dm k (A.deeper (envOfC qual (aj st) s.heap.objs.size f cdv))->sp vs H Q E0 ->
   ∃ t,se ((dM d3 P w K mg base N qual (aj st) f cdv A outer s H E0).hand ea) (a8 st) t/\t { nx:=fun _ H'=>Q .non H',rt:=Q } (start N vs) H):IJ P w K mg base (k+1) f fd ps sp:=by
 obtain⟨oc,od,kV,doc,pm,an,cdv,ct,osl,rfl,lk,hcd⟩:=F.ex;exact QP lk hcd S len fun A ea outer s H vs Q hr hsp=>hbody cdv A ea outer s H vs Q hr hsp
end
section
variable {X:Cx} {k:Nat} {f ea:Addr} {fd:FuncData} {ps:List Str} {sp:Sp} {x:Str} {p pos:Pos} {e:Expr} {es:List Expr} {t:TA}
theorem My (F:IJ X.prog X.w X.K X.mg X.base k f fd ps sp)(hr:dm k X.A)(hg:Gl (X.hand ea) x)(hm:X.mg x=some (.ref f))(hk:keepIn X.K (.ref f)=true)(hb:Binds X.K fd ps [])
  (ha:PA (X.hand ea) (e::es) t) (hdb:(x==("__debug__":Str))=false:=by decide) (he:starEach (e::es) X.env=(false,eval e X.env)::starEach es X.env:=by rfl) (hpl:(backTo pos (starEach es X.env)).any (·.1)=false:=by rfl) :
  PE (X.hand ea) (.Call (.Name x p) (e::es) [] pos) (Lz sp [] E0 t):=by
 intro pins s σ H Q I h;refine wpAny_Call_Name_kw (fq I hg hm ?_ hdb);refine callWith_K (h₀:=X.base) I.ok.mod.Ia hk (bS (ha pos pins s σ H _ I h) fun us s1 ⟨vs,H1,I1,r,q⟩=>⟨I1.hX,?_⟩) he hpl;have q:sp vs H1 Q E0:=by have q':sp (vs++[]) H1 Q E0:=q;rw[append_nil]at q';exact q'
 have hl:(us++[]).length=ps.length:=by rw[append_nil,<-r.length];exact F.len _ _ _ _ q
 have hbd:=hb s1 us I1.hX hl;rw[append_nil]at hbd;have e1:=I1.env0;have e0:CS X.prog X.w X.K X.mg X.base X.A X.stack s1 H1:=⟨e1.frames,e1.mod,e1.bs,e1.JJ,e1.qX,e1.NP,e1.hok,e1.bare⟩;refine wpAny_call (codeAny_mono (F.run X.A ea X.stack s1 H1 ⟨us,[]⟩ us vs Q hr e0 hbd r q) fun rr s2 hq=>?_);cases rr with
 |error z=>exact False.elim hq
 |ok fl =>
  cases fl with
  |ret u=>exact I1.after hq
  |next=>exact False.elim hq
  |brk=>exact False.elim hq
  |cont=>exact False.elim hq
end
end L2
namespace L2
open PySem PySem.Spec PyProof.Rows
noncomputable def AM (P:Program)(w:World):Gw:=fun outer H s E ev s' =>
 ∃ a cls od H' G,ev=.ref a/\s'.os=s.os/\AllBare s'.gens/\Un (frs outer) [] H H' s.heap G/\oj P w H' G/\Ld outer G a cls s'.heap/\(∀ D,od=some D->jG D a s'.heap)/\E cls od H'
section
variable {P:Program} {w:World} {K:Frag} {mg:Str->Option Value} {base:Heap}
theorem Pz {outer:List Env}{H:Hp}{s:Shared}{E:XK}{ev:Value}{s':Shared}(h:hZ P w outer H s E ev s'):AM P w outer H s E ev s':=by
 obtain⟨a,cls,H',G,e,os,bare,un,hok,Me,q⟩:=h;exact⟨a,cls,none,H',G,e,os,bare,un,hok,Me,fun _ z=>(nomatch z),q⟩
theorem Tt {outer:List Env}{H:Hp}{s:Shared}{E:XK}{ev:Value}{s':Shared}(h:DZ P w outer H s E ev s'):AM P w outer H s E ev s':=by
 obtain⟨a,cls,D,H',G,e,os,bare,un,hok,Me,dk,q⟩:=h;exact⟨a,cls,some D,H',G,e,os,bare,un,hok,Me,fun _ z=>W' z ▸ dk,q⟩
theorem aR.to3 {CX:Gw}(hc:∀{outer H s E ev s'},CX outer H s E ev s'->AM P w outer H s E ev s'){k:Nat}{f:Addr}{fd:FuncData}{ps:List Str}{sp:Sp}(F:aR P w K mg base CX k f fd ps sp):aR P w K mg base (AM P w) k f fd ps sp :=
 ⟨F.len,fun A outer s H args us vs Q E hr e0 hb r h=>codeAny_mono (F.run A outer s H args us vs Q E hr e0 hb r h) fun rr s' z=>by
  cases rr with
  |error e=>exact hc z
  |ok fl=>cases fl <;> exact z⟩
end
abbrev UK:=St->Value->Option Addr->Hp->Prop
def RZ (X:Cx)(XS:UK):Value->Shared->Prop:=fun ev s' =>
 ∃ pins σ H' G a cls od,ev=.ref a/\Inv X pins σ H' { s' with heap:=G }/\Ld X.stack G a cls s'.heap/\(∀ D,od=some D->jG D a s'.heap)/\XS σ cls od H'
theorem G3 {P:Program}{w:World}{K:Frag}{mg:Str->Option Value}{base:Heap}{N:List Str}{qual:Str}{scope:Scope}{f:Addr}{cdv:Value}{A:Around}{outer:List Env}{s:Shared}{H:Hp}{E:XK}{ev:Value}{s':Shared}
  (h:RZ (dM (AM P w) P w K mg base N qual scope f cdv A outer s H E) (fun _ cls od H'=>E cls od H') ev s'):(dM (AM P w) P w K mg base N qual scope f cdv A outer s H E).xe ev s':=by
 obtain⟨pins,σ,H',G,a,cls,od,rfl,I,⟨B,a0,cov,fl,up,hn⟩,dk,q⟩:=h;show wpAny (model P w) _ (leaving _ (.ref a)) _ _ s';have key:∀(Q:Unit->Shared->Prop),(∀ h',Heap.FlyingW B outer a cls a0 h'->s'.heap.UpToSlots h'->(∀ D,od=some D->jG D a h')->Q () { s' with heap:=h' })->wpAny (model P w) (dM (AM P w) P w K mg base N qual scope f cdv A outer s H E).A (leaving (dM (AM P w) P w K mg base N qual scope f cdv A outer s H E).env (.ref a)) Q (fun _ _=>False) s':=fun Q k=>by
  cases od with
  |none=>exact wpAny_leaves_onW I.ok.frames rfl fl fun h' QB QC=>k h' QB QC fun _ z=>(nomatch z)
  |some D =>
   refine wpAny_mono ((sI _ _).any (D:=D) (e:=a) (wpAny_leaves_onW (E:=fun _ _=>False) (Q:=fun _ s2=>∃ h',s2 = { s' with heap:=h' }/\Heap.FlyingW B outer a cls a0 h'/\s'.heap.UpToSlots h') I.ok.frames rfl fl fun h' z1 z2=>⟨h',rfl,z1,z2⟩) (dk D rfl)) (fun _ s2 z=>?_) fun _ _ z=>z.1.elim;obtain⟨⟨h',rfl,z1,z2⟩,z3⟩:=z;exact k h' z1 z2 fun D' e=>W' e ▸ z3
 refine wpAny_mono (key _ fun h' QB QC dk'=>?_) (fun _ _ z=>z) fun _ _ z=>z.elim;obtain⟨un,hok⟩:=strike I.base I.hok I.ok.above I.free;exact⟨a,cls,od,H',_,rfl,I.os,I.bare,un,hok,Ld.strike rfl cov QB (up.trans QC) hn,dk',q⟩
section
variable {P:Program} {w:World} {K:Frag} {mg:Str->Option Value} {base:Heap}
end
section
variable {P:Program} {w:World} {K:Frag} {mg:Str->Option Value} {base:Heap}
theorem Gx.Wm {x qual:Str}{st:Stmt}{f:Addr}{fd:FuncData}{N ps:List Str}{k:Nat}{sp:Sp}(F:Gx K x qual st f fd)(S:az N ps (aj st))(len:∀ vs H Q E,sp vs H Q E->vs.length=ps.length)
  (hbody:∀(cdv:Value)(A:Around)(outer:List Env)(s:Shared)(H:Hp)(vs:List V)(Q:VK)(E:XK),dm k (A.deeper (envOfC qual (aj st) s.heap.objs.size f cdv))->sp vs H Q E ->
   ∃ t,se (dM (AM P w) P w K mg base N qual (aj st) f cdv A outer s H E) (a8 st) t/\t { nx:=fun _ H'=>Q .non H',rt:=Q } (start N vs) H):aR P w K mg base (AM P w) (k+1) f fd ps sp:=by
 obtain⟨oc,od,kV,doc,pm,an,cdv,ct,osl,rfl,lk,hcd⟩:=F.ex;exact Bh lk hcd S len fun A outer s H vs Q E hr hsp=>hbody cdv A outer s H vs Q E hr hsp
end
def QR (sp:Sp)(iq:List V)(XS:UK)(t:TA):TE:=fun σ H Q=>t σ H fun vs H1=>sp (vs++iq) H1 Q (XS σ)
def QS (C:Addr)(m:Str)(sp:Sp)(iq:List V)(XS:UK)(ta:TE)(t:TA):TE:=fun σ H Q=>ta σ H fun x H1=>∃ a dx fs,x=.ref a/\H1 a=some (.ins C dx fs)/\fs.lookup m=none /\
 t σ H1 fun vs H2=>sp (x::(vs++iq)) H2 Q (XS σ)
section
variable {X:Cx} {W:Value->Shared->Prop} {XS:UK} {k:Nat} {f C:Addr} {fd:FuncData} {ps:List Str} {sp:Sp} {iq:List V} {ds:List Value} {x m:Str} {p pos apos:Pos} {e o:Expr} {es:List Expr} {ta:TE} {t:TA}
theorem QT {pins:List (Addr×Obj)}{σ:St}{H:Hp}{s s':Shared}{ev:Value}(I:Inv X pins σ H s)(h:AM X.prog X.w X.stack H s (XS σ) ev s'):RZ X XS ev s':=by
 obtain⟨a,cls,od,H',G,e,os,bare,un,hok,Me,dk,q⟩:=h;exact⟨pins,σ,H',G,a,cls,od,e,I.call' (s':={ s' with heap:=G }) (ch:=[]) os un hok bare fun b z=>j' z (by simp),Me,dk,q⟩
theorem IK {pins:List (Addr×Obj)}{σ:St}{H:Hp}{s:Shared}{Q:VK}{us:List Value}{vs:List V}(F:aR X.prog X.w X.K X.mg X.base (AM X.prog X.w) k f fd ps sp)(hr:dm k X.A)(hb:Binds X.K fd ps ds)(hd:Vals iq ds)(hx:∀ ev s',RZ X XS ev s'->W ev s')
  (I:Inv (X.wish W) pins σ H s) (r:Vals vs us) (h:sp (vs++iq) H Q (XS σ)):wpAny (model X.prog X.w) X.A (call (.ref f) us) (EP (X.wish W) pins σ Q) W s:=by
 have I0:=I.fO;have r2:Vals (vs++iq) (us++ds):=r.append hd;have hl:(us++ds).length=ps.length:=by rw[<-r2.length];exact F.len _ _ _ _ h
 refine wpAny_call (codeAny_mono (F.run X.A X.stack s H ⟨us,[]⟩ (us++ds) (vs++iq) Q _ hr I0.env0 (hb s us I0.hX hl) r2 h) fun r s' hq=>?_);cases r with
 |error e=>exact hx _ _ (QT I0 hq)
 |ok fl =>
  cases fl with
  |ret u=>exact I.after hq
  |next=>exact False.elim hq
  |brk=>exact False.elim hq
  |cont=>exact False.elim hq
theorem Ex (F:aR X.prog X.w X.K X.mg X.base (AM X.prog X.w) k f fd ps sp)(hr:dm k X.A)(hg:Gl (X.wish W) x)(hm:X.mg x=some (.ref f))(hk:keepIn X.K (.ref f)=true)(hb:Binds X.K fd ps ds)(hd:Vals iq ds)(hx:∀ ev s',RZ X XS ev s'->W ev s')
  (ha:PA (X.wish W) (e::es) t) (hdb:(x==("__debug__":Str))=false:=by decide) (he:starEach (e::es) X.env=(false,eval e X.env)::starEach es X.env:=by rfl) (hpl:(backTo pos (starEach es X.env)).any (·.1)=false:=by rfl) :
  PE (X.wish W) (.Call (.Name x p) (e::es) [] pos) (QR sp iq XS t):=by
 intro pins s σ H Q I h;refine wpAny_Call_Name_kw (fq I hg hm ?_ hdb);refine callWith_K (h₀:=X.base) I.ok.mod.Ia hk (bS (ha pos pins s σ H _ I h) fun us s1 ⟨vs,H1,I1,r,q⟩=>⟨I1.hX,?_⟩) he hpl;exact IK (X:=X) F hr hb hd hx I1 r q
theorem Ey {pl:Sem Bool}(ho:PE (X.wish W) o ta)(c:GG X.K C)(hm:Meth X.K C m f)(F:aR X.prog X.w X.K X.mg X.base (AM X.prog X.w) k f fd ps sp)(hr:dm k X.A)(hb:Binds X.K fd ps ds)(hd:Vals iq ds)(hx:∀ ev s',RZ X XS ev s'->W ev s')(ha:PA (X.wish W) (e::es) t)
  (hst:starEach (e::es) X.env=(false,eval e X.env)::starEach es X.env:=by rfl) (hpl:(backTo pos (starEach es X.env)).any (·.1)=false:=by rfl)
  (ht:eval (.Call (.Attribute o m apos) (e::es) [] pos) X.env=(do
   let ov <-eval o X.env
   standAt apos.atName
   let (f,first) <-holding [ov] (getMethod ov m pl)
   callWith pos f first (backTo pos (starEach (e::es) X.env)) (backToKw pos (keywordEach [] X.env))):=by rfl) :
  PE (X.wish W) (.Call (.Attribute o m apos) (e::es) [] pos) (QS C m sp iq XS ta t):=by
 intro pins s σ H Q I h;refine methodCall_KW (pl:=pl) (bS (ho pins s σ H _ I h) fun u s1 ⟨x,H1,I1,rx,a,dx,fs,ex,ea,l,q⟩=>?_) ht;subst ex;obtain rfl:u=Value.ref a:=rx;refine mS I1 ea c hm l ?_;refine callWith_K (first:=[.ref a]) (h₀:=X.base) I.ok.mod.Ia hm.kp (bS (ha pos pins s1 σ H1 _ I1 q) fun us s2 ⟨vs,H2,I2,r,q2⟩=>⟨I2.hX,?_⟩) hst hpl;exact IK (X:=X) (us:=.ref a::us) (vs:=.ref a::vs) F hr hb hd hx I2 (.cons rfl r) q2
end
theorem QU {X:Cx}{XS:Le}{ev:Value}{s':Shared}(h:RZ X (fun σ cls _ H'=>XS σ cls H') ev s'):WX X XS ev s':=by
 obtain⟨pins,σ,H',G,a,cls,od,e,I,Me,_,q⟩:=h;exact⟨pins,σ,H',G,a,cls,e,I,Me,q⟩
end L2
set_option maxHeartbeats 1000000
namespace bQ
open PySem L2
inductive Kd where
 |G|D|R|s|d|r|dot|three|two
 deriving DecidableEq
noncomputable def Kd.str:Kd->Str
 |.G=>"G" | .D=>"D" | .R=>"R" | .s=>"s" | .d=>"d" | .r=>"r" | .dot=>"." | .three=>"3" | .two=>"2"
noncomputable def Kd.cp:Kd->Nat
 |.G=>71|.D=>68|.R=>82|.s=>115|.d=>100|.r=>114|.dot=>46|.three=>51|.two=>50
noncomputable def Kd.great:Kd->Bool
 |.G=>true|.D=>true|.R=>true|_=>false
noncomputable def Kd.small:Kd->Bool
 |.s=>true|.d=>true|.r=>true|_=>false
noncomputable def Kd.parting:Kd->Bool
 |.dot=>true|.three=>true|.two=>true|_=>false
noncomputable def Kd.meas:Kd->Bool
 |.three=>true|.two=>true|_=>false
noncomputable def Kd.du:Kd->Bool
 |.G=>true|.D=>true|.s=>true|.d=>true|_=>false
noncomputable def kx:Option Kd->Str
 |some k=>k.str
 |none=>""
noncomputable abbrev Sg:=Kd×Int
noncomputable def vd (x y:Str):Bool:=!(Builtin.Str.occurrences y x 0 y.length 1).isEmpty
theorem Tu (k:Kd):k.str=⟨#[k.cp]⟩:=by cases k <;> decide +kernel
theorem str_inj {a b:Kd}:a.str=b.str ↔ a=b:=by
 constructor
 ·revert a b
  have:∀ a b:Kd,a.str=b.str->a=b:=by
   intro a b;cases a <;> cases b <;> first|(intro _;rfl)|(intro h;exact j' h (by lk))
  exact fun {a b}=>this a b
 ·exact fun h=>by rw[h]
theorem Ez {a b:Option Kd}:kx a=kx b ↔ a=b:=by
 constructor
 ·have:∀ a b:Option Kd,kx a=kx b->a=b:=by
   intro a b;cases a with
   |none=>cases b with
    |none=>intro _;rfl
    |some b=>cases b <;> (intro h;exact j' h (by lk))
   |some a=>cases b with
    |none=>cases a <;> (intro h;exact j' h (by lk))
    |some b=>intro h;exact Zn' some (str_inj.mp h)
  exact fun h=>this a b h
 ·exact fun h=>by rw[h]
theorem Ox (a b:Str):decide (V.str a=V.str b)=decide (a=b):=by
 by_cases h:a=b
 ·rw[h];simp
 ·rw[V' h];exact V' fun e=>h (V.str.inj e)
theorem Kg (a b:Kd):decide (V.str a.str=V.str b.str)=decide (a=b):=by
 rw[Ox];exact decide_eq_decide.mpr str_inj
theorem Tv (a b:Option Kd):decide (V.str (kx a)=V.str (kx b))=decide (a=b):=by
 rw[Ox];exact decide_eq_decide.mpr Ez
theorem XF (o:Option Kd):decide (V.str (kx o)=V.str "G")=decide (o=some .G):=Tv o (some .G)
theorem Wn (k:Kd):decide (V.str k.str=V.str "G")=decide (k=.G):=Kg k .G
theorem Zf (k:Kd):decide (V.str k.str=V.str "D")=decide (k=.D):=Kg k .D
theorem Zg (o:Option Kd):decide (V.str (kx o)=V.str "s")=decide (o=some .s):=Tv o (some .s)
theorem Zh (k:Kd):decide (V.str k.str=V.str "s")=decide (k=.s):=Kg k .s
theorem Tw (k:Kd):decide (V.str k.str=V.str ".")=decide (k=.dot):=Kg k .dot
theorem C9 (k:Kd):decide (V.str k.str=V.str "3")=decide (k=.three):=Kg k .three
theorem Mz (k:Kd):decide (V.str k.str=V.str "2")=decide (k=.two):=Kg k .two
def EA (H:Hp)(v:V)(s:Sg):Prop:=∃ p,v=.ref p/\H p=some (.tup [.str s.1.str,.int s.2])
theorem EA.same {H H':Hp}{v:V}{s:Sg}(e:ao H H')(h:EA H v s):EA H' v s:=by
 obtain⟨p,rfl,q⟩:=h;exact⟨p,rfl,e _ _ q⟩
abbrev ia (H:Hp):List V->List Sg->Prop:=Paired (EA H)
theorem ia.same {H H':Hp}(e:ao H H'):∀{xs:List V} {ss:List Sg},ia H xs ss->ia H' xs ss
 |_,_,.nil=>.nil
 |_,_,.cons a b=>.cons (a.same e) (ia.same e b)
theorem oK {α β:Type}{F:α->β->Prop}:∀{xs:List α} {ys:List β} {i:Nat} {x:α},Paired F xs ys->xs[i]? = some x->∃ y,ys[i]? = some y/\F x y
 |_,_,_,_,.nil,e=>by simp at e
 |_,_,0,_,.cons r _,e=>by simp at e;subst e;exact⟨_,rfl,r⟩
 |_,_,i+1,x,.cons _ t,e=>by
  obtain⟨u,h1,h2⟩:=oK (i:=i) (x:=x) t (by simpa using e);exact⟨u,by simpa using h1,h2⟩
theorem wc {α β:Type}{F:α->β->Prop}:∀{xs:List α} {ys:List β} {i:Nat} {y:β},Paired F xs ys->ys[i]? = some y->∃ x,xs[i]? = some x/\F x y
 |_,_,_,_,.nil,e=>by simp at e
 |_,_,0,_,.cons r _,e=>by simp at e;subst e;exact⟨_,rfl,r⟩
 |_,_,i+1,x,.cons _ t,e=>by
  obtain⟨u,h1,h2⟩:=wc (i:=i) t (by simpa using e);exact⟨u,by simpa using h1,h2⟩
theorem cE {α β:Type}{F:α->β->Prop}{xs:List α}{ys:List β}(h:Paired F xs ys):xs.length=ys.length:=Paired.length h
theorem iS {α β:Type}{F:α->β->Prop}:∀{xs:List α} {ys:List β} {x:α} {y:β},Paired F xs ys->F x y->Paired F (xs++[x]) (ys++[y])
 |_,_,_,_,.nil,h=>.cons h .nil
 |_,_,_,_,.cons a b,h=>.cons a (iS b h)
theorem Oy {α β:Type}{F:α->β->Prop}:∀{xs:List α} {ys:List β} {xs':List α} {ys':List β},Paired F xs ys->Paired F xs' ys'->Paired F (xs++xs') (ys++ys')
 |_,_,_,_,.nil,h=>h
 |_,_,_,_,.cons a b,h=>.cons a (Oy b h)
theorem PB {α β:Type}{F:α->β->Prop}:∀{xs:List α} {ys:List β} (n:Nat),Paired F xs ys->Paired F (xs.drop n) (ys.drop n)
 |_,_,0,h=>h
 |_,_,n+1,.nil=>.nil
 |_,_,n+1,.cons a b=>PB n b
theorem MA {α β:Type}{F:α->β->Prop}:∀{xs:List α} {ys:List β} (n:Nat),Paired F xs ys->Paired F (xs.take n) (ys.take n)
 |_,_,0,h=>.nil
 |_,_,n+1,.nil=>.nil
 |_,_,n+1,.cons a b=>.cons a (MA n b)
theorem dC {α β:Type}{F G:α->β->Prop}(h:∀ x y,F x y->G x y):∀{xs:List α} {ys:List β},Paired F xs ys->Paired G xs ys
 |_,_,.nil=>.nil
 |_,_,.cons a b=>.cons (h _ _ a) (dC h b)
theorem cb {H0 H:Hp}{l:Addr}{o:HO}(s:ao H0 H)(hl:H0 l=none):ao H0 (upd H l o):=fun b u e=>by
 rw[ak (au e hl)];exact s b u e
theorem EB {H:Hp}{D:Addr}{o:HO}{zs:List V}{v:V}{s:Sg}(hD:H D=some (.lst zs))(h:EA H v s):EA (upd H D o) v s:=by
 obtain⟨p,e,q⟩:=h;exact⟨p,e,by rw[ak (qi q hD (by intro z;cases z))];exact q⟩
theorem Dc {H:Hp}{D:Addr}{o:HO}{zs:List V}{xs:List V}{ss:List Sg}(hD:H D=some (.lst zs))(h:ia H xs ss):ia (upd H D o) xs ss:=dC (fun _ _ q=>EB hD q) h
theorem ve {ms:List Int}{i:Nat}{x:V}(h:(ms.map V.int)[i]? = some x):∃ z,ms[i]? = some z/\x=V.int z:=by
 rw[Zl']at h;cases e:ms[i]? with
 |none=>rw[e]at h;cases h
 |some z=>rw[e]at h;exact⟨z,rfl,(W' h).symm⟩
section
variable {K:Frag} {H:Hp} {p:Addr} {Q:VK}
theorem R0 {a b:V}(h:H p=some (.tup [a,b]))(q:Q a H):CW K (.ref p) (.int 0) H Q\/CY K (.ref p) (.int 0) H Q\/CZ (.ref p) (.int 0) H Q:=.inr (.inl ⟨p,_,0,a,rfl,rfl,iQ.of h,rfl,q⟩)
theorem XG {a b:V}(h:H p=some (.tup [a,b]))(q:Q b H):CW K (.ref p) (.int 1) H Q\/CY K (.ref p) (.int 1) H Q\/CZ (.ref p) (.int 1) H Q:=.inr (.inl ⟨p,_,1,b,rfl,rfl,iQ.of h,rfl,q⟩)
theorem oM {xs:List V}{i:Int}{n:Nat}{v:V}(h:aL K H p xs)(hn:i=n)(e:xs[n]? = some v)(q:Q v H):CW K (.ref p) (.int i) H Q\/CY K (.ref p) (.int i) H Q\/CZ (.ref p) (.int i) H Q:=.inl ⟨p,xs,i,v,rfl,rfl,h,by rw[hn];exact eQ e,q⟩
theorem AN {xs:List V}{ss:List Sg}{i:Int}{n:Nat}{s:Sg}(h:aL K H p xs)(g:ia H xs ss)(hn:i=n)(e:ss[n]? = some s)(q:∀ b,H b=some (.tup [.str s.1.str,.int s.2])->Q (.ref b) H) :
  CW K (.ref p) (.int i) H Q\/CY K (.ref p) (.int i) H Q\/CZ (.ref p) (.int i) H Q:=by
 obtain⟨x,hx,b,rfl,hb⟩:=wc g e;exact oM h hn hx (q b hb)
theorem MB {ns:List Int}{i:Int}{n:Nat}{z:Int}(h:aL K H p (ns.map V.int))(hn:i=n)(e:ns[n]? = some z)(q:Q (.int z) H):CW K (.ref p) (.int i) H Q\/CY K (.ref p) (.int i) H Q\/CZ (.ref p) (.int i) H Q :=
 oM h hn (by rw[Zl',e];rfl) q
end
noncomputable def nm (m:Int):Kd->Int
 |.three=>3
 |.two=>2
 |_=>m
def Ms (m:Int):Prop:=m=3\/m=2
theorem Ms.nm {m:Int}(h:Ms m)(k:Kd):Ms (nm m k):=by
 cases k <;> first|exact h|exact .inl rfl|exact .inr rfl
noncomputable def eS (m:Int):List Kd->List Int
 |[]=>[]
 |k::t=>nm m k::eS (nm m k) t
theorem vf (m:Int)(ks:List Kd):(eS m ks).length=ks.length:=by
 induction ks generalizing m with
 |nil=>rfl
 |cons k t ih=>simp[eS,ih]
noncomputable def pw:Kd->Int->Int
 |.G,m=>if m=2 then 2 else 3
 |.R,m=>if m=2 then 2 else 3
 |.D,_=>2
 |.s,_=>1
 |.d,_=>1
 |.r,_=>1
 |_,_=>0
noncomputable def bw (m:Int)(k:Kd)(n:Option Kd):Int:=if m=2/\k=.G/\n=some .dot then 3 else pw k m
noncomputable def fc (m:Int):List Kd->List Int
 |[]=>[]
 |k::t=>bw (nm m k) k t.head? :: fc (nm m k) t
noncomputable def rq:List Kd->List Int->List Int
 |k::t,m::ms=>bw m k t.head? :: rq t ms
 |_,_=>[]
theorem EC (m:Int)(ks:List Kd):rq ks (eS m ks)=fc m ks:=by
 induction ks generalizing m with
 |nil=>rfl
 |cons k t ih=>simp[eS,rq,fc,ih]
theorem mj (m:Int)(ks:List Kd):(fc m ks).length=ks.length:=by
 induction ks generalizing m with
 |nil=>rfl
 |cons k t ih=>simp[fc,ih]
noncomputable def inR (m:Int)(k:Kd):Bool:=decide (m≠2)&&k.small
noncomputable def fW (m:Int):List Kd->List Bool
 |[]=>[]
 |k::t=>inR (nm m k) k::fW (nm m k) t
theorem jJ (m:Int)(ks:List Kd):(fW m ks).length=ks.length:=by
 induction ks generalizing m with
 |nil=>rfl
 |cons k t ih=>simp[fW,ih]
noncomputable def ED:List Kd->List Int->List Bool
 |k::t,m::ms=>inR m k::ED t ms
 |_,_=>[]
theorem G4 (m:Int)(ks:List Kd):ED ks (eS m ks)=fW m ks:=by
 induction ks generalizing m with
 |nil=>rfl
 |cons k t ih=>simp[eS,ED,fW,ih]
noncomputable def dE (at' first:Nat):List Bool->List (Nat×Nat)
 |[]=>if first<at' then [(first,at')] else []
 |true::t=>dE (at'+1) first t
 |false::t=>(if first<at' then [(first,at')] else [])++dE (at'+1) (at'+1) t
noncomputable def nH (m:Int)(ks:List Kd):List (Nat×Nat):=dE 0 0 (fW m ks)
noncomputable def Df (ks:List Kd)(i:Int):Option Kd:=if 0<=i then ks[i.toNat]? else none
theorem ky (ks:List Kd)(n:Nat):Df ks (n:Int)=ks[n]?:=by
 unfold Df;rw[Zc' (by omega)];rfl
noncomputable def lP:Option Kd->Bool
 |some k=>k.great
 |none=>false
noncomputable def fX (ks:List Kd)(f:List Int)(a:Nat):Bool:=decide (Df ks ((a:Int)-1)=some .G)&&decide (f.getD (a-1) 0=3)
noncomputable def eC (ks:List Kd)(z:Nat):Bool:=decide (ks[z]? = some .G) && !lP ks[z+1]?
noncomputable def sJ (ks:List Kd)(f:List Int)(a z:Nat):Bool×List Int:=if fX ks f a then(true,f.set (a-1) 2) else if eC ks z then(true,f.set z 2) else(false,f)
noncomputable def sL (ks:List Kd)(f:List Int)(a z:Nat):Bool×List Int:=if lP ks[z]? && decide (ks[z-1]? = some .s) then(true,f.set (z-1) 2) else if fX ks f a&&eC ks z then(true,(f.set (a-1) 2).set z 2) else(false,f)
noncomputable def settle (ks:List Kd)(f:List Int)(a z:Nat):Bool×List Int:=if(z-a) % 3=1 then sJ ks f a z else if(z-a) % 3=2 then sL ks f a z else(true,f)
theorem rA (ks:List Kd)(f:List Int)(a z:Nat):(settle ks f a z).2.length=f.length:=by
 unfold settle sJ sL
 repeat' split
 all_goals simp
noncomputable abbrev PD:=List Int×List (Nat×Nat)
noncomputable def lQ (ks:List Kd)(c:PD)(p:Nat×Nat):PD:=((settle ks c.1 p.1 p.2).2,if(settle ks c.1 p.1 p.2).1 then c.2 else c.2++[p])
noncomputable def gC (m:Int)(ks:List Kd):PD:=(nH m ks).foldl (lQ ks) (fc m ks,[])
theorem MC (ks:List Kd)(rs:List (Nat×Nat))(c:PD):(rs.foldl (lQ ks) c).1.length=c.1.length:=by
 induction rs generalizing c with
 |nil=>rfl
 |cons p t ih=>rw[List.foldl_cons,ih];exact rA ..
theorem pX (m:Int)(ks:List Kd):(gC m ks).1.length=ks.length:=by
 unfold gC;rw[MC,mj]
theorem yQ:∀(bs:List Bool)(at' first:Nat),first<=at'->∀ p∈dE at' first bs,first<=p.1/\p.1<p.2/\p.2<=at'+bs.length
 |[],at',first,h,p,hp=>by
  unfold dE at hp;split at hp
  ·have:p=(first,at'):=by simpa using hp
   subst this;exact⟨X' _,by assumption,by simp⟩
  ·cases hp
 |true::t,at',first,h,p,hp=>by
  have:=yQ t (at'+1) first (by omega) p hp
  simp only [Zk'];omega
 |false::t,at',first,h,p,hp=>by
  unfold dE at hp;simp only [Zk'];rcases mem_append.mp hp with hp|hp
  ·split at hp
   ·have:p=(first,at'):=by simpa using hp
    subst this;exact⟨X' _,by assumption,by simp⟩
   ·cases hp
  ·have:=yQ t (at'+1) (at'+1) (X' _) p hp;omega
theorem MD (m:Int)(ks:List Kd):∀ p∈nH m ks,p.1<p.2/\p.2<=ks.length:=by
 intro p hp;have:=yQ (fW m ks) 0 0 (X' _) p hp;rw[jJ]at this;omega
theorem iT:∀(bs:List Bool)(at' first:Nat),(dE at' first bs).length<=bs.length+1
 |[],at',first=>by unfold dE;split <;> simp
 |true::t,at',first=>by
  unfold dE;have:=iT t (at'+1) first
  simp only [Zk'];omega
 |false::t,at',first=>by
  unfold dE;have:=iT t (at'+1) (at'+1);simp only [Zk',Zd'];split <;> simp <;> omega
def Kh (H:Hp)(v:V)(q:Nat×Nat):Prop:=∃ p,v=.ref p/\H p=some (.tup [.int (q.1:Int),.int (q.2:Int)])
abbrev G5 (H:Hp):List V->List (Nat×Nat)->Prop:=Paired (Kh H)
theorem Kh.same {H H':Hp}{v:V}{q:Nat×Nat}(e:ao H H')(h:Kh H v q):Kh H' v q:=by
 obtain⟨p,rfl,z⟩:=h;exact⟨p,rfl,e _ _ z⟩
theorem kz {H H':Hp}(e:ao H H'){xs:List V}{qs:List (Nat×Nat)}(h:G5 H xs qs):G5 H' xs qs:=dC (fun _ _ z=>z.same e) h
theorem EF {H:Hp}{D:Addr}{o:HO}{zs:List V}{v:V}{q:Nat×Nat}(hD:H D=some (.lst zs))(h:Kh H v q):Kh (upd H D o) v q:=by
 obtain⟨p,e,z⟩:=h;exact⟨p,e,by rw[ak (qi z hD (by intro z;cases z))];exact z⟩
theorem jK {H:Hp}{D:Addr}{o:HO}{zs:List V}{xs:List V}{qs:List (Nat×Nat)}(hD:H D=some (.lst zs))(h:G5 H xs qs):G5 (upd H D o) xs qs:=dC (fun _ _ q=>EF hD q) h
theorem sM {H:Hp}{a:Addr}{o:HO}(h:H a=some o):upd H a o=H:=by
 funext b
 unfold upd;split
 ·rename_i e;rw[e,h]
 ·rfl
theorem vg {ks:List Kd}{f:List Int}{a:Nat}(h:fX ks f a=true):1<=a/\a-1<ks.length:=by
 unfold fX at h;have h1:=G' (Bool.and_eq_true_iff.mp h).1;unfold Df at h1;split at h1
 ·have:=(S'.mp h1).1;omega
 ·cases h1
theorem rB {ks:List Kd}{z:Nat}(h:eC ks z=true):z<ks.length:=by
 unfold eC at h;have h1:=G' (Bool.and_eq_true_iff.mp h).1;exact(S'.mp h1).1
theorem gR {n:Nat}{i:Int}{j:Nat}(e:i=j)(h:j<n):N1 n i=some j:=by
 unfold N1;subst e;rw[Zc' (by omega),Zc' (by omega)];rfl
theorem jj {α:Type}{l:List α}{i:Nat}{x:α}(h:l[i]? = some x):l.drop i=x::l.drop (i+1):=by
 obtain⟨hi,e⟩:=S'.mp h;rw[List.drop_eq_getElem_cons hi,e]
theorem oN {α β:Type}{l:List α}{f:α->β}{i:Nat}{x:α}(h:l[i]? = some x):(l.map f)[i]? = some (f x):=by rw[Zl',h];rfl
noncomputable abbrev bc (ss:List Sg):List Kd:=ss.map Prod.fst
theorem iJ {fs:List Int}{j:Nat}{v:Int}:(fs.map V.int).set j (V.int v)=(fs.set j v).map V.int:=by rw[List.map_set]
theorem big {n:Nat}(h:n<=1000):n<=sizeLine:=Nat.le_of_lt (aJ h)
theorem head_drop {α:Type}(l:List α)(i:Nat):(l.drop i).head? = l[i]?:=by
 rw[List.head?_drop]
noncomputable def gq (m:Int):List Kd->List Bool
 |[]=>[]
 |k::t=>decide (nm m k=3)::gq (nm m k) t
theorem G6 (m:Int)(ks:List Kd):(gq m ks).length=ks.length:=by
 induction ks generalizing m with
 |nil=>rfl
 |cons k t ih=>simp[gq,ih]
noncomputable def lead:List Bool->Nat
 |true::t=>lead t+1
 |_=>0
theorem IL:∀ bs:List Bool,lead bs<=bs.length
 |[]=>X' _
 |true::t=>by simp only [lead,Zk'];have:=IL t;omega
 |false::t=>Nat.zero_le _
theorem yR:∀(bs:List Bool)(at' first:Nat),first<at'+lead bs\/lead bs=0->first<=at'->dE at' first bs=(if first<at'+lead bs then [(first,at'+lead bs)] else [])++dE (at'+lead bs) (at'+lead bs) (bs.drop (lead bs))
 |[],at',first,_,h=>by
  show(if first<at' then [(first,at')] else [])=(if first<at' then [(first,at')] else [])++dE at' at' [];rw[show dE at' at' []=[] by unfold dE;rw[Za' (Nat.lt_irrefl _)],append_nil]
 |true::t,at',first,h0,h=>by
  have ih:=yR t (at'+1) first (.inl (by omega)) (by omega)
  have e:at'+1+lead t=at'+(lead t+1):=by omega
  rw[e]at ih;simp only [dE,lead,List.drop_succ_cons];exact ih
 |false::t,at',first,_,h=>by
  show(if first<at' then [(first,at')] else [])++dE (at'+1) (at'+1) t=(if first<at' then [(first,at')] else [])++((if at'<at' then [(at',at')] else [])++dE (at'+1) (at'+1) t);rw[Za' (Nat.lt_irrefl at'),nil_append]
theorem IM {m:Int}(h:Ms m):∀(ks:List Kd)(i:Nat)(k:Kd),ks[i]? = some k->∃ b,(gq m ks)[i]? = some b/\(fW m ks)[i]? = some (k.small&&b)
 |[],i,k,e=>by simp at e
 |c::t,0,k,e=>by
  have:c=k:=by simpa using e
  subst this;refine⟨decide (nm m c=3),rfl,?_⟩;simp only [fW,List.getElem?_cons_zero,inR];have hm:=h.nm c;rcases hm with e|e <;> rw[e] <;> cases c <;> rfl
 |c::t,i+1,k,e=>by
  obtain⟨b,h1,h2⟩:=IM (h.nm c) t i k (by simpa using e);exact⟨b,by simpa [gq] using h1,by simpa [fW] using h2⟩
theorem IP:∀(bs:List Bool)(j:Nat),j<=lead bs->(j<lead bs ↔ bs[j]? = some true)
 |[],j,h=>by simp[lead]
 |true::t,0,h=>by simp[lead]
 |true::t,j+1,h=>by
  have:=IP t j (by simp only [lead]at h;omega);simp only [lead,List.getElem?_cons_succ];rw[<-this];omega
 |false::t,j,h=>by
  have:j=0:=by simp only [lead]at h;omega
  subst this;simp[lead]
theorem QV {m:Int}{ks:List Kd}{low j:Nat}:((fW m ks).drop low)[j]? = (fW m ks)[low+j]?:=by rw[getElem?_drop]
theorem PJ (xs:List V)(n:Nat):qY xs none (some (n:Int))=xs.take n:=by
 unfold qY;have e:HT.ir xs.length xs.length (some (n:Int))=min n xs.length:=HT.Ik xs.length xs.length n;rw[HT.Eb,e,Nat.sub_zero,List.drop_zero];rcases Nat.le_total n xs.length with h|h
 ·rw[Nat.min_eq_left h]
 ·rw[Nat.min_eq_right h,take_length,List.take_of_length_le h]
theorem ym (xs:List V)(n:Nat)(h:n<=xs.length):qY xs (some (n:Int)) none=xs.drop n:=by
 unfold qY;have e:HT.ir xs.length 0 (some (n:Int))=min n xs.length:=HT.Ik xs.length 0 n;rw[HT.Eb,e,Nat.min_eq_left h];exact List.take_of_length_le (by rw[length_drop];omega)
theorem Tx {K:Frag}{H:Hp}{p p2:Addr}{s:Sg}(n:Nat)(h1:H p=some (.tup [.str s.1.str,.int s.2]))(h2:H p2=some (.tup [.str s.1.str,.int s.2])):LV K H (n+1) (.ref p) (.ref p2):=by
 refine .tup (iQ.of h1) (iQ.of h2) rfl fun i x y e1 e2=>?_;have e:x=y:=W' (e1.symm.trans e2);subst e
 match i,e1 with
 |0,e1=>cases e1;exact .flat rfl
 |1,e1=>cases e1;exact .flat rfl
 |n+2,e1=>simp at e1
def yS (K:Frag):Sp:=fun vs H Q _=>∃(a:Addr)(ns:List Int),vs=[.ref a]/\aL K H a (ns.map V.int)/\ns.length<=63/\∀ H',Q (.bl true) H'
theorem Ki {K:Frag}{H:Hp}{a:Addr}{ns:List Int}(hl:ns.length<=63)(_:Only H)(hS:aL K H a (ns.map V.int)):yS K [.ref a] H (fun v _=>v=.bl true) fun _ _ _=>False :=
 ⟨a,ns,rfl,hS,hl,fun _=>rfl⟩
theorem lR {k:Str}{v:V}{r:List (Str×V)}:((k,v)::r).lookup k=some v:=by simp[List.lookup]
theorem aK {k g:Str}{v:V}{r:List (Str×V)}(h:¬ g=k):((k,v)::r).lookup g=r.lookup g:=by
 have:(g==k)=false:=beq_eq_false_iff_ne.mpr h;simp[List.lookup,this]
theorem gh {k g:Str}{x y:V}{r:List (Str×V)}(h:¬ g=k):h9 k y ((g,x)::r)=(g,x)::h9 k y r:=Za' h
noncomputable def PK (n:Str)(tm:V)(L:Addr):List (Str×V):=[("name",V.str n),("terms",tm),("signs",V.ref L)]
theorem EG (n:Str)(tm:V)(L:Addr):(PK n tm L).lookup ("name":Str)=some (V.str n):=lR
theorem Bv (n:Str)(tm:V)(L:Addr):(PK n tm L).lookup ("terms":Str)=some (tm):=(aK (by lk)).trans (lR)
theorem vh (n:Str)(tm:V)(L:Addr):(PK n tm L).lookup ("signs":Str)=some (V.ref L):=(aK (by lk)).trans ((aK (by lk)).trans (lR))
theorem Dg (v0:V):h9 "name" v0 ([]:List (Str×V))=([("name",v0)]:List (Str×V)):=rfl
theorem IQ (v0 v1:V):h9 "terms" v1 ([("name",v0)]:List (Str×V))=([("name",v0),("terms",v1)]:List (Str×V)):=(gh (by lk)).trans (Zn' _ (rfl))
theorem Oz (v0 v1 v2:V):h9 "signs" v2 ([("name",v0),("terms",v1)]:List (Str×V))=([("name",v0),("terms",v1),("signs",v2)]:List (Str×V)):=(gh (by lk)).trans (Zn' _ ((gh (by lk)).trans (Zn' _ (rfl))))
noncomputable def G7 (T:Addr)(at_:Int)(B A:Addr):List (Str×V):=[("things",V.ref T),("at",V.int at_),("before",V.ref B),("after",V.ref A)]
theorem G8 (T:Addr)(at_:Int)(B A:Addr):(G7 T at_ B A).lookup ("things":Str)=some (V.ref T):=lR
theorem ME (T:Addr)(at_:Int)(B A:Addr):(G7 T at_ B A).lookup ("at":Str)=some (V.int at_):=(aK (by lk)).trans (lR)
theorem G9 (T:Addr)(at_:Int)(B A:Addr):(G7 T at_ B A).lookup ("before":Str)=some (V.ref B):=(aK (by lk)).trans ((aK (by lk)).trans (lR))
theorem Kj (T:Addr)(at_:Int)(B A:Addr):(G7 T at_ B A).lookup ("after":Str)=some (V.ref A):=(aK (by lk)).trans ((aK (by lk)).trans ((aK (by lk)).trans (lR)))
theorem Kk (T:Addr)(at_:Int)(B A:Addr):(G7 T at_ B A).lookup ("do":Str)=none:=(aK (by lk)).trans ((aK (by lk)).trans ((aK (by lk)).trans ((aK (by lk)).trans (rfl))))
theorem yn (v0:V):h9 "things" v0 ([]:List (Str×V))=([("things",v0)]:List (Str×V)):=rfl
theorem Dh (v0 v1:V):h9 "at" v1 ([("things",v0)]:List (Str×V))=([("things",v0),("at",v1)]:List (Str×V)):=(gh (by lk)).trans (Zn' _ (rfl))
theorem IS (v0 v1 v2:V):h9 "before" v2 ([("things",v0),("at",v1)]:List (Str×V))=([("things",v0),("at",v1),("before",v2)]:List (Str×V)):=(gh (by lk)).trans (Zn' _ ((gh (by lk)).trans (Zn' _ (rfl))))
theorem OA (v0 v1 v2 v3:V):h9 "after" v3 ([("things",v0),("at",v1),("before",v2)]:List (Str×V))=([("things",v0),("at",v1),("before",v2),("after",v3)]:List (Str×V)):=(gh (by lk)).trans (Zn' _ ((gh (by lk)).trans (Zn' _ ((gh (by lk)).trans (Zn' _ (rfl))))))
noncomputable def sN (V_ D U:Addr):List (Str×V):=[("voices",V.ref V_),("done",V.ref D),("undone",V.ref U)]
theorem jL (V_ D U:Addr):(sN V_ D U).lookup ("voices":Str)=some (V.ref V_):=lR
theorem EH (V_ D U:Addr):(sN V_ D U).lookup ("done":Str)=some (V.ref D):=(aK (by lk)).trans (lR)
theorem yT (V_ D U:Addr):(sN V_ D U).lookup ("undone":Str)=some (V.ref U):=(aK (by lk)).trans ((aK (by lk)).trans (lR))
theorem vi (V_ D U:Addr):(sN V_ D U).lookup ("add_voice":Str)=none:=(aK (by lk)).trans ((aK (by lk)).trans ((aK (by lk)).trans (rfl)))
theorem vj (V_ D U:Addr):(sN V_ D U).lookup ("add_canon":Str)=none:=(aK (by lk)).trans ((aK (by lk)).trans ((aK (by lk)).trans (rfl)))
theorem Ha (V_ D U:Addr):(sN V_ D U).lookup ("put":Str)=none:=(aK (by lk)).trans ((aK (by lk)).trans ((aK (by lk)).trans (rfl)))
theorem jk (V_ D U:Addr):(sN V_ D U).lookup ("names":Str)=none:=(aK (by lk)).trans ((aK (by lk)).trans ((aK (by lk)).trans (rfl)))
theorem gF (V_ D U:Addr):(sN V_ D U).lookup ("line":Str)=none:=(aK (by lk)).trans ((aK (by lk)).trans ((aK (by lk)).trans (rfl)))
theorem wd (V_ D U:Addr):(sN V_ D U).lookup ("kept":Str)=none:=(aK (by lk)).trans ((aK (by lk)).trans ((aK (by lk)).trans (rfl)))
theorem gS (V_ D U:Addr):(sN V_ D U).lookup ("canon":Str)=none:=(aK (by lk)).trans ((aK (by lk)).trans ((aK (by lk)).trans (rfl)))
theorem qa (V_ D U:Addr):(sN V_ D U).lookup ("forget_deeds":Str)=none:=(aK (by lk)).trans ((aK (by lk)).trans ((aK (by lk)).trans (rfl)))
theorem oO (V_ D U:Addr):(sN V_ D U).lookup ("perform":Str)=none:=(aK (by lk)).trans ((aK (by lk)).trans ((aK (by lk)).trans (rfl)))
theorem qm (V_ D U:Addr):(sN V_ D U).lookup ("put_in":Str)=none:=(aK (by lk)).trans ((aK (by lk)).trans ((aK (by lk)).trans (rfl)))
theorem kA (V_ D U:Addr):(sN V_ D U).lookup ("refuse_new":Str)=none:=(aK (by lk)).trans ((aK (by lk)).trans ((aK (by lk)).trans (rfl)))
theorem dY (V_ D U:Addr):(sN V_ D U).lookup ("voice_called":Str)=none:=(aK (by lk)).trans ((aK (by lk)).trans ((aK (by lk)).trans (rfl)))
theorem jM (V_ D U:Addr):(sN V_ D U).lookup ("plain_voice":Str)=none:=(aK (by lk)).trans ((aK (by lk)).trans ((aK (by lk)).trans (rfl)))
theorem Di (v0:V):h9 "voices" v0 ([]:List (Str×V))=([("voices",v0)]:List (Str×V)):=rfl
theorem IT (v0 v1:V):h9 "done" v1 ([("voices",v0)]:List (Str×V))=([("voices",v0),("done",v1)]:List (Str×V)):=(gh (by lk)).trans (Zn' _ (rfl))
theorem OB (v0 v1 v2:V):h9 "undone" v2 ([("voices",v0),("done",v1)]:List (Str×V))=([("voices",v0),("done",v1),("undone",v2)]:List (Str×V)):=(gh (by lk)).trans (Zn' _ ((gh (by lk)).trans (Zn' _ (rfl))))
theorem mW {a b:TS}{D:Ends}{σ:St}{H:Hp}(h:∀ N:St->Hp->Prop,(∀ σ H,b D σ H->N σ H)->a { D with nx:=N } σ H):Ll a b D σ H:=h (b D) fun _ _ z=>z
structure Vx where
 o:Addr
 d:Addr
 n:Str
 tm:V
 l:Addr
def OC (C:Addr)(H:Hp)(v:V)(a:Vx):Prop:=v=.ref a.o/\H a.o=some (.ins C a.d (PK a.n a.tm a.l))
structure Dd where
 o:Addr
 d:Addr
 T:Addr
 i:Nat
 B:Addr
 A:Addr
 bs:List V
 as:List V
def qb (C:Addr)(H:Hp)(v:V)(e:Dd):Prop:=v=.ref e.o/\H e.o=some (.ins C e.d (G7 e.T (e.i:Int) e.B e.A))/\H e.B=some (.lst e.bs)/\H e.A=some (.lst e.as)
noncomputable abbrev MM:=Addr->List V
noncomputable def putAt (S:MM)(T:Addr)(zs:List V):MM:=fun b=>if b=T then zs else S b
theorem yU {S:MM}{T:Addr}{zs:List V}:putAt S T zs T=zs:=Zc' rfl
theorem yV {S:MM}{T b:Addr}{zs:List V}(h:b≠T):putAt S T zs b=S b:=Za' h
noncomputable def AO (e:Dd)(S:MM):MM:=putAt S e.T ((S e.T).take e.i++e.as++(S e.T).drop (e.i+e.bs.length))
def Fits (e:Dd)(S:MM):Prop:=e.i+e.bs.length<=(S e.T).length/\((S e.T).drop e.i).take e.bs.length=e.bs
inductive Path:List MM->List Dd->MM->Prop
 |nil {M:MM}:Path [] [] M
 |snoc {Ps:List MM} {es:List Dd} {S:MM} {e:Dd}:Path Ps es S->Fits e S->Path (Ps++[S]) (es++[e]) (AO e S)
inductive Tz:MM->List Dd->List MM->Prop
 |nil {M:MM}:Tz M [] []
 |snoc {M:MM} {us:List Dd} {Fs:List MM} {e:Dd}:Fits e M->Tz (AO e M) us Fs->Tz M (us++[e]) (Fs++[AO e M])
theorem Path.len {Ps:List MM}{es:List Dd}{M:MM}(h:Path Ps es M):Ps.length=es.length:=by
 induction h with
 |nil=>rfl
 |snoc _ _ ih=>rw[Zd',Zd',ih];rfl
def ff (s:Sg):Prop:=(s.1.du=true->0<=s.2/\s.2<100)/\(s.1.du=false->s.2=0)
def GV (H:Hp)(v:V):Prop:=∃ s,EA H v s/\ff s
structure WF (H:Hp)(L:Addr)(all:List Vx)(S:MM):Prop where
 vs:∃ vx:List Vx,Paired (fun v a=>v=V.ref a.o/\a∈all) (S L) vx
 ln:∀ a∈all,(S a.l).length<=200/\∀ v∈S a.l,GV H v
 len:(S L).length<=12
 out:∀ b,b≠L->(∀ a∈all,b≠a.l)->S b=[]
inductive Th where
 |pl (ss:List Sg)
 |cn (ld:Str) (lt sl:Int) (tn:Bool)
noncomputable abbrev Vw:=List (Str×Th)
def MF (H:Hp)(S:MM)(a:Vx):Th->Prop
 |.pl ss=>a.tm=.non/\ia H (S a.l) ss
 |.cn ld lt sl tn=>∃ p,a.tm=.ref p/\H p=some (.tup [.str ld,.int lt,.int sl,.bl tn])
def Kl (H:Hp)(all:List Vx)(S:MM)(v:V)(q:Str×Th):Prop:=∃ a∈all,v=.ref a.o/\a.n=q.1/\MF H S a q.2
abbrev Is (H:Hp)(L:Addr)(all:List Vx)(S:MM)(vw:Vw):Prop:=Paired (Kl H all S) (S L) vw
structure sO (vw:Vw):Prop where
 nd:(vw.map (·.1)).Nodup
 ld:∀ n ld lt sl tn,(n,Th.cn ld lt sl tn)∈vw->(∃ ss,(ld,Th.pl ss)∈vw)/\0<=lt/\lt<=999/\1<=sl/\sl<=9
 gd:∀ n ss,(n,Th.pl ss)∈vw->ss.length<=200/\∀ s∈ss,ff s
 len:vw.length<=12
structure D1 (CB CV CD:Addr)(H:Hp)(x L D U:Addr)(all:List Vx)(M:MM)(Ps Fs:List MM)(es us:List Dd):Prop where
 hx:∃ dx,H x=some (.ins CB dx (sN L D U))
 hL:H L=some (.lst (M L))
 hD:∃ xs,H D=some (.lst xs)/\Paired (qb CD H) xs es
 hU:∃ xs,H U=some (.lst xs)/\Paired (qb CD H) xs us
 ha:∀ a∈all,H a.o=some (.ins CV a.d (PK a.n a.tm a.l))/\H a.l=some (.lst (M a.l))
 LD:L≠D
 LU:L≠U
 DU:D≠U
 nl:∀ a∈all,a.l≠L/\a.l≠D/\a.l≠U
 ni:∀ a∈all,∀ b∈all,a.l=b.l->a=b
 no:∀ a∈all,∀ b∈all,a.o=b.o->a=b
 dd:∀ e,e∈es\/e∈us->(e.T=L\/∃ a∈all,e.T=a.l)/\(e.B≠L/\e.B≠D/\e.B≠U/\∀ a∈all,e.B≠a.l)/\(e.A≠L/\e.A≠D/\e.A≠U/\∀ a∈all,e.A≠a.l)/\e.bs.length<=1/\e.as.length<=1
 past:Path Ps es M
 fut:Tz M us Fs
 wf:∀ S,S∈Ps\/S=M\/S∈Fs->WF H L all S
structure MG (F:Addr->Prop)(L D U:Addr)(all:List Vx)(es us:List Dd):Prop where
 L:F L
 D:F D
 U:F U
 l:∀ a∈all,F a.l
 d:∀ e,e∈es\/e∈us->F e.B/\F e.A
structure Bk (CB CV CD:Addr)(H:Hp)(x:Addr)(F:Addr->Prop)(vw:Vw)(ps fs:List Vw):Prop where
 ex:∃(L D U:Addr)(all:List Vx)(M:MM)(Ps Fs:List MM)(es us:List Dd),D1 CB CV CD H x L D U all M Ps Fs es us/\Is H L all M vw/\Paired (Is H L all) Ps ps/\Paired (Is H L all) Fs fs/\MG F L D U all es us
 wv:∀ v,v∈ps\/v=vw\/v∈fs->sO v
def Kept (F:Addr->Prop)(H H':Hp):Prop:=∀ y o,H y=some o->(F y\/∀ xs,o≠.lst xs)->H' y=some o
theorem Kept.same {F:Addr->Prop}{H H':Hp}(s:ao H H'):Kept F H H':=fun y o e _=>s y o e
section
variable {CB CV CD:Addr} {H H':Hp} {x L D U:Addr} {all:List Vx} {M S:MM} {Ps Fs:List MM} {es us:List Dd} {F:Addr->Prop} {vw:Vw} {ps fs:List Vw}
theorem Kept.Zk (k:Kept F H H'){xs:List V}{ss:List Sg}(h:ia H xs ss):ia H' xs ss:=dC (fun _ _ ⟨p,e1,e2⟩=>⟨p,e1,k _ _ e2 (.inr fun _ z=>nomatch z)⟩) h
theorem Kept.gv (k:Kept F H H'){v:V}(h:GV H v):GV H' v:=by
 obtain⟨s,⟨p,e1,e2⟩,g⟩:=h;exact⟨s,⟨p,e1,k _ _ e2 (.inr fun _ z=>nomatch z)⟩,g⟩
theorem WF.kept (k:Kept F H H')(h:WF H L all S):WF H' L all S:=⟨h.vs,fun a ha=>⟨(h.ln a ha).1,fun v hv=>k.gv ((h.ln a ha).2 v hv)⟩,h.len,h.out⟩
theorem Kl.kept (k:Kept F H H'){v:V}{q:Str×Th}(h:Kl H all S v q):Kl H' all S v q:=by
 obtain⟨a,ha,e1,e2,t⟩:=h;refine⟨a,ha,e1,e2,?_⟩;cases hq:q.2 with
 |pl ss=>rw[hq]at t;exact⟨t.1,k.Zk t.2⟩
 |cn ld lt sl tn =>
  rw[hq]at t;obtain⟨p,e3,e4⟩:=t;exact⟨p,e3,k _ _ e4 (.inr fun _ z=>nomatch z)⟩
theorem Is.kept (k:Kept F H H')(h:Is H L all S vw):Is H' L all S vw:=dC (fun _ _ q=>Kl.kept k q) h
theorem pY (k:Kept F H H'){v:V}{e:Dd}(f:F e.B/\F e.A)(h:qb CD H v e):qb CD H' v e:=⟨h.1,k _ _ h.2.1 (.inr fun _ z=>nomatch z),k _ _ h.2.2.1 (.inl f.1),k _ _ h.2.2.2 (.inl f.2)⟩
theorem rC {α β:Type}{F G:α->β->Prop}:∀{xs:List α} {ys:List β},(∀ x y,y∈ys->F x y->G x y)->Paired F xs ys->Paired G xs ys
 |_,_,_,.nil=>.nil
 |_,_,h,.cons a b=>.cons (h _ _ (mem_cons_self ..) a) (rC (fun x y hy=>h x y (mem_cons_of_mem _ hy)) b)
theorem D1.kept (h:D1 CB CV CD H x L D U all M Ps Fs es us)(f:MG F L D U all es us)(k:Kept F H H'):D1 CB CV CD H' x L D U all M Ps Fs es us :=
 {
  h with
  hx:=let ⟨dx,e⟩:=h.hx;⟨dx,k _ _ e (.inr fun _ z=>nomatch z)⟩
  hL:=k _ _ h.hL (.inl f.L)
  hD:=let ⟨xs,e,p⟩:=h.hD;⟨xs,k _ _ e (.inl f.D),rC (fun _ e he q=>pY k (f.d e (.inl he)) q) p⟩
  hU:=let ⟨xs,e,p⟩:=h.hU;⟨xs,k _ _ e (.inl f.U),rC (fun _ e he q=>pY k (f.d e (.inr he)) q) p⟩
  ha:=fun a m=>⟨k _ _ (h.ha a m).1 (.inr fun _ z=>nomatch z),k _ _ (h.ha a m).2 (.inl (f.l a m))⟩
  wf:=fun S hS=>(h.wf S hS).kept k }
theorem Bk.kept (h:Bk CB CV CD H x F vw ps fs)(k:Kept F H H'):Bk CB CV CD H' x F vw ps fs:=by
 obtain⟨L,D,U,all,M,Ps,Fs,es,us,b,i,pp,pf,f⟩:=h.ex;exact⟨⟨L,D,U,all,M,Ps,Fs,es,us,b.kept f k,Is.kept k i,dC (fun _ _ q=>Is.kept k q) pp,dC (fun _ _ q=>Is.kept k q) pf,f⟩,h.wv⟩
theorem Bk.same (h:Bk CB CV CD H x F vw ps fs)(s:ao H H'):Bk CB CV CD H' x F vw ps fs:=h.kept (.same s)
theorem D1.vk (b:D1 CB CV CD H x L D U all M Ps Fs es us)(i:Is H L all M vw):∃ vx:List Vx,Paired (OC CV H) (M L) vx/\Paired (fun a q=>a∈all/\a.n=q.1/\MF H M a q.2) vx vw:=by
 have go:∀{xs:List V} {vw:Vw},Paired (Kl H all M) xs vw->∃ vx:List Vx,Paired (OC CV H) xs vx/\Paired (fun a q=>a∈all/\a.n=q.1/\MF H M a q.2) vx vw:=by
  intro xs vw h
  induction h with
  |nil=>exact⟨[],.nil,.nil⟩
  |cons q _ ih =>
   obtain⟨a,ha,e1,e2,e3⟩:=q;obtain⟨vx,p1,p2⟩:=ih;exact⟨a::vx,.cons ⟨e1,(b.ha a ha).1⟩ p1,.cons ⟨ha,e2,e3⟩ p2⟩
 exact go i
def MH (L D U:Addr)(all:List Vx)(e:Dd):Prop:=(e.T=L\/∃ a∈all,e.T=a.l)/\(e.B≠L/\e.B≠D/\e.B≠U/\∀ a∈all,e.B≠a.l)/\(e.A≠L/\e.A≠D/\e.A≠U/\∀ a∈all,e.A≠a.l)/\e.bs.length<=1/\e.as.length<=1
theorem D1.lists (b:D1 CB CV CD H x L D U all M Ps Fs es us){T:Addr}(tg:T=L\/∃ a∈all,T=a.l):H T=some (.lst (M T))/\T≠D/\T≠U:=by
 rcases tg with rfl|⟨a,ha,rfl⟩
 ·exact⟨b.hL,b.LD,b.LU⟩
 ·exact⟨(b.ha a ha).2,(b.nl a ha).2.1,(b.nl a ha).2.2⟩
theorem D1.chg (b:D1 CB CV CD H x L D U all M Ps Fs es us){T:Addr}(tg:T=L\/∃ a∈all,T=a.l){H2:Hp}(fr:∀ y o,H y=some o->y≠T->y≠D->y≠U->H2 y=some o){M':MM}(m1:∀ c,c≠T->M' c=M c)(hT:H2 T=some (.lst (M' T)))
  {dx:List V} {es':List Dd} (hD:H2 D=some (.lst dx)) (pD:Paired (qb CD H) dx es') {ux:List V} {us':List Dd} (hU:H2 U=some (.lst ux)) (pU:Paired (qb CD H) ux us') (Lf:∀ e,e∈es'\/e∈us'->MH L D U all e)
  {Wq Fs':List MM} (TB:Path Wq es' M') (Wr:Tz M' us' Fs') (Zl:∀ S,S∈Wq\/S=M'\/S∈Fs'->WF H L all S):D1 CB CV CD H2 x L D U all M' Wq Fs' es' us'/\Kept (fun _=>False) H H2:=by
 obtain⟨hT0,TD,TU⟩:=b.lists tg;obtain⟨Zm,OD,_⟩:=b.hD;obtain⟨Zn,NS,_⟩:=b.hU;have kN:∀ y o,H y=some o->(∀ zs,o≠.lst zs)->H2 y=some o:=fun y o hy hn=>fr y o hy
  (fun e=>by rw[e,hT0]at hy;cases hy;exact hn _ rfl) (fun e=>by rw[e,OD]at hy;cases hy;exact hn _ rfl) (fun e=>by rw[e,NS]at hy;cases hy;exact hn _ rfl)
 have k:Kept (fun _=>False) H H2:=fun y o hy h=>kN y o hy (h.elim False.elim id);have dk:∀{v e},MH L D U all e->qb CD H v e->qb CD H2 v e:=fun {v e} ok h=>by
  have nT:∀{c:Addr},c≠L/\c≠D/\c≠U/\(∀ a∈all,c≠a.l)->c≠T:=fun {c} q z=>by
   rcases tg with rfl|⟨a,ha,rfl⟩
   ·exact q.1 z
   ·exact q.2.2.2 a ha z
  exact⟨h.1,kN _ _ h.2.1 (fun _ z=>nomatch z),fr _ _ h.2.2.1 (nT ok.2.1) ok.2.1.2.1 ok.2.1.2.2.1,fr _ _ h.2.2.2 (nT ok.2.2.1) ok.2.2.1.2.1 ok.2.2.1.2.2.1⟩
 have at_:∀{c:Addr},(c=L\/∃ a∈all,c=a.l)->H2 c=some (.lst (M' c)):=fun {c} hc=>by
  by_cases e:c=T
  ·rw[e];exact hT
  ·obtain⟨h1,h2,h3⟩:=b.lists hc;rw[m1 c e];exact fr _ _ h1 e h2 h3
 refine⟨{
      hx:=let ⟨dx,e⟩:=b.hx;⟨dx,kN _ _ e (fun _ z=>nomatch z)⟩
      hL:=at_ (.inl rfl)
      hD:=⟨_,hD,rC (fun _ e he q=>dk (Lf e (.inl he)) q) pD⟩
      hU:=⟨_,hU,rC (fun _ e he q=>dk (Lf e (.inr he)) q) pU⟩
      ha:=fun a ha=>⟨kN _ _ (b.ha a ha).1 (fun _ z=>nomatch z),at_ (.inr ⟨a,ha,rfl⟩)⟩
      LD:=b.LD,LU:=b.LU,DU:=b.DU,nl:=b.nl,ni:=b.ni,no:=b.no,dd:=Lf
      past:=TB
      fut:=Wr
      wf:=fun S hS=>(Zl S hS).kept k },k⟩
theorem D1.grow (b:D1 CB CV CD H x L D U all M Ps Fs es us){a:Vx}{H1:Hp}(s:ao H H1)(n1:H a.o=none)(n2:H a.l=none)(h1:H1 a.o=some (.ins CV a.d (PK a.n a.tm a.l)))(h2:H1 a.l=some (.lst [])):D1 CB CV CD H1 x L D U (all++[a]) M Ps Fs es us:=by
 have b1:=b.kept (F:=fun _=>True) ⟨trivial,trivial,trivial,fun _ _=>trivial,fun _ _=>⟨trivial,trivial⟩⟩ (.same s);obtain⟨Zm,OD,Zo⟩:=b.hD;obtain⟨Zn,NS,Zp⟩:=b.hU;have nL:a.l≠L:=Ne.symm (au b.hL n2);have nD:a.l≠D:=Ne.symm (au OD n2);have nU:a.l≠U:=Ne.symm (au NS n2);have nA:∀ c∈all,a.l≠c.l:=fun c hc=>Ne.symm (au (b.ha c hc).2 n2);have nO:∀ c∈all,a.o≠c.o:=fun c hc=>Ne.symm (au (b.ha c hc).1 n1);have mem:∀{c:Vx},c∈all++[a]->c∈all\/c=a:=fun h=>by simpa using h
 have TC:∀ S,WF H1 L all S->WF H1 L (all++[a]) S:=fun S w =>
  {
   vs:=let ⟨vx,p⟩:=w.vs;⟨vx,dC (fun _ _ q=>⟨q.1,mem_append_left _ q.2⟩) p⟩
   ln:=fun c hc=>by
    rcases mem hc with hc|rfl
    ·exact w.ln c hc
    ·have e:S c.l=[]:=w.out c.l nL fun d hd=>nA d hd;rw[e];exact⟨Nat.zero_le _,fun _ z=>nomatch z⟩
   len:=w.len
   out:=fun c h h'=>w.out c h fun d hd=>h' d (mem_append_left _ hd) }
 have XH:∀{v e},qb CD H v e->e.B≠a.l/\e.A≠a.l:=fun h=>⟨au h.2.2.1 n2,au h.2.2.2 n2⟩;have XI:∀ e,e∈es\/e∈us->e.B≠a.l/\e.A≠a.l:=fun e he=>by
  rcases he with he|he
  ·obtain⟨i,hi⟩:=getElem?_of_mem he;obtain⟨v,_,q⟩:=wc Zo hi;exact XH q
  ·obtain⟨i,hi⟩:=getElem?_of_mem he;obtain⟨v,_,q⟩:=wc Zp hi;exact XH q
 exact { b1 with
  ha:=fun c hc=>by
   rcases mem hc with hc|rfl
   ·exact b1.ha c hc
   ·refine⟨h1,?_⟩;rw[(b.wf M (.inr (.inl rfl))).out c.l nL fun d hd=>nA d hd];exact h2
  nl:=fun c hc=>by
   rcases mem hc with hc|rfl
   ·exact b1.nl c hc
   ·exact⟨nL,nD,nU⟩
  ni:=fun c hc d hd e=>by
   rcases mem hc with z1|z1 <;> rcases mem hd with z2|z2
   ·exact b1.ni c z1 d z2 e
   ·rw[z2]at e;exact j' e.symm (nA c z1)
   ·rw[z1]at e;exact j' e (nA d z2)
   ·rw[z1,z2]
  no:=fun c hc d hd e=>by
   rcases mem hc with z1|z1 <;> rcases mem hd with z2|z2
   ·exact b1.no c z1 d z2 e
   ·rw[z2]at e;exact j' e.symm (nO c z1)
   ·rw[z1]at e;exact j' e (nO d z2)
   ·rw[z1,z2]
  dd:=fun e he=>by
   obtain⟨q1,q2,q3,q4⟩:=b1.dd e he;refine⟨q1.imp id fun⟨c,hc,z⟩=>⟨c,mem_append_left _ hc,z⟩,⟨q2.1,q2.2.1,q2.2.2.1,fun c hc=>?_⟩,⟨q3.1,q3.2.1,q3.2.2.1,fun c hc=>?_⟩,q4⟩
   ·rcases mem hc with hc|rfl
    ·exact q2.2.2.2 c hc
    ·exact(XI e he).1
   ·rcases mem hc with hc|rfl
    ·exact q3.2.2.2 c hc
    ·exact(XI e he).2
  wf:=fun S hS=>TC S (b1.wf S hS) }
theorem Is.grow {a:Vx}(h:Is H L all S vw):Is H L (all++[a]) S vw:=dC (fun _ _ ⟨c,hc,q⟩=>⟨c,mem_append_left _ hc,q⟩) h
end
section
variable {CB CV CD:Addr} {H H1 H2 H':Hp} {x L D U:Addr} {all:List Vx} {M S:MM} {Ps Fs:List MM} {es us:List Dd} {F:Addr->Prop} {vw QW:Vw} {ps fs:List Vw}
theorem Bk.deed (b:D1 CB CV CD H1 x L D U all M Ps Fs es us)(i:Is H1 L all M vw)(pp:Paired (Is H1 L all) Ps ps)(f:MG F L D U all es us)(wv:∀ v,v∈ps\/v=vw->sO v){e:Dd}(hd:qb CD H1 (.ref e.o) e)(ok:MH L D U all e)(ft:Fits e M)(w:WF H1 L all (AO e M))
  (i':Is H1 L all (AO e M) QW) (Zq:sO QW) {dx:List V} (pD:Paired (qb CD H1) dx es) (fr:∀ y o,H1 y=some o->y≠e.T->y≠D->y≠U->H2 y=some o) (hT:H2 e.T=some (.lst (AO e M e.T))) (hD2:H2 D=some (.lst (dx++[.ref e.o]))) (QX:H2 U=some (.lst [])) :
  Bk CB CV CD H2 x (fun y=>F y\/y=e.B\/y=e.A) QW (ps++[vw]) []:=by
 obtain⟨b2,k⟩:=b.chg ok.1 fr (M':=AO e M) (fun c hc=>yV hc) hT hD2 (iS pD hd) QX .nil (fun e' he=>by
  rcases he with he|he
  ·rcases mem_append.mp he with he|he
   ·exact b.dd e' (.inl he)
   ·rw[mem_singleton.mp he];exact ok
  ·cases he) (b.past.snoc ft) .nil (fun S hS=>by
  rcases hS with hS|hS|hS
  ·rcases mem_append.mp hS with hS|hS
   ·exact b.wf S (.inl hS)
   ·exact b.wf S (.inr (.inl (mem_singleton.mp hS)))
  ·rw[hS];exact w
  ·cases hS)
 refine⟨⟨L,D,U,all,_,_,_,_,_,b2,Is.kept k i',iS (dC (fun _ _ q=>Is.kept k q) pp) (Is.kept k i),.nil,⟨.inl f.L,.inl f.D,.inl f.U,fun a ha=>.inl (f.l a ha),fun e' he=>?_⟩⟩,fun v hv=>?_⟩
 ·rcases he with he|he
  ·rcases mem_append.mp he with he|he
   ·exact⟨.inl (f.d e' (.inl he)).1,.inl (f.d e' (.inl he)).2⟩
   ·rw[mem_singleton.mp he];exact⟨.inr (.inl rfl),.inr (.inr rfl)⟩
  ·cases he
 ·rcases hv with hv|hv|hv
  ·rcases mem_append.mp hv with hv|hv
   ·exact wv v (.inl hv)
   ·exact wv v (.inr (mem_singleton.mp hv))
  ·rw[hv];exact Zq
  ·cases hv
noncomputable def bj (vw:Vw)(n:Str):Option Th:=(vw.find? fun q=>decide (q.1=n)).map (·.2)
noncomputable def yW (vw:Vw)(n:Str)(th:Th):Vw:=vw.map fun q=>if q.1=n then(n,th) else q
theorem cF {n:Str}{th:Th}(h:bj vw n=some th):(n,th)∈vw:=by
 unfold bj at h;cases e:vw.find? (fun q=>decide (q.1=n)) with
 |none=>rw[e]at h;cases h
 |some q =>
  rw[e]at h;have h1:=List.mem_of_find?_eq_some e;have h2:=List.find?_some e;have h3:q.1=n:=G' h2;have h4:q.2=th:=W' h;rw[<-h3,<-h4];exact h1
theorem iu {n:Str}(h:bj vw n=none):∀ q∈vw,q.1≠n:=by
 unfold bj at h;rw[Option.map_eq_none_iff]at h;intro q hq e;exact List.find?_eq_none.mp h q hq (L' e)
theorem yX:∀{l:List Str} {i j:Nat} {n:Str},l.Nodup->l[i]? = some n->l[j]? = some n->i=j
 |[],_,_,_,_,h,_=>by simp at h
 |a::l,i,j,n,nd,h1,h2=>by
  obtain⟨na,Zr⟩:=List.nodup_cons.mp nd
  match i,j,h1,h2 with
  |0,0,_,_=>rfl
  |0,j+1,h1,h2 =>
   rw[List.getElem?_cons_zero]at h1;rw[List.getElem?_cons_succ]at h2;cases h1;exact j' (Zh' h2) na
  |i+1,0,h1,h2 =>
   rw[List.getElem?_cons_zero]at h2;rw[List.getElem?_cons_succ]at h1;cases h2;exact j' (Zh' h1) na
  |i+1,j+1,h1,h2 =>
   rw[List.getElem?_cons_succ]at h1 h2;rw[yX Zr h1 h2]
theorem sO.uniq (w:sO vw){q q':Str×Th}(h:q∈vw)(h':q'∈vw)(e:q.1=q'.1):q=q':=by
 obtain⟨i,hi⟩:=getElem?_of_mem h;obtain⟨j,hj⟩:=getElem?_of_mem h';have h1:(vw.map (·.1))[i]? = some q.1:=by rw[Zl',hi];rfl
 have h2:(vw.map (·.1))[j]? = some q.1:=by rw[Zl',hj,e];rfl
 have:=yX w.nd h1 h2;subst this;rw[hi]at hj;exact W' hj
theorem sO.find (w:sO vw){n:Str}{th:Th}(h:(n,th)∈vw):bj vw n=some th:=by
 cases e:bj vw n with
 |none=>exact j' rfl (iu e _ h)
 |some t =>
  have:=w.uniq (cF e) h rfl;rw[Prod.mk.injEq]at this;rw[this.2]
theorem yY (n:Str)(th:Th):(yW vw n th).map (·.1)=vw.map (·.1):=by
 unfold yW;rw[List.map_map];refine List.map_congr_left fun q _=>?_;show(if q.1=n then(n,th) else q).1=q.1;split
 ·next h=>exact h.symm
 ·rfl
theorem EJ {n:Str}{th:Th}{q:Str×Th}(h:q∈yW vw n th):(q=(n,th)/\∃ q'∈vw,q'.1=n)\/(q∈vw/\q.1≠n):=by
 obtain⟨q',h1,h2⟩:=mem_map.mp h;split at h2
 ·next e=>exact .inl ⟨h2.symm,q',h1,e⟩
 ·next e=>rw[<-h2];exact .inr ⟨h1,e⟩
theorem Hb {n:Str}{th:Th}{q:Str×Th}(h:q∈vw)(hn:q.1≠n):q∈yW vw n th:=mem_map.mpr ⟨q,h,Za' hn⟩
theorem MI {n:Str}{th t:Th}(h:(n,t)∈vw):(n,th)∈yW vw n th:=mem_map.mpr ⟨(n,t),h,Zc' rfl⟩
theorem sO.set (w:sO vw){n:Str}{ss ss':List Sg}(h:(n,Th.pl ss)∈vw)(h1:ss'.length<=200)(h2:∀ s∈ss',ff s):sO (yW vw n (.pl ss')) where
 nd:=by rw[yY];exact w.nd
 ld:=fun m ld lt sl tn hm=>by
  rcases EJ hm with ⟨e,_⟩|⟨hm',_⟩
  ·cases e
  ·obtain⟨⟨s0,h0⟩,r⟩:=w.ld m ld lt sl tn hm';refine⟨?_,r⟩
   by_cases e:ld=n
   ·rw[e];exact⟨ss',MI h⟩
   ·exact⟨s0,Hb h0 e⟩
 gd:=fun m s0 hm=>by
  rcases EJ hm with ⟨e,_⟩|⟨hm',_⟩
  ·cases e;exact⟨h1,h2⟩
  ·exact w.gd m s0 hm'
 len:=by
  have:=Zn' List.length (yY (vw:=vw) n (.pl ss'));rw[P',P']at this;rw[this];exact w.len
theorem sO.TF (w:sO vw){n:Str}(hn:∀ q∈vw,q.1≠n)(hl:vw.length<12):sO (vw++[(n,.pl [])]) where
 nd:=by
  rw[map_append,List.nodup_append];refine⟨w.nd,by simp,?_⟩;intro a ha c hc e;obtain⟨q,hq,e1⟩:=mem_map.mp ha;have:c=n:=by simpa using hc
  exact hn q hq (by rw[e1,e,this])
 ld:=fun m ld lt sl tn hm=>by
  rcases mem_append.mp hm with hm|hm
  ·obtain⟨⟨s0,h0⟩,r⟩:=w.ld m ld lt sl tn hm;exact⟨⟨s0,mem_append_left _ h0⟩,r⟩
  ·have:=mem_singleton.mp hm;cases this
 gd:=fun m s0 hm=>by
  rcases mem_append.mp hm with hm|hm
  ·exact w.gd m s0 hm
  ·have:=mem_singleton.mp hm;cases this;exact⟨Nat.zero_le _,fun _ z=>nomatch z⟩
 len:=by rw[Zd'];exact hl
theorem sO.TJ (w:sO vw){n ld:Str}{lt sl:Int}{tn:Bool}{ss:List Sg}(hn:∀ q∈vw,q.1≠n)(hl:vw.length<12)(h:(ld,Th.pl ss)∈vw)(h1:0<=lt)(h2:lt<=999)(h3:1<=sl)(h4:sl<=9):sO (vw++[(n,.cn ld lt sl tn)]) where
 nd:=by
  rw[map_append,List.nodup_append];refine⟨w.nd,by simp,?_⟩;intro a ha c hc e;obtain⟨q,hq,e1⟩:=mem_map.mp ha;have:c=n:=by simpa using hc
  exact hn q hq (by rw[e1,e,this])
 ld:=fun m l2 t2 s2 n2 hm=>by
  rcases mem_append.mp hm with hm|hm
  ·obtain⟨⟨s0,h0⟩,r⟩:=w.ld m l2 t2 s2 n2 hm;exact⟨⟨s0,mem_append_left _ h0⟩,r⟩
  ·have:=mem_singleton.mp hm;cases this;exact⟨⟨ss,mem_append_left _ h⟩,h1,h2,h3,h4⟩
 gd:=fun m s0 hm=>by
  rcases mem_append.mp hm with hm|hm
  ·exact w.gd m s0 hm
  ·have:=mem_singleton.mp hm;cases this
 len:=by rw[Zd'];exact hl
theorem PL {α β γ:Type}{F:α->β->Prop}{G:α->γ->Prop}{f:β->γ}:∀{xs:List α} {ys:List β},Paired F xs ys->(∀(k:Nat) x y,xs[k]? = some x->ys[k]? = some y->F x y->G x (f y))->Paired G xs (ys.map f)
 |_,_,.nil,_=>.nil
 |_,_,.cons a b,h=>.cons (h 0 _ _ rfl rfl a) (PL b fun k x y e1 e2=>h (k+1) x y (by simpa using e1) (by simpa using e2))
theorem Is.line (b:D1 CB CV CD H x L D U all M Ps Fs es us)(i:Is H L all M vw)(w:sO vw){a:Vx}(ha:a∈all){j:Nat}{th:Th}{ss':List Sg}(hj:(M L)[j]? = some (.ref a.o))(hm:vw[j]? = some (a.n,th))(NT:a.tm=.non){M':MM}(m1:∀ c,c≠a.l->M' c=M c)(g:ia H (M' a.l) ss'):Is H L all M' (yW vw a.n (.pl ss')):=by
 show Paired _ (M' L) _;rw[m1 L (Ne.symm (b.nl a ha).1)];refine PL i fun k v q hk hq Zs=>?_;obtain⟨c,hc,rfl,e1,t⟩:=Zs;split
 ·next e =>
  have h1:(vw.map (·.1))[k]? = some a.n:=by rw[Zl',hq,<-e];rfl
  have h2:(vw.map (·.1))[j]? = some a.n:=by rw[Zl',hm];rfl
  have hkj:=yX w.nd h1 h2;subst hkj;rw[hj]at hk;have:a.o=c.o:=V.ref.inj (W' hk);have:=b.no a ha c hc this;subst this;exact⟨a,hc,rfl,rfl,NT,g⟩
 ·next e =>
  refine⟨c,hc,rfl,e1,?_⟩;have ne:c.l≠a.l:=fun z=>e (by rw[<-e1,b.ni c hc a ha z]);cases hq2:q.2 with
  |pl s0=>rw[hq2]at t;exact⟨t.1,by rw[m1 _ ne];exact t.2⟩
  |cn ld lt sl tn=>rw[hq2]at t;exact t
end
noncomputable abbrev Sn:=Str×Int
noncomputable def jN:List V:=[.str "G",.str "D",.str "s",.str "d"]
noncomputable def cH:List V:=[.str "R",.str "r",.str ".",.str "3",.str "2"]
noncomputable def nI (s:Sn):Bool:=if inV (.str s.1) jN=true then(if decide (0<=s.2)=true then decide (s.2<=99) else false) else(if inV (.str s.1) cH=true then decide (s.2=0) else false)
noncomputable def ow (n:Int):Str:=Str.ofString (toString n)
theorem Bx {n:Int}(h0:0<=n)(h1:n<100):n.natAbs.log2<1920:=by
 have hb:n.natAbs<2 ^ 1920:=Ze' (show n.natAbs<2 ^ 7 by omega) (Nat.pow_le_pow_right (by decide) (by decide))
 by_cases z:n.natAbs=0
 ·rw[z];decide
 ·exact(Nat.log2_lt z).mpr hb
theorem QY:(List.range 100).all (fun n=>decide ((ow (n:Int)).length<=2))=true:=by lk
theorem OE {n:Int}(h0:0<=n)(h1:n<100):(ow n).length<=2:=by
 have:=all_eq_true.mp QY n.toNat (mem_range.mpr (by omega));have e:((n.toNat:Nat):Int)=n:=by omega
 rw[e]at this;exact G' this
inductive Rf where
 |sP|yo|pZ|Full|gi|iU|sQ|jm|yZ|y8
structure Cs where
 B:Addr
 V:Addr
 D:Addr
 on:Bool
 x:Rf->Addr
def RX (E:XK)(c:Cs)(r:Rf)(H:Hp):Prop:=c.on=true/\E (.ref (c.x r)) none H
noncomputable abbrev yp (c:Cs):=Bk c.B c.V c.D
def Fr (F:Addr->Prop)(H H':Hp):Prop:=∀ y o,H y=some o->¬ F y->H' y=some o
def Gr (F F':Addr->Prop)(H:Hp):Prop:=∀ y,F' y->F y\/H y=none
theorem Gr.old {F F':Addr->Prop}{H H':Hp}(s:ao H H')(g:Gr F F' H'):Gr F F' H:=fun y z=>(g y z).imp id fun q=>s.free q
noncomputable def nameB (x:Str):Bool:=decide (1<=x.length)&&(decide (x.length<=8)&&x.cps.toList.all fun c=>vd ⟨#[c]⟩ "abcdefghijklmnopqrstuvwxyz")
theorem kinds_of {k:Str}(h:inV (.str k) jN=true\/inV (.str k) cH=true):∃ d:Kd,d.str=k:=by
 have go:∀ l:List V,(∀ v∈l,∃ d:Kd,v=.str d.str)->inV (.str k) l=true->∃ d:Kd,d.str=k:=fun l hl h=>by
  unfold inV at h;obtain⟨y,hy,e⟩:=any_eq_true.mp h;obtain⟨d,rfl⟩:=hl y hy;have:d.str=k:=by simpa [Ip] using e
  exact⟨d,this⟩
 have c:∀(l:List Kd),∀ v∈l.map (fun d=>V.str d.str),∃ d:Kd,v=.str d.str:=fun l v hv=>by
  obtain⟨d,_,e⟩:=mem_map.mp hv;exact⟨d,e.symm⟩
 rcases h with h|h
 ·exact go jN (c [.G,.D,.s,.d]) h
 ·exact go cH (c [.R,.r,.dot,.three,.two]) h
theorem PM (d:Kd):inV (.str d.str) jN=d.du:=by cases d <;> decide +kernel
theorem PN (d:Kd):inV (.str d.str) cH = !d.du:=by cases d <;> decide +kernel
theorem OF {sn:Sn}(h:nI sn=true):∃ s:Sg,s.1.str=sn.1/\s.2=sn.2/\ff s:=by
 unfold nI at h;split at h
 ·next h1 =>
  obtain⟨d,hd⟩:=kinds_of (.inl h1);rw[<-hd,PM]at h1;split at h
  ·next h2=>exact⟨(d,sn.2),hd,rfl,⟨(fun _=>⟨G' h2,by have:=G' h;show sn.2<100;omega⟩),fun z=>by rw[show d.du=false from z]at h1;cases h1⟩⟩
  ·cases h
 ·next h1 =>
  split at h
  ·next h2 =>
   obtain⟨d,hd⟩:=kinds_of (.inr h2);rw[<-hd,PN]at h2;exact⟨(d,sn.2),hd,rfl,⟨(fun z=>by rw[show d.du=true from z]at h2;cases h2),fun _=>G' h⟩⟩
  ·cases h
theorem IU {s:Sg}(h:ff s):nI (s.1.str,s.2)=true:=by
 unfold nI;rw[PM,PN];cases hs:s.1.du with
 |true =>
  obtain⟨a,b⟩:=h.1 hs;simp only [if_true];rw[Zc' (L' a)];exact L' (by omega)
 |false =>
  have:=h.2 hs;simp[this]
noncomputable def By:Kd->Kd
 |.three=>.two
 |.two=>.three
 |k=>k
noncomputable def kB (s:Sg):Sg:=(By s.1,s.2)
noncomputable def sR (vw:Vw)(n:Str):List Sg:=match bj vw n with
 |some (.pl ss)=>ss
 |some (.cn ld _ _ tn)=>match bj vw ld with
  |some (.pl ss)=>if tn then ss.map kB else ss
  |_=>[]
 |none=>[]
noncomputable def nJ (vw:Vw)(n:Str):List Int:=match bj vw n with
 |some (.pl ss)=>(gC 3 (bc ss)).1
 |some (.cn ld _ sl tn)=>match bj vw ld with
  |some (.pl ss)=>(gC (if tn then 2 else 3) (bc (if tn then ss.map kB else ss))).1.map fun w=>sl * w
  |_=>[]
 |none=>[]
theorem mn {vw:Vw}{n:Str}{ss:List Sg}(h:bj vw n=some (.pl ss)):sR vw n=ss:=by
 unfold sR;rw[h]
theorem oP {vw:Vw}{n ld:Str}{lt sl:Int}{tn:Bool}{ss:List Sg}(h:bj vw n=some (.cn ld lt sl tn))(h':bj vw ld=some (.pl ss)):sR vw n=if tn=true then ss.map kB else ss:=by
 unfold sR;rw[h];show(match bj vw ld with|some (.pl ss)=>if tn=true then ss.map kB else ss|_=>[])=_;rw[h']
theorem y9 {vw:Vw}{n:Str}{ss:List Sg}(h:bj vw n=some (.pl ss)):nJ vw n=(gC 3 (bc ss)).1:=by
 unfold nJ;rw[h]
theorem za {vw:Vw}{n ld:Str}{lt sl:Int}{tn:Bool}{ss:List Sg}(h:bj vw n=some (.cn ld lt sl tn))(h':bj vw ld=some (.pl ss)):nJ vw n=(gC (if tn then 2 else 3) (bc (if tn then ss.map kB else ss))).1.map fun w=>sl * w:=by
 unfold nJ;rw[h];show(match bj vw ld with|some (.pl ss)=>(gC (if tn then 2 else 3) (bc (if tn then ss.map kB else ss))).1.map fun w=>sl * w|_=>[])=_;rw[h']
theorem QZ {H H':Hp}{x dx C:Addr}(hx:H x=none)(hdx:H dx=none)(kp:∀ y o,(upd (upd H dx (.own x)) x (.ins C dx [])) y=some o->y≠x->H' y=some o):ao H H':=fun y o hy =>
 kp y o (by rw[ak (au hy hx),ak (au hy hdx)];exact hy) (au hy hx)
theorem zb {H:Hp}{x dx D:Addr}{o1 o2:HO}(h:upd (upd H dx o1) x o2 D=none):H D=none:=by
 unfold upd at h;split at h
 ·cases h
 ·split at h
  ·cases h
  ·exact h
theorem IV {H:Hp}{B A:Addr}{o:HO}(h:upd H B o A=none):H A=none:=by
 unfold upd at h;split at h
 ·cases h
 ·exact h
theorem Km (z:Int){k:Int}(hk:0<k):∃ m:Nat,z % k=(m:Int)/\(m:Int)<k:=by
 have z1:=Int.emod_nonneg z (show k≠0 by omega);have z2:=Int.emod_lt_of_pos z hk;exact⟨(z % k).toNat,by omega,by omega⟩
theorem Bk.new {c:Cs}{H:Hp}{x dx L D U:Addr}(hx:H x=some (.ins c.B dx (sN L D U)))(hL:H L=some (.lst []))(hD:H D=some (.lst []))(hU:H U=some (.lst []))(LD:L≠D)(LU:L≠U)(DU:D≠U):yp c H x (fun y=>y=L\/y=D\/y=U) [] [] [] where
 ex:=⟨L,D,U,[],fun _=>[],[],[],[],[],
  {
   hx:=⟨dx,hx⟩,hL:=hL,hD:=⟨[],hD,.nil⟩,hU:=⟨[],hU,.nil⟩,ha:=fun _ h=>(nomatch h),LD:=LD,LU:=LU,DU:=DU,nl:=fun _ h=>(nomatch h),ni:=fun _ h=>(nomatch h),no:=fun _ h=>(nomatch h)
   dd:=fun _ h=>h.elim (fun z=>(nomatch z)) fun z=>(nomatch z)
   past:=.nil
   fut:=.nil
   wf:=fun S hS=>by
    rcases hS with hS|hS|hS
    ·cases hS
    ·subst hS;exact⟨⟨[],.nil⟩,fun _ h=>(nomatch h),Nat.zero_le _,fun _ _ _=>rfl⟩
    ·cases hS },
  .nil,.nil,.nil,⟨.inl rfl,.inr (.inl rfl),.inr (.inr rfl),fun _ h=>(nomatch h),fun _ h=>h.elim (fun z=>(nomatch z)) fun z=>(nomatch z)⟩⟩
 wv:=fun v hv=>by
  rcases hv with hv|hv|hv
  ·cases hv
  ·subst hv;exact⟨.nil,fun _ _ _ _ _ h=>(nomatch h),fun _ _ h=>(nomatch h),Nat.zero_le _⟩
  ·cases hv
theorem Q0 {R:Vx->Str×Th->Prop}{vx:List Vx}{vw:Vw}(h:Paired R vx vw)(hn:∀ a q,R a q->a.n=q.1):vx.map (fun a=>V.str a.n)=vw.map (fun a=>V.str a.1):=by
 induction h with
 |nil=>rfl
 |cons r _ ih=>rw[map_cons,map_cons,ih,hn _ _ r]
theorem EK {vx:List Vx}{vw:Vw}{R:Vx->Str×Th->Prop}(h:Paired R vx vw)(hn:∀ a q,R a q->a.n=q.1)(n:Str) :
  (vx.find? (fun a=>decide (a.n=n))=none/\bj vw n=none)\/∃ a th,∃ j:Nat,vx.find? (fun a=>decide (a.n=n))=some a/\bj vw n=some th/\R a (n,th)/\a.n=n/\vx[j]? = some a/\vw[j]? = some (n,th):=by
 induction h with
 |nil=>exact .inl ⟨rfl,rfl⟩
 | @cons a q as qs r t ih =>
  have e:=hn a q r
  by_cases hq:q.1=n
  ·refine .inr ⟨a,q.2,0,?_,?_,?_,e.trans hq,rfl,by rw[<-hq];rfl⟩
   ·rw[List.find?_cons_of_pos];exact L' (e.trans hq)
   ·unfold bj;rw[List.find?_cons_of_pos (p:=fun q:Str×Th=>decide (q.1=n)) (L' hq)];rfl
   ·rw[<-hq];exact r
  ·have h1:¬ decide (a.n=n)=true:=fun z=>hq (e ▸ G' z);have h2:¬ decide (q.1=n)=true:=fun z=>hq (G' z);have f1:(a::as).find? (fun a=>decide (a.n=n))=as.find? (fun a=>decide (a.n=n)):=List.find?_cons_of_neg h1;have f2:bj (q::qs) n=bj qs n:=by
    unfold bj;rw[List.find?_cons_of_neg (p:=fun q:Str×Th=>decide (q.1=n)) h2]
   rw[f1,f2];exact ih.imp id fun⟨a,th,j,h1,h2,h3,h4,h5,h6⟩=>⟨a,th,j+1,h1,h2,h3,h4,by simpa using h5,by simpa using h6⟩
theorem Bk.added {c:Cs}{H H1 H2 H':Hp}{x L D U:Addr}{all:List Vx}{M:MM}{Ps Fs:List MM}{es us:List Dd}{F:Addr->Prop}{vw:Vw}{ps fs:List Vw}(b:D1 c.B c.V c.D H x L D U all M Ps Fs es us)(i:Is H L all M vw)(pp:Paired (Is H L all) Ps ps)(f:MG F L D U all es us)(wv:∀ v,v∈ps\/v=vw\/v∈fs->sO v)
  {a:Vx} {th:Th} (s1:ao H H1) (n1:H a.o=none) (n2:H a.l=none) (h1:H1 a.o=some (.ins c.V a.d (PK a.n a.tm a.l))) (h2:H1 a.l=some (.lst [])) (ht:∀ M',M' a.l=[]->MF H1 M' a th) (w':sO (vw++[(a.n,th)]))
  {e:Dd} (eT:e.T=L) (ei:e.i=(M L).length) (eb:e.bs=[]) (ea:e.as=[.ref a.o]) (s2:ao H1 H2) (nB:H1 e.B=none) (nA:H1 e.A=none) (hd:qb c.D H2 (.ref e.o) e) {ds:List V} (hD:H D=some (.lst ds)) (pD:Paired (qb c.D H) ds es)
  (fr:∀ y o,H2 y=some o->y≠L->y≠D->y≠U->H' y=some o) (hL':H' L=some (.lst (M L++[.ref a.o]))) (hD':H' D=some (.lst (ds++[.ref e.o]))) (hU':H' U=some (.lst [])) :
  ∃ F',Gr F F' H/\Fr F H H'/\yp c H' x F' (vw++[(a.n,th)]) (ps++[vw]) []:=by
 have s12:=s1.trans s2;have kT:Kept (fun _=>True) H H2:=.same s12;have b2:=(b.grow s1 n1 n2 h1 h2).kept (F:=fun _=>True) ⟨trivial,trivial,trivial,fun _ _=>trivial,fun _ _=>⟨trivial,trivial⟩⟩ (.same s2);have w2:=w'.len;rw[Zd']at w2;have ll:=cE i;have Zt:vw.length+1<=12:=w2;have hM:AO e M L=M L++[.ref a.o]:=by
  unfold AO;rw[eT,yU,ei,eb,ea];simp
 have mo:∀ y,y≠L->AO e M y=M y:=fun y hy=>by
  unfold AO;exact yV (by rw[eT];exact hy)
 have wM:=b2.wf M (.inr (.inl rfl));have Ws:∀ z∈all++[a],z.l≠L:=fun z hz=>(b2.nl z hz).1;obtain⟨ux,hU,_⟩:=b2.hU;have old:∀{y:Addr},H1 y=none->∀{z o},H z=some o->y≠z:=fun {y} hy {z o} hz q=>by rw[q,s1 _ _ hz]at hy;cases hy
 have oA:∀{y:Addr},H1 y=none->y≠L/\y≠D/\y≠U/\∀ z∈all++[a],y≠z.l:=fun {y} hy=>by
  obtain⟨u0,NS,_⟩:=b.hU;refine⟨old hy b.hL,old hy hD,old hy NS,fun z hz=>?_⟩;rcases mem_append.mp hz with hz|hz
  ·exact old hy (b.ha z hz).2
  ·rw[mem_singleton.mp hz];exact fun q=>by rw[q,h2]at hy;cases hy
 have ok:MH L D U (all++[a]) e:=⟨.inl eT,oA nB,oA nA,by rw[eb];simp,by rw[ea];simp⟩;have ft:Fits e M:=⟨by rw[ei,eb,eT];simp,by rw[eb];simp⟩;have TC:WF H2 L (all++[a]) (AO e M) :=
  {
   vs:=(let ⟨vx,p⟩:=wM.vs;⟨vx++[a],by rw[hM];exact iS p ⟨rfl,mem_append_right _ (List.mem_singleton_self _)⟩⟩)
   ln:=fun z hz=>by rw[mo _ (Ws z hz)];exact wM.ln z hz
   len:=by rw[hM,Zd',ll];exact Zt
   out:=fun y h1 h2=>by rw[mo y h1];exact wM.out y h1 h2 }
 have i2:Is H2 L (all++[a]) M vw:=Is.kept kT (Is.grow i);have i':Is H2 L (all++[a]) (AO e M) (vw++[(a.n,th)]):=by
  show Paired _ (AO e M L) _;rw[hM];refine iS ?_ ?_
  ·refine dC (fun v q hq=>?_) i2;obtain⟨z,hz,e1,e2,e3⟩:=hq;refine⟨z,hz,e1,e2,?_⟩;cases hq2:q.2 with
   |pl ss=>rw[hq2]at e3;exact⟨e3.1,by rw[mo _ (Ws z hz)];exact e3.2⟩
   |cn ld lt sl tn=>rw[hq2]at e3;exact e3
  ·refine⟨a,mem_append_right _ (List.mem_singleton_self _),rfl,rfl,?_⟩;have TK:a.l≠L:=Ws a (mem_append_right _ (List.mem_singleton_self _));have:=ht (AO e M) (by rw[mo _ TK];exact(b.wf M (.inr (.inl rfl))).out _ TK fun z hz q=>by rw[q,(b.ha z hz).2]at n2;cases n2);show MF H2 (AO e M) a th;cases th with
   |pl ss=>exact⟨this.1,this.2.same s2⟩
   |cn ld lt sl tn=>obtain⟨p,e1,e2⟩:=this;exact⟨p,e1,s2 _ _ e2⟩
 have B:=Bk.deed b2 i2 (dC (fun _ _ q=>Is.kept kT (Is.grow q)) pp) (F:=fun y=>F y\/y=a.l) ⟨.inl f.L,.inl f.D,.inl f.U,fun z hz=>by
   rcases mem_append.mp hz with hz|hz
   ·exact .inl (f.l z hz)
   ·rw[mem_singleton.mp hz];exact .inr rfl,fun e' he=>⟨.inl (f.d e' he).1,.inl (f.d e' he).2⟩⟩ (fun v hv=>wv v (hv.imp id .inl)) hd ok ft TC i' w' (rC (fun _ e' he q=>pY (F:=fun _=>True) kT ⟨trivial,trivial⟩ q) pD) (H2:=H')
  (fun y o hy y1 y2 y3=>fr y o hy (by rw[<-eT];exact y1) y2 y3) (by rw[eT,hM];exact hL') hD' hU'
 refine⟨_,fun y hy=>?_,fun y o hy hn=>fr y o (s12 y o hy) (fun q=>hn (q ▸ f.L)) (fun q=>hn (q ▸ f.D)) (fun q=>hn (q ▸ f.U)),B⟩;rcases hy with (hy|hy)|hy|hy
 ·exact .inl hy
 ·rw[hy];exact .inr n2
 ·rw[hy];exact .inr (s1.free nB)
 ·rw[hy];exact .inr (s1.free nA)
theorem Bk.TL {c:Cs}{H H1 H':Hp}{x L D U:Addr}{all:List Vx}{M:MM}{Ps Fs:List MM}{es us:List Dd}{F:Addr->Prop}{vw:Vw}{ps fs:List Vw}(b:D1 c.B c.V c.D H x L D U all M Ps Fs es us)(i:Is H L all M vw)(pp:Paired (Is H L all) Ps ps)(f:MG F L D U all es us)(wv:∀ v,v∈ps\/v=vw\/v∈fs->sO v)
  {a:Vx} (ha:a∈all) {j:Nat} {ss ss':List Sg} (hj:(M L)[j]? = some (.ref a.o)) (hm:vw[j]? = some (a.n,.pl ss)) (NT:a.tm=.non) {e:Dd} (eT:e.T=a.l) (ft:Fits e M) (lb:e.bs.length<=1) (la:e.as.length<=1) (s1:ao H H1) (nB:H e.B=none) (nA:H e.A=none) (hd:qb c.D H1 (.ref e.o) e)
  (g':ia H1 (AO e M a.l) ss') (gl:ss'.length<=200) (gg:∀ s∈ss',ff s) {ds:List V} (hD:H D=some (.lst ds)) (pD:Paired (qb c.D H) ds es)
  (fr:∀ y o,H1 y=some o->y≠a.l->y≠D->y≠U->H' y=some o) (hl':H' a.l=some (.lst (AO e M a.l))) (hD':H' D=some (.lst (ds++[.ref e.o]))) (hU':H' U=some (.lst [])) :
  ∃ F',Gr F F' H/\Fr F H H'/\yp c H' x F' (yW vw a.n (.pl ss')) (ps++[vw]) []:=by
 have kT:Kept (fun _=>True) H H1:=.same s1;have b2:=b.kept (F:=fun _=>True) ⟨trivial,trivial,trivial,fun _ _=>trivial,fun _ _=>⟨trivial,trivial⟩⟩ kT;have mo:∀ y,y≠a.l->AO e M y=M y:=fun y hy=>yV (by rw[eT];exact hy);have wM:=b2.wf M (.inr (.inl rfl));have XJ:=wv vw (.inr (.inl rfl));have oA:∀{y:Addr},H y=none->y≠L/\y≠D/\y≠U/\∀ z∈all,y≠z.l:=fun {y} hy=>by
  obtain⟨u0,NS,_⟩:=b.hU;exact⟨Ne.symm (au b.hL hy),Ne.symm (au hD hy),Ne.symm (au NS hy),fun z hz=>Ne.symm (au (b.ha z hz).2 hy)⟩
 have ok:MH L D U all e:=⟨.inr ⟨a,ha,eT⟩,oA nB,oA nA,lb,la⟩;have TK:L≠a.l:=Ne.symm (b.nl a ha).1;have TC:WF H1 L all (AO e M) :=
  {
   vs:=by rw[mo L TK];exact wM.vs
   ln:=fun z hz=>by
    by_cases XM:z.l=a.l
    ·rw[XM];refine⟨by rw[cE g'];exact gl,fun v hv=>?_⟩;obtain⟨k,hk⟩:=getElem?_of_mem hv;obtain⟨sg,e1,e2⟩:=oK g' hk;exact⟨sg,e2,gg sg (Zh' e1)⟩
    ·rw[mo _ XM];exact wM.ln z hz
   len:=by rw[mo L TK];exact wM.len
   out:=fun y h1 h2=>by rw[mo y (h2 a ha)];exact wM.out y h1 h2 }
 have i2:Is H1 L all M vw:=Is.kept kT i;have B:=Bk.deed b2 i2 (dC (fun _ _ q=>Is.kept kT q) pp) f (fun v hv=>wv v (hv.imp id .inl)) hd ok ft TC (Is.line b2 i2 XJ ha hj hm NT mo g') (XJ.set (Zh' hm) gl gg) (rC (fun _ e' he q=>pY (F:=fun _=>True) kT ⟨trivial,trivial⟩ q) pD) (H2:=H')
  (fun y o hy y1 y2 y3=>fr y o hy (by rw[<-eT];exact y1) y2 y3) (by rw[eT];exact hl') hD' hU'
 refine⟨_,fun y hy=>?_,fun y o hy hn=>fr y o (s1 y o hy) (fun q=>hn (q ▸ f.l a ha)) (fun q=>hn (q ▸ f.D)) (fun q=>hn (q ▸ f.U)),B⟩;rcases hy with hy|hy|hy
 ·exact .inl hy
 ·rw[hy];exact .inr nB
 ·rw[hy];exact .inr nA
def MJ (H:Hp)(v:V):Th->Prop
 |.pl ss=>∃ l ys,v=.ref l/\H l=some (.lst ys)/\ia H ys ss
 |.cn ld lt sl tn=>∃ p,v=.ref p/\H p=some (.tup [.str ld,.int lt,.int sl,.bl tn])
def Kn (H:Hp)(kv:Key×V)(q:Str×Th):Prop:=kv.1=Sum.inr q.1/\MJ H kv.2 q.2
def km (H:Hp)(d:Addr)(vw:Vw):Prop:=∃ kvs,H d=some (.dK kvs)/\Paired (Kn H) kvs vw
theorem MJ.same {H H':Hp}(s:ao H H'){v:V}{th:Th}(h:MJ H v th):MJ H' v th:=by
 cases th with
 |pl ss=>obtain⟨l,ys,e1,e2,e3⟩:=h;exact⟨l,ys,e1,s _ _ e2,e3.same s⟩
 |cn ld lt sl tn=>obtain⟨p,e1,e2⟩:=h;exact⟨p,e1,s _ _ e2⟩
theorem Kn.same {H H':Hp}(s:ao H H'){kv:Key×V}{q:Str×Th}(h:Kn H kv q):Kn H' kv q:=⟨h.1,h.2.same s⟩
theorem km.same {H H':Hp}(s:ao H H'){d:Addr}{vw:Vw}(h:km H d vw):km H' d vw:=by
 obtain⟨kvs,e,p⟩:=h;exact⟨kvs,s _ _ e,dC (fun _ _ q=>q.same s) p⟩
theorem Q3 {H:Hp}{kvs:List (Key×V)}{vw:Vw}(h:Paired (Kn H) kvs vw){n:Str}{th:Th}(hf:bj vw n=some th):∃ v,lN kvs (Sum.inr n)=some v/\MJ H v th:=by
 induction h with
 |nil=>cases hf
 | @cons kv q as qs r t ih =>
  by_cases hq:q.1=n
  ·have e:bj (q::qs) n=some q.2:=by
    unfold bj;rw[List.find?_cons_of_pos (p:=fun q:Str×Th=>decide (q.1=n)) (L' hq)];rfl
   rw[e]at hf;cases hf;refine⟨kv.2,?_,r.2⟩;unfold lN;rw[List.find?_cons_of_pos (p:=fun kv:Key×V=>decide (kv.1=Sum.inr n)) (L' (by rw[r.1,hq]))];rfl
  ·have e:bj (q::qs) n=bj qs n:=by
    unfold bj;rw[List.find?_cons_of_neg (p:=fun q:Str×Th=>decide (q.1=n)) (fun z=>hq (G' z))]
   rw[e]at hf;obtain⟨v,h1,h2⟩:=ih hf;refine⟨v,?_,h2⟩;unfold lN at h1 ⊢;rw[List.find?_cons_of_neg (p:=fun kv:Key×V=>decide (kv.1=Sum.inr n)) (fun z=>hq (Sum.inr.inj (r.1.symm.trans (G' z))))];exact h1
theorem km.get {H:Hp}{d:Addr}{vw:Vw}(h:km H d vw){n:Str}{th:Th}(hf:bj vw n=some th):∃ v,mf H d (.str n) (some v)/\MJ H v th:=by
 obtain⟨kvs,e,p⟩:=h;obtain⟨v,h1,h2⟩:=Q3 p hf;refine⟨v,?_,h2⟩;have:=mf.k (k:=Sum.inr n) e;rw[h1]at this;exact this
theorem km.keys {H:Hp}{d:Addr}{vw:Vw}(h:km H d vw):∃ kvs,H d=some (.dK kvs)/\(kvs.map fun kv=>kV kv.1)=vw.map fun q=>V.str q.1:=by
 obtain⟨kvs,e,p⟩:=h;refine⟨kvs,e,?_⟩;clear e
 induction p with
 |nil=>rfl
 |cons r _ ih=>rw[map_cons,map_cons,ih,r.1];rfl
theorem Bk.TM {CB CV CD:Addr}{H:Hp}{x:Addr}{F:Addr->Prop}{vw:Vw}{ps fs:List Vw}(h:Bk CB CV CD H x F vw ps fs):∃ F0:Addr->Prop,(∀ y,F0 y->F y)/\(∀ y,F0 y->∃ xs,H y=some (.lst xs))/\Bk CB CV CD H x F0 vw ps fs:=by
 obtain⟨L,D,U,all,M,Ps,Fs,es,us,b,i,pp,pf,f⟩:=h.ex;obtain⟨ds,hD,pD⟩:=b.hD;obtain⟨ux,hU,pU⟩:=b.hU;have dd:∀ e,e∈es\/e∈us->H e.B=some (.lst e.bs)/\H e.A=some (.lst e.as):=fun e he=>by
  rcases he with he|he
  ·obtain⟨k,hk⟩:=getElem?_of_mem he;obtain⟨v,_,q⟩:=wc pD hk;exact⟨q.2.2.1,q.2.2.2⟩
  ·obtain⟨k,hk⟩:=getElem?_of_mem he;obtain⟨v,_,q⟩:=wc pU hk;exact⟨q.2.2.1,q.2.2.2⟩
 refine⟨fun y=>y=L\/y=D\/y=U\/(∃ a∈all,y=a.l)\/∃ e,(e∈es\/e∈us)/\(y=e.B\/y=e.A),fun y hy=>?_,fun y hy=>?_,⟨⟨L,D,U,all,M,Ps,Fs,es,us,b,i,pp,pf,⟨.inl rfl,.inr (.inl rfl),.inr (.inr (.inl rfl)),fun a ha=>.inr (.inr (.inr (.inl ⟨a,ha,rfl⟩))),fun e he=>⟨.inr (.inr (.inr (.inr ⟨e,he,.inl rfl⟩))),.inr (.inr (.inr (.inr ⟨e,he,.inr rfl⟩)))⟩⟩⟩,h.wv⟩⟩
 ·rcases hy with rfl|rfl|rfl|⟨a,ha,rfl⟩|⟨e,he,rfl|rfl⟩
  ·exact f.L
  ·exact f.D
  ·exact f.U
  ·exact f.l a ha
  ·exact(f.d e he).1
  ·exact(f.d e he).2
 ·rcases hy with rfl|rfl|rfl|⟨a,ha,rfl⟩|⟨e,he,rfl|rfl⟩
  ·exact⟨_,b.hL⟩
  ·exact⟨_,hD⟩
  ·exact⟨_,hU⟩
  ·exact⟨_,(b.ha a ha).2⟩
  ·exact⟨_,(dd e he).1⟩
  ·exact⟨_,(dd e he).2⟩
def Wt (own:List Addr)(H H':Hp):Prop:=∀ y o,H y=some o->((∀ xs,o≠.lst xs)\/y∈own)->H' y=some o
section
variable {c:Cs} {H H' H1:Hp} {x:Addr} {own:List Addr} {vw QW:Vw} {ps ps' fs fs':List Vw} {F F':Addr->Prop}
end
def zc (H:Hp)(y:V)(q:Str×Th):Prop:=∃ p v,y=.ref p/\H p=some (.tup [.str q.1,v])/\MJ H v q.2
def Q4 (H:Hp)(l:Addr)(vw:Vw):Prop:=∃ ys,H l=some (.lst ys)/\Paired (zc H) ys vw
theorem zc.same {H H':Hp}(s:ao H H'){y:V}{q:Str×Th}(h:zc H y q):zc H' y q:=by
 obtain⟨p,v,e1,e2,e3⟩:=h;exact⟨p,v,e1,s _ _ e2,e3.same s⟩
structure MK (vw:Vw):Prop where
 w:sO vw
 nm:∀ q∈vw,nameB q.1=true/\q.1 ≠ "zed"/\q.1.length<=1000
 ld:∀(i:Nat) n ld lt sl tn,vw[i]? = some (n,Th.cn ld lt sl tn)->∃ ss,(ld,Th.pl ss)∈vw.take i
 sh:∀ n ss,(n,Th.pl ss)∈vw->ss.length<=24
end bQ
namespace L2
open PySem PySem.Spec PyProof.Rows
variable {X:Cx}
end L2
namespace bQ
open PySem L2
end bQ
namespace L2
open PySem PySem.Spec PyProof.Rows
theorem Dj {z:Str}{g:TG}{tb:TS}{D:Ends}{σ:St}{H:Hp}(Pv:Nat->St->Hp->Prop)(h0:Pv 0 σ H)
  (hs:∀ i c σ H,z.cps[i]? = some c->Pv i σ H->g (.str ⟨#[c]⟩) σ H fun σ2 H2=>tb { D with nx:=Pv (i+1),ct:=Pv (i+1),bk:=D.nx } σ2 H2) (hd:∀ σ H,Pv z.cps.size σ H->D.nx σ H) :
  ∃ W:Nat->Nat->St->Hp->Prop,(∃ m,W 0 m σ H)/\∀ i m σ H,W i m σ H ->
   ((RU z).stop i H/\D.nx σ H)\/((RU z).go i H/\∃ N:St->Hp->Prop,(∀ σ' H',N σ' H'->∃ m',m'<m/\W (i+1) m' σ' H')/\∀ x H',(RU z).JL i H x H'->g x σ H' fun σ2 H2=>tb { D with nx:=N,ct:=N,bk:=D.nx } σ2 H2):=by
 refine⟨fun i m σ H=>m=z.cps.size-i/\i<=z.cps.size/\Pv i σ H,⟨z.cps.size,by simp,Nat.zero_le _,h0⟩,?_⟩;rintro i m σ H ⟨rfl,hi,p⟩
 by_cases hlt:i<z.cps.size
 ·refine .inr ⟨hlt,Pv (i+1),fun σ' H' p'=>⟨z.cps.size-(i+1),by omega,rfl,hlt,p'⟩,fun x H' y=>?_⟩;obtain⟨e,c,hc,rfl⟩:=y;subst e;exact hs i c σ _ hc p
 ·have e:i=z.cps.size:=by omega
  subst e;exact .inl ⟨X' _,hd σ H p⟩
end L2
namespace bQ
open PySem L2
noncomputable def qo (ks:List Kd):Nat->Nat->Nat
 |0,_=>0
 |p+1,met=>if(if(ks.getD p .dot).small=true then met else met+1)=2 then p else qo ks p (if(ks.getD p .dot).small=true then met else met+1)
noncomputable def Bz (wide:Bool)(k:Kd):Bool:=if wide=true then k.meas else k.parting
noncomputable def BA (ks:List Kd)(i:Nat)(wide:Bool):Nat:=i+((ks.drop i).takeWhile fun k=>!Bz wide k).length
noncomputable def Hc (wide:Bool):List V:=if wide=true then [.str "3",.str "2"] else [.str ".",.str "3",.str "2"]
theorem ML (wide:Bool)(k:Kd):inV (.str k.str) (Hc wide)=Bz wide k:=by cases wide <;> cases k <;> decide +kernel
noncomputable def TN (ss:List Sg)(i b:Nat)(ch:List Sg):List V:=[.int (qo (bc ss) i 0:Nat),.int (BA (bc ss) b (ch.any fun s=>s.1.meas):Nat)]
theorem EL {p:Kd->Bool}:∀{l:List Kd} {j:Nat} {k:Kd},(∀ m x,m<j->l[m]? = some x->p x=true)->l[j]? = some k->p k=false->(l.takeWhile p).length=j
 |[],_,_,_,h,_=>by simp at h
 |x::l,0,k,_,h,hk=>by
  simp only [List.getElem?_cons_zero,Option.some.injEq]at h;rw[h,List.takeWhile_cons_of_neg (by rw[hk];decide)];rfl
 |x::l,j+1,k,hi,h,hk=>by
  rw[List.takeWhile_cons_of_pos (hi 0 x (Nat.succ_pos _) rfl),Zk',EL (l:=l) (j:=j) (fun m y hm hy=>hi (m+1) y (Nat.succ_lt_succ hm) (by simpa using hy)) (by simpa using h) hk]
theorem BB {p:Kd->Bool}:∀{l:List Kd},(∀(m:Nat)(x:Kd),l[m]? = some x->p x=true)->(l.takeWhile p).length=l.length
 |[],_=>rfl
 |x::l,h=>by
  rw[List.takeWhile_cons_of_pos (h 0 x rfl),Zk',Zk',BB (l:=l) fun m y hy=>h (m+1) y (by simpa using hy)]
theorem OG {ks:List Kd}{i j:Nat}{wide:Bool}{k:Kd}(hi:∀ m x,m<j->ks[i+m]? = some x->Bz wide x=false)(h:ks[i+j]? = some k)(hk:Bz wide k=true):BA ks i wide=i+j:=by
 unfold BA;rw[EL (j:=j) (k:=k) (fun m x hm hx=>by rw[getElem?_drop]at hx;rw[hi m x hm hx];rfl) (by rw[getElem?_drop];exact h) (by rw[hk];rfl)]
theorem MN {ks:List Kd}{i:Nat}{wide:Bool}(hl:i<=ks.length)(hi:∀(m:Nat)(x:Kd),ks[i+m]? = some x->Bz wide x=false):BA ks i wide=ks.length:=by
 unfold BA;rw[BB (fun m x hx=>by rw[getElem?_drop]at hx;rw[hi m x hx];rfl),length_drop];omega
inductive Wy where
 |put|cut|swap|add|canon|drop|undo|Wu
 deriving DecidableEq
noncomputable def Wy.str:Wy->Str
 |.put=>"put" | .cut=>"cut" | .swap=>"swap" | .add=>"add" | .canon=>"canon" | .drop=>"drop" | .undo=>"undo" | .Wu=>"redo"
def eE (lt sl:Int):Prop:=0<=lt/\lt<=999/\1<=sl/\sl<=9
instance (lt sl:Int):Decidable (eE lt sl):=by unfold eE;exact inferInstance
noncomputable def bU (vw:Vw)(n:Str):Option Rf:=if nameB n=false then some .yo else if(bj vw n).isSome then some .pZ else if 12<=vw.length then some .Full else none
noncomputable def cR (vw:Vw)(ld:Str)(lt sl:Int):Option Rf:=match bj vw ld with
 |none=>some .gi
 |some (.cn _ _ _ _)=>some .iU
 |some (.pl _)=>if eE lt sl then none else some .jm
noncomputable def Rf.str:Rf->Str
 |.sP=>"BadSign" | .yo=>"BadName" | .pZ=>"NameTaken" | .Full=>"Full" | .gi=>"NoVoice" | .iU=>"NotPlain" | .sQ=>"NoPlace" | .jm=>"BadTerm" | .yZ=>"Leaned" | .y8=>"NoMore"
noncomputable def MO:Option Rf->Str
 |none=>""
 |some r=>r.str
theorem EM {K:Frag}{H:Hp}{p:Addr}{xs:List V}{i:Nat}{v:V}{Q:VK}(h:H p=some (.tup xs))(e:xs[i]? = some v)(q:Q v H):CW K (.ref p) (.int (i:Int)) H Q\/CY K (.ref p) (.int (i:Int)) H Q\/CZ (.ref p) (.int (i:Int)) H Q:=.inr (.inl ⟨p,_,i,v,rfl,rfl,iQ.of h,eQ e,q⟩)
theorem MP {H:Hp}{kvs:List (Key×V)}{vw:Vw}(h:Paired (Kn H) kvs vw){n:Str}(hf:bj vw n=none):lN kvs (Sum.inr n)=none:=by
 cases e:lN kvs (Sum.inr n) with
 |none=>rfl
 |some v =>
  have hm:=Om e;obtain⟨kv,hk,hk2⟩:=mem_map.mp hm;obtain⟨i,hi⟩:=getElem?_of_mem hk;obtain⟨q,hq,r⟩:=oK h hi;exact j' (Sum.inr.inj (r.1.symm.trans hk2)) (iu hf q (Zh' hq))
theorem km.look {H:Hp}{d:Addr}{vw:Vw}(h:km H d vw)(n:Str):(bj vw n=none/\mf H d (.str n) none)\/∃ th v,bj vw n=some th/\mf H d (.str n) (some v)/\MJ H v th:=by
 cases e:bj vw n with
 |none =>
  obtain⟨kvs,e1,p⟩:=h;have:=mf.k (k:=Sum.inr n) e1;rw[MP p e]at this;exact .inl ⟨rfl,this⟩
 |some th =>
  obtain⟨v,h1,h2⟩:=h.get e;exact .inr ⟨th,v,rfl,h1,h2⟩
theorem km.len {H:Hp}{d:Addr}{vw:Vw}(h:km H d vw):∃ kvs,H d=some (.dK kvs)/\kvs.length=vw.length:=by
 obtain⟨kvs,e,p⟩:=h;exact⟨kvs,e,cE p⟩
noncomputable def d4 (s:Sg):Str:=if s.1.du=true then s.1.str++ow s.2 else s.1.str
theorem MQ (k:Kd):k.str.length=1:=by cases k <;> decide +kernel
theorem vm {s:Sg}(h:ff s):(d4 s).length<=3:=by
 unfold d4;have h1:=MQ s.1
 by_cases e:s.1.du=true
 ·rw[Zc' e,PySem.Str.length_append];have:=OE (h.1 e).1 (h.1 e).2;omega
 ·rw[Za' e];omega
theorem OI:(List.range 1000).all (fun n=>decide ((ow (n:Int)).length<=3))=true:=by lk
theorem EN {n:Int}(h0:0<=n)(h1:n<1000):(ow n).length<=3:=by
 have:=all_eq_true.mp OI n.toNat (mem_range.mpr (by omega));have e:((n.toNat:Nat):Int)=n:=by omega
 rw[e]at this;exact G' this
theorem MR {n:Int}(h0:0<=n)(h1:n<1000):n.natAbs.log2<1920:=by
 have hb:n.natAbs<2 ^ 1920:=Ze' (show n.natAbs<2 ^ 10 by omega) (Nat.pow_le_pow_right (by decide) (by decide))
 by_cases z:n.natAbs=0
 ·rw[z];decide
 ·exact(Nat.log2_lt z).mpr hb
noncomputable def IW (ss:List Sg):Str:=Str.join " " (ss.map d4)
theorem jO:∀{ss:List Sg},(∀ s∈ss,ff s)->((ss.map d4).map (·.length)).sum<=3 * ss.length
 |[],_=>X' _
 |s::ss,h=>by
  have h1:=vm (h s mem_cons_self);have h2:=jO fun x hx=>h x (mem_cons_of_mem _ hx);simp only [map_cons,List.sum_cons,Zk'];omega
noncomputable def oQ (tn:Bool):Str:=if tn=true then "turned" else "straight"
noncomputable def mX (q:Str×Th):Str:=match q.2 with
 |.pl ss=>Str.join " " ("voice" :: q.1::ss.map d4)
 |.cn ld lt sl tn=>"canon " ++ q.1 ++ " " ++ ld ++ " " ++ ow lt ++ " " ++ ow sl ++ " " ++ oQ tn
noncomputable def MS (vw:Vw):Str:=Str.join "\n" (vw.map mX)
theorem join_cons (d a b:Str)(t:List Str):Str.join d (a::b::t)=a++d++Str.join d (b::t):=rfl
theorem IX (n:Str):mX (n,.pl []) = "voice " ++ n:=by
 show Str.join " " ["voice",n]=_;rw[join_cons];rfl
theorem MT:("voice":Str) ++ " " = "voice ":=by lk
theorem EO (n:Str)(s:Sg)(ss:List Sg):mX (n,.pl (s::ss)) = "voice " ++ n ++ " " ++ IW (s::ss):=by
 show Str.join " " ("voice" :: n::d4 s::ss.map d4)=_;rw[join_cons,join_cons,MT];simp only [PySem.Str.append_assoc];rfl
noncomputable def jl (c:Nat):List (List Nat)->List Nat
 |[]=>[]
 |[x]=>x
 |x::y::r=>x++c::jl c (y::r)
noncomputable def MU (q:Str×Th):List Str:=match q.2 with
 |.pl ss=>"voice" :: q.1::ss.map d4
 |.cn ld lt sl tn=>["canon",q.1,ld,ow lt,ow sl,oQ tn]
theorem MV:("canon":Str) ++ " " = "canon ":=by lk
theorem Ko (q:Str×Th):mX q=Str.join " " (MU q):=by
 obtain⟨n,th⟩:=q;cases th with
 |pl ss=>rfl
 |cn ld lt sl tn =>
  show _=Str.join " " ["canon",n,ld,ow lt,ow sl,oQ tn];rw[join_cons,join_cons,join_cons,join_cons,join_cons,MV];show "canon " ++ n ++ " " ++ ld ++ " " ++ ow lt ++ " " ++ ow sl ++ " " ++ oQ tn=_;simp only [PySem.Str.append_assoc];rfl
def Fw (w:Str):Prop:=32 ∉ w.cps.toList/\10 ∉ w.cps.toList
instance (w:Str):Decidable (Fw w):=inferInstanceAs (Decidable (_/\_))
noncomputable def eN:List Nat:=[48,49,50,51,52,53,54,55,56,57]
def Q5 (z:Str)(n:Int):Prop:=1<=z.length/\z.length<=3/\(∀ c∈z.cps.toList,c∈eN)/\¬(1<z.length/\z.cps.toList[0]? = some 48)/\intText? z=some n
instance (z:Str) (n:Int):Decidable (Q5 z n):=inferInstanceAs (Decidable (_/\_/\_/\_/\_))
theorem Q6:(List.range 1000).all (fun n=>decide (Q5 (ow (n:Int)) (n:Int))&&decide ((n:Nat)<100->(ow (n:Int)).length<=2))=true:=by lk
theorem TQ {n:Int}(h0:0<=n)(h1:n<1000):Q5 (ow n) n/\(n<100->(ow n).length<=2):=by
 have:=all_eq_true.mp Q6 n.toNat (mem_range.mpr (by omega));rw[Bool.and_eq_true]at this;have e:((n.toNat:Nat):Int)=n:=Int.toNat_of_nonneg h0;rw[e]at this;exact⟨G' this.1,fun h=>G' this.2 (by omega)⟩
noncomputable def IY:List V:=[.str "0",.str "1",.str "2",.str "3",.str "4",.str "5",.str "6",.str "7",.str "8",.str "9"]
noncomputable def chr (c:Nat):Str:=⟨#[c]⟩
theorem yq (d c:Nat):(chr d==chr c)=decide (c=d):=by
 by_cases h:c=d
 ·subst h;rw[beq_self_eq_true,L' rfl]
 ·rw[V' h];refine Y'.mpr fun q=>h ?_;have e:=beq_iff_eq.mp q;unfold chr at e
  injection e with e
  have:[d]=[c]:=Zn' Array.toList e;exact(List.cons.inj this).1.symm
theorem IZ (c:Nat):∀ l:List Nat,inV (.str (chr c)) (l.map fun d=>V.str (chr d))=decide (c∈l)
 |[]=>by simp[inV]
 |d::l=>by
  show((chr d==chr c)||inV (.str (chr c)) (l.map fun d=>V.str (chr d)))=_;rw[IZ c l,yq]
  by_cases h:c=d <;> simp[h]
theorem OJ (c:Nat):inV (.str (chr c)) IY=decide (c∈eN):=by
 have e:IY=eN.map fun d=>V.str (chr d):=by lk
 rw[e];exact IZ c eN
theorem oR:Str.ofString "0"=chr 48:=by lk
theorem OK {z:Str}{c:Nat}{cs:List Nat}(h:z.cps.toList=c::cs):Txt.slice z none (some 1)=chr c:=by
 show StrLaws.sliceText z none (some 1)=chr c;rw[StrLaws.sliceText_to (by rw[h,Zk'];omega),h];rfl
theorem Dk {z:Str}{c:Nat}{cs:List Nat}(h:z.cps.toList=c::cs):Txt.slice z (some 1) none=⟨cs.toArray⟩:=by
 show StrLaws.sliceText z (some 1) none=⟨cs.toArray⟩;rw[StrLaws.sliceText_from (by rw[h,Zk'];omega),h];show(⟨_⟩:Str)=⟨_⟩
 congr 2
 show cs.take _=cs;exact List.take_of_length_le (by rw[Zk'];omega)
def Wv (k:Kd)(n:Int):Prop:=inV (.str (k.str++ow n)) cH=false/\(k.str++ow n).length<=64/\Txt.slice (k.str++ow n) none (some 1)=k.str/\Txt.slice (k.str++ow n) (some 1) none=ow n/\inV (.str k.str) jN=true
instance (k:Kd) (n:Int):Decidable (Wv k n):=inferInstanceAs (Decidable (_/\_/\_/\_/\_))
noncomputable def okN (m:Nat)(cs:List Nat):Bool:=decide (1<=cs.length)&&(decide (cs.length<=m)&&(cs.all (fun c=>decide (c∈eN)) && !(decide (1<cs.length)&&decide (cs[0]? = some 48))))
noncomputable def fY (m:Nat)(z:Str):Option Int:=if okN m z.cps.toList=true then intText? z else none
theorem i3 {m:Nat}{cs:List Nat}(h:okN m cs=true):1<=cs.length/\cs.length<=m/\(∀ c∈cs,c∈eN)/\¬(1<cs.length/\cs[0]? = some 48):=by
 unfold okN at h;rw[Bool.and_eq_true,Bool.and_eq_true,Bool.and_eq_true,all_eq_true]at h;obtain⟨a,b,c,d⟩:=h;refine⟨G' a,G' b,fun x hx=>G' (c x hx),fun z=>?_⟩;rw[L' z.1,L' z.2]at d;cases d
theorem Dl {m:Nat}{cs:List Nat}(a:1<=cs.length)(b:cs.length<=m)(c:∀ x∈cs,x∈eN)(d:¬(1<cs.length/\cs[0]? = some 48)):okN m cs=true:=by
 unfold okN;rw[L' a,L' b,all_eq_true.mpr fun x hx=>L' (c x hx)];cases e:decide (1<cs.length)&&decide (cs[0]? = some 48) with
 |false=>rfl
 |true =>
  rw[Bool.and_eq_true]at e;exact j' ⟨G' e.1,G' e.2⟩ d
theorem ER {c:Nat}(h:c∈eN):48<=c/\c<=57:=by
 have:eN.all (fun c=>decide (48<=c/\c<=57))=true:=by decide
 exact G' (all_eq_true.mp this c h)
theorem p3 {m:Nat}{z:Str}(h:okN m z.cps.toList=true)(hm:m<=4):intText? z=some ((NumText.digitsVal z.cps.toList:Nat):Int):=by
 obtain⟨a,b,c,d⟩:=i3 h;have hl:z.cps.toList.length=z.length:=Array.length_toList;exact intText_digits (fun x hx=>ER (c x hx)) (by intro e;rw[e]at a;simp at a) (by omega)
theorem yr {m:Nat}{z:Str}(h:okN m z.cps.toList=false):fY m z=none:=Za' (by rw[h];decide)
theorem Dm {m:Nat}{z:Str}(h:okN m z.cps.toList=true):fY m z=intText? z:=Zc' h
noncomputable def TR (cs:List Nat):Bool:=if 1<cs.length/\cs[0]? = some 48 then true else decide (NumText.digitsVal cs<10 ^ cs.length/\ow ((NumText.digitsVal cs:Nat):Int)=⟨cs.toArray⟩)
theorem Zx:eN.all (fun a=>TR [a])=true:=by lk
theorem Zy:eN.all (fun a=>eN.all fun b=>TR [a,b])=true:=by lk
theorem Zz:eN.all (fun a=>eN.all fun b=>eN.all fun c=>TR [a,b,c])=true:=by lk
theorem TV:∀{cs:List Nat},okN 3 cs=true->NumText.digitsVal cs<10 ^ cs.length/\ow ((NumText.digitsVal cs:Nat):Int)=⟨cs.toArray⟩:=by
 intro cs h;obtain⟨a,b,c,d⟩:=i3 h;have key:TR cs=true:=by
  match cs,a,b,c with
  |[],a,_,_=>simp at a
  |[x],_,_,c=>exact all_eq_true.mp Zx x (c x (by simp))
  |[x,y],_,_,c=>exact all_eq_true.mp (all_eq_true.mp Zy x (c x (by simp))) y (c y (by simp))
  |[x,y,z],_,_,c=>exact all_eq_true.mp (all_eq_true.mp (all_eq_true.mp Zz x (c x (by simp))) y (c y (by simp))) z (c z (by simp))
  |_::_::_::_::_,_,b,_=>simp at b
 unfold TR at key;rw[Za' d]at key;exact G' key
theorem ES {m k:Nat}(h:m<=k){cs:List Nat}(o:okN m cs=true):okN k cs=true:=by
 obtain⟨a,b,c,d⟩:=i3 o;exact Dl a (by omega) c d
theorem ET (z:Str):(⟨z.cps.toList.toArray⟩:Str)=z:=Str.ext' (by simp)
theorem zd {m:Nat}{z:Str}{n:Int}(hm:m<=3)(h:fY m z=some n):0<=n/\n<10 ^ m/\z=ow n:=by
 unfold fY at h;split at h
 ·rename_i o
  rw[p3 o (by omega)]at h;obtain rfl:=W' h;obtain⟨h1,h2⟩:=TV (ES hm o);obtain⟨a,b,c,d⟩:=i3 o;refine⟨by omega,?_,(ET z).symm.trans h2.symm⟩;have:10 ^ z.cps.toList.length<=10 ^ m:=Nat.pow_le_pow_right (by decide) b;have h3:NumText.digitsVal z.cps.toList<10 ^ m:=Ze' h1 this
  exact_mod_cast h3
 ·cases h
theorem Ww {z:Str}{n:Int}(o:okN 4 z.cps.toList=true)(h:intText? z=some n):(fY 3 z=some n)\/(fY 3 z=none/\1000<=n):=by
 obtain⟨a,b,c,d⟩:=i3 o
 by_cases h3:z.cps.toList.length<=3
 ·left
  rw[Dm (Dl a h3 c d),h]
 ·right
  refine⟨yr (by cases e:okN 3 z.cps.toList with|false=>rfl|true=>exact j' (i3 e).2.1 h3),?_⟩;rw[p3 o (by decide)]at h;obtain rfl:=W' h;have l4:z.cps.toList.length=4:=by omega
  generalize z.cps.toList=cs at *
  match cs,l4 with
  |[x,y,v,w],_ =>
   have hx:=ER (c x (by simp));have XN:x≠48:=fun e=>d ⟨by simp,by simp[e]⟩;have:1000<=NumText.digitsVal [x,y,v,w]:=by
    unfold NumText.digitsVal;simp only [List.foldl_cons,List.foldl_nil];omega
   exact_mod_cast this
theorem MW {w:Str}{l:List Kd}{k:Kd}(h:l.find? (fun k=>decide (k.str=w))=some k):k.str=w:=by
 have:=List.find?_some (p:=fun k:Kd=>decide (k.str=w)) h;exact G' this
theorem Ja (w:Str):∀ l:List Kd,inV (.str w) (l.map fun k=>V.str k.str)=(l.find? fun k=>decide (k.str=w)).isSome:=by
 intro l
 induction l with
 |nil=>rfl
 |cons k l ih =>
  show((k.str==w)||inV (.str w) (l.map fun k=>V.str k.str))=_;rw[ih]
  by_cases h:k.str=w
  ·rw[List.find?_cons_of_pos (p:=fun k:Kd=>decide (k.str=w)) (L' h),h];simp
  ·rw[List.find?_cons_of_neg (p:=fun k:Kd=>decide (k.str=w)) (fun z=>h (G' z))];have:(k.str==w)=false:=by simpa using h
   rw[this];rfl
noncomputable def Hd:List Kd:=[.R,.r,.dot,.three,.two]
noncomputable def OL:List Kd:=[.G,.D,.s,.d]
noncomputable def EU (c:Nat):Option Kd:=OL.find? fun k=>decide (k.str=chr c)
noncomputable def eo (w:Str):Option Sg:=match Hd.find? (fun k=>decide (k.str=w)) with
 |some k=>some (k,0)
 |none=>match w.cps.toList with
  |[]=>none
  |c::cs=>match EU c with
   |none=>none
   |some k=>(fY 2 ⟨cs.toArray⟩).map fun n=>(k,n)
theorem oS {c:Nat}{k:Kd}(h:EU c=some k):k.str=chr c/\k.du=true:=by
 unfold EU at h;refine⟨MW h,?_⟩;have m:=List.mem_of_find?_eq_some h;have a:OL.all (fun k=>k.du)=true:=by decide
 exact all_eq_true.mp a k m
theorem TX (w:Str):inV (.str w) cH=(Hd.find? fun k=>decide (k.str=w)).isSome:=by
 have e:cH=Hd.map fun k=>V.str k.str:=by lk
 rw[e];exact Ja w Hd
theorem Wx (c:Nat):inV (.str (chr c)) jN=(EU c).isSome:=by
 have e:jN=OL.map fun k=>V.str k.str:=by lk
 rw[e];exact Ja (chr c) OL
theorem EV {w:Str}{s:Sg}(h:eo w=some s):ff s/\w=d4 s:=by
 unfold eo at h;split at h
 ·rename_i k hk
  obtain rfl:=W' h;have e:k.str=w:=MW hk;have m:=List.mem_of_find?_eq_some hk;have ns:k.du=false:=by
   have:Hd.all (fun k=>!k.du)=true:=by decide
   have:=all_eq_true.mp this k m;cases z:k.du with
   |false=>rfl
   |true=>rw[z]at this;cases this
  refine⟨⟨fun z=>?_,fun _=>rfl⟩,?_⟩
  ·have z:k.du=true:=z;rw[ns]at z;cases z
  ·unfold d4;rw[Za' (by show ¬ k.du=true;rw[ns];decide)];exact e.symm
 ·split at h
  ·cases h
  ·rename_i c cs hc
   split at h
   ·cases h
   ·rename_i k hk
    obtain⟨e1,e2⟩:=oS hk;cases hn:fY 2 ⟨cs.toArray⟩ with
    |none=>rw[hn]at h;cases h
    |some n =>
     rw[hn]at h;obtain rfl:=W' h;obtain⟨n0,n1,n2⟩:=zd (by decide) hn;have Wz:n<100:=by
      have e10:(10:Int) ^ 2=100:=by decide
      omega
     refine⟨⟨fun _=>⟨n0,Wz⟩,fun z=>by have z:k.du=false:=z;rw[e2]at z;cases z⟩,?_⟩;unfold d4;rw[Zc' e2];show w=k.str++ow n;rw[e1,<-n2];refine Str.ext' ?_;rw[Str.cps_append];refine Array.toList_inj.mp ?_;rw[hc,Array.toList_append];rfl
noncomputable def br:List Str->Option (List Sg)
 |[]=>some []
 |w::ws=>match eo w with
  |none=>none
  |some s=>(br ws).map (s :: ·)
theorem vn:∀{ws:List Str} {ss:List Sg},br ws=some ss->ws=ss.map d4/\∀ s∈ss,ff s
 |[],ss,h=>by
  obtain rfl:=W' h;exact⟨rfl,fun _ h=>by cases h⟩
 |w::ws,ss,h=>by
  unfold br at h;split at h
  ·cases h
  ·rename_i s hs
   cases e:br ws with
   |none=>rw[e]at h;cases h
   |some r =>
    rw[e]at h;obtain rfl:=W' h;obtain⟨a,b⟩:=vn e;obtain⟨g,hw⟩:=EV hs;refine⟨by rw[hw,a];rfl,fun x hx=>?_⟩;rcases List.mem_cons.mp hx with rfl|hx
    ·exact g
    ·exact b x hx
theorem we {ws:List Str}{w:Str}:br (ws++[w])=match br ws with
  |none=>none
  |some ss=>(eo w).map fun s=>ss++[s]:=by
 induction ws with
 |nil =>
  show br [w]=_;unfold br;cases eo w <;> rfl
 |cons v ws ih =>
  rw[List.cons_append];unfold br;cases eo v with
  |none=>rfl
  |some s =>
   show(br (ws++[w])).map (s :: ·)=_;rw[ih];cases br ws with
   |none=>rfl
   |some ss =>
    cases eo w <;> rfl
theorem He {a b:List Str}(h:br a=none):br (a++b)=none:=by
 induction a with
 |nil=>cases h
 |cons v a ih =>
  rw[List.cons_append];unfold br at h ⊢;cases e:eo v with
  |none=>rfl
  |some s =>
   rw[e]at h;cases e2:br a with
   |none=>
    show(br (a++b)).map (s :: ·)=none;rw[ih e2];rfl
   |some r=>rw[e2]at h;cases h
theorem ze:∀{ws:List Str} {ss:List Sg},br ws=some ss->ss.length=ws.length:=by
 intro ws ss h;have:=(vn h).1;rw[this,P']
noncomputable def qc (w:Str):Option Bool:=if w = "straight" then some false else if w = "turned" then some true else none
theorem yt {w:Str}{b:Bool}(h:qc w=some b):w=oQ b:=by
 unfold qc at h;split at h
 ·rename_i e
  obtain rfl:=W' h;exact e
 ·split at h
  ·rename_i e
   obtain rfl:=W' h;exact e
  ·cases h
noncomputable def vo (vw:Vw):List Str->Option (Str×Th)
 |_::n::ws=>if bU vw n=none then match br ws with
   |some ss=>if ss.length<=200 then some (n,.pl ss) else none
   |none=>none
  else none
 |_=>none
noncomputable def gu (vw:Vw):List Str->Option (Str×Th)
 |[_,n,ld,a,b,wy]=>match fY 3 a,fY 3 b,qc wy with
  |some lt,some sl,some tn=>if bU vw n=none/\cR vw ld lt sl=none then some (n,.cn ld lt sl tn) else none
  |_,_,_=>none
 |_=>none
noncomputable def mY (vw:Vw)(ws:List Str):Option (Str×Th):=match ws with
 |[]=>none
 |h::_=>if h = "voice" then vo vw ws else if h = "canon" then gu vw ws else none
noncomputable def kC (vw:Vw)(row:Str):Option (Str×Th):=mY vw (Txt.split row " ")
theorem kD {vw:Vw}{h n:Str}{ws:List Str}:vo vw (h::n::ws)=if bU vw n=none then(match br ws with
   |some ss=>if ss.length<=200 then some (n,.pl ss) else none
   |none=>none) else none:=rfl
theorem BC {vw:Vw}{h:Str}{ws:List Str}{q:Str×Th}(hr:vo vw (h::ws)=some q):∃ n ss,q=(n,.pl ss)/\ws=n::ss.map d4/\bU vw n=none/\(∀ s∈ss,ff s)/\ss.length<=200:=by
 cases ws with
 |nil=>cases hr
 |cons n ws =>
  rw[kD]at hr
  by_cases hn:bU vw n=none
  ·rw[Zc' hn]at hr;cases e:br ws with
   |none=>rw[e]at hr;cases hr
   |some ss =>
    rw[e]at hr;have hr:(if ss.length<=200 then some (n,Th.pl ss) else none)=some q:=hr
    by_cases hl:ss.length<=200
    ·rw[Zc' hl]at hr;obtain⟨w1,w2⟩:=vn e;exact⟨n,ss,(W' hr).symm,by rw[w1],hn,w2,hl⟩
    ·rw[Za' hl]at hr;cases hr
  ·rw[Za' hn]at hr;cases hr
theorem vp {vw:Vw}{ws:List Str}{q:Str×Th}(hr:gu vw ws=some q):∃ h n ld lt sl tn,q=(n,.cn ld lt sl tn)/\ws=[h,n,ld,ow lt,ow sl,oQ tn]/\bU vw n=none/\cR vw ld lt sl=none/\fY 3 (ow lt)=some lt/\fY 3 (ow sl)=some sl/\qc (oQ tn)=some tn:=by
 unfold gu at hr;split at hr
 ·rename_i h n ld a b wy
  cases ea:fY 3 a with
  |none=>rw[ea]at hr;cases hr
  |some lt =>
   cases eb:fY 3 b with
   |none=>rw[ea,eb]at hr;cases hr
   |some sl =>
    cases ew:qc wy with
    |none=>rw[ea,eb,ew]at hr;cases hr
    |some tn =>
     rw[ea,eb,ew]at hr;have hr:(if bU vw n=none/\cR vw ld lt sl=none then some (n,Th.cn ld lt sl tn) else none)=some q:=hr
     by_cases hc:bU vw n=none/\cR vw ld lt sl=none
     ·rw[Zc' hc]at hr;have xa:=(zd (by decide) ea).2.2;have xb:=(zd (by decide) eb).2.2;have xw:=yt ew;rw[xa]at ea;rw[xb]at eb;rw[xw]at ew;exact⟨h,n,ld,lt,sl,tn,(W' hr).symm,by rw[<-xa,<-xb,<-xw],hc.1,hc.2,ea,eb,ew⟩
     ·rw[Za' hc]at hr;cases hr
 ·cases hr
theorem Hf {vw:Vw}{ws:List Str}{q:Str×Th}(hr:mY vw ws=some q):ws=MU q:=by
 unfold mY at hr;split at hr
 ·cases hr
 ·rename_i h r
  split at hr
  ·rename_i e
   obtain⟨n,ss,rfl,e2,_⟩:=BC hr;rw[e,e2];rfl
  ·split at hr
   ·rename_i e
    obtain⟨h',n,ld,lt,sl,tn,rfl,e2,_⟩:=vp hr;have:h=h':=(List.cons.inj e2).1;rw[e2,<-this,e];rfl
   ·cases hr
theorem MX {vw:Vw}{row:Str}{q:Str×Th}(hr:kC vw row=some q):row=mX q:=by
 have:=Hf hr;rw[Ko,<-this];exact(StrLaws.join_split row " ").symm
noncomputable def bu (vw:Vw):List Str->Vw×Option Nat
 |[]=>(vw,none)
 |r::rs=>match kC vw r with
  |none=>(vw,some 0)
  |some q=>((bu (vw++[q]) rs).1,(bu (vw++[q]) rs).2.map (· + 1))
theorem vq {vw:Vw}{row:Str}{q:Str×Th}(hr:kC vw row=some q):bU vw q.1=none:=by
 unfold kC at hr;generalize Txt.split row " "=ws at hr;unfold mY at hr;split at hr
 ·cases hr
 ·split at hr
  ·obtain⟨n,ss,rfl,e2,h,_⟩:=BC hr;exact h
  ·split at hr
   ·obtain⟨h',n,ld,lt,sl,tn,rfl,e2,h,_⟩:=vp hr;exact h
   ·cases hr
end bQ
local macro_rules | `(tactic| tm_up) => `(tactic| repeat w_up)
local macro_rules | `(tactic| w_up) => `(tactic| first
 |refine⟨_,rfl,?_⟩
 |refine⟨_,_,rfl,rfl,⟨by decide,by decide⟩,?_⟩
 |refine⟨_,_,rfl,rfl,(by first|decide|(show(0:Int)<_;decide)),?_⟩
 |refine .inl ⟨_,_,rfl,rfl,.inr ⟨by decide,by decide⟩,?_⟩
 |refine⟨_,_,rfl,rfl,?_⟩
 |refine .inl ⟨_,_,rfl,rfl,?_⟩
 |refine .inl ⟨rfl,?_⟩
 |refine .inr ⟨_,_,rfl,rfl,?_⟩
 |refine bQ.R0 (by assumption) ?_
 |refine bQ.XG (by assumption) ?_
 |refine bQ.ZA (by assumption) ?_
 |refine bQ.ZC (by assumption) ?_)
namespace bQ
open PySem L2
set_option hygiene false
local macro_rules | `(tactic| x_go) => `(tactic| (intro vs H Q E h; first | (cases h; subst_vars; rfl) | (obtain ⟨rfl, _⟩ := h; rfl) | (obtain ⟨_, rfl, _⟩ := h; rfl) | (obtain ⟨_, _, rfl, _⟩ := h; rfl) | (obtain ⟨_, _, _, rfl, _⟩ := h; rfl) | (obtain ⟨_, _, _, _, rfl, _⟩ := h; rfl) | (obtain ⟨_, _, _, _, _, rfl, _⟩ := h; rfl) | (obtain ⟨_, _, _, _, _, _, rfl, _⟩ := h; rfl) | (obtain ⟨_, _, _, _, _, _, _, rfl, _⟩ := h; rfl) | (obtain ⟨_, _, _, _, _, _, _, _, rfl, _⟩ := h; rfl) | (obtain ⟨_, _, _, _, _, _, _, _, _, rfl, _⟩ := h; rfl) | (obtain ⟨_, _, _, _, _, _, _, _, _, _, rfl, _⟩ := h; rfl) | (obtain ⟨_, _, _, _, _, _, _, _, _, _, _, rfl, _⟩ := h; rfl) | (obtain ⟨_, _, _, _, _, _, _, _, _, _, _, _, rfl, _⟩ := h; rfl) | (obtain ⟨_, _, _, _, _, _, _, _, _, _, _, _, _, rfl, _⟩ := h; rfl)); intro cdv A outer s H vs Q E hr h)
local macro_rules | `(tactic| k_go) => `(tactic| exact ⟨rfl, rfl, rfl, by lk, rfl, by lk, by lk⟩)
set_option hygiene true
noncomputable def top (i:Nat):Stmt:=PySem.Challenge.pw_noteworth_k47_first_bad_row.main.body.getD i (.Pass ⟨0,0,0,0⟩)
noncomputable abbrev wj:Stmt:=top 82
noncomputable abbrev BD:Stmt:=top 83
noncomputable abbrev wk:Stmt:=top 85
noncomputable abbrev wm:Stmt:=top 84
noncomputable abbrev EW:Stmt:=top 86
noncomputable abbrev kF:Stmt:=top 87
noncomputable abbrev kG:Stmt:=top 107
noncomputable abbrev mq:Stmt:=top 108
noncomputable abbrev nK:Stmt:=inClass (top 63) 0
noncomputable abbrev ja:Stmt:=inClass (top 63) 13
noncomputable abbrev BE:Stmt:=top 57
noncomputable abbrev sS:Stmt:=inClass (top 63) 9
noncomputable abbrev kH:Stmt:=inClass (top 63) 16
noncomputable abbrev BF:Stmt:=inClass (top 56) 1
noncomputable abbrev oT:Stmt:=inClass (top 63) 14
noncomputable abbrev nM:Stmt:=inClass (top 56) 0
noncomputable abbrev qp:Stmt:=inClass (top 63) 15
noncomputable abbrev mr:Stmt:=inClass (top 55) 0
noncomputable abbrev mv:Stmt:=inClass (top 63) 1
noncomputable abbrev ib:Stmt:=top 58
noncomputable abbrev MY:Stmt:=top 22
noncomputable abbrev kI:Stmt:=top 59
noncomputable abbrev Jb:Stmt:=top 23
noncomputable abbrev BG:Stmt:=top 60
noncomputable abbrev zf:Stmt:=top 61
noncomputable abbrev oU:Stmt:=top 24
noncomputable abbrev EX:Stmt:=top 62
noncomputable abbrev jb:Stmt:=inClass (top 63) 17
noncomputable abbrev jP:Stmt:=inClass (top 63) 18
noncomputable abbrev zg:Stmt:=inClass (top 63) 4
noncomputable abbrev wo:Stmt:=top 67
noncomputable abbrev BH:Stmt:=top 71
noncomputable abbrev jQ:Stmt:=inClass (top 4) 0
noncomputable abbrev wq:Stmt:=top 72
noncomputable abbrev sU:Stmt:=top 77
noncomputable abbrev d6:Stmt:=inClass (top 63) 2
noncomputable abbrev sV:Stmt:=top 78
noncomputable abbrev mZ:Stmt:=top 79
noncomputable abbrev kJ:Stmt:=inClass (top 13) 0
noncomputable abbrev wt:Stmt:=top 80
noncomputable abbrev EY:Stmt:=top 89
noncomputable abbrev qq:Stmt:=top 90
noncomputable abbrev zh:Stmt:=top 91
noncomputable abbrev sW:Stmt:=inClass (top 63) 12
noncomputable abbrev BI:Stmt:=top 103
noncomputable abbrev BJ:Stmt:=top 105
noncomputable abbrev EZ:Stmt:=top 104
noncomputable abbrev zi:Stmt:=top 28
noncomputable abbrev BK:Stmt:=top 39
noncomputable abbrev qr:Stmt:=top 38
noncomputable abbrev ic:Stmt:=top 40
noncomputable abbrev MZ:Stmt:=top 29
noncomputable abbrev nN:Stmt:=top 41
noncomputable abbrev mw:Stmt:=top 42
noncomputable abbrev kK:Stmt:=top 43
noncomputable abbrev kL:Stmt:=top 44
noncomputable abbrev sX:Stmt:=top 45
noncomputable abbrev BL:Stmt:=top 46
noncomputable abbrev E2:Stmt:=top 47
noncomputable abbrev E3:Stmt:=top 30
noncomputable abbrev wu:Stmt:=inClass (top 63) 10
noncomputable abbrev wx:Stmt:=inClass (top 63) 11
noncomputable abbrev wA:Stmt:=top 97
noncomputable abbrev E4:Stmt:=top 99
noncomputable abbrev BM:Stmt:=top 100
noncomputable abbrev Jc:Stmt:=top 101
noncomputable abbrev E5:Stmt:=top 102
noncomputable abbrev wB:Stmt:=top 98
noncomputable abbrev zj:Stmt:=top 106
noncomputable abbrev jo:Stmt:=top 109
noncomputable abbrev E6:Stmt:=top 25
noncomputable abbrev sY:Stmt:=top 70
noncomputable abbrev qt:Stmt:=top 75
noncomputable abbrev sZ:Stmt:=top 76
noncomputable abbrev zk:Stmt:=top 92
noncomputable abbrev kM:Stmt:=top 95
noncomputable abbrev mx:Stmt:=top 94
noncomputable abbrev wC:Stmt:=top 93
noncomputable abbrev tf:Stmt:=top 96
noncomputable abbrev PQ:Stmt:=top 110
theorem Dn:az ["_law_script","_law_k"] ["_law_script","_law_k"] (aj wj):=by k_go
theorem rD:az ["_law_seed","_law_k","_law_one","_law_two"] ["_law_seed","_law_k"] (aj BD):=by k_go
theorem tj:az ["_law_number_here","_law_kind"] ["_law_number_here"] (aj wk):=by k_go
theorem gT:az ["_law_script","_law_at","_law_many","_law_seed","_law_left","_law_row"] ["_law_script","_law_at","_law_many"] (aj wm):=by k_go
theorem Kp:az ["_law_script","_law_at","_law_many"] ["_law_script","_law_at","_law_many"] (aj EW):=by k_go
theorem bG:az ["_law_script","_law_names","_law_plain","_law_told","_law_k","_law_size","_law_cell","_law_later","_law_slow","_law_led","_law_row"] ["_law_script"] (aj kF):=by k_go
theorem dO:az ["_law_number_here","_law_rows"] ["_law_number_here"] (aj kG):=by k_go
theorem iw:az ["_law_rows","_law_way","_law_at","_law_number_here","_law_words","_law_some","_law_signs_here"] ["_law_rows","_law_way","_law_at","_law_number_here"] (aj mq):=by k_go
theorem vt:az ["self"] ["self"] (aj nK):=by k_go
theorem oV:az ["self"] ["self"] (aj ja):=by k_go
theorem Hg:az ["name"] ["name"] (aj BE):=by k_go
theorem AQ:az ["self"] ["self"] (aj sS):=by k_go
theorem eF:az ["self","name"] ["self","name"] (aj kH):=by k_go
theorem Hh:az ["self"] ["self"] (aj BF):=by k_go
theorem xY:az ["self","deed"] ["self","deed"] (aj oT):=by k_go
theorem vy:az ["self","things","at","before","after"] ["self","things","at","before","after"] (aj nM):=by k_go
theorem zm:az ["self","voice"] ["self","voice"] (aj qp):=by k_go
theorem tq:az ["self","name","terms"] ["self","name","terms"] (aj mr):=by k_go
theorem kO:az ["self","name"] ["self","name"] (aj mv):=by k_go
theorem gU:az ["at","last"] ["at","last"] (aj ib):=by k_go
theorem Dp:az ["sign","kind","tone"] ["sign"] (aj MY):=by k_go
theorem jR:az ["sign"] ["sign"] (aj kI):=by k_go
theorem M0:az ["sign"] ["sign"] (aj Jb):=by k_go
theorem m6:az ["line","at","met","place"] ["line","at"] (aj BG):=by k_go
theorem wD:az ["line","first","kinds","place"] ["line","first","kinds"] (aj zf):=by k_go
theorem xZ:az ["sign"] ["sign"] (aj oU):=by k_go
theorem BN:az ["line","at","behind","changed","kinds"] ["line","at","behind","changed"] (aj EX):=by k_go
theorem fg:az ["self","name","voice"] ["self","name"] (aj jb):=by k_go
theorem dZ:az ["self","name","voice"] ["self","name"] (aj jP):=by k_go
theorem gG:az ["self","name","at","sign","signs"] ["self","name","at","sign"] (aj zg):=by k_go
theorem Dq:az ["word","most"] ["word","most"] (aj wo):=by k_go
theorem rE:az ["word","kind","tone"] ["word"] (aj BH):=by k_go
theorem qd:az ["self","at"] ["self","at"] (aj jQ):=by k_go
theorem tw:az ["word","sign"] ["word"] (aj wq):=by k_go
theorem cj:az ["book","words","name","at","word"] ["book","words"] (aj sU):=by k_go
theorem tD:az ["self","name","leader","later","slow","is_turned"] ["self","name","leader","later","slow","is_turned"] (aj d6):=by k_go
theorem iK:az ["book","words","later","slow"] ["book","words"] (aj sV):=by k_go
theorem wF:az ["book","row","words"] ["book","row"] (aj mZ):=by k_go
theorem rF:az ["self","at"] ["self","at"] (aj kJ):=by k_go
theorem jq:az ["text","book","at","row"] ["text"] (aj wt):=by k_go
theorem Kq:az ["_law_sign"] ["_law_sign"] (aj EY):=by k_go
theorem zo:az ["_law_line_here"] ["_law_line_here"] (aj qq):=by k_go
theorem wG:az ["_law_name","_law_thing","_law_way"] ["_law_name","_law_thing"] (aj zh):=by k_go
theorem qu:az ["self","name"] ["self","name"] (aj sW):=by k_go
theorem zp:az ["_law_found"] ["_law_found"] (aj BI):=by k_go
theorem rG:az ["_law_found","_law_due","_law_one","_law_other"] ["_law_found","_law_due"] (aj BJ):=by k_go
theorem BO:az ["_law_found","_law_due","_law_k"] ["_law_found","_law_due"] (aj EZ):=by k_go
theorem iV:az ["line","begin","found","measure","sign"] ["line","begin"] (aj zi):=by k_go
theorem Hi:az ["line","at"] ["line","at"] (aj BK):=by k_go
theorem zq:az ["kind","measure"] ["kind","measure"] (aj qr):=by k_go
theorem cY:az ["line","begin","found","at","measure"] ["line","begin"] (aj ic):=by k_go
theorem m7:az ["line","begin","found","first","at","sign","measure"] ["line","begin"] (aj MZ):=by k_go
theorem vz:az ["line","found","first"] ["line","found","first"] (aj nN):=by k_go
theorem tE:az ["line","behind"] ["line","behind"] (aj mw):=by k_go
theorem rH:az ["line","found","first","behind"] ["line","found","first","behind"] (aj kK):=by k_go
theorem rJ:az ["line","found","first","behind"] ["line","found","first","behind"] (aj kL):=by k_go
theorem qv:az ["line","found","first","behind","rest"] ["line","found","first","behind"] (aj sX):=by k_go
theorem jS:az ["line","begin","found","loose_runs","first","behind"] ["line","begin"] (aj BL):=by k_go
theorem Kr:az ["line","begin"] ["line","begin"] (aj E2):=by k_go
theorem Ks:az ["line"] ["line"] (aj E3):=by k_go
theorem aX:az ["self","name","terms","leader","later","slow","is_turned","heard"] ["self","name"] (aj wu):=by k_go
theorem cI:az ["self","name","terms","leader","later","slow","is_turned","begin"] ["self","name"] (aj wx):=by k_go
theorem gW:az ["_law_voices","_law_name","_law_thing","_law_told","_law_sign","_law_kind"] ["_law_voices","_law_name"] (aj wA):=by k_go
theorem jw:az ["_law_line_here","_law_begin","_law_told","_law_now","_law_at","_law_kind"] ["_law_line_here","_law_begin"] (aj E4):=by k_go
theorem jT:az ["_law_line_here","_law_begin","_law_told","_law_now","_law_sign"] ["_law_line_here","_law_begin"] (aj BM):=by k_go
theorem my:az ["_law_line_here","_law_told","_law_low","_law_high","_law_rest","_law_behind","_law_after","_law_left","_law_right"] ["_law_line_here","_law_told","_law_low","_law_high"] (aj Jc):=by k_go
theorem gH:az ["_law_line_here","_law_begin","_law_told","_law_three_here","_law_left","_law_low","_law_high"] ["_law_line_here","_law_begin"] (aj E5):=by k_go
theorem m8:az ["_law_voices","_law_name","_law_thing","_law_line_here"] ["_law_voices","_law_name"] (aj wB):=by k_go
theorem kP:az ["_law_book","_law_voices","_law_told","_law_name","_law_terms"] ["_law_book","_law_voices"] (aj zj):=by k_go
theorem qw:az ["_law_text","e"] ["_law_text"] (aj jo):=by k_go
theorem Kt:az ["sign"] ["sign"] (aj E6):=by k_go
theorem iL:az ["sign","kind","tone"] ["sign"] (aj sY):=by k_go
theorem dw:az ["book","name","terms","leader","later","slow","is_turned","way"] ["book","name"] (aj qt):=by k_go
theorem AR:az ["book"] ["book"] (aj sZ):=by k_go
theorem wH:az ["_law_word_here","_law_figure"] ["_law_word_here"] (aj zk):=by k_go
theorem jU:az ["_law_voices","_law_deed","_law_fine"] ["_law_voices","_law_deed"] (aj kM):=by k_go
theorem kQ:az ["_law_voices","_law_name","_law_sign"] ["_law_voices","_law_name"] (aj mx):=by k_go
theorem tG:az ["_law_word_here","_law_figure"] ["_law_word_here"] (aj wC):=by k_go
theorem iN:az ["_law_voices","_law_row","_law_words","_law_other","_law_terms"] ["_law_voices","_law_row"] (aj tf):=by k_go
theorem fh:az ["_law_script","_law_way","_law_told","_law_rows","_law_text","_law_voices","_law_at","_law_k","_law_row","_law_other","_law_book"] ["_law_script"] (aj PQ):=by k_go
theorem zr:(["_law_k","_law_script","_law_at","_law_many","_law_seed","_law_left","_law_row"]:List Str).Nodup:=by lk
theorem E7:(["_law_number_here","_law_script","_law_at","_law_many"]:List Str).Nodup:=by lk
theorem zt:(["_law_j","_law_script","_law_names","_law_plain","_law_told","_law_k","_law_size","_law_cell","_law_later","_law_slow","_law_led","_law_row"]:List Str).Nodup:=by lk
theorem zu:(["_law_number_here","_law_script","_law_names","_law_plain","_law_told","_law_k","_law_size","_law_cell","_law_later","_law_slow","_law_led","_law_row"]:List Str).Nodup:=by lk
theorem Dr:(["letter","name"]:List Str).Nodup:=by lk
theorem x3:(["voice","self"]:List Str).Nodup:=by lk
theorem E8:(["sign","line","at","behind","changed","kinds"]:List Str).Nodup:=by lk
theorem zw:(["figure","word","most"]:List Str).Nodup:=by lk
theorem vA:(["_law_sign","_law_line_here"]:List Str).Nodup:=by lk
theorem wI:(["kind","tone","line"]:List Str).Nodup:=by lk
theorem x6:(["worth","self","name","terms","leader","later","slow","is_turned","begin"]:List Str).Nodup:=by lk
theorem x8:(["_law_worth","_law_voices","_law_name","_law_thing","_law_line_here"]:List Str).Nodup:=by lk
theorem tH:(["sign","book","name","terms","leader","later","slow","is_turned","way"]:List Str).Nodup:=by lk
theorem vB:(["name","book"]:List Str).Nodup:=by lk
theorem vC:(["_law_word_here","_law_voices","_law_row","_law_words","_law_other","_law_terms"]:List Str).Nodup:=by lk
theorem BP:(["_law_name","_law_thing","_law_script","_law_way","_law_told","_law_rows","_law_text","_law_voices","_law_at","_law_k","_law_row","_law_other","_law_book"]:List Str).Nodup:=by lk
theorem Ku:(["_law_one","_law_script","_law_way","_law_told","_law_rows","_law_text","_law_voices","_law_at","_law_k","_law_row","_law_other","_law_book"]:List Str).Nodup:=by lk
noncomputable def oW:List (Str×Pos):=[("ann",⟨391,18,391,23⟩),("bo",⟨391,25,391,29⟩),("cy",⟨391,31,391,35⟩),("dora",⟨391,37,391,43⟩),("eve",⟨391,45,391,50⟩),("ann",⟨391,52,391,57⟩),("bo",⟨391,59,391,63⟩),("cy",⟨391,65,391,69⟩),("dora",⟨391,71,391,77⟩)]
noncomputable def zx:List (Str×Pos):=[("",⟨593,17,593,19⟩),("voice",⟨593,21,593,28⟩),("voice ",⟨593,30,593,38⟩),("voice ann ",⟨593,40,593,52⟩),("voice  ann",⟨593,54,593,66⟩),("voice Ann",⟨593,68,593,79⟩),("voice fay G100",⟨593,81,593,97⟩)]
noncomputable def d7:List (Str×Pos):=[("voice fay G5 ",⟨594,29,594,44⟩),(" voice fay",⟨594,46,594,58⟩),("voice fay G5  s3",⟨594,60,594,78⟩),("canon fay ann 1 2",⟨594,80,594,99⟩)]
noncomputable def d8:List (Str×Pos):=[("canon fay ann 1 10 turned",⟨597,29,597,56⟩),("canon fay ann -1 2 turned",⟨597,58,597,85⟩),("Voice fay",⟨597,87,597,98⟩),("fay",⟨597,100,597,105⟩),("voice toolongby",⟨597,107,597,124⟩)]
noncomputable def E9:List (Str×Pos):=[("",⟨617,21,617,23⟩),("ann",⟨617,25,617,30⟩),("x",⟨617,32,617,35⟩),("9",⟨617,37,617,40⟩),("G05",⟨617,42,617,47⟩),("straight",⟨617,49,617,59⟩),("999",⟨617,61,617,66⟩),("R",⟨617,68,617,71⟩),("+3",⟨617,73,617,77⟩),("-0",⟨617,79,617,83⟩),("1_0",⟨617,85,617,90⟩)]
noncomputable def zy:List (Str×Pos):=[("R",⟨439,26,439,29⟩),("r",⟨439,31,439,34⟩),(".",⟨439,36,439,39⟩),("3",⟨439,41,439,44⟩),("2",⟨439,46,439,49⟩)]
set_option genInjectivity false in
set_option genSizeOf false in
structure Hj where
 wJ:Addr
 wK:FuncData
 BQ:Addr
 BR:FuncData
 wL:Addr
 wN:FuncData
 wO:Addr
 wQ:FuncData
 Fb:Addr
 Fc:FuncData
 wR:Addr
 wU:FuncData
 wV:Addr
 wW:FuncData
 Fd:Addr
 Fe:FuncData
 nP:Addr
 nQ:FuncData
 jc:Addr
 jd:FuncData
 BS:Addr
 BU:FuncData
 tI:Addr
 tK:FuncData
 kR:Addr
 kS:FuncData
 BV:Addr
 BW:FuncData
 oX:Addr
 oY:FuncData
 nR:Addr
 nS:FuncData
 qx:Addr
 qy:FuncData
 mz:Addr
 mB:FuncData
 mC:Addr
 mD:FuncData
 ie:Addr
 ig:FuncData
 M3:Addr
 M4:FuncData
 kU:Addr
 kW:FuncData
 Jd:Addr
 Je:FuncData
 BX:Addr
 BY:FuncData
 zz:Addr
 zA:FuncData
 oZ:Addr
 o8:FuncData
 Ff:Addr
 Fg:FuncData
 je:Addr
 jf:FuncData
 jV:Addr
 jW:FuncData
 zB:Addr
 zC:FuncData
 wX:Addr
 wY:FuncData
 BZ:Addr
 B3:FuncData
 jX:Addr
 jY:FuncData
 wZ:Addr
 w6:FuncData
 tL:Addr
 tM:FuncData
 ed:Addr
 ix:FuncData
 tN:Addr
 rK:Tok
 rL:Tok
 tO:Addr
 tP:FuncData
 m9:Addr
 zD:FuncData
 kX:Addr
 kY:FuncData
 xf:Addr
 xh:FuncData
 Fh:Addr
 Fi:FuncData
 qz:Addr
 qA:FuncData
 zE:Addr
 zF:FuncData
 tQ:Addr
 tR:FuncData
 vD:Addr
 vE:FuncData
 Ca:Addr
 Cb:FuncData
 Fj:Addr
 Fl:FuncData
 zG:Addr
 rM:FuncData
 Fm:Addr
 Ds:Tok
 Cc:Addr
 Cd:FuncData
 qB:Addr
 qC:FuncData
 ij:Addr
 ik:FuncData
 M5:Addr
 Hk:FuncData
 OM:Addr
 M6:Tok
 nV:Addr
 nW:FuncData
 mF:Addr
 mG:FuncData
 kZ:Addr
 k8:FuncData
 lh:Addr
 lj:FuncData
 tS:Addr
 tT:FuncData
 Ce:Addr
 Cf:FuncData
 Fn:Addr
 zH:FuncData
 Kv:Addr
 Hl:Tok
 Fo:Addr
 Fp:FuncData
 o9:Addr
 pb:FuncData
 xi:Addr
 xj:FuncData
 xk:Addr
 xm:FuncData
 Fq:Addr
 Ft:FuncData
 Cg:Addr
 Ci:FuncData
 Jf:Addr
 Jg:FuncData
 Fu:Addr
 Fv:FuncData
 xp:Addr
 xq:FuncData
 zI:Addr
 zJ:FuncData
 js:Addr
 tU:FuncData
 Fx:Addr
 Fy:FuncData
 tV:Addr
 tW:FuncData
 qD:Addr
 qF:FuncData
 tX:Addr
 tY:FuncData
 zK:Addr
 zL:FuncData
 lp:Addr
 lq:FuncData
 mH:Addr
 mI:FuncData
 xr:Addr
 xt:FuncData
 tZ:Addr
 t7:FuncData
 M7:Addr
 M8:FuncData
 iO:Addr
 lS:Addr
 i4:Addr
 gj:Addr
 ee:Addr
 gX:Addr
 zM:Tok
 jZ:Addr
 j0:Addr
 fF:Addr
 Dt:Tok
 ua:Tok
 x9:Tok
 zN:Tok
 Kw:Tok
 zO:Tok
 AS:Tok
 Du:Tok
 M9:Tok
 Kx:Tok
 vF:Addr
 Dv:Addr
 pd:Tok
 ph:Tok
 lr:Addr
 eO:Addr
 cO:Addr
 bK:Addr
 gI:Addr
 vG:Addr
 jx:Addr
 jy:Addr
 jz:Addr
 iy:Addr
 bA:Addr
 bE:Addr
 jA:Addr
 bI:Addr
structure cg (K:Frag)(mg:Str->Option Value)(x:Str)(st:Stmt)(ps:List Str)(f:Addr)(fd:FuncData):Prop extends Gx K x x st f fd where
 g:mg x=some (.ref f)
 b:Binds K fd ps []
noncomputable abbrev sf {K:Frag}{x q:Str}{st:Stmt}{f:Addr}{fd:FuncData}{N ps:List Str}(_:Gx K x q st f fd)(_:az N ps (aj st))(CX:Gw)(P:Program)(w:World)(mg:Str->Option Value)(base:Heap)(cdv:Value)(A:Around)(outer:List Env)(s:Shared)(H:Hp)(E:XK):Cx:=dM CX P w K mg base N q (aj st) f cdv A outer s H E
theorem iA {j k:Nat}{A:Around}(r:dm k A)(h:j<=k:=by decide):dm j A:=r.mono h
theorem dg {X:Cx}{k m:Nat}{f:Addr}{fd:FuncData}{ps:List Str}{sp:Sp}{x:Str}{st:Stmt}{p pos:Pos}{e:Expr}{es:List Expr}{t:TA}(F:cg X.K X.mg x st ps f fd)(G:aR X.prog X.w X.K X.mg X.base d3 k f fd ps sp)(hr:dm m X.A)(ha:PA X (e::es) t)(hk:k<=m:=by decide)(hg:Gl X x:=by rfl)(hdb:(x==("__debug__":Str))=false:=by decide)(he:starEach (e::es) X.env=(false,eval e X.env)::starEach es X.env:=by rfl)(hpl:(backTo pos (starEach es X.env)).any (·.1)=false:=by rfl):PE X (.Call (.Name x p) (e::es) [] pos) (Lz sp [] E0 t):=kq G (hr.mono hk) hg F.g F.kp F.b .nil fS ha hdb he hpl
theorem kj {X:Cx}{x:Str}{pos:Pos}(i:Nat)(hN:X.N.Nodup)(hi:X.N[i]? = some x:=by rfl)(hx:Loc X.env.scope x:=by exact Or.inl rfl)(hf:X.fn x=true\/X.env.scope.names.lookup x=some .local:=by first|exact .inl rfl|exact .inr rfl):PG X (.Name x pos) (vQ i):=bZ hN hi hx hf
theorem cZ {X:Cx}{x:Str}{e:Expr}{te:TE}{pos pos':Pos}(i:Nat)(hN:X.N.Nodup)(he:PE X e te)(hs:swapsWith e (some (.Name x pos')) pos.line X.env=pure false:=by rfl)(hi:X.N[i]? = some x:=by rfl)(hx:Loc X.env.scope x:=by exact Or.inl rfl)(hf:X.fn x=true\/X.env.scope.names.lookup x=some .local:=by first|exact .inl rfl|exact .inr rfl):PS X (.Assign [.Name x pos'] e pos) (Ln te (vQ i)):=CP hN hi hx he hs hf
theorem bY {X:Cx}{a:Expr}{ta:TE}{j:Int}{k:Nat}{p pos:Pos}(ha:PE X a ta):PE X (.Subscript a (.Constant (.int j) k p) pos) (Su (VG X.K) ta (tC (.int j))):=bL bo ha ai (fun _ _=>rfl)
structure ub (K:Frag)(C:Addr)(m q:Str)(st:Stmt)(ps:List Str)(f:Addr)(fd:FuncData):Prop extends Gx K m q st f fd where
 me:Meth K C m f
 b:Binds K fd ps []
structure ON (K:Frag)(C:Addr)(m q:Str)(st:Stmt)(ps:List Str)(f:Addr)(fd:FuncData):Prop extends Gx K m q st f fd where
 TY:Mk K C f
 b:Binds K fd ps []
structure Jh (K:Frag)(mg:Str->Option Value)(x:Str)(st:Stmt)(df:Addr)(its:Array Value)(f:Addr)(fd:FuncData):Prop extends C5 K x x st f fd (.ref df) where
 g:mg x=some (.ref f)
 dl:∃ c o n s,K.lookup df=some ⟨c,o,.seq its n,s⟩
structure PR (K:Frag)(C:Addr)(m q:Str)(st:Stmt)(df:Addr)(its:Array Value)(f:Addr)(fd:FuncData):Prop extends C5 K m q st f fd (.ref df) where
 me:Meth K C m f
 dl:∃ c o n s,K.lookup df=some ⟨c,o,.seq its n,s⟩
theorem Fz {us:List Value}{n:Nat}(h:us.length=n+1):∃ a t,us=a::t/\t.length=n:=by
 cases us with
 |nil=>exact j' h (Nat.succ_ne_zero n).symm
 |cons a t=>exact⟨a,t,rfl,Nat.succ.inj h⟩
theorem FA {us:List Value}(h:us.length=0):us=[]:=List.eq_nil_of_length_eq_zero h
theorem FC {us:List Value}(h:us.length=1):∃ a0,us=[a0]:=by
 obtain⟨a0,t,rfl,h2⟩:=Fz h;obtain rfl:=FA h2;exact⟨a0,rfl⟩
theorem Cj {us:List Value}(h:us.length=2):∃ a0 a1,us=[a0,a1]:=by
 obtain⟨a0,t,rfl,h2⟩:=Fz h;obtain⟨a1,rfl⟩:=FC h2;exact⟨a0,a1,rfl⟩
theorem FD {us:List Value}(h:us.length=3):∃ a0 a1 a2,us=[a0,a1,a2]:=by
 obtain⟨a0,t,rfl,h2⟩:=Fz h;obtain⟨a1,a2,rfl⟩:=Cj h2;exact⟨a0,a1,a2,rfl⟩
theorem FE {us:List Value}(h:us.length=4):∃ a0 a1 a2 a3,us=[a0,a1,a2,a3]:=by
 obtain⟨a0,t,rfl,h2⟩:=Fz h;obtain⟨a1,a2,a3,rfl⟩:=FD h2;exact⟨a0,a1,a2,a3,rfl⟩
theorem FF {us:List Value}(h:us.length=5):∃ a0 a1 a2 a3 a4,us=[a0,a1,a2,a3,a4]:=by
 obtain⟨a0,t,rfl,h2⟩:=Fz h;obtain⟨a1,a2,a3,a4,rfl⟩:=FE h2;exact⟨a0,a1,a2,a3,a4,rfl⟩
theorem Ck {us:List Value}(h:us.length=6):∃ a0 a1 a2 a3 a4 a5,us=[a0,a1,a2,a3,a4,a5]:=by
 obtain⟨a0,t,rfl,h2⟩:=Fz h;obtain⟨a1,a2,a3,a4,a5,rfl⟩:=FF h2;exact⟨a0,a1,a2,a3,a4,a5,rfl⟩
theorem FG {us:List Value}(h:us.length=7):∃ a0 a1 a2 a3 a4 a5 a6,us=[a0,a1,a2,a3,a4,a5,a6]:=by
 obtain⟨a0,t,rfl,h2⟩:=Fz h;obtain⟨a1,a2,a3,a4,a5,a6,rfl⟩:=Ck h2;exact⟨a0,a1,a2,a3,a4,a5,a6,rfl⟩
theorem Ji {us:List Value}(h:us.length=8):∃ a0 a1 a2 a3 a4 a5 a6 a7,us=[a0,a1,a2,a3,a4,a5,a6,a7]:=by
 obtain⟨a0,t,rfl,h2⟩:=Fz h;obtain⟨a1,a2,a3,a4,a5,a6,a7,rfl⟩:=FG h2;exact⟨a0,a1,a2,a3,a4,a5,a6,a7,rfl⟩
theorem Na {us:List Value}(h:(us++[]).length=2):∃ a0 a1,us=[a0,a1]:=Cj (by rw[append_nil]at h;exact h)
theorem TZ {us:List Value}(h:(us++[]).length=6):∃ a0 a1 a2 a3 a4 a5,us=[a0,a1,a2,a3,a4,a5]:=Ck (by rw[append_nil]at h;exact h)
section
variable {K:Frag} {h:Heap} {mg:Str->Option Value} {x m q:Str} {st:Stmt} {ps:List Str} {f C T:Addr} {oc:Value} {od an:Option Addr} {osl:Array (Option Value)} {kV doc pm cdv ct:Value}
theorem gE (X:K.In h)(G:h.Ns mainGlobals mg)(a:nsIn K mainGlobals x=some (some (.ref f)))(l:K.lookup f=some ⟨oc,od,.func (fnOf x x (cv st) (a8 st) (aj st) .none kV doc pm an cdv ct),osl⟩)(c:codeIn K cdv x=true)(k:keepIn K (.ref f)=true)(hb:∀ us:List Value,us.length=ps.length->bindArgs (fnOf x x (cv st) (a8 st) (aj st) .none kV doc pm an cdv ct) ⟨us,[]⟩=pure (ps.zip us)):cg K mg x st ps f (fnOf x x (cv st) (a8 st) (aj st) .none kV doc pm an cdv ct):=⟨C2 l c k,mg_of X G a,.all hb⟩
theorem ZD {dc:Value}{WA:Option Addr}{dn:Nat}{ds:Array (Option Value)}{its:Array Value}(X:K.In h)(G:h.Ns mainGlobals mg)(a:nsIn K mainGlobals x=some (some (.ref f)))(l:K.lookup f=some ⟨oc,od,.func (fnOf x x (cv st) (a8 st) (aj st) (.ref T) kV doc pm an cdv ct),osl⟩)(c:codeIn K cdv x=true)(k:keepIn K (.ref f)=true)(dl:K.lookup T=some ⟨dc,WA,.seq its dn,ds⟩):Jh K mg x st T its f (fnOf x x (cv st) (a8 st) (aj st) (.ref T) kV doc pm an cdv ct):=⟨Iz l c k,mg_of X G a,_,_,_,_,dl⟩
theorem mE (a:findIn K (.ref C) m=some (some (.ref f)))(fn:isFn K (.ref f)=true)(l:K.lookup f=some ⟨oc,od,.func (fnOf m q (cv st) (a8 st) (aj st) .none kV doc pm an cdv ct),osl⟩)(c:codeIn K cdv q=true)(k:keepIn K (.ref f)=true)(hb:∀ us:List Value,us.length=ps.length->bindArgs (fnOf m q (cv st) (a8 st) (aj st) .none kV doc pm an cdv ct) ⟨us,[]⟩=pure (ps.zip us)):ub K C m q st ps f (fnOf m q (cv st) (a8 st) (aj st) .none kV doc pm an cdv ct):=⟨C2 l c k,⟨a,fn,k⟩,.all hb⟩
theorem ZE {dc:Value}{WA:Option Addr}{dn:Nat}{ds:Array (Option Value)}{its:Array Value}(a:findIn K (.ref C) m=some (some (.ref f)))(fn:isFn K (.ref f)=true)(l:K.lookup f=some ⟨oc,od,.func (fnOf m q (cv st) (a8 st) (aj st) (.ref T) kV doc pm an cdv ct),osl⟩)(c:codeIn K cdv q=true)(k:keepIn K (.ref f)=true)(dl:K.lookup T=some ⟨dc,WA,.seq its dn,ds⟩):PR K C m q st T its f (fnOf m q (cv st) (a8 st) (aj st) (.ref T) kV doc pm an cdv ct):=⟨Iz l c k,⟨a,fn,k⟩,_,_,_,_,dl⟩
theorem iE (mm:makesIn K C=true)(mk:keepIn K (.ref C)=true)(a:findIn K (.ref C) "__init__"=some (some (.ref f)))(fn:isFn K (.ref f)=true)(l:K.lookup f=some ⟨oc,od,.func (fnOf "__init__" q (cv st) (a8 st) (aj st) .none kV doc pm an cdv ct),osl⟩)(c:codeIn K cdv q=true)(k:keepIn K (.ref f)=true)(hb:∀ us:List Value,us.length=ps.length->bindArgs (fnOf "__init__" q (cv st) (a8 st) (aj st) .none kV doc pm an cdv ct) ⟨us,[]⟩=pure (ps.zip us)):ON K C "__init__" q st ps f (fnOf "__init__" q (cv st) (a8 st) (aj st) .none kV doc pm an cdv ct):=⟨C2 l c k,⟨mm,a,fn,mk⟩,.all hb⟩
structure Q7 (K:Frag)(C:Addr)(m q:Str)(st:Stmt)(ps:List Str)(f:Addr)(fd:FuncData):Prop extends Gx K m q st f fd where
 xs:Mv K C f
 b:Binds K fd ps []
theorem xE {ZF ZG:Str}{ZH XO WB:List Value}{ZI:List Str}{ZJ:Bool}{WC:Option Bool}{ZK:Option Addr}{ZL ZM ZN ZO ZP:Option Value}{WE:ClassData}{xN:Addr}(xo:K.lookup C=some (excClassObj ZF ZG C xN ZH XO true ZI WB ZJ WC ZK ZL ZM ZN ZO ZP "ValueError.__new__"))(ZQ:nsOkIn K xN=true)(ZR:nsIn K xN "__init__"=some (some (.ref f)))(ZS:tailIn K cz XO=true)(ZT:typeIn K (.ref f)=some (.type "function"))(ZU:clsIn K C=some WE)(ZV:rj WE.mro=true)(ZW:WE.hasDict=true)(ZX:findIn K (.ref C) "__setattr__"=some (some (.builtin "object.__setattr__")))(xg:findIn K (.ref C) "__getattribute__"=some (some (.builtin "BaseException.__getattribute__")))(xn:findIn K (.ref C) "__getattr__"=some none)(xc:findIn K (.ref C) "__class__"=some (some (.builtin "object.__class__")))(ZY:keepIn K (.ref C)=true)(l:K.lookup f=some ⟨oc,od,.func (fnOf "__init__" q (cv st) (a8 st) (aj st) .none kV doc pm an cdv ct),osl⟩)(c:codeIn K cdv q=true)(k:keepIn K (.ref f)=true)(hb:∀ us:List Value,us.length=ps.length->bindArgs (fnOf "__init__" q (cv st) (a8 st) (aj st) .none kV doc pm an cdv ct) ⟨us,[]⟩=pure (ps.zip us)):Q7 K C "__init__" q st ps f (fnOf "__init__" q (cv st) (a8 st) (aj st) .none kV doc pm an cdv ct):=⟨C2 l c k,⟨⟨⟨_,_,_,_,_,_,_,_,_,_,_,_,_,_,_,xo,ZQ,ZR,ZS⟩,ZT⟩,⟨_,ZU,ZV,ZW⟩,ZX,xg,xn,xc,ZY⟩,.all hb⟩
end
structure Txt (K:Frag)(w:World)(mg:Str->Option Value)(t:Hj):Prop where
 FH:mg "Voice"=some (.ref t.lr)
 Jj:mg "Deed"=some (.ref t.eO)
 OO:mg "Book"=some (.ref t.cO)
 zP:mg "BadName"=some (.ref t.bK)
 Dw:mg "NameTaken"=some (.ref t.gI)
 Jk:mg "Full"=some (.ref t.vG)
 Hm:mg "NoPlace"=some (.ref t.jx)
 zQ:mg "BadSign"=some (.ref t.jy)
 Hn:mg "NoVoice"=some (.ref t.jz)
 FI:mg "NotPlain"=some (.ref t.iy)
 jt:mg "NoteError"=some (.ref t.bA)
 zR:mg "BadWord"=some (.ref t.bE)
 Ho:mg "BadTerm"=some (.ref t.jA)
 Cm:mg "BadRow"=some (.ref t.bI)
 qG:mg "GREAT_KINDS"=some (.ref t.iO)
 AU:mg "SMALL_KINDS"=some (.ref t.lS)
 ya:mg "PARTING_KINDS"=some (.ref t.i4)
 nX:mg "MEASURE_KINDS"=some (.ref t.gj)
 iB:mg "SOUNDING_KINDS"=some (.ref t.ee)
 pj:mg "SILENT_KINDS"=some (.ref t.gX)
 zS:mg "HIGHEST_TONE"=some (.int 99 t.zM)
 zT:mg "TURNED_KINDS"=some (.ref t.jZ)
 zU:mg "PLAIN_WORTHS"=some (.ref t.j0)
 mJ:mg "TWOFOLD_WORTHS"=some (.ref t.fF)
 Dy:mg "FULL_WORTH"=some (.int 3 t.Dt)
 eU:mg "SHORTENED_WORTH"=some (.int 2 t.ua)
 yb:mg "DOUBLED_WORTH"=some (.int 2 t.x9)
 zV:mg "DOTTED_WORTH"=some (.int 3 t.zN)
 Ky:mg "LETTERS"=some (.str "abcdefghijklmnopqrstuvwxyz" t.Kw)
 zW:mg "LONGEST_NAME"=some (.int 8 t.zO)
 AV:mg "MOST_VOICES"=some (.int 12 t.AS)
 Dz:mg "MOST_SIGNS"=some (.int 200 t.Du)
 Nb:mg "LATEST"=some (.int 999 t.M9)
 Kz:mg "SLOWEST"=some (.int 9 t.Kx)
 KA:mg "FIGURES"=some (.ref t.vF)
 Nc:mg "WAYS"=some (.ref t.Dv)
 pq:mg "MOST_FIGURES_texts"=some (.int 2 t.pd)
 iW:mg "MOST_FIGURES_shelf"=some (.int 3 t.ph)
 Q8:mg "all"=none
 Nd:mg "any"=none
 DA:mg "bool"=none
 OP:mg "dict"=none
 gY:mg "enumerate"=none
 j1:mg "int"=none
 aV:mg "isinstance"=none
 bg:mg "len"=none
 fG:mg "list"=none
 Q9:mg "max"=none
 Ra:mg "min"=none
 gZ:mg "range"=none
 Hq:mg "str"=none
 zX:mg "tuple"=none
 Nf:mg "zip"=none
 aY:cg K mg "_law_cell_at" wj ["_law_script","_law_k"] t.wJ t.wK
 jB:cg K mg "_law_mixed" BD ["_law_seed","_law_k"] t.BQ t.BR
 px:cg K mg "_law_sign_by" wk ["_law_number_here"] t.wL t.wN
 xu:cg K mg "_law_numbers" wm ["_law_script","_law_at","_law_many"] t.wO t.wQ
 FJ:cg K mg "_law_line" EW ["_law_script","_law_at","_law_many"] t.Fb t.Fc
 xy:cg K mg "_law_entries" kF ["_law_script"] t.wR t.wU
 xA:cg K mg "_law_odd_row" kG ["_law_number_here"] t.wV t.wW
 zY:cg K mg "_law_bent" mq ["_law_rows","_law_way","_law_at","_law_number_here"] t.Fd t.Fe
 Cn:cg K mg "is_name" BE ["name"] t.BS t.BU
 cA:cg K mg "refuse_other_places" ib ["at","last"] t.ie t.ig
 Hr:cg K mg "good" MY ["sign"] t.M3 t.M4
 dP:cg K mg "refuse_bad_sign" kI ["sign"] t.kU t.kW
 DB:cg K mg "small" Jb ["sign"] t.Jd t.Je
 Co:cg K mg "low_end" BG ["line","at"] t.BX t.BY
 zZ:cg K mg "high_end" zf ["line","first","kinds"] t.zz t.zA
 j3:cg K mg "sets_measure" oU ["sign"] t.oZ t.o8
 FK:cg K mg "window" EX ["line","at","behind","changed"] t.Ff t.Fg
 lu:cg K mg "number_of" wo ["word","most"] t.wX t.wY
 Cp:cg K mg "sign_of" BH ["word"] t.BZ t.B3
 lx:cg K mg "read_sign" wq ["word"] t.wZ t.w6
 cJ:cg K mg "take_voice" sU ["book","words"] t.tL t.tM
 g6:cg K mg "take_canon" sV ["book","words"] t.tO t.tP
 z6:cg K mg "take_row" mZ ["book","row"] t.m9 t.zD
 fi:cg K mg "read_book" wt ["text"] t.xf t.xh
 FL:cg K mg "_law_word" EY ["_law_sign"] t.Fh t.Fi
 qH:cg K mg "_law_line_text" qq ["_law_line_here"] t.qz t.qA
 z8:cg K mg "_law_row_of" zh ["_law_name","_law_thing"] t.zE t.zF
 fH:cg K mg "_law_whole" BI ["_law_found"] t.vD t.vE
 Cq:cg K mg "_law_signs" BJ ["_law_found","_law_due"] t.Ca t.Cb
 FN:cg K mg "_law_nums" EZ ["_law_found","_law_due"] t.Fj t.Fl
 fJ:cg K mg "kind_at" BK ["line","at"] t.Cc t.Cd
 qI:cg K mg "plain_worth" qr ["kind","measure"] t.qB t.qC
 il:cg K mg "worths_without_runs" ic ["line","begin"] t.ij t.ik
 i5:cg K mg "has_left_note" nN ["line","found","first"] t.nV t.nW
 iC:cg K mg "has_right_note" mw ["line","behind"] t.mF t.mG
 ly:cg K mg "settle_one_over" kK ["line","found","first","behind"] t.kZ t.k8
 lz:cg K mg "settle_two_over" kL ["line","found","first","behind"] t.lh t.lj
 uc:cg K mg "settle_run" sX ["line","found","first","behind"] t.tS t.tT
 Cr:cg K mg "reading" BL ["line","begin"] t.Ce t.Cf
 z9:cg K mg "turned" E3 ["line"] t.Fo t.Fp
 pA:cg K mg "_law_line_of" wA ["_law_voices","_law_name"] t.xk t.xm
 FO:cg K mg "_law_base" E4 ["_law_line_here","_law_begin"] t.Fq t.Ft
 Ct:cg K mg "_law_three" BM ["_law_line_here","_law_begin"] t.Cg t.Ci
 Jl:cg K mg "_law_run" Jc ["_law_line_here","_law_told","_law_low","_law_high"] t.Jf t.Jg
 Aa:cg K mg "_law_read" E5 ["_law_line_here","_law_begin"] t.Fu t.Fv
 xB:cg K mg "_law_kept_of" wB ["_law_voices","_law_name"] t.xp t.xq
 Ab:cg K mg "_law_stands" zj ["_law_book","_law_voices"] t.zI t.zJ
 nc:cg K mg "_law_place_of" jo ["_law_text"] t.js t.tU
 FP:cg K mg "sounds" E6 ["sign"] t.Fx t.Fy
 g7:cg K mg "shown_sign" sY ["sign"] t.tV t.tW
 qJ:cg K mg "shown_voice" qt ["book","name"] t.qD t.qF
 ud:cg K mg "shown_book" sZ ["book"] t.tX t.tY
 rN:cg K mg "_law_number" zk ["_law_word_here"] t.zK t.zL
 lB:cg K mg "_law_canon_refused" kM ["_law_voices","_law_deed"] t.lp t.lq
 mK:cg K mg "_law_name_refused" mx ["_law_voices","_law_name"] t.mH t.mI
 xC:cg K mg "_law_sign_of" wC ["_law_word_here"] t.xr t.xt
 ue:cg K mg "_law_row_read" tf ["_law_voices","_law_row"] t.tZ t.t7
 Ng:cg K mg "law" PQ ["_law_script"] t.M7 t.M8
 gw:Jh K mg "measures" zi t.Fm #[.int 3 t.Ds] t.zG t.rM
 Ac:Jh K mg "runs" MZ t.OM #[.int 3 t.M6] t.M5 t.Hk
 j4:Jh K mg "worths" E2 t.Kv #[.int 3 t.Hl] t.Fn t.zH
 i6:ON K t.cO "__init__" "Book.__init__" nK ["self"] t.nP t.nQ
 eJ:ON K t.eO "__init__" "Deed.__init__" nM ["self","things","at","before","after"] t.nR t.nS
 ef:ON K t.lr "__init__" "Voice.__init__" mr ["self","name","terms"] t.mz t.mB
 fR:ub K t.cO "forget_deeds" "Book.forget_deeds" ja ["self"] t.jc t.jd
 c8:ub K t.cO "names" "Book.names" sS ["self"] t.tI t.tK
 bO:ub K t.cO "refuse_new" "Book.refuse_new" kH ["self","name"] t.kR t.kS
 fk:ub K t.cO "perform" "Book.perform" oT ["self","deed"] t.oX t.oY
 fZ:ub K t.cO "put_in" "Book.put_in" qp ["self","voice"] t.qx t.qy
 fK:ub K t.cO "add_voice" "Book.add_voice" mv ["self","name"] t.mC t.mD
 a9:ub K t.cO "voice_called" "Book.voice_called" jb ["self","name"] t.je t.jf
 bV:ub K t.cO "plain_voice" "Book.plain_voice" jP ["self","name"] t.jV t.jW
 gy:ub K t.cO "put" "Book.put" zg ["self","name","at","sign"] t.zB t.zC
 bR:ub K t.cO "canon" "Book.canon" sW ["self","name"] t.tQ t.tR
 bh:ub K t.cO "line" "Book.line" wu ["self","name"] t.o9 t.pb
 eA:ub K t.cO "kept" "Book.kept" wx ["self","name"] t.xi t.xj
 vH:ub K t.eO "do" "Deed.do" BF ["self"] t.BV t.BW
 fL:PR K t.cO "add_canon" "Book.add_canon" d6 t.tN #[.int 0 t.rK,.int 1 t.rL,.bool false] t.ed t.ix
 bH:Q7 K t.bI "__init__" "BadRow.__init__" kJ ["self","at"] t.kX t.kY
 dy:Q7 K t.bE "__init__" "BadWord.__init__" jQ ["self","at"] t.jX t.jY
 qK:∀ H,iQ K H t.iO [.str "G",.str "D",.str "R"]
 AW:∀ H,iQ K H t.lS [.str "s",.str "d",.str "r"]
 yc:∀ H,iQ K H t.i4 [.str ".",.str "3",.str "2"]
 nY:∀ H,iQ K H t.gj [.str "3",.str "2"]
 dh:∀ H,iQ K H t.ee [.str "G",.str "D",.str "s",.str "d"]
 pB:∀ H,iQ K H t.gX [.str "R",.str "r",.str ".",.str "3",.str "2"]
 yd:KD K w t.jZ [("3",.str "2"),("2",.str "3")]
 ye:KD K w t.j0 [("G",.int 3),("D",.int 2),("R",.int 3),("s",.int 1),("d",.int 1),("r",.int 1),(".",.int 0),("3",.int 0),("2",.int 0)]
 lC:KD K w t.fF [("G",.int 2),("R",.int 2)]
 KC:∀ H,iQ K H t.vF [.str "0",.str "1",.str "2",.str "3",.str "4",.str "5",.str "6",.str "7",.str "8",.str "9"]
 DC:KD K w t.Dv [("straight",.bl false),("turned",.bl true)]
 f6:GG K t.lr
 iP:GG K t.eO
 aQ:GG K t.cO
 lT:fQ K t.lr "name"
 j5:fQ K t.lr "terms"
 g8:fQ K t.lr "signs"
 pC:fQ K t.eO "things"
 rO:fQ K t.eO "at"
 pE:fQ K t.eO "before"
 qL:fQ K t.eO "after"
 eh:fQ K t.cO "voices"
 ng:fQ K t.cO "done"
 j6:fQ K t.cO "undone"
 Hs:Pt K t.bK
 DE:Pt K t.gI
 Jm:Pt K t.vG
 Ht:Pt K t.jx
 Ad:Pt K t.jy
 Hu:Pt K t.jz
 FQ:Pt K t.iy
 Hv:Pt K t.jA
 AX:findIn K (.ref t.bE) "at"=some none
 nh:findIn K (.ref t.bI) "at"=some none
 uf:XD K t.bA
 pF:exmOne K (.ref t.bK) (.ref t.bA)=some true
 nj:exmOne K (.ref t.gI) (.ref t.bA)=some true
 ug:exmOne K (.ref t.vG) (.ref t.bA)=some true
 pG:exmOne K (.ref t.jx) (.ref t.bA)=some true
 pH:exmOne K (.ref t.jy) (.ref t.bA)=some true
 pI:exmOne K (.ref t.jz) (.ref t.bA)=some true
 om:exmOne K (.ref t.iy) (.ref t.bA)=some true
 pJ:exmOne K (.ref t.jA) (.ref t.bA)=some true
 pK:exmOne K (.ref t.bE) (.ref t.bA)=some true
 qf:exmOne K (.ref t.bI) (.ref t.bA)=some true
 Ae:kitAny K (.ref t.bK) [.ref t.bK,.ref t.bE]=some true
 yf:kitAny K (.ref t.gI) [.ref t.bK,.ref t.bE]=some false
 Cu:kitAny K (.ref t.vG) [.ref t.bK,.ref t.bE]=some false
 Af:kitAny K (.ref t.jx) [.ref t.bK,.ref t.bE]=some false
 Ag:kitAny K (.ref t.jy) [.ref t.bK,.ref t.bE]=some false
 Ah:kitAny K (.ref t.jz) [.ref t.bK,.ref t.bE]=some false
 yu:kitAny K (.ref t.iy) [.ref t.bK,.ref t.bE]=some false
 Ai:kitAny K (.ref t.jA) [.ref t.bK,.ref t.bE]=some false
 Aj:kitAny K (.ref t.bE) [.ref t.bK,.ref t.bE]=some true
 kn:kitAny K (.ref t.bI) [.ref t.bK,.ref t.bE]=some false
 Jn:kitOne K (.ref t.bK) (.ref t.bI)=some false
 Gy:kitOne K (.ref t.gI) (.ref t.bI)=some false
 Nh:kitOne K (.ref t.vG) (.ref t.bI)=some false
 Jo:kitOne K (.ref t.jx) (.ref t.bI)=some false
 Jp:kitOne K (.ref t.jy) (.ref t.bI)=some false
 Jq:kitOne K (.ref t.jz) (.ref t.bI)=some false
 Hw:kitOne K (.ref t.iy) (.ref t.bI)=some false
 Jr:kitOne K (.ref t.jA) (.ref t.bI)=some false
 Js:kitOne K (.ref t.bE) (.ref t.bI)=some false
 vI:kitOne K (.ref t.bI) (.ref t.bI)=some true
variable (P:Program) {w:World} {K:Frag} {mg:Str->Option Value} (base:Heap) {t:Hj}
theorem Txt.vJ {K:Frag}{w:World}{mg:Str->Option Value}{t:Hj}(T:Txt K w mg t):Binds K t.ix ["self","name","leader","later","slow","is_turned"] []:=by
 obtain⟨_,_,_,_,dl⟩:=T.fL.dl;exact T.fL.binds (ds:=[]) dl rfl fun _ _ _ _ _ _ us hl=>by obtain⟨_,_,_,_,_,_,rfl⟩:=TZ hl;exact⟨_,rfl,rfl⟩
theorem Txt.Ak {K:Frag}{w:World}{mg:Str->Option Value}{t:Hj}(T:Txt K w mg t):Binds K t.rM ["line","begin"] []:=by
 obtain⟨_,_,_,_,dl⟩:=T.gw.dl;exact T.gw.binds (ds:=[]) dl rfl fun _ _ _ _ _ _ us hl=>by obtain⟨_,_,rfl⟩:=Na hl;exact⟨_,rfl,rfl⟩
theorem Txt.Rb {K:Frag}{w:World}{mg:Str->Option Value}{t:Hj}(T:Txt K w mg t):Binds K t.Hk ["line","begin"] []:=by
 obtain⟨_,_,_,_,dl⟩:=T.Ac.dl;exact T.Ac.binds (ds:=[]) dl rfl fun _ _ _ _ _ _ us hl=>by obtain⟨_,_,rfl⟩:=Na hl;exact⟨_,rfl,rfl⟩
theorem Txt.FR {K:Frag}{w:World}{mg:Str->Option Value}{t:Hj}(T:Txt K w mg t):Binds K t.zH ["line","begin"] []:=by
 obtain⟨_,_,_,_,dl⟩:=T.j4.dl;exact T.j4.binds (ds:=[]) dl rfl fun _ _ _ _ _ _ us hl=>by obtain⟨_,_,rfl⟩:=Na hl;exact⟨_,rfl,rfl⟩
noncomputable def cs (t:Hj):Cs:=⟨t.cO,t.lr,t.eO,true,fun r=>match r with
 |.sP=>t.jy
 |.yo=>t.bK
 |.pZ=>t.gI
 |.Full=>t.vG
 |.gi=>t.jz
 |.iU=>t.iy
 |.sQ=>t.jx
 |.jm=>t.jA
 |.yZ=>0
 |.y8=>0⟩
noncomputable def eV (ns:List Int)(k:Nat):Int:=ns.getD k 0
inductive uh (K:Frag)(vs:List V)(H:Hp)(Q:VK)(E:XK):Prop
 |mk (a:Addr) (ns:List Int) (k:Nat) (cL:vs=[.ref a,.int (k:Int)]) (cM:aL K H a (ns.map V.int)) (dA:ns.length<=63) (fA:Q (.int (eV ns k)) H):uh K vs H Q E
theorem nk (T:Txt K w mg t):aR P w K mg base d3 (0+1) t.wJ t.wK ["_law_script","_law_k"] (uh K):=by
 refine T.aY.ok Dn (fun vs H Q E h=>?_) (fun cdv A outer s H vs Q E hr h=>?_)
 ·obtain⟨a,ns,k,rfl,_⟩:=h;rfl
 ·obtain⟨a,ns,k,rfl,hS,hl,q⟩:=h;refine aH (ae (aI (aq gK (pv 1) (aE (JQ rfl) rfl T.Ra Qr (aa ai (aa (aE (aB.or aC) rfl T.bg bf (aa (pv 0) af)) af))) (aw _)) (ah (av (bL bo (pv 0) (pv 1) (fun _ _=>rfl)))) ax) (ah (av ai))) ?_;refine⟨_,rfl,_,rfl,.inl ⟨_,_,rfl,.inl hS,_,_,rfl,_,_,rfl,rfl,_,rfl,?_⟩⟩;rw[P'];refine aG (fun h=>?_) (fun h=>?_)
  ·have hk:k<ns.length:=by
    have:=G' h;split at this <;> omega
   have e:(ns.map V.int)[k]? = some (V.int (eV ns k)):=by
    rw[Zl',R' hk];unfold eV;rw[List.getD_eq_getElem?_getD,R' hk];rfl
   exact⟨_,rfl,_,rfl,.inl ⟨_,_,_,_,rfl,rfl,hS,eQ e,q⟩⟩
  ·have hk:ns.length<=k:=by
    have h':¬((k:Int)<if(ns.length:Int)<63 then(ns.length:Int) else 63):=fun z=>h (L' z);split at h' <;> omega
   have e:eV ns k=0:=by
    unfold eV;rw[List.getD_eq_getElem?_getD,List.getElem?_eq_none hk];rfl
   rw[e]at q;exact q
inductive Al (vs:List V)(H:Hp)(Q:VK)(E:XK):Prop
 |mk (seed k:Int) (cL:vs=[.int seed,.int k]) (cM:∀ r:Int,0<=r->r<65521->Q (.int r) H):Al vs H Q E
theorem rP (T:Txt K w mg t):aR P w K mg base d3 (0+1) t.BQ t.BR ["_law_seed","_law_k"] Al:=by
 refine T.jB.ok rD ?_ ?_
 x_go
 obtain⟨seed,k,rfl,q⟩:=h;refine aH (ae (cZ 2 rD.nd (aD bF (aD (aO.or (ay.or aP)) (aD (aO.or (ay.or aP)) (aD (gJ.or gN) (aD bF (pv 0) ai) ai) (aD (gJ.or gN) (pv 1) ai)) ai) ai)) (ae (cZ 3 rD.nd (aD bF (aD (aO.or (ay.or aP)) (aD (aO.or (ay.or aP)) (aD (gJ.or gN) (pv 2) (pv 2)) (aD (gJ.or gN) (pv 1) ai)) (aD bF (aD gf (pv 0) ai) ai)) ai)) (ah (av (aD bF (aD (aO.or (ay.or aP)) (aD gf (aD (gJ.or gN) (pv 3) (pv 3)) ai) (pv 3)) ai))))) ?_;have p2:(2:Int) ^ 64=18446744073709551616:=by decide
 refine⟨_,rfl,_,_,rfl,rfl,(by decide:(0:Int)<1000003),.inl ⟨_,_,rfl,rfl,.inr ⟨by decide,by decide⟩,_,rfl,.inl ⟨_,_,rfl,rfl,.inr ⟨by decide,by decide⟩,.inl ⟨_,_,rfl,rfl,.inl ⟨_,_,rfl,rfl,_,_,rfl,rfl,(by decide:(0:Int)<1000033),?_⟩⟩⟩⟩⟩;generalize hone:(seed % 1000003 * 48271+k * 30011+17) % 1000033=one;have b1:0<=one/\one<1000033:=by omega
 refine⟨_,rfl,_,rfl,.inl ⟨_,_,rfl,rfl,.inl ⟨by rw[p2];omega,by rw[p2];omega⟩,_,rfl,.inl ⟨_,_,rfl,rfl,.inr ⟨by decide,by decide⟩,.inl ⟨_,_,rfl,rfl,_,rfl,_,_,rfl,rfl,⟨by decide,by decide⟩,_,_,rfl,rfl,(by decide:(0:Int)<997),.inl ⟨_,_,rfl,rfl,_,_,rfl,rfl,(by decide:(0:Int)<999983),?_⟩⟩⟩⟩⟩;generalize ZZ:(one * one+k * 613+seed / 1000003 % 997) % 999983=two;have b2:0<=two/\two<999983:=by omega
 refine⟨_,rfl,_,rfl,.inl ⟨_,_,rfl,rfl,.inl ⟨by rw[p2];omega,by rw[p2];omega⟩,_,_,rfl,rfl,⟨by decide,by decide⟩,_,rfl,.inl ⟨_,_,rfl,rfl,_,_,rfl,rfl,(by decide:(0:Int)<65521),?_⟩⟩⟩;exact q _ (by omega) (by omega)
noncomputable def WG:List Kd:=[.G,.G,.G,.G,.G,.s,.s,.s,.s,.s,.s,.s,.s,.s,.d,.d,.r,.r,.D,.R,.dot,.dot,.three,.two]
theorem T1:(Str.ofString "GGGGGsssssssssddrrDR..32").cps.toList=WG.map Kd.cp:=by lk
theorem FT (k:Kd):vd k.str "GDsd"=k.du:=by cases k <;> decide +kernel
inductive ui (vs:List V)(H:Hp)(Q:VK)(E:XK):Prop
 |mk (m:Int) (cL:vs=[.int m]) (cM:∀(p:Addr)(s:Sg),ff s->H p=none->Q (.ref p) (upd H p (.tup [.str s.1.str,.int s.2]))):ui vs H Q E
theorem uj (T:Txt K w mg t):aR P w K mg base d3 (0+1) t.wL t.wN ["_law_number_here"] ui:=by
 refine T.px.ok tj ?_ ?_
 x_go
 obtain⟨m,rfl,q⟩:=h;refine aH (ae (cZ 1 tj.nd (bL bo aA (aD bF (pv 0) ai) (fun _ _=>rfl))) (ae (aI (aq (bX.or bW) (pv 1) aA rfl) (ah (av (cU (aa (pv 1) (aa (aD bF (aD gf (pv 0) ai) ai) af))))) ax) (ah (av (cU (aa (pv 1) (aa ai af))))))) ?_;obtain⟨k,hk⟩:∃ k,WG[(m % 24).toNat]? = some k:=by
  have h1:(m % 24).toNat<WG.length:=by
   show _<24;omega
  exact⟨_,R' h1⟩
 have hat:Ph (Str.ofString "GGGGGsssssssssddrrDR..32").cps.toList (m % 24)=some k.cp:=by
  have e0:m % 24=(((m % 24).toNat:Nat):Int):=by omega
  rw[e0,T1];exact eQ (by rw[Zl',hk];rfl)
 refine⟨_,rfl,_,_,rfl,rfl,(by decide:(0:Int)<24),.inr (.inr ⟨_,_,_,rfl,rfl,(by lk),hat,?_⟩)⟩;rw[<-Tu k];tm_up;refine aG (fun h=>?_) (fun h=>?_)
 ·have h4:k.du=true:=by rw[<-FT];exact h
  tm_up;refine⟨(by show 2<=sizeLine;decide),fun p hp=>?_⟩;exact q p (k,m / 24 % 100) ⟨fun _=>by show 0<=m / 24 % 100/\m / 24 % 100<100;omega,fun z=>by rw[h4]at z;cases z⟩ hp
 ·have h4:k.du=false:=by
   rw[<-FT];exact Y'.mpr h
  tm_up;refine⟨(by show 2<=sizeLine;decide),fun p hp=>?_⟩;exact q p (k,0) ⟨(fun z=>by rw[h4]at z;cases z),fun _=>rfl⟩ hp
inductive uk (K:Frag)(vs:List V)(H:Hp)(Q:VK)(E:XK):Prop
 |mk (a:Addr) (ns:List Int) (k m:Nat) (cL:vs=[.ref a,.int (k:Int),.int (m:Int)]) (cM:aL K H a (ns.map V.int)) (dA:ns.length<=63) (fA:m<=48) (ki:∀(l:Addr)(ms:List Int)(H':Hp),ao H H'->H' l=some (.lst (ms.map V.int))->ms.length<=60->(∀ x∈ms,0<=x)->Q (.ref l) H'):uk K vs H Q E
theorem DF (T:Txt K w mg t):aR P w K mg base d3 (0+2) t.wO t.wQ ["_law_script","_law_at","_law_many"] (uk K):=by
 have aW:=nk P base T;have iD:=rP P base T;refine T.xu.ok gT ?_ ?_
 x_go
 obtain⟨a,ns,k,m,rfl,hS,hl,hm,q⟩:=h;refine aH (ae (CP (i:=3) gT.nd rfl (Or.inr rfl) (dg T.aY aW hr (aa (pv 0) (aa (pv 1) af)))) (ae (aI (aq gK (pv 3) (aD Lr ai ai) (aw _)) (ah (av (eB (cn:=["_law_k"]) rfl (b8.of rfl) (ip rfl T.gZ (aa (pv 2) af)) (fun _=>(bZ (i:=0) zr rfl (Or.inl rfl))) (fun _=>eZ) (fun _=>(dg T.jB iD hr (aa (aD (aO.or (ay.or aP)) (pv 4) (aD (gJ.or gN) ai (dg T.aY aW hr (aa (pv 1) (aa (aD (aO.or (ay.or aP)) (aD (aO.or (ay.or aP)) (pv 2) ai) (pv 0)) af))))) (aa (pv 0) af))))))) ax) (ae (cZ 4 gT.nd (aD gn (pv 3) (aD Lr ai ai))) (ae (cZ 5 gT.nd (bC af)) (ae (yy PassesOwn.never (bq (PW.pt (cN (aq nG (pv 4) ai (aw _)) (dJ (aq gK (aE (aB.or aC) rfl T.bg bf (aa (pv 5) af)) ai (aw _)))))) (ae (aS (cQ Zj' slot_list_append Zp' bp (pv 5) (aa (aD bF (pv 4) ai) af))) (ah (cZ 4 gT.nd (aD gf (pv 4) ai))))) (ah (av (pv 5)))))))) ?_;refine⟨_,rfl,_,rfl,a,ns,k,rfl,hS,hl,?_⟩;refine⟨_,rfl,_,_,rfl,rfl,⟨by decide,by decide,by decide⟩,_,_,rfl,rfl,_,rfl,?_⟩;refine aG (fun _=>?_) (fun _=>?_)
 ·refine⟨_,rfl,(m:Int),rfl,(by omega),(by omega),fun D b hD=>?_⟩;refine yF (lo:=0) (n:=((m:Int)).toNat) (fun i ys σ H'=>∃(v:Option V)(ms:List Int),σ=[v,some (.ref a),some (.int (k:Int)),some (.int (m:Int)),some (.int (eV ns k)),none,none]/\H'=upd H D (.lst ys)/\ys=ms.map V.int/\ms.length=i/\∀ x∈ms,0<=x) ⟨none,[],rfl,rfl,rfl,rfl,fun _ h=>nomatch h⟩ ?_ ?_
  ·rintro i ys σ H' hi ⟨v,ms,rfl,rfl,rfl,hlen,hpos⟩ N hN;refine bT ?_;refine⟨_,rfl,_,rfl,_,rfl,.inl ⟨_,_,rfl,rfl,_,rfl,.inl ⟨_,_,rfl,rfl,a,ns,k+1+i,?_,dX hS hD,hl,.inl ⟨_,_,rfl,rfl,.inl ⟨by decide,by decide⟩,?_⟩⟩⟩⟩
   ·show [V.ref a,V.int ((k:Int)+1+(0+(i:Int)))]=[V.ref a,V.int ((k+1+i:Nat):Int)];have e:(k:Int)+1+(0+(i:Int))=((k+1+i:Nat):Int):=by omega
    rw[e]
   ·refine .inl ⟨_,_,rfl,rfl,_,rfl,_,_,rfl,fun r h0 h1=>⟨ag,?_,?_⟩⟩
    ·rw[P'];exact aJ (by omega)
    ·refine hN _ _ _ ⟨some _,ms++[r],rfl,cq,by simp,by simp[hlen],fun x hx=>?_⟩;rcases mem_append.mp hx with z|z
     ·exact hpos x z
     ·have:x=r:=by simpa using z
      omega
  ·rintro ys σ H' ⟨v,ms,rfl,rfl,rfl,hlen,hpos⟩;exact q D ms _ (ao.upd hD) ag (by omega) hpos
 ·refine⟨_,rfl,_,_,rfl,rfl,⟨by decide,by decide,by decide⟩,_,_,rfl,rfl,(by decide),fun l hl0=>?_⟩;refine⟨fun mm σ H'=>∃(left:Int)(ms:List Int),σ=[some (.ref a),some (.int (k:Int)),some (.int (m:Int)),some (.int (eV ns k)),some (.int left),some (.ref l)]/\H'=upd H l (.lst (ms.map V.int))/\mm=60-ms.length/\ms.length<=60/\∀ x∈ms,0<=x,
   ⟨60,_,[],rfl,rfl,rfl,Nat.zero_le _,fun _ h=>nomatch h⟩,?_⟩
  rintro mm σ H' ⟨left,ms,rfl,rfl,rfl,hlen,hpos⟩;refine dG (decide (0<left)&&decide ((ms.length:Int)<60)) ?_ ?_
  ·refine⟨_,rfl,_,_,rfl,rfl,_,rfl,?_⟩;refine aG (fun h=>?_) (fun h=>?_)
   ·refine⟨_,rfl,.inl ⟨l,_,rfl,.inl (aL.of ag),_,_,rfl,rfl,_,rfl,?_⟩⟩;rw[P'];exact⟨by rw[h,Bool.true_and],rfl⟩
   ·exact⟨by rw[Y'.mpr h];rfl,rfl⟩
  refine aG (fun Z0=>?_) (fun _=>?_)
  ·have Z1:ms.length<60:=by
    have:=G' (Bool.and_eq_true_iff.mp Z0).2;omega
   refine⟨fun σ' H'=>∃ m',m'<60-ms.length/\∃(left:Int)(ms:List Int),σ'=[some (.ref a),some (.int (k:Int)),some (.int (m:Int)),some (.int (eV ns k)),some (.int left),some (.ref l)]/\H'=upd H l (.lst (ms.map V.int))/\m'=60-ms.length/\ms.length<=60/\∀ x∈ms,0<=x,fun _ _ h=>h,?_⟩;refine⟨_,rfl,.inl ⟨rfl,_,aL.of ag⟩,_,rfl,_,_,rfl,rfl,(by decide:(0:Int)<2400),l,_,_,rfl,rfl,ag,(by rw[P'];exact aJ (by omega)),_,rfl,_,_,rfl,rfl,⟨by decide,by decide⟩,60-(ms.length+1),by omega,_,ms++[left % 2400],rfl,?_,by simp,by simp;omega,fun x hx=>?_⟩
   ·rw[cq,map_append];rfl
   ·rcases mem_append.mp hx with z|z
    ·exact hpos x z
    ·have:x=left % 2400:=by simpa using z
     omega
  ·exact⟨_,rfl,q l ms _ (ao.upd hl0) ag (by omega) hpos⟩
inductive Cv (K:Frag)(vs:List V)(H:Hp)(Q:VK)(E:XK):Prop
 |mk (a:Addr) (ns:List Int) (k m:Nat) (cL:vs=[.ref a,.int (k:Int),.int (m:Int)]) (cM:aL K H a (ns.map V.int)) (dA:ns.length<=63) (fA:m<=48) (ki:∀(l:Addr)(xs:List V)(ss:List Sg)(H':Hp),ao H H'->H l=none->H' l=some (.lst xs)->ia H' xs ss->(∀ s∈ss,ff s)->ss.length<=60->Q (.ref l) H'):Cv K vs H Q E
theorem KG (T:Txt K w mg t):aR P w K mg base d3 (0+3) t.Fb t.Fc ["_law_script","_law_at","_law_many"] (Cv K):=by
 have pL:=uj P base T;have FU:=DF P base T;refine T.FJ.ok Kp ?_ ?_
 x_go
 obtain⟨a,ns,k,m,rfl,hS,hl,hm,q⟩:=h;refine aH (ah (av (eB (cn:=["_law_number_here"]) rfl (b8.of rfl) (dz (dg T.xu FU hr (aa (pv 0) (aa (pv 1) (aa (pv 2) af))))) (fun _=>(bZ (i:=0) E7 rfl (Or.inl rfl))) (fun _=>eZ) (fun _=>(dg T.px pL hr (aa (pv 0) af)))))) ?_;refine⟨_,rfl,_,rfl,_,rfl,a,ns,k,m,rfl,hS,hl,hm,fun l ms H1 s1 hl1 hlen hpos=>⟨l,rfl,⟨_,aL.of hl1⟩,fun D b hD=>?_⟩⟩;refine dH (K:=K) (xs:=ms.map V.int) (fun i ys σ H'=>∃(v:Option V)(ss:List Sg),σ=[v,some (.ref a),some (.int (k:Int)),some (.int (m:Int))]/\ao H1 H'/\H' D=some (.lst ys)/\ia H' ys ss/\ss.length=i/\i<=ms.length/\∀ s∈ss,ff s)
  ⟨none,[],rfl,ao.upd hD,ag,.nil,rfl,Nat.zero_le _,fun _ h=>nomatch h⟩ ?_ ?_ ?_
 ·rintro i ys σ H' ⟨v,ss,rfl,s2,_⟩;exact s2.seq (aL.of hl1)
 ·rintro i ys x σ H' hx ⟨v,ss,rfl,s2,Hy,hsg,hsl,hi,hg⟩ N hN;have hil:i<ms.length:=by
   have:=(S'.mp hx).1;rw[P']at this;exact this
  obtain⟨z,hz,rfl⟩:=ve hx;refine bT ?_;refine⟨_,rfl,z,rfl,fun p s gs hp=>⟨ao.upd hp _ _ Hy,?_,?_⟩⟩
  ·rw[cE hsg,hsl];exact aJ (by omega)
  ·have PU:=ao.upd (o:=.tup [.str s.1.str,.int s.2]) hp _ _ Hy;refine hN _ _ _ ⟨_,ss++[s],rfl,cb (s2.trans (ao.upd hp)) hD,ag,iS (Dc PU (hsg.same (ao.upd hp))) (EB PU ⟨p,rfl,ag⟩),by simp[hsl],hil,fun y hy=>?_⟩;rcases mem_append.mp hy with z|z
   ·exact hg y z
   ·have:y=s:=by simpa using z
    rw[this];exact gs
 ·rintro ys σ H' ⟨v,ss,rfl,s2,Hy,hsg,hsl,hi,hg⟩;refine q D ys ss H' (s1.trans s2) (s1.free hD) Hy hsg hg ?_;rw[hsl,P'];omega
noncomputable def nine:List Str:=["ann","bo","cy","dora","eve","ann","bo","cy","dora"]
noncomputable def vK (r k:Nat):Str:=nine.getD (r+k) ""
noncomputable def Ni (k:Nat):Str:=["xg","xf","xa","xb","xc","xd","xe"].getD k ""
theorem T2:(List.range 5).all (fun r=>(List.range 6).all fun m=>decide (((List.range m).map (vK r)++(List.range 7).map Ni).Nodup)&&((List.range m).map (vK r)++(List.range 7).map Ni).all fun n=>nameB n && !decide (n = "zed")&&decide (n.length<=1000))=true:=by lk
theorem OQ {r k:Nat}(hr:r<5)(hk:k<5):(nine.drop r)[k]? = some (vK r k):=by
 rw[getElem?_drop];unfold vK;have:r+k<nine.length:=by show r+k<9;omega
 rw[List.getD_eq_getElem?_getD,R' this];rfl
noncomputable def strip (t:Addr)(H:Hp):Hp:=fun b=>if b=t then none else H b
theorem pM {t b:Addr}{H:Hp}{o:HO}(n:b≠t)(h:H b=some o):strip t H b=some o:=by
 unfold strip;rw[Za' n,h]
theorem Nj (t:Addr)(H:Hp):ao (strip t H) H:=fun b o h=>by
 unfold strip at h
 by_cases e:b=t
 ·rw[Zc' e]at h;exact nomatch h
 ·rwa [Za' e]at h
theorem j7 {t:Addr}{H H':Hp}(s:ao H H'):ao (strip t H) (strip t H'):=fun b o h=>by
 unfold strip at *
 by_cases e:b=t
 ·rw[Zc' e]at h;exact nomatch h
 ·rw[Za' e] at *;exact s _ _ h
theorem KH (t:Addr)(H:Hp)(o:HO):strip t (upd H t o)=strip t H:=by
 funext b
 unfold strip
 by_cases e:b=t
 ·rw[Zc' e,Zc' e]
 ·rw[Za' e,Za' e,ak e]
theorem ia.strip {t:Addr}{H:Hp}{xs:List V}(h:H t=some (.lst xs)):∀{ys:List V} {ss:List Sg},ia H ys ss->ia (strip t H) ys ss:=fun g=>dC (fun y s=>by
 rintro⟨p,e1,e2⟩;exact⟨p,e1,pM (fun e=>by rw[e,h]at e2;exact nomatch e2) e2⟩) g
structure EI (r pn:Nat)(Rc:List Str)(vw:Vw):Prop where
 n:vw.map (·.1)=Rc
 p:∀(j:Nat) q,vw[j]? = some q->j<pn->∃ ss,q.2=.pl ss
 g:∀ q∈vw,(∃ ss,q.2=.pl ss/\ss.length<=24/\∀ s∈ss,ff s)\/(∃ c lt sl tn,c<pn/\q.2=.cn (vK r c) lt sl tn/\(0<=lt/\lt<=999/\1<=sl/\sl<=9))
theorem EI.plus {r pn:Nat}{Rc:List Str}{vw:Vw}(h:EI r pn Rc vw){n:Str}{ss:List Sg}(hs:ss.length<=24)(hg:∀ s∈ss,ff s):EI r pn (Rc++[n]) (vw++[(n,.pl ss)]) where
 n:=by rw[map_append,h.n];rfl
 p:=fun j q e hj=>by
  by_cases hlt:j<vw.length
  ·rw[getElem?_append_left hlt]at e;exact h.p j q e hj
  ·have:q∈[(n,Th.pl ss)]:=by
    rw[List.getElem?_append_right (by omega)]at e;exact Zh' e
   rw[mem_singleton.mp this];exact⟨ss,rfl⟩
 g:=fun q hq=>by
  rcases mem_append.mp hq with hq|hq
  ·exact h.g q hq
  ·rw[mem_singleton.mp hq];exact .inl ⟨ss,rfl,hs,hg⟩
theorem EI.more {r pn:Nat}{Rc:List Str}{vw:Vw}(h:EI r pn Rc vw){n:Str}{c:Nat}{lt sl:Int}{tn:Bool}(hl:pn<=vw.length)(hc:c<pn)(hk:(0<=lt/\lt<=999/\1<=sl/\sl<=9)):EI r pn (Rc++[n]) (vw++[(n,.cn (vK r c) lt sl tn)]) where
 n:=by rw[map_append,h.n];rfl
 p:=fun j q e hj=>by
  rw[getElem?_append_left (by omega)]at e;exact h.p j q e hj
 g:=fun q hq=>by
  rcases mem_append.mp hq with hq|hq
  ·exact h.g q hq
  ·rw[mem_singleton.mp hq];exact .inr ⟨c,lt,sl,tn,hc,rfl,hk⟩
theorem EI.ok {r pn m x:Nat}{vw:Vw}(h:EI r pn ((List.range m).map (vK r)++(List.range x).map Ni) vw)(hr:r<5)(hm:m<6)(hx:x=0\/x=7)(hp:pn<=m):MK vw:=by
 have h1:=all_eq_true.mp (all_eq_true.mp T2 r (mem_range.mpr hr)) m (mem_range.mpr hm);rw[Bool.and_eq_true,decide_eq_true_eq,all_eq_true]at h1;have sub:List.Sublist ((List.range m).map (vK r)++(List.range x).map Ni) ((List.range m).map (vK r)++(List.range 7).map Ni):=by
  rcases hx with rfl|rfl
  ·exact List.Sublist.append_left (List.nil_sublist _) _
  ·exact List.Sublist.refl _
 have nd:(vw.map (·.1)).Nodup:=by rw[h.n];exact sub.nodup h1.1
 have vl:vw.length=m+x:=by
  have:=Zn' List.length h.n;rw[P',Zd',P',P',length_range,length_range]at this;exact this
 have ld:∀(i:Nat) n ld lt sl tn,vw[i]? = some (n,Th.cn ld lt sl tn)->(∃ ss,(ld,Th.pl ss)∈vw.take i)/\(0<=lt/\lt<=999/\1<=sl/\sl<=9):=by
  intro i n ld lt sl tn e;have hi:¬ i<pn:=fun hi=>by
   obtain⟨ss,hss⟩:=h.p i _ e hi;exact nomatch hss
  rcases h.g _ (Zh' e) with ⟨ss,hss,_⟩|⟨c,lt',sl',Z2,hc,hcn,hk⟩
  ·exact nomatch hss
  ·have hcn:Th.cn ld lt sl tn=Th.cn (vK r c) lt' sl' Z2:=hcn
   injection hcn with e1 e2 e3 e4
   subst e1 e2 e3 e4;refine⟨?_,hk⟩;have hcl:c<vw.length:=by omega
   obtain⟨ss,hss⟩:=h.p c _ (R' hcl) hc;have hn:(vw[c]).1=vK r c:=by
    have e5:(vw.map (·.1))[c]? = some (vw[c]).1:=by rw[Zl',R' hcl];rfl
    rw[h.n,getElem?_append_left (by rw[P',length_range];omega),Zl',List.getElem?_range (by omega)]at e5;exact(W' e5).symm
   refine⟨ss,?_⟩;have e6:(vw.take i)[c]? = some (vK r c,Th.pl ss):=by
    rw[List.getElem?_take_of_lt (by omega),R' hcl];exact Zn' some (Prod.ext hn hss)
   exact Zh' e6
 refine⟨⟨nd,fun n l lt sl tn hq=>?_,fun n ss hq=>?_,by omega⟩,fun q hq=>?_,fun i n l lt sl tn e=>(ld i n l lt sl tn e).1,fun n ss hq=>?_⟩
 ·obtain⟨i,e⟩:=getElem?_of_mem hq;obtain⟨⟨ss,hss⟩,hk⟩:=ld i n l lt sl tn e;exact⟨⟨ss,List.mem_of_mem_take hss⟩,hk⟩
 ·rcases h.g _ hq with ⟨ss',e,h2,h3⟩|⟨_,_,_,_,_,e,_⟩
  ·have e:Th.pl ss=Th.pl ss':=e
   injection e with e
   subst e;exact⟨by omega,h3⟩
  ·exact nomatch e
 ·have hn:q.1∈vw.map (·.1):=List.mem_map_of_mem hq;rw[h.n]at hn;have:=h1.2 _ (sub.mem hn);rw[Bool.and_eq_true,Bool.and_eq_true,Bool.not_eq_true',decide_eq_false_iff_not,decide_eq_true_eq]at this;exact⟨this.1.1,this.1.2,this.2⟩
 ·rcases h.g _ hq with ⟨ss',e,h2,h3⟩|⟨_,_,_,_,_,e,_⟩
  ·have e:Th.pl ss=Th.pl ss':=e
   injection e with e
   subst e;exact h2
  ·exact nomatch e
theorem Rg {H:Hp}{t:Addr}{ys zs:List V}{vw:Vw}{p:Addr}{n:Str}{v:V}{th:Th}(ht:H t=some (.lst zs))(pv:Paired (zc (strip t H)) ys vw)(hp:H p=none)(hv:MJ (strip t H) v th):Paired (zc (strip t (upd H p (.tup [.str n,v])))) (ys++[.ref p]) (vw++[(n,th)]):=by
 have s:=ao.upd (o:=.tup [.str n,v]) hp;refine Oy (dC (fun _ _ q=>q.same (j7 s)) pv) (.cons ⟨p,v,rfl,pM (fun e=>by rw[e,ht]at hp;exact nomatch hp) ag,hv.same (j7 s)⟩ .nil)
theorem Nk {H H':Hp}{t:Addr}{o:HO}(s:ao H H')(n:H t=none):ao H (upd H' t o):=fun b u h=>by
 rw[ak (fun e=>by rw[e,n]at h;exact nomatch h)];exact s _ _ h
theorem rQ {H H5:Hp}{t p m1:Addr}{ys ns:List V}{vw:Vw}{n:Str}{v:V}{th:Th}(s:ao H H5)(nt:H t=none)(ht:H5 t=some (.lst ys))(hm:H5 m1=some (.lst ns))(nm:m1≠t)(pv:Paired (zc (strip t H5)) ys vw)(hp:H5 p=none)(hv:MJ (strip t H5) v th):∀ H6,H6=upd (upd H5 p (.tup [.str n,v])) t (.lst (ys++[.ref p]))->ao H H6/\H6 m1=some (.lst ns)/\H6 t=some (.lst (ys++[.ref p]))/\Paired (zc (strip t H6)) (ys++[.ref p]) (vw++[(n,th)]):=by
 rintro H6 rfl;have s1:=s.trans (ao.upd (o:=.tup [.str n,v]) hp);refine⟨Nk s1 nt,?_,ag,?_⟩
 ·rw[ak nm];exact ao.upd hp _ _ hm
 ·rw[KH];exact Rg ht pv hp hv
theorem Rh:(List.range 7).all (fun i=>match (Str.ofString "gfabcde").cps.toList[i]? with|some c=>decide ((Str.ofString "x")++(⟨#[c]⟩:Str)=Ni i)&&decide ((Str.ofString "x").length+(⟨#[c]⟩:Str).length<=1000)|none=>false)=true:=by lk
theorem T3 {i:Nat}(h:i<7):∃ c,(Str.ofString "gfabcde").cps.toList[i]? = some c/\(Str.ofString "x")++(⟨#[c]⟩:Str)=Ni i/\(Str.ofString "x").length+(⟨#[c]⟩:Str).length<=1000:=by
 have h1:=all_eq_true.mp Rh i (mem_range.mpr h);cases e:(Str.ofString "gfabcde").cps.toList[i]? with
 |none=>rw[e]at h1;exact nomatch h1
 |some c =>
  rw[e]at h1;have h2:=Bool.and_eq_true_iff.mp h1;exact⟨c,rfl,G' h2.1,G' h2.2⟩
inductive um (K:Frag)(vs:List V)(H:Hp)(Q:VK)(E:XK):Prop
 |mk (a:Addr) (ns:List Int) (cL:vs=[.ref a]) (cM:aL K H a (ns.map V.int)) (dA:ns.length<=63) (fA:∀(l:Addr)(vw:Vw)(H':Hp),ao H H'->H l=none->Q4 H' l vw->MK vw->Q (.ref l) H'):um K vs H Q E
theorem DG (T:Txt K w mg t):aR P w K mg base d3 (0+4) t.wR t.wU ["_law_script"] (um K):=by
 have aW:=nk P base T;have iD:=rP P base T;have Nl:=KG P base T;have pL:=uj P base T;refine T.xy.ok bG ?_ ?_
 x_go
 obtain⟨a,ns,rfl,hS,hl,q⟩:=h;obtain⟨nZ,n6⟩:∃ v:List (Str×Pos),v=oW:=⟨_,rfl⟩;have hbody:a8 kF=Stmt.Assign [Expr.Name "_law_names" ⟨391,4,391,14⟩] (Expr.List (nZ.map fun c=>Expr.Constant (.str c.1) 0 c.2) ⟨391,17,391,78⟩) ⟨391,4,391,78⟩::(a8 kF).drop 1:=by subst n6;rfl
 rw[hbody];refine aH (ae (Ej (i:=1) nZ bG.nd rfl (Or.inl rfl)) (ae (cZ 1 bG.nd (dN (eR.or (gM.or gP)) (pv 1) (dW (aD bF (aD gf (dg T.aY aW hr (aa (pv 0) (aa ai af))) ai) ai)) eP)) (ae (cZ 2 bG.nd (aD bF (dg T.aY aW hr (aa (pv 0) (aa ai af))) ai)) (ae (cZ 3 bG.nd (bC af)) (ae (dF PassesOwn.never rfl (ip rfl T.gZ (aa (pv 2) af)) (bZ (i:=4) bG.nd rfl (Or.inr rfl)) (ae (cZ 5 bG.nd (aD bF (dg T.jB iD hr (aa (dg T.aY aW hr (aa (pv 0) (aa ai af))) (aa (pv 4) af))) ai)) (ah (aS (cQ Zj' slot_list_append Zp' bp (pv 3) (aa (cU (aa (bL bo (pv 1) (pv 4) (fun _ _=>rfl)) (aa (dN (eR.or (gM.or gP)) (dg T.FJ Nl hr (aa (pv 0) (aa (aD (aO.or (ay.or aP)) ai (aD (gJ.or gN) ai (pv 4))) (aa (pv 5) af)))) eP (dW ai)) af))) af)))))) (ae (dF PassesOwn.never rfl (ip rfl T.gZ (aa (aD (gJ.or gN) (aD bF (aD gf (dg T.aY aW hr (aa (pv 0) (aa ai af))) ai) ai) (bP (fB.or cG) rfl T.j1 jF (aa (bB nG (pv 2) ai (aw _)) af))) af)) (bZ (i:=4) bG.nd rfl (Or.inr rfl)) (ae (cZ 6 bG.nd (dg T.aY aW hr (aa (pv 0) (aa (aD (aO.or (ay.or aP)) ai (pv 4)) af)))) (ae (cZ 7 bG.nd (bJ (cu (aq (ba.or (aN (aF hr))) (aD bF (pv 6) ai) ai (aw _)) (aD bF (pv 6) ai) (aD bF (aD gf (pv 6) ai) ai)))) (ae (cZ 8 bG.nd (aD (aO.or (ay.or aP)) ai (aD bF (dg T.aY aW hr (aa (pv 0) (aa (aD (aO.or (ay.or aP)) ai (pv 4)) af))) (bL bo (bC (aa ai (aa ai af))) (bP (fB.or cG) rfl T.j1 jF (aa (bB nG (aD bF (pv 6) ai) ai (aw _)) af)) (fun _ _=>rfl))))) (ae (cZ 9 bG.nd (bL bo (pv 1) (aD bF (dg T.aY aW hr (aa (pv 0) (aa (aD (aO.or (ay.or aP)) ai (pv 4)) af))) (pv 2)) (fun _ _=>rfl))) (ah (aS (cQ Zj' slot_list_append Zp' bp (pv 3) (aa (cU (aa (bL bo (pv 1) (aD (aO.or (ay.or aP)) (pv 2) (pv 4)) (fun _ _=>rfl)) (aa (cU (aa (pv 9) (aa (pv 7) (aa (pv 8) (aa (bB (ba.or (aN (aF hr))) (aD bF (aD gf (pv 6) ai) ai) ai (aw _)) af))))) af))) af))))))))) (ae (dF PassesOwn.never rfl (ip rfl T.gZ (aa (aD (gJ.or gN) ai (bP (fB.or cG) rfl T.j1 jF (aa (bB (ba.or (aN (aF hr))) (aD bF (aD gf (dg T.aY aW hr (aa (pv 0) (aa ai af))) ai) ai) ai (aw _)) af))) af)) (bZ (i:=4) bG.nd rfl (Or.inr rfl)) (ae (yH (i:=10) bG.nd rfl rfl (cn:=["_law_j"]) rfl (b8.of rfl) (ip rfl T.gZ (aa (aD (aO.or (ay.or aP)) (aD bF (dg T.aY aW hr (aa (pv 0) (aa ai af))) ai) ai) af)) (fun _=>(bZ (i:=0) zt rfl (Or.inl rfl))) (fun _=>eZ) (fun _=>(dg T.jB iD hr (aa (dg T.aY aW hr (aa (pv 1) (aa ai af))) (aa (aD (aO.or (ay.or aP)) (aD (aO.or (ay.or aP)) (aD (gJ.or gN) ai (pv 5)) (pv 0)) ai) af))))) (ah (aS (cQ Zj' slot_list_append Zp' bp (pv 3) (aa (cU (aa (aD (aO.or (ay.or aP)) aA (bL bo aA (pv 4) (fun _ _=>rfl))) (aa (eB (cn:=["_law_number_here"]) rfl (b8.of rfl) (dz (pv 10)) (fun _=>(bZ (i:=0) zu rfl (Or.inl rfl))) (fun _=>eZ) (fun _=>(dg T.px pL hr (aa (pv 0) af)))) af))) af)))))) (ah (av (pv 3)))))))))) ?_;subst n6;refine mW fun N hN=>?_;refine⟨by show 9<=sizeLine;decide,fun m0 hm0=>?_⟩;have e9:(oW.map fun c=>V.str c.1)=nine.map V.str:=rfl;rw[e9];have s0:=ao.upd (o:=.lst (nine.map V.str)) hm0;have h0:=ag (H:=H) (a:=m0) (o:=.lst (nine.map V.str));generalize upd H m0 (.lst (nine.map V.str))=H0 at s0 h0;obtain⟨r,hr,WH⟩:=Km (eV ns 0 / 12) (k:=5) (by decide);obtain⟨pn,hpn,WI⟩:=Km (eV ns 0) (k:=4) (by decide);have WH:r<5:=by omega
 have WI:pn<4:=by omega
 refine hN _ _ ?_;refine mW fun N hN=>?_;tm_up;refine⟨a,ns,0,rfl,s0.seq hS,hl,?_⟩;tm_up;rw[hr];refine .inl ⟨m0,_,rfl,aL.of h0,fun m1 hm1=>?_⟩;rw[ym _ r (by rw[P'];show r<=9;omega)];have s1:=s0.trans (ao.upd (o:=.lst ((nine.map V.str).drop r)) hm1);have h1:=ag (H:=H0) (a:=m1) (o:=.lst ((nine.map V.str).drop r));generalize upd H0 m1 (.lst ((nine.map V.str).drop r))=H1 at s1 h1;have nms:∀ k,k<5->((nine.map V.str).drop r)[k]? = some (.str (vK r k)):=fun k hk=>by
  rw[<-List.map_drop,Zl',OQ WH hk];rfl
 refine hN _ _ ?_;refine mW fun N hN=>?_;tm_up;refine⟨a,ns,0,rfl,s1.seq hS,hl,?_⟩;tm_up;rw[show V.int ((eV ns 0) % 4)=V.int (pn:Int) from Zn' V.int hpn];refine hN _ _ ?_;refine mW fun N hN=>?_;refine⟨big (by show 0<=1000;omega),fun tl htl=>?_⟩;have s2:=s1.trans (ao.upd (o:=.lst []) htl);have h2:=ao.upd (o:=.lst []) htl _ _ h1;have Nm:=ag (H:=H1) (a:=tl) (o:=.lst []);have WJ:m1≠tl:=au h1 htl;have Ri:H tl=none:=s1.free htl;generalize upd H1 tl (.lst [])=H2 at s2 h2 Nm;have Jt:(2:Int) ^ 62=4611686018427387904:=by decide
 refine hN _ _ ?_;refine mW fun N hN=>?_;refine⟨_,rfl,(pn:Int),rfl,by rw[Jt];omega,by rw[Jt];omega,?_⟩;refine jv (n:=((pn:Int)).toNat) (fun i σ H'=>∃(u v:Option V)(ys:List V)(vw:Vw),σ=[some (.ref a),some (.ref m1),some (.int (pn:Int)),some (.ref tl),u,v,none,none,none,none,none]/\ao H H'/\H' m1=some (.lst ((nine.map V.str).drop r))/\H' tl=some (.lst ys)/\Paired (zc (strip tl H')) ys vw/\vw.length=i/\EI r pn ((List.range i).map (vK r)) vw)
  ⟨none,none,[],[],rfl,s2,h2,Nm,.nil,rfl,⟨rfl,fun j q e=>by simp at e,fun q h=>nomatch h⟩⟩ ?_ ?_
 ·rintro i σ H3 hi ⟨u,v,ys,vw,rfl,s3,h3,T4,UL,vl,ei⟩;have hi4:i<4:=by omega
  have yl:=cE UL;refine⟨_,rfl,a,ns,1,rfl,s3.seq hS,hl,?_⟩;refine⟨_,rfl,_,_,rfl,fun sz hsz0 hsz1=>?_⟩;obtain⟨m,hm,Z3⟩:=Km sz (k:=13) (by decide);refine⟨_,_,rfl,rfl,(by decide:(0:Int)<13),?_⟩;rw[show V.int (sz % 13)=V.int (m:Int) from Zn' V.int hm];refine⟨_,rfl,.inl ⟨rfl,_,aL.of T4⟩,?_⟩;refine⟨_,rfl,_,rfl,oM (aL.of h3) (n:=i) (by omega) (nms i (by omega)) ?_⟩;tm_up;refine⟨.inl ⟨by decide,by decide⟩,?_⟩;refine .inl ⟨_,_,rfl,rfl,?_⟩;refine⟨_,rfl,?_⟩;refine⟨a,ns,8+18 * i,m,by show [V.ref a,V.int (8+18 * (0+(i:Int))),V.int (m:Int)]=_;rw[show(8:Int)+18 * (0+(i:Int))=((8+18 * i:Nat):Int) by omega],s3.seq hS,hl,by omega,fun l0 xs0 UM H4 s4 n4 h4 g4 Z4 Rj=>?_⟩;tm_up;refine .inl ⟨l0,xs0,rfl,aL.of h4,fun l hl0=>?_⟩;rw[show qY xs0 none (some 24)=xs0.take 24 from PJ xs0 24];have Rk:=s4 _ _ T4;have s5:=s4.trans (ao.upd (o:=.lst (xs0.take 24)) hl0);have nl:l≠tl:=fun e=>by rw[e,Rk]at hl0;exact nomatch hl0
  have h5:upd H4 l (.lst (xs0.take 24)) l=some (.lst (xs0.take 24)):=ag;have g5:ia (upd H4 l (.lst (xs0.take 24))) (xs0.take 24) (UM.take 24):=ia.same (ao.upd (o:=.lst (xs0.take 24)) hl0) (MA 24 g4);have XQ:∀ s∈UM.take 24,ff s:=fun s hs=>Z4 s (List.mem_of_mem_take hs);have Nn:(UM.take 24).length<=24:=by rw[length_take];omega
  generalize upd H4 l (.lst (xs0.take 24))=H5 at s5 h5 g5;generalize xs0.take 24=xs at h5 g5;generalize UM.take 24=ss at g5 XQ Nn;have Rl:=s5 _ _ T4;tm_up;refine⟨big (by show 2<=1000;omega),fun p hp=>?_⟩;tm_up;have PV:upd H5 p (.tup [.str (vK r i),.ref l]) tl=some (.lst ys):=ao.upd hp _ _ Rl;refine⟨tl,ys,_,rfl,rfl,PV,aJ (by omega),?_⟩;obtain⟨s6,h6,t6,p6⟩:=rQ (n:=vK r i) (s3.trans s5) Ri Rl (s5 _ _ h3) WJ (dC (fun _ _ q=>q.same (j7 s5)) UL) hp (th:=.pl ss) ⟨l,xs,rfl,pM nl h5,ia.strip Rl g5⟩ _ rfl;exact⟨_,_,_,_,rfl,s6,h6,t6,p6,by rw[Zd',vl];rfl,by rw[List.range_succ,map_append];exact ei.plus Nn XQ⟩
 rintro σ H3 ⟨u,v,ys,vw,rfl,s3,h3,T4,UL,vl,ei⟩;rw[show((pn:Int)).toNat=pn by omega]at vl ei;refine hN _ _ ?_;refine mW fun N hN=>?_;tm_up;refine⟨a,ns,0,rfl,s3.seq hS,hl,?_⟩;tm_up;refine .inl (.inr ⟨_,rfl,?_⟩);obtain⟨cn,hcn,Z5,hcp⟩:∃ cn:Nat,(eV ns 0 / 4 % 3) * (if decide ((pn:Int) > 0)=true then 1 else 0)=(cn:Int)/\cn<=2/\(0<cn->0<pn):=by
  obtain⟨m,hm,XR⟩:=Km (eV ns 0 / 4) (k:=3) (by decide)
  by_cases h:(pn:Int) > 0
  ·exact⟨m,by rw[hm,Zc' (L' h)];omega,by omega,by omega⟩
  ·exact⟨0,by rw[Za' (by simpa using h)];omega,by omega,by omega⟩
 have b3:=Int.emod_lt_of_pos (eV ns 0 / 4) (show(0:Int)<3 by decide);have c3:=Int.emod_nonneg (eV ns 0 / 4) (show(3:Int)≠0 by decide);have XT:(2:Int) ^ 64=18446744073709551616:=by decide
 refine .inl ⟨_,_,rfl,rfl,.inl ⟨by rw[XT];omega,by rw[XT];omega⟩,?_⟩;rw[show V.int ((eV ns 0 / 4 % 3) * (if decide ((pn:Int) > 0)=true then 1 else 0))=V.int (cn:Int) from Zn' V.int hcn];refine⟨(cn:Int),rfl,by rw[Jt];omega,by rw[Jt];omega,?_⟩;refine jv (n:=((cn:Int)).toNat) (fun i σ H'=>∃(u v w1 w2 w3 w4:Option V)(ys:List V)(vw:Vw),σ=[some (.ref a),some (.ref m1),some (.int (pn:Int)),some (.ref tl),u,v,w1,w2,w3,w4,none]/\ao H H'/\H' m1=some (.lst ((nine.map V.str).drop r))/\H' tl=some (.lst ys)/\Paired (zc (strip tl H')) ys vw/\vw.length=pn+i/\EI r pn ((List.range (pn+i)).map (vK r)) vw)
  ⟨_,_,_,_,_,_,_,_,rfl,s3,h3,T4,UL,vl,ei⟩ ?_ ?_
 ·rintro i σ H4 hi ⟨u,v,w1,w2,w3,w4,ys,vw,rfl,s4,h4,Rk,UN,vl,ei⟩;have Z6:0<pn:=hcp (by omega);have yl:=cE UN;tm_up;refine⟨a,ns,2+i,by show [V.ref a,V.int (2+(0+(i:Int)))]=_;rw[show(2:Int)+(0+(i:Int))=((2+i:Nat):Int) by omega],s4.seq hS,hl,?_⟩;generalize eV ns (2+i)=cl;refine⟨fun x H'=>H'=H4/\∃ lt:Int,x=.int lt/\0<=lt/\lt<=999,?_,?_⟩
  ·tm_up;show if decide (V.int (cl % 7)=V.int 5)=true then _ else _;cases decide (V.int (cl % 7)=V.int 5) with
   |true =>
    refine cX ?_;tm_up;exact⟨rfl,_,rfl,by have:=Int.emod_nonneg cl (show(1000:Int)≠0 by decide);omega,by have:=Int.emod_lt_of_pos cl (show(0:Int)<1000 by decide);omega⟩
   |false =>
    refine cf ?_;tm_up;exact⟨rfl,_,rfl,by have:=Int.emod_nonneg (cl / 7) (show(12:Int)≠0 by decide);omega,by have:=Int.emod_lt_of_pos (cl / 7) (show(0:Int)<12 by decide);omega⟩
  rintro _ H' ⟨e,lt,rfl,WK,Z7⟩;rw[e];clear e H';tm_up;refine⟨a,ns,4+i,by show [V.ref a,V.int (4+(0+(i:Int)))]=_;rw[show(4:Int)+(0+(i:Int))=((4+i:Nat):Int) by omega],s4.seq hS,hl,?_⟩;generalize eV ns (4+i)=c4;tm_up;refine⟨big (by show 2<=1000;omega),fun q0 hq0=>?_⟩;have s5:=ao.upd (o:=.lst [V.int 9,V.int 2]) hq0;have XU:=ag (H:=H4) (a:=q0) (o:=.lst [V.int 9,V.int 2]);generalize upd H4 q0 (.lst [V.int 9,V.int 2])=H5 at s5 XU;tm_up;refine .inl (.inr ⟨_,rfl,?_⟩);obtain⟨n5,d5,e5,x5,XW,d59⟩:∃(n:Nat)(d:Int),(if decide (0<cl % 3)=true then(1:Int) else 0)=(n:Int)/\[V.int 9,V.int 2][n]? = some (.int d)/\0<d/\d<=9:=by
   by_cases h:0<cl % 3
   ·exact⟨1,2,by rw[Zc' (L' h)];rfl,rfl,by decide,by decide⟩
   ·exact⟨0,9,by rw[Za' (by simpa using h)];rfl,rfl,by decide,by decide⟩
  refine oM (aL.of XU) (n:=n5) e5 x5 ?_;tm_up;refine⟨XW,?_⟩;tm_up;obtain⟨sl,hsl⟩:∃ z,z=1+c4 % d5:=⟨_,rfl⟩;have WL:1<=sl:=by have:=Int.emod_nonneg c4 (show d5≠0 by omega);omega
  have Z8:sl<=9:=by have:=Int.emod_lt_of_pos c4 XW;omega
  refine⟨a,ns,6+i,by show [V.ref a,V.int (6+(0+(i:Int)))]=_;rw[show(6:Int)+(0+(i:Int))=((6+i:Nat):Int) by omega],(s4.trans s5).seq hS,hl,?_⟩;generalize eV ns (6+i)=c6;obtain⟨c,hc,hcl⟩:=Km c6 (k:=(pn:Int)) (by omega);tm_up;refine⟨(by omega:(0:Int)<(pn:Int)),?_⟩;refine oM (aL.of (s5 _ _ h4)) (n:=c) hc (nms c (by omega)) ?_;tm_up;refine⟨.inl ⟨rfl,_,aL.of (s5 _ _ Rk)⟩,?_⟩;tm_up;refine oM (aL.of (s5 _ _ h4)) (n:=pn+i) (by omega) (nms (pn+i) (by omega)) ?_;tm_up;refine⟨big (by show 4<=1000;omega),fun p0 hp0=>?_⟩;obtain⟨tn,htn⟩:∃ z,z=decide (V.int (cl / 84 % 2)=V.int 1):=⟨_,rfl⟩;have e6:upd H5 p0 (.tup [V.str (vK r c),V.int lt,V.int (1+c4 % d5),V.bl (decide (V.int (cl / 84 % 2)=V.int 1))])=upd H5 p0 (.tup [V.str (vK r c),V.int lt,V.int sl,V.bl tn]):=by rw[hsl,htn]
  have s6:=s5.trans (ao.upd (o:=.tup [V.str (vK r c),V.int lt,V.int sl,V.bl tn]) hp0);have h6:=ag (H:=H5) (a:=p0) (o:=.tup [V.str (vK r c),V.int lt,V.int sl,V.bl tn]);have np0:p0≠tl:=fun e=>by rw[e,s5 _ _ Rk]at hp0;exact nomatch hp0
  have go:∀ H6,H6=upd H5 p0 (.tup [V.str (vK r c),V.int lt,V.int (1+c4 % d5),V.bl (decide (V.int (cl / 84 % 2)=V.int 1))])->ao H4 H6/\H6 p0=some (.tup [V.str (vK r c),V.int lt,V.int sl,V.bl tn]):=by
   rintro H6 rfl;rw[e6];exact⟨s6,h6⟩
  clear s6 h6;generalize Z9:upd H5 p0 _=H6;obtain⟨s6,h6⟩:=go H6 Z9.symm;clear go e6;have PV:=s6 _ _ Rk;tm_up;refine⟨big (by show 2<=1000;omega),fun p hp=>?_⟩;tm_up;have T5:upd H6 p (.tup [.str (vK r (pn+i)),.ref p0]) tl=some (.lst ys):=ao.upd hp _ _ PV;refine⟨tl,ys,_,rfl,rfl,T5,aJ (by omega),?_⟩;obtain⟨s8,h8,t8,p8⟩:=rQ (n:=vK r (pn+i)) (s4.trans s6) Ri PV (s6 _ _ h4) WJ (dC (fun _ _ q=>q.same (j7 s6)) UN) hp (th:=.cn (vK r c) lt sl tn) ⟨p0,rfl,pM np0 h6⟩ _ rfl;exact⟨_,_,_,_,_,_,_,_,rfl,s8,h8,t8,p8,by rw[Zd',vl];rfl,by rw[<-Nat.add_assoc,List.range_succ,map_append];exact ei.more (by omega) (by omega) ⟨WK,Z7,WL,Z8⟩⟩
 rintro σ H4 ⟨u,v,w1,w2,w3,w4,ys,vw,rfl,s4,h4,Rk,UN,vl,ei⟩;rw[show((cn:Int)).toNat=cn by omega]at vl ei;refine hN _ _ ?_;refine mW fun N hN=>?_;tm_up;refine⟨a,ns,0,rfl,s4.seq hS,hl,?_⟩;tm_up;refine .inl (.inr ⟨_,rfl,?_⟩);obtain⟨xn,hxn,hx7⟩:∃ xn:Nat,7 * (if decide (V.int (eV ns 0 / 180 % 8)=V.int 1)=true then(1:Int) else 0)=(xn:Int)/\(xn=0\/xn=7):=by
  cases decide (V.int (eV ns 0 / 180 % 8)=V.int 1)
  ·exact⟨0,by rw[Za' (by decide)];rfl,.inl rfl⟩
  ·exact⟨7,by rw[Zc' rfl];rfl,.inr rfl⟩
 refine .inl ⟨_,_,rfl,rfl,.inl ⟨by decide,by decide⟩,?_⟩;rw[show V.int (7 * (if decide ((fun i j:Int=>V.int (i % j)) (eV ns 0 / 180) 8=V.int 1)=true then 1 else 0))=V.int (xn:Int) from Zn' V.int hxn];refine⟨(xn:Int),rfl,by rw[Jt];omega,by rw[Jt];omega,?_⟩;refine jv (n:=((xn:Int)).toNat) (fun i σ H'=>∃(u v w1 w2 w3 w4 w5:Option V)(ys:List V)(vw:Vw),σ=[some (.ref a),some (.ref m1),some (.int (pn:Int)),some (.ref tl),u,v,w1,w2,w3,w4,w5]/\ao H H'/\H' m1=some (.lst ((nine.map V.str).drop r))/\H' tl=some (.lst ys)/\Paired (zc (strip tl H')) ys vw/\vw.length=pn+cn+i/\EI r pn ((List.range (pn+cn)).map (vK r)++(List.range i).map Ni) vw)
  ⟨_,_,_,_,_,_,_,_,_,rfl,s4,h4,Rk,UN,vl,by rw[show(List.range 0).map Ni=[] from rfl,append_nil];exact ei⟩ ?_ ?_
 ·rintro i σ H5 hi ⟨u,v,w1,w2,w3,w4,w5,ys,vw,rfl,s5,h5,Rl,UO,vl,ei⟩;have hi7:i<7:=by omega
  have yl:=cE UO;tm_up;refine⟨a,ns,6,rfl,s5.seq hS,hl,?_⟩;generalize eV ns 6=c6;obtain⟨jn,hjn,hj3⟩:=Km c6 (k:=3) (by decide);tm_up;refine⟨by rw[Jt];omega,by rw[Jt];omega,fun D b hD=>?_⟩;refine yF (lo:=0) (n:=(c6 % 3+1).toNat) (fun j zs σ H'=>∃(x:Option V)(ms:List Int),σ=[x,some (.ref a),some (.ref m1),some (.int (pn:Int)),some (.ref tl),some (.int (0+(i:Int))),v,w1,w2,w3,w4,w5]/\H'=upd H5 D (.lst zs)/\zs=ms.map V.int/\ms.length=j) ⟨none,[],rfl,rfl,rfl,rfl⟩ ?_ ?_
  ·rintro j zs σ H' hj ⟨x,ms,rfl,rfl,rfl,hlen⟩ N hN;refine bT ?_;tm_up;refine⟨a,ns,1,rfl,dX (s5.seq hS) hD,hl,?_⟩;tm_up;refine⟨.inl ⟨by decide,by decide⟩,?_⟩;tm_up;refine⟨_,_,rfl,fun r h0 h1=>⟨ag,?_,?_⟩⟩
   ·rw[P'];exact aJ (by omega)
   ·exact hN _ _ _ ⟨some _,ms++[r],rfl,cq,by simp,by simp[hlen]⟩
  ·rintro zs σ H' ⟨x,ms,rfl,rfl,rfl,hlen⟩;have s6:=ao.upd (o:=.lst (ms.map V.int)) hD;have h6:=ag (H:=H5) (a:=D) (o:=.lst (ms.map V.int));generalize upd H5 D (.lst (ms.map V.int))=H6 at s6 h6;have PV:=s6 _ _ Rl;obtain⟨cx,hcx,XX⟩:=T3 hi7;tm_up;refine⟨.inl ⟨rfl,_,aL.of PV⟩,?_⟩;tm_up;refine .inr (.inr ⟨_,_,cx,rfl,rfl,big (by lk),?_,?_⟩)
   ·rw[show(0:Int)+(i:Int)=(i:Int) by omega];exact eQ hcx
   tm_up;refine .inr (.inl ⟨_,_,rfl,rfl,big XX.2,?_⟩);rw[XX.1];tm_up;refine⟨⟨_,aL.of h6⟩,fun D2 b2 hD2=>?_⟩;refine dH (K:=K) (xs:=ms.map V.int) (fun j zs σ H'=>∃(x:Option V)(ss:List Sg),σ=[x,some (.ref a),some (.ref m1),some (.int (pn:Int)),some (.ref tl),some (.int (0+(i:Int))),v,w1,w2,w3,w4,some (.ref D)]/\ao H6 H'/\H' D2=some (.lst zs)/\ia H' zs ss/\ss.length=j/\j<=ms.length/\∀ s∈ss,ff s)
    ⟨none,[],rfl,ao.upd hD2,ag,.nil,rfl,Nat.zero_le _,fun _ h=>nomatch h⟩ ?_ ?_ ?_
   ·rintro j zs σ H' ⟨x,ss,rfl,s7,_⟩;exact s7.seq (aL.of h6)
   ·rintro j zs x σ H' hx ⟨x2,ss,rfl,s7,Hy,hsg,hsl,hj,hg⟩ N hN;have hjl:j<ms.length:=by
     have:=(S'.mp hx).1;rw[P']at this;exact this
    obtain⟨z,hz,rfl⟩:=ve hx;refine bT ?_;refine⟨_,rfl,z,rfl,fun p s gs hp=>⟨ao.upd hp _ _ Hy,?_,?_⟩⟩
    ·rw[cE hsg,hsl];exact aJ (by omega)
    ·have PU:=ao.upd (o:=.tup [.str s.1.str,.int s.2]) hp _ _ Hy;refine hN _ _ _ ⟨_,ss++[s],rfl,cb (s7.trans (ao.upd hp)) hD2,ag,iS (Dc PU (hsg.same (ao.upd hp))) (EB PU ⟨p,rfl,ag⟩),by simp[hsl],hjl,fun y hy=>?_⟩;rcases mem_append.mp hy with z|z
     ·exact hg y z
     ·have:y=s:=by simpa using z
      rw[this];exact gs
   ·rintro zs σ H7 ⟨x2,ss,rfl,s7,Hy,hsg,hsl,hj,hg⟩;have T5:=s7 _ _ PV;have nD2:D2≠tl:=fun e=>by rw[e,PV]at hD2;exact nomatch hD2
    have WM:=s6.trans s7;have WN:ss.length<=24:=by rw[hsl,P'];omega
    tm_up;refine⟨big (by show 2<=1000;omega),fun p hp=>?_⟩;tm_up;have ht8:upd H7 p (.tup [.str (Ni i),.ref D2]) tl=some (.lst ys):=ao.upd hp _ _ T5;refine⟨tl,ys,_,rfl,rfl,ht8,aJ (by omega),?_⟩;obtain⟨s8,h8,t8,p8⟩:=rQ (n:=Ni i) (s5.trans WM) Ri T5 (WM _ _ h5) WJ (dC (fun _ _ q=>q.same (j7 WM)) UO) hp (th:=.pl ss) ⟨D2,zs,rfl,pM nD2 Hy,ia.strip T5 hsg⟩ _ rfl;exact⟨_,_,_,_,_,_,_,_,_,rfl,s8,h8,t8,p8,by rw[Zd',vl];rfl,by rw[List.range_succ,map_append,<-List.append_assoc];exact ei.plus WN hg⟩
 rintro σ H5 ⟨u,v,w1,w2,w3,w4,w5,ys,vw,rfl,s5,h5,Rl,UO,vl,ei⟩;rw[show((xn:Int)).toNat=xn by omega]at vl ei;refine hN _ _ ?_;tm_up;exact q tl vw H5 s5 Ri ⟨ys,Rl,dC (fun _ _ q=>q.same (Nj tl H5)) UO⟩ (ei.ok WH (by omega) hx7 (by omega))
structure Od (H:Hp)(l:Addr)(n:Nat)(zs:List Str):Prop where
 at_:H l=some (.lst (zs.map V.str))
 len:zs.length=n
 ok:∀ z∈zs,z.length<=90
theorem Od.cat {H:Hp}{l c:Addr}{n k:Nat}{zs us:List Str}(h:Od H l n zs)(hu:us.length=k)(ou:us.all (fun z=>decide (z.length<=90))=true):Od (upd H c (.lst (zs.map V.str++us.map V.str))) c (n+k) (zs++us):=by
 refine⟨by rw[ag,map_append],by rw[Zd',h.len,hu],fun z hz=>?_⟩;rcases mem_append.mp hz with hz|hz
 ·exact h.ok z hz
 ·exact G' (all_eq_true.mp ou z hz)
inductive uo (vs:List V)(H:Hp)(Q:VK)(E:XK):Prop
 |mk (m:Int) (cL:vs=[.int m]) (cM:0<=m) (dA:∀(z:Str)(H':Hp),z.length<=90->ao H H'->Q (.str z) H'):uo vs H Q E
theorem DH (T:Txt K w mg t):aR P w K mg base d3 (0+1) t.wV t.wW ["_law_number_here"] uo:=by
 refine T.xA.ok dO ?_ ?_
 x_go
 obtain⟨m,rfl,hm,q⟩:=h;obtain⟨eK,i7⟩:∃ v:List (Str×Pos),v=zx:=⟨_,rfl⟩;have hbody:a8 kG=Stmt.Assign [Expr.Name "_law_rows" ⟨593,4,593,13⟩] (Expr.List (eK.map fun c=>Expr.Constant (.str c.1) 0 c.2) ⟨593,16,593,98⟩) ⟨593,4,593,98⟩::(a8 kG).drop 1:=by subst i7;rfl
 rw[hbody];refine aH (ae (Ej (i:=1) eK dO.nd rfl (Or.inl rfl)) (ae (cZ 1 dO.nd (aD (aO.or (ay.or aP)) (pv 1) (bC (Bn d7)))) (ae (cZ 1 dO.nd (aD (aO.or (ay.or aP)) (pv 1) (bC (aa aA (aa aA af))))) (ae (cZ 1 dO.nd (aD (aO.or (ay.or aP)) (pv 1) (bC (aa aA (aa aA (aa aA af)))))) (ae (cZ 1 dO.nd (aD (aO.or (ay.or aP)) (pv 1) (bC (Bn d8)))) (ae (cZ 1 dO.nd (aD (aO.or (ay.or aP)) (pv 1) (bC (aa aA (aa (aD (aO.or (ay.or aP)) (aD (aO.or (ay.or aP)) aA (aD Of aA ai)) aA) (aa aA af)))))) (ae (cZ 1 dO.nd (aD (aO.or (ay.or aP)) (pv 1) (bC (aa aA (aa aA (aa aA af)))))) (ah (av (bL bo (pv 1) (aD bF (pv 0) ai) (fun _ _=>rfl))))))))))) ?_;have cm:∀ cs:List (Str×Pos),(cs.map fun c=>V.str c.1)=(cs.map (·.1)).map V.str:=fun cs=>by rw[List.map_map];rfl
 have sz:∀{n:Nat},n<=100->n<=sizeLine:=fun h=>Zf' h (by decide);have e0:(eK.map (·.1)).length=7/\(eK.map (·.1)).all (fun z=>decide (z.length<=90))=true:=by rw[i7];decide +kernel
 clear i7;rw[cm];generalize eK.map (·.1)=z0 at e0;rw[show(d7.map fun c=>V.str c.1)=(d7.map (·.1)).map V.str from cm _,show(d8.map fun c=>V.str c.1)=(d8.map (·.1)).map V.str from cm _];have e1:(d7.map (·.1)).length=4/\(d7.map (·.1)).all (fun z=>decide (z.length<=90))=true:=by lk
 have e2:(d8.map (·.1)).length=5/\(d8.map (·.1)).all (fun z=>decide (z.length<=90))=true:=by lk
 generalize d7.map (·.1)=z1 at e1;generalize d8.map (·.1)=z2 at e2;have key:∀{H1:Hp} {l:Addr} {n:Nat} {zs us:List Str} {k:Nat} {Q':VK},Od H1 l n zs->us.length=k->us.all (fun z=>decide (z.length<=90))=true->n+k<=100->ao H H1->(∀(c:Addr)(H2:Hp)(ws:List Str),ao H H2->Od H2 c (n+k) ws->Q' (.ref c) H2)->∀ b,H1 b=none->Ql (.ref l) (.ref b) (upd H1 b (.lst (us.map V.str))) Q':=fun {H1 l n zs us k Q'} o hk hu hz s hq b hb=>by
  have s1:=ao.upd (o:=.lst (us.map V.str)) hb;refine⟨l,b,_,_,rfl,rfl,s1 _ _ o.at_,ag,sz (by rw[P',P',o.len,hk];exact hz),fun c hc=>?_⟩;have o1:Od (upd H1 b (.lst (us.map V.str))) l n zs:=⟨s1 _ _ o.at_,o.len,o.ok⟩;exact hq c _ _ ((s.trans s1).trans (ao.upd hc)) (o1.cat hk hu)
 tm_up;refine⟨sz (by rw[P',e0.1];decide),fun l hl=>?_⟩;have o0:Od (upd H l (.lst (z0.map V.str))) l 7 z0:=⟨ag,e0.1,fun z hz=>G' (all_eq_true.mp e0.2 z hz)⟩;have s0:=ao.upd (o:=.lst (z0.map V.str)) hl;generalize upd H l (.lst (z0.map V.str))=H0 at o0 s0;tm_up;refine⟨sz (by rw[P',e1.1];decide),fun b hb=>.inr (.inr (key o0 e1.1 e1.2 (by decide) s0 (fun c H2 ws S2 o2=>?_) b hb))⟩;tm_up;refine⟨sz (by decide),fun b3 hb3=>.inr (.inr (key (us:=[Str.ofString "canon fay ann 01 2 straight",Str.ofString "canon fay ann 1 0 turned"]) o2 (k:=2) rfl (by lk) (by decide) S2 (fun c3 H3 ws3 S3 o3=>?_) b3 hb3))⟩;tm_up;refine⟨sz (by decide),fun b4 hb4=>.inr (.inr (key (us:=[Str.ofString "canon fay ann 1000 2 straight",Str.ofString "canon fay fay 1 2 straight",Str.ofString "canon fay ann 1 2 Turned"]) o3 (k:=3) rfl (by lk) (by decide) S3 (fun c4 H4 ws4 S4 o4=>?_) b4 hb4))⟩;tm_up;refine⟨sz (by rw[P',e2.1];decide),fun b5 hb5=>.inr (.inr (key o4 e2.1 e2.2 (by decide) S4 (fun c5 H5 ws5 S5 o5=>?_) b5 hb5))⟩;tm_up;have WO:(Str.ofString "canon fay ann " ++ En (Str.ofString "9") 50++Str.ofString " 2 turned").length<=90:=by lk
 have f51:(En (Str.ofString "9") 50).length<=50/\(Str.ofString "canon fay ann " ++ En (Str.ofString "9") 50).length+(Str.ofString " 2 turned").length<=90/\(Str.ofString "canon fay ann ").length+(En (Str.ofString "9") 50).length<=90:=by lk
 generalize En (Str.ofString "9") 50=nn at WO f51;refine⟨by decide,by lk,sz (by omega),?_⟩;refine .inr (.inl ⟨_,_,rfl,rfl,sz (by omega),?_⟩);tm_up;refine .inr (.inl ⟨_,_,rfl,rfl,sz (by omega),?_⟩);tm_up;generalize Str.ofString "canon fay ann " ++ nn++Str.ofString " 2 turned"=lg at WO;refine⟨sz (by show 3<=100;decide),fun b6 hb6=>.inr (.inr (key (us:=[Str.ofString "canon fay ann 1 2 turned ",lg,Str.ofString "voice fay s1 r d1"]) o5 (k:=3) rfl ?_ (by decide) S5 (fun c6 H6 ws6 S6 o6=>?_) b6 hb6))⟩
 ·rw[List.all_cons,List.all_cons,List.all_cons,L' WO];decide +kernel
 tm_up;refine⟨sz (by decide),fun b7 hb7=>.inr (.inr (key (us:=[Str.ofString "canon fay ann +1 2 straight",Str.ofString "canon fay ann 1_0 2 turned",Str.ofString "canon fay ann -0 2 turned"]) o6 (k:=3) rfl (by lk) (by decide) S6 (fun c7 H7 WQ S7 o7=>?_) b7 hb7))⟩;tm_up;have l27:WQ.length=27:=o7.len;obtain⟨z,hz⟩:∃ z,WQ[(m % 27).toNat]? = some z:=⟨_,R' (by rw[l27];omega)⟩;have hz2:(WQ.map V.str)[(m % 27).toNat]? = some (.str z):=by rw[Zl',hz];rfl
 exact oM (aL.of o7.at_) (n:=(m % 27).toNat) (by omega) hz2 (q z H7 (o7.ok z (Zh' hz)) S7)
theorem mL {row d w:Str}(h:w∈Txt.split row d):w.length<=row.length:=by
 have:=PySem.join_mem_le d (Txt.split row d) w h;rw[StrLaws.join_split]at this;exact this
theorem Am (row d:Str):∃ h r,Txt.split row d=h::r:=by
 have:=PyProof.Rows.split_pos row d;cases e:Txt.split row d with
 |nil=>rw[e]at this;simp at this
 |cons h r=>exact⟨h,r,rfl⟩
noncomputable def OR (v:List Expr)(s:Stmt):Stmt:=match s with
 |.If t (a::.Assign tg (.List _ p) q::r) o p5=>.If t (a::.Assign tg (.List v p) q::r) o p5
 |s=>s
theorem Ju {σ:St}{H:Hp}{k:List V->Hp->Prop}(h:k [] H):NZ σ H k:=h
theorem FV {H1:Hp}{a b:Addr}{xs ys:List Str}{Q':VK}(ha:H1 a=some (.lst (xs.map V.str)))(hb:H1 b=some (.lst (ys.map V.str)))(hz:xs.length+ys.length<=100000)(hq:∀ c,H1 c=none->Q' (.ref c) (upd H1 c (.lst ((xs++ys).map V.str)))):Ql (.ref a) (.ref b) H1 Q':=by
 refine⟨a,b,_,_,rfl,rfl,ha,hb,Zf' (by rw[P',P'];exact hz) (show 100000<=sizeLine by decide),fun c hc=>?_⟩;rw[<-map_append];exact hq c hc
theorem Jv (n:Nat)(z:Str):(List.replicate n [V.str z]).flatten=(List.replicate n z).map V.str:=by
 induction n with
 |zero=>rfl
 |succ n ih=>rw[List.replicate_succ,List.flatten_cons,ih,List.replicate_succ];rfl
theorem FW (d x:Str):∀(ws:List Str)(j:Nat),(Str.join d (ws.set j x)).length<=(Str.join d ws).length+x.length
 |[],j=>by rw[List.set_nil];omega
 |[a],0=>by show x.length<=a.length+x.length;omega
 |[a],j+1=>by show a.length<=a.length+x.length;omega
 |a::b::t,0=>by
  show(Str.join d (x::b::t)).length<=_;rw[join_cons,join_cons,PySem.Str.length_append,PySem.Str.length_append,PySem.Str.length_append,PySem.Str.length_append];omega
 |a::b::t,j+1=>by
  have ih:=FW d x (b::t) j;show(Str.join d (a::(b::t).set j x)).length<=_;cases e:(b::t).set j x with
  |nil=>exact j' (Zn' List.length e) (by rw[List.length_set];simp)
  |cons u v =>
   rw[e]at ih;rw[join_cons,join_cons,PySem.Str.length_append,PySem.Str.length_append,PySem.Str.length_append,PySem.Str.length_append];omega
theorem DI (M:Nat):∀{ws:List Str},(∀ w∈ws,w.length<=M)->(ws.map (·.length)).sum<=M * ws.length
 |[],_=>by simp
 |a::t,h=>by
  have ih:=DI M (ws:=t) fun w hw=>h w (mem_cons_of_mem _ hw);have h0:=h a mem_cons_self;rw[map_cons,List.sum_cons,Zk',Nat.mul_succ];omega
theorem Np (z:Str)(n:Nat)(hz:z.length<=3):(Str.join " " (List.replicate n z)).length<=4 * n:=by
 induction n with
 |zero=>exact X' _
 |succ n ih =>
  cases n with
  |zero=>show z.length<=4;omega
  |succ n =>
   rw[List.replicate_succ]at ih ⊢;rw[List.replicate_succ];rw[join_cons,PySem.Str.length_append,PySem.Str.length_append];have e:(Str.ofString " ").length=1:=by lk
   rw[e];omega
inductive Cw (vs:List V)(H:Hp)(Q:VK)(E:XK):Prop
 |mk (l:Addr) (rs:List Str) (wy at_ m:Int) (B:Nat) (cL:vs=[.ref l,.int wy,.int at_,.int m]) (cM:H l=some (.lst (rs.map V.str))) (dA:rs.length<=30) (fA:(∀ r∈rs,r.length<=B)) (ki:900<=B) (Bb:B<=3000) (Rm:0<=m) (R1:∀(l':Addr)(rs':List Str)(H':Hp),ao H H'->H' l'=some (.lst (rs'.map V.str))->rs'.length<=rs.length+1->(∀ r∈rs',r.length<=B+10)->Q (.ref l') H'):Cw vs H Q E
theorem KJ (T:Txt K w mg t):aR P w K mg base d3 (0+2) t.Fd t.Fe ["_law_rows","_law_way","_law_at","_law_number_here"] Cw:=by
 have FX:=DH P base T;refine T.zY.ok iw ?_ ?_
 x_go
 obtain⟨l,rs,wy,at_,m,B,rfl,hl,rl,rz,b0,b1,hm,q⟩:=h;obtain⟨eG,uq⟩:∃ v:List (Str×Pos),v=E9:=⟨_,rfl⟩;have hbody:a8 mq=(a8 mq).take 7++OR (eG.map fun c=>Expr.Constant (.str c.1) 0 c.2) ((a8 mq).getD 7 (.Pass ⟨0,0,0,0⟩))::(a8 mq).drop 8:=by subst uq;rfl
 rw[hbody];refine aH (ae (cZ 0 iw.nd (bP mT rfl T.fG fE (aa (pv 0) af))) (ae (aI (bq (PW.pt (dj (aq (ba.or (aN (aF hr))) (pv 1) ai (aw _)) (cT (aq (Md (aF hr)) (pv 0) (bC af) (aw _)))))) (ae (cZ 2 iw.nd (aD bF (pv 2) (aD (aO.or (ay.or aP)) (aE (aB.or aC) rfl T.bg bf (aa (pv 0) af)) ai))) (ah (av (aD (aO.or (ay.or aP)) (aD (aO.or (ay.or aP)) (dN (eR.or (gM.or gP)) (pv 0) eP (dW (pv 2))) (bC (aa (dg T.xA FX hr (aa (pv 3) af)) af))) (dN (eR.or (gM.or gP)) (pv 0) (dW (pv 2)) eP))))) ax) (ae (cZ 2 iw.nd (aD bF (pv 2) (aE (aB.or aC) rfl T.bg bf (aa (pv 0) af)))) (ae (aI (aq (ba.or (aN (aF hr))) (pv 1) ai (aw _)) (ah (av (aD (aO.or (ay.or aP)) (pv 0) (bC (aa (bL bo (pv 0) (pv 2) (fun _ _=>rfl)) af))))) ax) (ae (aI (aq (ba.or (aN (aF hr))) (pv 1) ai (aw _)) (ah (av (aD (aO.or (ay.or aP)) (dN (eR.or (gM.or gP)) (pv 0) eP (dW (pv 2))) (dN (eR.or (gM.or gP)) (pv 0) (dW (aD (aO.or (ay.or aP)) (pv 2) ai)) eP)))) ax) (ae (aI (aq (ba.or (aN (aF hr))) (pv 1) ai (aw _)) (ah (av (aD (aO.or (ay.or aP)) (dN (eR.or (gM.or gP)) (pv 0) (dW (pv 2)) eP) (dN (eR.or (gM.or gP)) (pv 0) eP (dW (pv 2)))))) ax) (ae (aI (aq (ba.or (aN (aF hr))) (pv 1) ai (aw _)) (ah (av (bJ (cu (aq nG (aD bF (pv 3) ai) ai (aw _)) (aD (aO.or (ay.or aP)) (pv 0) (aD (gJ.or gN) (bC (aa aA af)) (aD bF (pv 3) ai))) (aD (aO.or (ay.or aP)) (bC (aa aA af)) (pv 0)))))) ax) (ae (gQ (aI (aq (ba.or (aN (aF hr))) (pv 1) ai (aw _)) (ae (cZ 4 iw.nd (cQ plainAttrs_str slot_str_split type_str_split oF (bL bo (pv 0) (pv 2) (fun _ _=>rfl)) (aa aA af))) (ae (cZ 5 iw.nd (bC (Bn eG))) (ae (eL (bL bo (pv 5) (aD bF (pv 3) ai) (fun _ _=>rfl)) (jD (pv 4) (aD bF (aD gf (pv 3) ai) (aE (aB.or aC) rfl T.bg bf (aa (pv 4) af))) set_list)) (ah (eL (cQ plainAttrs_str slot_str_join type_str_join pW aA (aa (pv 4) af)) (jD (pv 0) (pv 2) set_list)))))) ax)) (ae (gQ (aI (aq (ba.or (aN (aF hr))) (pv 1) ai (aw _)) (ae (cZ 6 iw.nd (aD (gJ.or gN) (bC (aa (aD (aO.or (ay.or aP)) aA (bP su rfl T.Hq GX (aa (aD bF (pv 3) ai) af))) af)) (aD (aO.or (ay.or aP)) ai (aD bF (pv 3) ai)))) (ah (eL (aD (aO.or (ay.or aP)) aA (cQ plainAttrs_str slot_str_join type_str_join pW aA (aa (pv 6) af))) (jD (pv 0) (pv 2) set_list)))) ax)) (ah (av (pv 0)))))))))))) ?_;have sz:∀{n:Nat},n<=100000->n<=sizeLine:=fun h=>Zf' h (by decide);have rm:(rs.map V.str).length=rs.length:=P' _;refine⟨_,rfl,l,_,rfl,.inl (aL.of hl),fun l0 hl0=>?_⟩;have s0:=ao.upd (o:=.lst (rs.map V.str)) hl0;have h0:=ag (H:=H) (a:=l0) (o:=.lst (rs.map V.str));generalize upd H l0 (.lst (rs.map V.str))=H0 at s0 h0;have fin:∀(l':Addr)(rs':List Str)(H':Hp),ao H0 H'->H' l'=some (.lst (rs'.map V.str))->rs'.length<=rs.length+1->(∀ r∈rs',r∈rs\/r.length<=900)->Q (.ref l') H':=fun l' rs' H' s h hn hb=>q l' rs' H' (s0.trans s) h hn fun r hr=>by
  rcases hb r hr with z|z
  ·have:=rz r z;omega
  ·omega
 have Rn:∀ n:Nat,qY (rs.map V.str) none (some (n:Int))=(rs.take n).map V.str:=fun n=>by rw[PJ,List.map_take]
 have Ro:∀ n:Nat,n<=rs.length->qY (rs.map V.str) (some (n:Int)) none=(rs.drop n).map V.str:=fun n hn=>by rw[ym _ _ (by rw[rm];exact hn),List.map_drop]
 refine⟨fun b H'=>b=(decide (wy=1)||decide (rs=[]))/\ao H0 H',?_,?_⟩
 ·tm_up;refine aG (fun h=>⟨by rw[show decide (wy=1)=true from L' (V.int.inj (G' h))];rfl,ao.refl _⟩) (fun h=>?_);rw[show decide (wy=1)=false from V' fun e=>h (L' (Zn' V.int e)),Bool.false_or];tm_up;refine⟨by show 0<=sizeLine;decide,fun d hd=>?_⟩;have s1:=ao.upd (o:=.lst []) hd;refine⟨l0,d,_,rfl,rfl,aL.of (s1 _ _ h0),aL.of ag,_,rfl,?_,s1⟩;cases rs with
  |nil=>rfl
  |cons a b=>rw[V' (fun z=>nomatch z)];rfl
 rintro b H1 ⟨rfl,s1⟩;have h1:=s1 _ _ h0;refine aG (fun hb=>?_) (fun hb=>?_)
 ·obtain⟨k,hk,hk2⟩:∃ k:Nat,at_ % ((rs.length:Nat)+1:Int)=(k:Int)/\k<=rs.length:=by
   have a:=Int.emod_nonneg at_ (show((rs.length:Nat)+1:Int)≠0 by omega);have b:=Int.emod_lt_of_pos at_ (show(0:Int)<((rs.length:Nat)+1:Int) by omega);exact⟨(at_ % ((rs.length:Nat)+1:Int)).toNat,by omega,by omega⟩
  tm_up;refine Ju (.inl ⟨l0,_,rfl,.inl (aL.of h1),?_⟩);tm_up;refine⟨by rw[rm];omega,?_⟩;rw[rm,hk];tm_up;refine .inl ⟨l0,_,rfl,aL.of h1,fun a ha=>?_⟩;rw[Rn];have s2:=ao.upd (o:=.lst ((rs.take k).map V.str)) ha;have k2:=ag (H:=H1) (a:=a) (o:=.lst ((rs.take k).map V.str));generalize upd H1 a (.lst ((rs.take k).map V.str))=H2 at s2 k2;tm_up;refine⟨m,rfl,hm,fun z H3 zl s3=>?_⟩;tm_up;refine⟨by show 1<=sizeLine;decide,fun b hb=>?_⟩;have s4:=ao.upd (o:=.lst [V.str z]) hb;have k4:=ag (H:=H3) (a:=b) (o:=.lst [V.str z]);generalize upd H3 b (.lst [V.str z])=H4 at s4 k4;have R3:=(s2.trans s3).trans s4;refine .inr (.inr (FV (xs:=rs.take k) (ys:=[z]) (s4 _ _ (s3 _ _ k2)) k4 (by rw[length_take];show _+1<=_;omega) fun c hc=>?_));have s5:=ao.upd (o:=.lst ((rs.take k++[z]).map V.str)) hc;have k5:=ag (H:=H4) (a:=c) (o:=.lst ((rs.take k++[z]).map V.str));generalize upd H4 c (.lst ((rs.take k++[z]).map V.str))=H5 at s5 k5;tm_up;refine .inl ⟨l0,_,rfl,aL.of (s5 _ _ (R3 _ _ h1)),fun e he=>?_⟩;rw[Ro k hk2];have s6:=ao.upd (o:=.lst ((rs.drop k).map V.str)) he;have k6:=ag (H:=H5) (a:=e) (o:=.lst ((rs.drop k).map V.str));generalize upd H5 e (.lst ((rs.drop k).map V.str))=H6 at s6 k6;refine .inr (.inr (FV (xs:=rs.take k++[z]) (ys:=rs.drop k) (s6 _ _ k5) k6 (by rw[Zd',length_take,length_drop];show _+1+_<=_;omega) fun f hf=>?_));refine fin f _ _ (((s1.trans R3).trans s5).trans (s6.trans (ao.upd hf))) ag (by rw[Zd',Zd',length_take,length_drop];show _+1+_<=_;omega) fun r hr=>?_;rcases mem_append.mp hr with hr|hr
  ·rcases mem_append.mp hr with hr|hr
   ·exact .inl (List.mem_of_mem_take hr)
   ·rw[mem_singleton.mp hr];exact .inr (by omega)
  ·exact .inl (List.mem_of_mem_drop hr)
 have ne:rs≠[]:=fun e=>hb (by rw[e];simp);have n1:wy≠1:=fun e=>hb (by rw[e];rfl);have rp:0<rs.length:=List.length_pos_iff.mpr ne;obtain⟨k,hk,hk2⟩:∃ k:Nat,at_ % ((rs.length:Nat):Int)=(k:Int)/\k<rs.length:=by
  have a:=Int.emod_nonneg at_ (show((rs.length:Nat):Int)≠0 by omega);have b:=Int.emod_lt_of_pos at_ (show(0:Int)<((rs.length:Nat):Int) by omega);exact⟨(at_ % ((rs.length:Nat):Int)).toNat,by omega,by omega⟩
 obtain⟨rk,hrk⟩:∃ r,rs[k]? = some r:=⟨_,R' hk2⟩;have T6:(rs.map V.str)[k]? = some (.str rk):=by rw[Zl',hrk];rfl
 tm_up;refine Ju (.inl ⟨l0,_,rfl,.inl (aL.of h1),?_⟩);rw[rm];refine⟨_,_,rfl,rfl,(show(0:Int)<((rs.length:Nat):Int) by omega),?_⟩;rw[hk];tm_up;refine aG (fun _=>?_) (fun n2=>?_)
 ·tm_up;refine oM (aL.of h1) (n:=k) rfl T6 ?_;tm_up;refine⟨by show 1<=sizeLine;decide,fun b hb=>?_⟩;have s4:=ao.upd (o:=.lst [V.str rk]) hb;refine .inr (.inr (FV (xs:=rs) (ys:=[rk]) (s4 _ _ h1) ag (by show _+1<=_;omega) fun c hc=>?_));refine fin c _ _ ((s1.trans s4).trans (ao.upd hc)) ag (by rw[Zd'];exact X' _) fun r hr=>?_;rcases mem_append.mp hr with hr|hr
  ·exact .inl hr
  ·rw[mem_singleton.mp hr];exact .inl (Zh' hrk)
 tm_up;refine aG (fun _=>?_) (fun n3=>?_)
 ·tm_up;refine .inl ⟨l0,_,rfl,aL.of h1,fun a ha=>?_⟩;rw[Rn];have s2:=ao.upd (o:=.lst ((rs.take k).map V.str)) ha;have k2:=ag (H:=H1) (a:=a) (o:=.lst ((rs.take k).map V.str));generalize upd H1 a (.lst ((rs.take k).map V.str))=H2 at s2 k2;tm_up;refine .inl ⟨l0,_,rfl,aL.of (s2 _ _ h1),fun e he=>?_⟩;rw[show((k:Int)+1)=((k+1:Nat):Int) from rfl,Ro (k+1) hk2];have s6:=ao.upd (o:=.lst ((rs.drop (k+1)).map V.str)) he;refine .inr (.inr (FV (xs:=rs.take k) (ys:=rs.drop (k+1)) (s6 _ _ k2) ag (by rw[length_take,length_drop];omega) fun f hf=>?_));refine fin f _ _ ((s1.trans s2).trans (s6.trans (ao.upd hf))) ag (by rw[Zd',length_take,length_drop];omega) fun r hr=>?_;rcases mem_append.mp hr with hr|hr
  ·exact .inl (List.mem_of_mem_take hr)
  ·exact .inl (List.mem_of_mem_drop hr)
 tm_up;refine aG (fun _=>?_) (fun n4=>?_)
 ·tm_up;refine .inl ⟨l0,_,rfl,aL.of h1,fun a ha=>?_⟩;rw[Ro k (by omega)];have s2:=ao.upd (o:=.lst ((rs.drop k).map V.str)) ha;have k2:=ag (H:=H1) (a:=a) (o:=.lst ((rs.drop k).map V.str));generalize upd H1 a (.lst ((rs.drop k).map V.str))=H2 at s2 k2;tm_up;refine .inl ⟨l0,_,rfl,aL.of (s2 _ _ h1),fun e he=>?_⟩;rw[Rn];have s6:=ao.upd (o:=.lst ((rs.take k).map V.str)) he;refine .inr (.inr (FV (xs:=rs.drop k) (ys:=rs.take k) (s6 _ _ k2) ag (by rw[length_take,length_drop];omega) fun f hf=>?_));refine fin f _ _ ((s1.trans s2).trans (s6.trans (ao.upd hf))) ag (by rw[Zd',length_take,length_drop];omega) fun r hr=>?_;rcases mem_append.mp hr with hr|hr
  ·exact .inl (List.mem_of_mem_drop hr)
  ·exact .inl (List.mem_of_mem_take hr)
 tm_up;refine aG (fun _=>?_) (fun n5=>?_)
 ·refine⟨fun v H'=>∃(c:Addr)(rs':List Str),v=.ref c/\ao H1 H'/\H' c=some (.lst (rs'.map V.str))/\rs'.length<=rs.length+1/\∀ r∈rs',r∈rs\/r.length<=900,?_,?_⟩
  rotate_left
  ·rintro v H' ⟨c,rs',rfl,s,hc,hn,hb⟩;exact fin c rs' H' (s1.trans s) hc hn hb
  tm_up;refine aG (fun _=>?_) (fun _=>?_)
  ·tm_up;refine⟨by show 1<=sizeLine;decide,fun b hb=>?_⟩;have s4:=ao.upd (o:=.lst [V.str (Str.ofString "")]) hb;have k4:=ag (H:=H1) (a:=b) (o:=.lst [V.str (Str.ofString "")]);generalize upd H1 b (.lst [V.str (Str.ofString "")])=H4 at s4 k4;tm_up;refine .inr ⟨b,_,_,rfl,rfl,k4,by omega,by omega,Zf' (show _<=100000 from ?_) (by decide),fun p hp=>?_⟩
   ·show 1 * (m % 2).toNat<=100000;omega
   rw[Jv];have s5:=ao.upd (o:=.lst ((List.replicate (m % 2).toNat (Str.ofString "")).map V.str)) hp;refine .inr (.inr (FV (xs:=rs) (ys:=List.replicate (m % 2).toNat (Str.ofString "")) (s5 _ _ (s4 _ _ h1)) ag (by rw[List.length_replicate];omega) fun c hc=>?_));refine⟨c,_,rfl,(s4.trans s5).trans (ao.upd hc),ag,by rw[Zd',List.length_replicate];omega,fun r hr=>?_⟩;rcases mem_append.mp hr with hr|hr
   ·exact .inl hr
   ·rw[List.eq_of_mem_replicate hr];exact .inr (by lk)
  ·tm_up;refine⟨by show 1<=sizeLine;decide,fun b hb=>?_⟩;have s4:=ao.upd (o:=.lst [V.str (Str.ofString "")]) hb;tm_up;refine .inr (.inr (FV (xs:=[Str.ofString ""]) (ys:=rs) ag (s4 _ _ h1) (by show 1+_<=_;omega) fun c hc=>?_));refine⟨c,_,rfl,s4.trans (ao.upd hc),ag,by rw[Zd'];show 1+_<=_;omega,fun r hr=>?_⟩;rcases mem_append.mp hr with hr|hr
   ·rw[mem_singleton.mp hr];exact .inr (by lk)
   ·exact .inl hr
 have fz:∀{X:Hp} {o:HO},ao H X->ao H (upd X l0 o):=fun s=>cb s hl0;refine⟨fun σ' H'=>∃(v4 v5 v6:Option V)(rs':List Str),σ'=[some (.ref l0),some (.int wy),some (.int (k:Int)),some (.int m),v4,v5,v6]/\ao H H'/\H' l0=some (.lst (rs'.map V.str))/\rs'.length=rs.length/\∀ r∈rs',r.length<=B+10,?_,?_⟩
 ·tm_up;refine aG (fun _=>?_) (fun _=>⟨_,_,_,rs,rfl,s0.trans s1,h1,rfl,fun r hr=>by have:=rz r hr;omega⟩);have rkl:rk.length<=B:=rz rk (Zh' hrk);have sl:=PyProof.Rows.split_le rk " ";have sp1:=PyProof.Rows.split_pos rk " ";have sm:∀ w∈Txt.split rk " ",w.length<=3000:=fun w hw=>by
   have:=mL hw;omega
  have jn:Str.join " " (Txt.split rk " ")=rk:=StrLaws.join_split rk " ";tm_up;refine oM (aL.of h1) (n:=k) rfl T6 ?_;tm_up;refine⟨rfl,_,_,rfl,rfl,by lk,sz (by omega),sz (by omega),fun wl hwl=>?_⟩;generalize Txt.split rk " "=ws at sl sp1 sm jn;have s2:=ao.upd (o:=.lst (ws.map V.str)) hwl;have h2:=ag (H:=H1) (a:=wl) (o:=.lst (ws.map V.str));generalize upd H1 wl (.lst (ws.map V.str))=H2 at s2 h2;have UP:(eG.map (·.1)).length=11/\(eG.map (·.1)).all (fun z=>decide (z.length<=8))=true:=by rw[uq];decide +kernel
  rw[show(eG.map fun c=>V.str c.1)=(eG.map (·.1)).map V.str by rw[List.map_map];rfl];generalize eG.map (·.1)=Nq at UP;tm_up;refine⟨sz (by rw[P',UP.1];decide),fun UQ hsl=>?_⟩;have s3:=ao.upd (o:=.lst (Nq.map V.str)) hsl;have h3:=ag (H:=H2) (a:=UQ) (o:=.lst (Nq.map V.str));generalize upd H2 UQ (.lst (Nq.map V.str))=H3 at s3 h3;obtain⟨x,hx⟩:∃ x,Nq[(m % 11).toNat]? = some x:=⟨_,R' (by rw[UP.1];omega)⟩;have xl:x.length<=8:=G' (all_eq_true.mp UP.2 x (Zh' hx));have hx2:(Nq.map V.str)[(m % 11).toNat]? = some (.str x):=by rw[Zl',hx];rfl
  tm_up;refine oM (aL.of h3) (n:=(m % 11).toNat) (by omega) hx2 ?_;have R4:(ws.map V.str).length=ws.length:=P' _;obtain⟨j,hj,hj2⟩:∃ j:Nat,m / 8 % ((ws.length:Nat):Int)=(j:Int)/\j<ws.length:=by
   have a:=Int.emod_nonneg (m / 8) (show((ws.length:Nat):Int)≠0 by omega);have b:=Int.emod_lt_of_pos (m / 8) (show(0:Int)<((ws.length:Nat):Int) by omega);exact⟨(m / 8 % ((ws.length:Nat):Int)).toNat,by omega,by omega⟩
  have XY:=s3 _ _ h2;tm_up;refine Ju (.inl ⟨wl,_,rfl,.inl (aL.of XY),?_⟩);rw[R4];refine⟨_,_,rfl,rfl,(show(0:Int)<((ws.length:Nat):Int) by omega),?_⟩;rw[hj];refine⟨_,_,_,_,rfl,rfl,XY,gR (j:=j) rfl (by rw[R4];exact hj2),?_⟩;rw[show(ws.map V.str).set j (V.str x)=(ws.set j x).map V.str from(List.map_set).symm];have nwl:l0≠wl:=au h1 hwl;have h4:=ag (H:=H3) (a:=wl) (o:=.lst ((ws.set j x).map V.str));have s4:ao H1 (upd H3 wl (.lst ((ws.set j x).map V.str))):=cb (s2.trans s3) hwl;generalize upd H3 wl (.lst ((ws.set j x).map V.str))=H4 at h4 s4;have wsz:∀ w∈ws.set j x,w.length<=3000:=fun w hw=>by
   rcases List.mem_or_eq_of_mem_set hw with z|z
   ·exact sm w z
   ·rw[z];omega
  have jl:=FW " " x ws j;rw[jn]at jl;have e1:(Str.ofString " ").length=1:=by lk
  tm_up;refine⟨rfl,_,rfl,_,wl,ws.set j x,rfl,rfl,aL.of h4,?_,?_⟩
  ·have:=DI 3000 wsz;rw[List.length_set]at this ⊢;rw[e1];omega
  tm_up;refine⟨_,_,_,_,rfl,rfl,s4 _ _ h1,gR (j:=k) rfl (by rw[rm];exact hk2),?_⟩;generalize Str.join (Str.ofString " ") (ws.set j x)=nr at jl;rw[show(rs.map V.str).set k (V.str nr)=(rs.set k nr).map V.str from(List.map_set).symm];refine⟨_,_,_,rs.set k nr,rfl,fz ((s0.trans s1).trans s4),ag,List.length_set,fun r hr=>?_⟩;rcases List.mem_or_eq_of_mem_set hr with z|z
  ·have:=rz r z;omega
  ·rw[z];omega
 rintro σ' H2 ⟨v4,v5,v6,UR,rfl,s2,h2,WS,XZ⟩;refine⟨fun σ' H'=>∃(v4 v5 v6:Option V)(rs':List Str),σ'=[some (.ref l0),some (.int wy),some (.int (k:Int)),some (.int m),v4,v5,v6]/\ao H H'/\H' l0=some (.lst (rs'.map V.str))/\rs'.length=rs.length/\∀ r∈rs',r.length<=B+10,?_,?_⟩
 ·tm_up;refine aG (fun _=>?_) (fun _=>⟨_,_,_,UR,rfl,s2,h2,WS,XZ⟩);have hf:0<=m % 100/\m % 100<100:=by omega
  have f2:=(TQ hf.1 (show m % 100<1000 by omega)).2 hf.2;have g1:(Str.ofString "G").length=1:=by lk
  tm_up;refine⟨MR hf.1 (by omega),?_⟩;have f2':(Str.ofString (toString (m % 100))).length<=2:=f2;refine .inr (.inl ⟨_,_,rfl,rfl,sz (by rw[g1];omega),?_⟩);have zl:(Str.ofString "G" ++ Str.ofString (toString (m % 100))).length<=3:=by rw[PySem.Str.length_append,g1];omega
  generalize Str.ofString "G" ++ Str.ofString (toString (m % 100))=z at zl;tm_up;refine⟨by show 1<=sizeLine;decide,fun b hb=>?_⟩;have s4:=ao.upd (o:=.lst [V.str z]) hb;have k4:=ag (H:=H2) (a:=b) (o:=.lst [V.str z]);generalize upd H2 b (.lst [V.str z])=H4 at s4 k4;tm_up;refine .inr ⟨b,_,_,rfl,rfl,k4,by omega,by omega,Zf' (show _<=100000 from ?_) (by decide),fun p hp=>?_⟩
  ·show 1 * (199+m % 3).toNat<=100000;omega
  rw[Jv];generalize hnn:(199+m % 3).toNat=nn;have nn2:nn<=201:=by omega
  have s5:=ao.upd (o:=.lst ((List.replicate nn z).map V.str)) hp;have k5:=ag (H:=H4) (a:=p) (o:=.lst ((List.replicate nn z).map V.str));generalize upd H4 p (.lst ((List.replicate nn z).map V.str))=H5 at s5 k5;have jr:=Np z nn zl;have e1:(Str.ofString " ").length=1:=by lk
  have e10:(Str.ofString "voice gus ").length=10:=by lk
  tm_up;refine⟨rfl,?_⟩;refine⟨_,rfl,_,p,List.replicate nn z,rfl,rfl,aL.of k5,?_,?_⟩
  ·have:=DI 3 (ws:=List.replicate nn z) fun w hw=>by rw[List.eq_of_mem_replicate hw];exact zl
   rw[List.length_replicate]at this ⊢;rw[e1];omega
  generalize Str.join (Str.ofString " ") (List.replicate nn z)=jn at jr;refine .inr (.inl ⟨_,_,rfl,rfl,sz (by rw[e10];omega),?_⟩);have vl:(Str.ofString "voice gus " ++ jn).length<=900:=by rw[PySem.Str.length_append,e10];omega
  generalize Str.ofString "voice gus " ++ jn=nr at vl;tm_up;refine⟨_,_,_,_,rfl,rfl,s5 _ _ (s4 _ _ h2),gR (j:=k) rfl (by rw[P',WS];exact hk2),?_⟩;rw[show(UR.map V.str).set k (V.str nr)=(UR.set k nr).map V.str from(List.map_set).symm];refine⟨_,_,_,UR.set k nr,rfl,fz ((s2.trans s4).trans s5),ag,by rw[List.length_set];exact WS,fun r hr=>?_⟩;rcases List.mem_or_eq_of_mem_set hr with y|y
  ·exact XZ r y
  ·rw[y];omega
 rintro σ' H3 ⟨v4,v5,v6,US,rfl,s3,h3,r3l,r3z⟩;tm_up;exact q l0 US H3 s3 h3 (by omega) r3z
inductive ur (C:Addr)(vs:List V)(H:Hp)(Q:VK)(E:XK):Prop
 |mk (x dx:Addr) (cL:vs=[.ref x]) (cM:H x=some (.ins C dx [])) (dA:∀(L D U:Addr)(H':Hp),(∀ y o,H y=some o->y≠x->H' y=some o)->H L=none->H D=none->H U=none->L≠D->L≠U->D≠U->H' x=some (.ins C dx (sN L D U))->H' L=some (.lst [])->H' D=some (.lst [])->H' U=some (.lst [])->Q .non H'):ur C vs H Q E
theorem vL (T:Txt K w mg t):aR P w K mg base d3 (0+1) t.nP t.nQ ["self"] (ur t.cO):=by
 refine T.i6.ok vt ?_ ?_
 x_go
 obtain⟨x,dx,rfl,hx,q⟩:=h;refine aH (ae (lM (pv 0) (bC af) rfl) (ae (lM (pv 0) (bC af) rfl) (ah (lM (pv 0) (bC af) rfl)))) ?_;refine⟨big (by show 0<=1000;omega),fun L hL=>?_⟩;have xL:x≠L:=au hx hL;refine⟨_,rfl,x,_,dx,_,rfl,by rw[ak xL];exact hx,T.aQ,T.eh,by show 0<1000;decide,?_⟩;refine⟨big (by show 0<=1000;omega),fun D hD=>?_⟩;have xD:x≠D:=au ag hD;have DL:L≠D:=au (show upd (upd H L (.lst [])) x _ L=some (.lst []) by rw[ak (Ne.symm xL)];exact ag) hD;have OD:H D=none:=by rw[ak (Ne.symm xD),ak (Ne.symm DL)]at hD;exact hD
 refine⟨_,rfl,x,_,dx,_,rfl,by rw[ak xD];exact ag,T.aQ,T.ng,by rw[Di];show 1<1000;decide,?_⟩;refine⟨big (by show 0<=1000;omega),fun U hU=>?_⟩;have xU:x≠U:=au ag hU;have DU:D≠U:=by
  rintro rfl;rw[ak (Ne.symm xU),ag]at hU;cases hU
 have LU:L≠U:=by
  rintro rfl;rw[ak (Ne.symm xU),ak DL,ak (Ne.symm xU),ag]at hU;cases hU
 have NS:H U=none:=by rw[ak (Ne.symm xU),ak (Ne.symm DU),ak (Ne.symm xU),ak (Ne.symm LU)]at hU;exact hU
 refine⟨_,rfl,x,_,dx,_,rfl,by rw[ak xU];exact ag,T.aQ,T.j6,by rw[Di,IT];show 2<1000;decide,?_⟩;rw[Di,IT,OB];refine q L D U _ (fun y o hy ny=>?_) hL OD NS DL LU DU ag ?_ ?_ ?_
 ·rw[ak ny,ak (au hy NS),ak ny,ak (au hy OD),ak ny,ak (au hy hL)];exact hy
 ·rw[ak (Ne.symm xL),ak LU,ak (Ne.symm xL),ak DL,ak (Ne.symm xL)];exact ag
 ·rw[ak (Ne.symm xD),ak DU,ak (Ne.symm xD)];exact ag
 ·rw[ak (Ne.symm xU)];exact ag
structure Bw (c:Cs)(H0 H:Hp)(x:Addr)(own:List Addr)(vw:Vw)(ps fs:List Vw):Prop where
 ex:∃ F,yp c H x F vw ps fs/\(∀ y,F y->∃ xs,H y=some (.lst xs))/\(∀ y,F y->H0 y=none)/\∀ a∈own,¬ F a/\∃ o,H a=some o
 sm:ao H0 H
section
variable {c:Cs} {H0 H H' H1:Hp} {x:Addr} {own:List Addr} {vw QW:Vw} {ps ps' fs fs':List Vw} {F F':Addr->Prop}
theorem Bw.mk' (b:yp c H' x F' QW ps' fs')(sm:ao H0 H)(hF:∀ y,F y->∃ xs,H y=some (.lst xs))(h0:∀ y,F y->H0 y=none)(ho:∀ a∈own,¬ F a/\∃ o,H a=some o)(g:Gr F F' H)(fr:Fr F H H'):Bw c H0 H' x own QW ps' fs'/\Wt own H H':=by
 obtain⟨F0,h1,h2,b0⟩:=b.TM;refine⟨⟨⟨F0,b0,h2,fun y z=>?_,fun a ha=>?_⟩,fun y o e=>fr y o (sm y o e) fun z=>?_⟩,fun y o e k=>fr y o e fun z=>?_⟩
 ·rcases g y (h1 y z) with q|q
  ·exact h0 y q
  ·exact sm.free q
 ·obtain⟨n,o,e⟩:=ho a ha;refine⟨fun z=>?_,o,fr a o e n⟩;rcases g a (h1 a z) with q|q
  ·exact n q
  ·rw[e]at q;cases q
 ·rw[h0 y z]at e;cases e
 ·rcases k with k|k
  ·obtain⟨xs,q⟩:=hF y z;rw[e]at q;cases q;exact k _ rfl
  ·exact(ho y k).1 z
theorem Bw.same (h:Bw c H0 H x own vw ps fs)(s:ao H H'):Bw c H0 H' x own vw ps fs:=by
 obtain⟨F,b,hF,h0,ho⟩:=h.ex;exact⟨⟨F,b.same s,fun y z=>let ⟨xs,e⟩:=hF y z;⟨xs,s _ _ e⟩,h0,fun a ha=>⟨(ho a ha).1,let ⟨o,e⟩:=(ho a ha).2;⟨o,s _ _ e⟩⟩⟩,h.sm.trans s⟩
theorem Bw.add (h:Bw c H0 H x own vw ps fs)(s:ao H H'){l:Addr}(n:H l=none){o:HO}(e:H' l=some o):Bw c H0 H' x (l::own) vw ps fs:=by
 obtain⟨F,b,hF,h0,ho⟩:=h.ex;refine⟨⟨F,b.same s,fun y z=>let ⟨xs,e⟩:=hF y z;⟨xs,s _ _ e⟩,h0,fun a ha=>?_⟩,h.sm.trans s⟩;rcases List.mem_cons.mp ha with rfl|ha
 ·refine⟨fun z=>?_,o,e⟩;obtain⟨xs,q⟩:=hF _ z;rw[n]at q;cases q
 ·exact⟨(ho a ha).1,let ⟨o,e⟩:=(ho a ha).2;⟨o,s _ _ e⟩⟩
theorem Bw.hx (h:Bw c H0 H x own vw ps fs):∃ dx L D U,H x=some (.ins c.B dx (sN L D U)):=by
 obtain⟨F,b,_⟩:=h.ex;obtain⟨L,D,U,all,M,Ps,Fs,es,us,b,_⟩:=b.ex;obtain⟨dx,e⟩:=b.hx;exact⟨dx,L,D,U,e⟩
theorem Bw.new {dx L D U:Addr}(hx:H' x=some (.ins c.B dx (sN L D U)))(hL:H' L=some (.lst []))(hD:H' D=some (.lst []))(hU:H' U=some (.lst []))(LD:L≠D)(LU:L≠U)(DU:D≠U)(s:ao H H')(nL:H L=none)(nD:H D=none)(nU:H U=none):Bw c H H' x [] [] [] []:=by
 refine⟨⟨_,Bk.new hx hL hD hU LD LU DU,fun y hy=>?_,fun y hy=>?_,fun a ha=>nomatch ha⟩,s⟩
 ·rcases hy with rfl|rfl|rfl
  ·exact⟨_,hL⟩
  ·exact⟨_,hD⟩
  ·exact⟨_,hU⟩
 ·rcases hy with rfl|rfl|rfl
  ·exact nL
  ·exact nD
  ·exact nU
end
theorem yp.forgot {c:Cs}{H:Hp}{x:Addr}{F:Addr->Prop}{vw:Vw}{ps fs:List Vw}(h:yp c H x F vw ps fs):∃ dx L D U xs us,H x=some (.ins c.B dx (sN L D U))/\H D=some (.lst xs)/\H U=some (.lst us)/\D≠U/\F D/\F U/\yp c (upd (upd H D (.lst [])) U (.lst [])) x F vw [] []:=by
 obtain⟨L,D,U,all,M,Ps,Fs,es,us,b,iM,pp,pf,f⟩:=h.ex;obtain⟨dx,hx⟩:=b.hx;obtain⟨xs,hD,_⟩:=b.hD;obtain⟨ys,hU,_⟩:=b.hU;refine⟨dx,L,D,U,xs,ys,hx,hD,hU,b.DU,f.D,f.U,?_⟩;have keep:∀ y o,H y=some o->y≠D->y≠U->upd (upd H D (.lst [])) U (.lst []) y=some o:=fun y o e n1 n2=>by rw[ak n2,ak n1];exact e
 have kN:∀ y o,H y=some o->(∀ zs,o≠.lst zs)->upd (upd H D (.lst [])) U (.lst []) y=some o:=fun y o e n=>keep y o e (fun w=>by rw[w,hD]at e;exact n _ (W' e).symm) (fun w=>by rw[w,hU]at e;exact n _ (W' e).symm);have k:Kept (fun y=>y≠D/\y≠U) H (upd (upd H D (.lst [])) U (.lst [])):=fun y o e z=>z.elim (fun z=>keep y o e z.1 z.2) (kN y o e);have one:∀{α:Type} {P:α->Prop} {S m:α},P m->(S∈([]:List α)\/S=m\/S∈([]:List α))->P S:=fun p z=>by
  rcases z with z|rfl|z
  ·cases z
  ·exact p
  ·cases z
 exact⟨⟨L,D,U,all,M,[],[],[],[],{ b with hx:=⟨dx,kN _ _ hx fun _ z=>nomatch z⟩,hL:=keep _ _ b.hL b.LD b.LU,hD:=⟨[],(by rw[ak b.DU];exact ag),.nil⟩,hU:=⟨[],ag,.nil⟩,ha:=fun a ha=>⟨kN _ _ (b.ha a ha).1 (fun _ z=>nomatch z),keep _ _ (b.ha a ha).2 (b.nl a ha).2.1 (b.nl a ha).2.2⟩,dd:=fun e z=>(by rcases z with z|z <;> cases z),past:=.nil,fut:=.nil,wf:=fun S z=>one (P:=WF _ L all) (WF.kept k (b.wf M (.inr (.inl rfl)))) z },Is.kept k iM,.nil,.nil,⟨f.L,f.D,f.U,f.l,fun e z=>(by rcases z with z|z <;> cases z)⟩⟩,fun v z=>one (P:=sO) (h.wv vw (.inr (.inl rfl))) z⟩
inductive iX (c:Cs)(vs:List V)(H:Hp)(Q:VK)(E:XK):Prop
 |mk (x:Addr) (H0:Hp) (vw:Vw) (ps fs:List Vw) (cL:vs=[.ref x]) (cM:Bw c H0 H x [] vw ps fs) (dA:∀ H',Bw c H0 H' x [] vw [] []->Q .non H'):iX c vs H Q E
theorem pN (T:Txt K w mg t):aR P w K mg base d3 (0+1) t.jc t.jd ["self"] (iX (cs t)):=by
 refine T.fR.ok oV ?_ ?_
 x_go
 obtain⟨x,H0,vw,ps,fs,rfl,B,q⟩:=h;refine aH (ae (aS (C1 Zj' slot_list_clear type_list_clear yC (dR (pv 0) rfl))) (ah (aS (C1 Zj' slot_list_clear type_list_clear yC (dR (pv 0) rfl))))) ?_;obtain⟨F,b,hF,h0,ho⟩:=B.ex;obtain⟨dx,L,D,U,xs,us,hx,hD,hU,DU,fD,fU,b2⟩:=b.forgot;have xD:x≠D:=qi hx hD (by intro z;cases z);have QX:upd H D (.lst []) U=some (.lst us):=by rw[ak (Ne.symm DU)];exact hU
 refine⟨_,rfl,x,_,dx,_,_,rfl,hx,T.aQ,T.ng,EH _ _ _,?_⟩;refine⟨.inl ⟨rfl,_,aL.of hD⟩,D,_,rfl,rfl,hD,?_⟩;refine⟨_,rfl,x,_,dx,_,_,rfl,by rw[ak xD];exact hx,T.aQ,T.j6,yT _ _ _,?_⟩;refine⟨.inl ⟨rfl,_,aL.of QX⟩,U,_,rfl,rfl,QX,?_⟩;refine q _ (Bw.mk' b2 B.sm hF h0 ho (fun y hy=>.inl hy) (fun y o e n=>?_)).1;rw[ak (fun w:y=U=>n (by rw[w];exact fU)),ak (fun w:y=D=>n (by rw[w];exact fD))];exact e
inductive An (vs:List V)(H:Hp)(Q:VK)(E:XK):Prop
 |mk (x:Str) (cL:vs=[.str x]) (cM:x.length<=100000) (dA:∀ H',ao H H'->Q (.bl (nameB x)) H'):An vs H Q E
theorem Hz (T:Txt K w mg t):aR P w K mg base d3 (0+1) t.BS t.BU ["name"] An:=by
 refine T.Cn.ok Hg ?_ ?_
 x_go
 obtain⟨x,rfl,hx,q⟩:=h;refine aH (ah (av (bJ (eX (D8 ko ko ai (aE (aB.or aC) rfl T.bg bf (aa (pv 0) af)) (aZ (v:=.int 8) rfl T.zW ⟨_,rfl⟩)) (gm (aE Mi rfl T.Q8 Qt (aa (eB (cn:=["letter"]) rfl (b8.of rfl) (uZ (pv 0)) (fun _=>(bZ (i:=0) Dr rfl (Or.inl rfl))) (fun _=>eZ) (fun _=>(bB (bX.or bW) (pv 0) (aZ (v:=.str "abcdefghijklmnopqrstuvwxyz") rfl T.Ky ⟨_,rfl⟩) rfl))) af))))))) ?_;have xb:x.length<=sizeLine:=Zf' hx (by decide);refine⟨fun v H'=>v=.bl (nameB x)/\ao H H',?_,fun _ _ ⟨e1,e2⟩=>by rw[e1];exact q _ e2⟩;unfold nameB;refine⟨_,rfl,.inr ⟨_,rfl,xb,_,_,rfl,rfl,_,rfl,?_⟩⟩;refine aG (fun h1=>?_) (fun h1=>?_)
 rotate_left
 ·have e1:decide (1<=x.length)=false:=V' fun z=>h1 (L' (by omega));rw[e1];exact⟨_,rfl,cf ⟨rfl,ao.refl _⟩⟩
 have e1:decide (1<=x.length)=true:=L' (by have:=G' h1;omega);rw[e1,Bool.true_and];refine⟨_,_,rfl,rfl,_,rfl,?_⟩;refine aG (fun h2=>?_) (fun h2=>?_)
 rotate_left
 ·have e2:decide (x.length<=8)=false:=V' fun z=>h2 (L' (by omega));rw[e2];exact⟨rfl,ao.refl _⟩
 have n2:x.length<=8:=by have:=G' h2;omega
 have e2:decide (x.length<=8)=true:=L' n2;rw[e2,Bool.true_and];refine⟨_,rfl,_,rfl,fun D b hD=>?_⟩;refine yG (fun i ys σ H'=>∃ v,σ=[v,some (.str x)]/\H'=upd H D (.lst ys)/\ys=((x.cps.toList.take i).map fun c=>vd ⟨#[c]⟩ "abcdefghijklmnopqrstuvwxyz").map V.bl/\i<=x.cps.size) ⟨none,rfl,rfl,rfl,Nat.zero_le _⟩ ?_ ?_
 ·rintro i ys c σ H' hc ⟨v,rfl,rfl,rfl,hi⟩ N hN;have hi2:i<x.cps.size:=(Array.getElem?_eq_some_iff.mp hc).1;have hcm:x.cps.toList[i]? = some c:=by simpa using hc
  have sz:x.cps.size<=8:=n2;refine bT ?_;refine⟨_,rfl,.inr ⟨_,_,rfl,rfl,ag,?_,?_⟩⟩
  ·rw[P',P',length_take];exact aJ (by omega)
  ·refine hN _ _ _ ⟨_,rfl,cq,?_,hi2⟩;rw[take_succ,hcm,map_append,map_append];rfl
 ·rintro ys σ H' ⟨v,rfl,rfl,rfl,hi⟩;refine⟨rfl,D,_,rfl,aL.of ag,?_,ao.upd hD⟩;rw[show x.cps.size=x.cps.toList.length from rfl,take_length];refine Zn' V.bl ?_;rw[List.all_map];rfl
inductive qM (c:Cs)(vs:List V)(H:Hp)(Q:VK)(E:XK):Prop
 |mk (x:Addr) (F:Addr->Prop) (vw:Vw) (ps fs:List Vw) (cL:vs=[.ref x]) (cM:yp c H x F vw ps fs) (dA:∀(l:Addr)(H':Hp),H l=none->ao H H'->H' l=some (.lst (vw.map fun a=>V.str a.1))->Q (.ref l) H'):qM c vs H Q E
theorem lU (T:Txt K w mg t):aR P w K mg base d3 (0+1) t.tI t.tK ["self"] (qM (cs t)):=by
 refine T.c8.ok AQ ?_ ?_
 x_go
 obtain⟨x,F,vw,ps,fs,rfl,B,q⟩:=h;refine aH (ah (av (eB (cn:=["voice"]) rfl (b8.of rfl) (dz (dR (pv 0) rfl)) (fun _=>(bZ (i:=0) x3 rfl (Or.inl rfl))) (fun _=>eZ) (fun _=>(dR (pv 0) rfl))))) ?_;obtain⟨L,D,U,all,M,Ps,Fs,es,us,b,i,pp,pf,f⟩:=B.ex;obtain⟨dx,hx⟩:=b.hx;obtain⟨vx,g,gv⟩:=b.vk i;have hL:=b.hL;have xl:=cE g;have vl:=cE gv;have ln:=(b.wf M (.inr (.inl rfl))).len;have hn:=Q0 gv fun _ _ r=>r.2.1;refine⟨_,rfl,x,_,dx,_,_,rfl,hx,T.aQ,T.eh,jL _ _ _,L,rfl,⟨_,aL.of hL⟩,fun D' b' hD'=>?_⟩;refine dH (K:=K) (xs:=M L) (fun i ys σ H'=>∃ v,σ=[v,some (.ref x)]/\H'=upd H D' (.lst ys)/\ys=(vx.take i).map fun a=>V.str a.n) ⟨none,rfl,rfl,by simp⟩ ?_ ?_ ?_
 ·rintro i ys σ H' ⟨v,rfl,rfl,_⟩;exact dX (aL.of hL) hD'
 ·rintro i ys y σ H' hy ⟨v,rfl,rfl,rfl⟩ N hN;obtain⟨a,e1,rfl,ha⟩:=oK g hy;have hi:i<vx.length:=(S'.mp e1).1;refine bT ?_;refine⟨_,rfl,a.o,_,a.d,_,_,rfl,by rw[ak (au ha hD')];exact ha,T.f6,T.lT,EG _ _ _,ag,?_,?_⟩
  ·rw[P',length_take];exact aJ (by omega)
  ·refine hN _ _ _ ⟨_,rfl,cq,?_⟩;rw[take_succ,e1];simp
 ·rintro ys σ H' ⟨v,rfl,rfl,rfl⟩;rw[xl,take_length,hn];exact q D' _ hD' (ao.upd hD') ag
theorem Nr {x:Str}{l:List V}(h:inV (.str x) l=true):V.str x∈l:=by
 unfold inV at h;obtain⟨y,hy,e⟩:=any_eq_true.mp h;cases y with
 |str z =>
  have:z=x:=by simpa [Ip] using e
  rw[<-this];exact hy
 |_=>simp[Ip]at e
theorem HC {x:Str}{l:List V}(h:V.str x∈l):inV (.str x) l=true:=by
 unfold inV;exact any_eq_true.mpr ⟨_,h,by simp[Ip]⟩
theorem fm {vw:Vw}{n:Str}(h:bU vw n=none):nameB n=true/\bj vw n=none/\vw.length<12:=by
 unfold bU at h;split at h
 ·cases h
 ·next h1 =>
  split at h
  ·cases h
  ·next h2 =>
   split at h
   ·cases h
   ·next h3=>exact⟨by simpa using h1,by cases e:bj vw n with|none=>rfl|some _=>rw[e]at h2;exact j' rfl h2,by omega⟩
inductive j8 (c:Cs)(vs:List V)(H:Hp)(Q:VK)(E:XK):Prop
 |mk (x:Addr) (F:Addr->Prop) (vw:Vw) (ps fs:List Vw) (n:Str) (cL:vs=[.ref x,.str n]) (cM:yp c H x F vw ps fs) (dA:n.length<=100000) (fA:match bU vw n with
 |some r=>∀ H',ao H H'->RX E c r H'
 |none=>∀ H',ao H H'->Q .non H'):j8 c vs H Q E
theorem j9 (T:Txt K w mg t):aR P w K mg base (hZ P w) (0+2) t.kR t.kS ["self","name"] (j8 (cs t)):=by
 have KL:=Hz P base T;have fM:=lU P base T;refine T.bO.GY eF ?_ ?_
 x_go
 obtain⟨x,F,vw,ps,fs,n,rfl,B,hlen,q⟩:=h;refine aH (ae (aI (cy (aT (dg T.Cn KL hr (aa (pv 1) af)))) (ah (fT (X:=(sf T.bO.1 eF (hZ P w) P w mg base cdv A outer s H E)) (fun _ _ z=>z) rfl T.Hs.exc rfl T.zP (aa aA af))) ax) (ae (aI (aq (bX.or bW) (pv 1) (lY (pv 0) T.aQ T.c8.me fM (iA hr) T.c8.b .nil fS) rfl) (ah (fT (X:=(sf T.bO.1 eF (hZ P w) P w mg base cdv A outer s H E)) (fun _ _ z=>z) rfl T.DE.exc rfl T.Dw (aa aA af))) ax) (ah (aI (aq Lu (aE (aB.or aC) rfl T.bg bf (aa (dR (pv 0) rfl) af)) (aZ (v:=.int 12) rfl T.AV ⟨_,rfl⟩) (aw _)) (ah (fT (X:=(sf T.bO.1 eF (hZ P w) P w mg base cdv A outer s H E)) (fun _ _ z=>z) rfl T.Jm.exc rfl T.Jk (aa aA af))) ax)))) ?_;refine⟨_,rfl,n,rfl,hlen,fun H1 s1=>?_⟩;unfold bU at q;refine⟨_,rfl,?_⟩;cases hnb:nameB n with
 |false =>
  rw[Zc' hnb]at q;have q:=q H1 s1;exact cX ⟨by show 1<=sizeLine;decide,q.2⟩
 |true =>
  rw[Za' (by rw[hnb];decide)]at q;refine cf ?_;have B1:=B.same s1;obtain⟨L,D,U,all,M,Ps,Fs,es,us,b,i,pp,pf,f⟩:=B1.ex;obtain⟨dx,hx⟩:=b.hx;refine⟨_,rfl,_,rfl,x,dx,_,rfl,hx,jk _ _ _,?_⟩;refine⟨x,F,vw,ps,fs,rfl,B1,fun l H2 hl s2 hl2=>?_⟩;refine .inl ⟨l,_,rfl,.inl (aL.of hl2),rfl,?_,_,rfl,?_⟩
  ·rw[List.all_map];exact all_eq_true.mpr fun _ _=>rfl
  have mem:inV (.str n) (vw.map fun a=>V.str a.1)=true ↔ (bj vw n).isSome=true:=by
   constructor
   ·intro h;obtain⟨a,ha,e⟩:=mem_map.mp (Nr h);cases e2:bj vw n with
    |some _=>rfl
    |none=>exact j' (V.str.inj e) (iu e2 a ha)
   ·intro h;cases e2:bj vw n with
    |none=>rw[e2]at h;cases h
    |some th=>exact HC (mem_map.mpr ⟨_,cF e2,rfl⟩)
  refine aG (fun h=>?_) (fun h=>?_)
  ·rw[Zc' (mem.mp h)]at q;have q:=q H2 (s1.trans s2);exact⟨by show 1<=sizeLine;decide,q.2⟩
  rw[Za' (fun z=>h (mem.mpr z))]at q;refine⟨_,rfl,x,_,dx,_,_,rfl,s2 _ _ hx,T.aQ,T.eh,jL _ _ _,?_⟩;refine .inl ⟨L,M L,rfl,.inl (aL.of (s2 _ _ b.hL)),?_⟩;refine⟨_,_,rfl,rfl,_,rfl,?_⟩;have ll:=cE i;refine aG (fun h=>?_) (fun h=>?_)
  ·have h':=G' h;rw[Zc' (by omega)]at q;have q:=q H2 (s1.trans s2);exact⟨by show 1<=sizeLine;decide,q.2⟩
  ·rw[Za' (fun z=>h (L' (by omega)))]at q;exact q _ (s1.trans s2)
inductive Ao (C:Addr)(vs:List V)(H:Hp)(Q:VK)(E:XK):Prop
 |mk (x dx T_ B A:Addr) (i:Nat) (xs bs as:List V) (cL:vs=[.ref x]) (cM:H x=some (.ins C dx (G7 T_ (i:Int) B A))) (dA:H T_=some (.lst xs)) (fA:H B=some (.lst bs)) (ki:H A=some (.lst as)) (Bb:T_≠A) (Rm:i+bs.length<=xs.length) (R1:xs.length+as.length<=1000) (WT:Q .non (upd H T_ (.lst (xs.take i++as++xs.drop (i+bs.length))))):Ao C vs H Q E
theorem HD (T:Txt K w mg t):aR P w K mg base d3 (0+1) t.BV t.BW ["self"] (Ao t.eO):=by
 refine T.vH.ok Hh ?_ ?_
 x_go
 obtain⟨x,dx,T_,B,A_,i,xs,bs,as,rfl,hx,hT,hB,hA,hne,hi,hz,q⟩:=h;refine aH (ah (eL (dR (pv 0) rfl) (Mh (dR (pv 0) rfl) (dW (dR (pv 0) rfl)) (dW (aD (aO.or (ay.or aP)) (dR (pv 0) rfl) (aE (aB.or aC) rfl T.bg bf (aa (dR (pv 0) rfl) af))))))) ?_;refine⟨_,rfl,x,_,dx,_,_,rfl,hx,T.iP,T.qL,Kj _ _ _ _,?_⟩;refine⟨_,rfl,x,_,dx,_,_,rfl,hx,T.iP,T.pC,G8 _ _ _ _,?_⟩;refine⟨_,rfl,x,_,dx,_,_,rfl,hx,T.iP,T.rO,ME _ _ _ _,_,rfl,?_⟩;refine⟨_,rfl,x,_,dx,_,_,rfl,hx,T.iP,T.rO,ME _ _ _ _,?_⟩;refine⟨_,rfl,x,_,dx,_,_,rfl,hx,T.iP,T.pE,G9 _ _ _ _,?_⟩;refine .inl ⟨B,bs,rfl,.inl (aL.of hB),.inl ⟨_,_,rfl,rfl,_,rfl,?_⟩⟩;refine⟨T_,A_,xs,as,(i:Int),((i+bs.length:Nat):Int),rfl,rfl,rfl,by simp,hT,hA,hne,by omega,by omega,by omega,Zf' hz (by decide),?_⟩;rw[Int.toNat_natCast,Int.toNat_natCast];exact q
inductive n9 (CB CD:Addr)(vs:List V)(H:Hp)(Q:VK)(E:XK):Prop
 |mk (x dx L D U d dd T_ B A:Addr) (i:Nat) (ds us xs bs as:List V) (cL:vs=[.ref x,.ref d]) (cM:H x=some (.ins CB dx (sN L D U))) (dA:H D=some (.lst ds)) (fA:H U=some (.lst us)) (ki:H d=some (.ins CD dd (G7 T_ (i:Int) B A))) (Bb:H T_=some (.lst xs)) (Rm:H B=some (.lst bs)) (R1:H A=some (.lst as)) (WT:T_≠A) (X0:T_≠D) (WU:T_≠U) (aam:D≠U) (aan:i+bs.length<=xs.length) (aao:xs.length+as.length<=1000) (aap:ds.length<=9000) (aaq:Q .non (upd (upd (upd H T_ (.lst (xs.take i++as++xs.drop (i+bs.length)))) D (.lst (ds++[.ref d]))) U (.lst []))):n9 CB CD vs H Q E
theorem oa (T:Txt K w mg t):aR P w K mg base d3 (0+2) t.oX t.oY ["self","deed"] (n9 t.cO t.eO):=by
 have KN:=HD P base T;refine T.fk.ok xY ?_ ?_
 x_go
 obtain⟨x,dx,L,D,U,d,dd,T_,B,A_,i,ds,us,xs,bs,as,rfl,hx,hD,hU,hd,hT,hB,hA,n1,n2,n3,n4,hi,hz,hds,q⟩:=h;refine aH (ae (aS (lY (pv 1) T.iP T.vH.me KN (iA hr) T.vH.b .nil fS)) (ae (aS (cQ Zj' slot_list_append Zp' bp (dR (pv 0) rfl) (aa (pv 1) af))) (ah (aS (C1 Zj' slot_list_clear type_list_clear yC (dR (pv 0) rfl)))))) ?_;have xT:x≠T_:=qi hx hT (by intro z;cases z);have xD:x≠D:=qi hx hD (by intro z;cases z);refine⟨_,rfl,d,dd,_,rfl,hd,Kk _ _ _ _,?_⟩;refine⟨d,dd,T_,B,A_,i,xs,bs,as,rfl,hd,hT,hB,hA,n1,hi,hz,?_⟩;refine⟨_,rfl,x,_,dx,_,_,rfl,by rw[ak xT];exact hx,T.aQ,T.ng,EH _ _ _,?_⟩;refine⟨.inl ⟨rfl,_,aL.of (show upd H T_ _ D=some (.lst ds) by rw[ak (Ne.symm n2)];exact hD)⟩,_,rfl,D,_,_,rfl,rfl,by rw[ak (Ne.symm n2)];exact hD,Zf' (m:=10000) (by show _+1<=10000;omega) (by decide),?_⟩;refine⟨_,rfl,x,_,dx,_,_,rfl,by rw[ak xD,ak xT];exact hx,T.aQ,T.j6,yT _ _ _,?_⟩;have QX:upd (upd H T_ (.lst (xs.take i++as++xs.drop (i+bs.length)))) D (.lst (ds++[.ref d])) U=some (.lst us):=by rw[ak (Ne.symm n4),ak (Ne.symm n3)];exact hU
 exact⟨.inl ⟨rfl,_,aL.of QX⟩,U,_,rfl,rfl,QX,q⟩
inductive uv (C:Addr)(vs:List V)(H:Hp)(Q:VK)(E:XK):Prop
 |mk (x dx:Addr) (T_:Addr) (i:Int) (B A:Addr) (cL:vs=[.ref x,.ref T_,.int i,.ref B,.ref A]) (cM:H x=some (.ins C dx [])) (dA:Q .non (upd H x (.ins C dx (G7 T_ i B A)))):uv C vs H Q E
theorem mM (T:Txt K w mg t):aR P w K mg base d3 (0+1) t.nR t.nS ["self","things","at","before","after"] (uv t.eO):=by
 refine T.eJ.ok vy ?_ ?_
 x_go
 obtain⟨x,dx,T_,i,B,A_,rfl,hx,q⟩:=h;refine aH (ae (lM (pv 0) (pv 1) rfl) (ae (lM (pv 0) (pv 2) rfl) (ae (lM (pv 0) (pv 3) rfl) (ah (lM (pv 0) (pv 4) rfl))))) ?_;refine⟨_,rfl,_,rfl,x,_,dx,_,rfl,hx,T.iP,T.pC,by show 0<1000;decide,?_⟩;refine⟨_,rfl,_,rfl,x,_,dx,_,rfl,ag,T.iP,T.rO,by rw[yn];show 1<1000;decide,?_⟩;refine⟨_,rfl,_,rfl,x,_,dx,_,rfl,ag,T.iP,T.pE,by rw[yn,Dh];show 2<1000;decide,?_⟩;refine⟨_,rfl,_,rfl,x,_,dx,_,rfl,ag,T.iP,T.qL,by rw[yn,Dh,IS];show 3<1000;decide,?_⟩;rw[yn,Dh,IS,OA];simp only [cq];exact q
inductive pO (c:Cs)(vs:List V)(H:Hp)(Q:VK)(E:XK):Prop
 |mk (x dx L D U v:Addr) (xs ds us:List V) (cL:vs=[.ref x,.ref v]) (cM:H x=some (.ins c.B dx (sN L D U))) (dA:H L=some (.lst xs)) (fA:H D=some (.lst ds)) (ki:H U=some (.lst us)) (Bb:L≠D) (Rm:L≠U) (R1:D≠U) (WT:xs.length<=12) (X0:ds.length<=9000) (WU:∀(e:Dd)(H1 H':Hp),e.T=L->e.i=xs.length->e.bs=[]->e.as=[.ref v]->ao H H1->H e.B=none->H e.A=none->qb c.D H1 (.ref e.o) e->(∀ y o,H1 y=some o->y≠L->y≠D->y≠U->H' y=some o)->H' L=some (.lst (xs++[.ref v]))->H' D=some (.lst (ds++[.ref e.o]))->H' U=some (.lst [])->Q .non H'):pO c vs H Q E
theorem pP (T:Txt K w mg t):aR P w K mg base d3 (0+3) t.qx t.qy ["self","voice"] (pO (cs t)):=by
 have kc:=oa P base T;have i8:=mM P base T;refine T.fZ.ok zm ?_ ?_
 x_go
 obtain⟨x,dx,L,D,U,v,xs,ds,us,rfl,hx,hL,hD,hU,n1,n2,n3,hxs,hds,q⟩:=h;refine aH (ah (aS (gL (pv 0) T.aQ T.fk.me kc (iA hr) T.fk.b .nil fS (aa (yj T.eJ.TY i8 (iA hr) rfl T.Jj T.eJ.b .nil fS (aa (dR (pv 0) rfl) (aa (aE (aB.or aC) rfl T.bg bf (aa (dR (pv 0) rfl) af)) (aa (bC af) (aa (bC (aa (pv 1) af)) af))))) af)))) ?_;refine⟨_,rfl,x,dx,_,rfl,hx,oO _ _ _,?_⟩;refine⟨_,rfl,x,_,dx,_,_,rfl,hx,T.aQ,T.eh,jL _ _ _,?_⟩;refine⟨_,rfl,x,_,dx,_,_,rfl,hx,T.aQ,T.eh,jL _ _ _,?_⟩;refine .inl ⟨L,xs,rfl,.inl (aL.of hL),?_⟩;refine⟨big (by show 0<=1000;omega),fun B hB=>?_⟩;refine⟨_,rfl,big (by show 1<=1000;omega),fun A_ hA=>?_⟩;have UT:=IV hA;have LA:L≠A_:=au (ao.upd (o:=.lst []) hB _ _ hL) hA;have sB:=(ao.upd (o:=.lst []) hB).trans (ao.upd (o:=.lst [V.ref v]) hA);have hB2:=ao.upd (o:=.lst [V.ref v]) hA _ _ (ag (H:=H) (a:=B) (o:=.lst []));have Rp:=ag (H:=upd H B (.lst [])) (a:=A_) (o:=.lst [V.ref v]);generalize upd (upd H B (.lst [])) A_ (.lst [V.ref v])=H2 at sB hB2 Rp;intro d dd nd WV ne;refine⟨d,dd,L,(xs.length:Int),B,A_,rfl,ag,rfl,?_⟩;rw[cq];have s3:ao H2 (upd (upd H2 dd (.own d)) d (.ins t.eO dd (G7 L (xs.length:Int) B A_))):=fun y o hy=>by
  rw[ak (au hy nd),ak (au hy WV)];exact hy
 have NR:=ag (H:=upd H2 dd (.own d)) (a:=d) (o:=.ins t.eO dd (G7 L (xs.length:Int) B A_));generalize upd (upd H2 dd (.own d)) d (.ins t.eO dd (G7 L (xs.length:Int) B A_))=H3 at s3 NR;have s4:=sB.trans s3;refine⟨x,dx,L,D,U,d,dd,L,B,A_,xs.length,ds,us,xs,[],[.ref v],rfl,s4 _ _ hx,s4 _ _ hD,s4 _ _ hU,NR,s4 _ _ hL,s3 _ _ hB2,s3 _ _ Rp,LA,n1,n2,n3,by simp,by simp;omega,hds,?_⟩;refine q ⟨d,dd,L,xs.length,B,A_,[],[.ref v]⟩ H3 _ rfl rfl rfl rfl s4 hB UT ⟨rfl,NR,s3 _ _ hB2,s3 _ _ Rp⟩ (fun y o hy y1 y2 y3=>?_) ?_ ?_ ag
 ·rw[ak y3,ak y2,ak y1];exact hy
 ·rw[ak n2,ak n1,ag];simp
 ·rw[ak n3,ag]
inductive qN (C:Addr)(vs:List V)(H:Hp)(Q:VK)(E:XK):Prop
 |mk (x dx:Addr) (n:Str) (tm:V) (cL:vs=[.ref x,.str n,tm]) (cM:H x=some (.ins C dx [])) (dA:∀(L:Addr)(H':Hp),(∀ y o,H y=some o->y≠x->H' y=some o)->H L=none->L≠x->H' x=some (.ins C dx (PK n tm L))->H' L=some (.lst [])->Q .non H'):qN C vs H Q E
theorem lD (T:Txt K w mg t):aR P w K mg base d3 (0+1) t.mz t.mB ["self","name","terms"] (qN t.lr):=by
 refine T.ef.ok tq ?_ ?_
 x_go
 obtain⟨x,dx,n,tm,rfl,hx,q⟩:=h;refine aH (ae (lM (pv 0) (pv 1) rfl) (ae (lM (pv 0) (pv 2) rfl) (ah (lM (pv 0) (bC af) rfl)))) ?_;refine⟨_,rfl,_,rfl,x,_,dx,_,rfl,hx,T.f6,T.lT,by show 0<1000;decide,?_⟩;refine⟨_,rfl,_,rfl,x,_,dx,_,rfl,ag,T.f6,T.j5,by rw[Dg];show 1<1000;decide,?_⟩;refine⟨big (by show 0<=1000;omega),fun L hL=>?_⟩;rw[cq]at hL;have nx:x≠L:=fun e=>by rw[<-e,ag]at hL;cases hL
 have hL0:H L=none:=by rw[ak (Ne.symm nx)]at hL;exact hL
 refine⟨_,rfl,x,_,dx,_,rfl,by rw[ak nx,cq];exact ag,T.f6,T.g8,by rw[Dg,IQ];show 2<1000;decide,?_⟩;rw[Dg,IQ,Oz];simp only [cq];refine q L _ (fun y o hy ny=>?_) hL0 (Ne.symm nx) ag ?_
 ·rw[ak ny,ak (au hy hL0),ak ny];exact hy
 ·rw[ak (Ne.symm nx)];exact ag
inductive lE (c:Cs)(vs:List V)(H:Hp)(Q:VK)(E:XK):Prop
 |mk (x:Addr) (F:Addr->Prop) (vw:Vw) (ps fs:List Vw) (n:Str) (cL:vs=[.ref x,.str n]) (cM:yp c H x F vw ps fs) (dA:n.length<=100000) (fA:ps.length<=9000) (ki:match bU vw n with
 |some r=>∀ H',ao H H'->RX E c r H'
 |none=>∀ F' H',Gr F F' H->Fr F H H'->yp c H' x F' (vw++[(n,.pl [])]) (ps++[vw]) []->Q .non H'):lE c vs H Q E
theorem uw (T:Txt K w mg t):aR P w K mg base (hZ P w) (0+4) t.mC t.mD ["self","name"] (lE (cs t)):=by
 have g9:=j9 P base T;have lV:=pP P base T;have iF:=lD P base T;refine T.fK.GY kO ?_ ?_
 x_go
 obtain⟨x,F,vw,ps,fs,n,rfl,B,hlen,hps,q⟩:=h;refine aH (ae (aS (dr (X:=(sf T.fK.1 kO (hZ P w) P w mg base cdv A outer s H E)) (pv 0) T.aQ T.bO.me g9 (iA hr) T.bO.b .nil (fun _ _ z=>Or.inl z) (aa (pv 1) af))) (ah (aS (gL (pv 0) T.aQ T.fZ.me lV (iA hr) T.fZ.b .nil fS (aa (yj T.ef.TY iF (iA hr) rfl T.FH T.ef.b .nil fS (aa (pv 1) (aa cS af))) af))))) ?_;obtain⟨L,D,U,all,M,Ps,Fs,es,us,b,i,pp,pf,f⟩:=B.ex;obtain⟨dx,hx⟩:=b.hx;refine⟨_,rfl,x,dx,_,rfl,hx,kA _ _ _,_,rfl,x,F,vw,ps,fs,n,rfl,B,hlen,?_⟩;cases ho:bU vw n with
 |some r =>
  rw[ho]at q;intro H' s';have q:=q H' s';exact q
 |none =>
  rw[ho]at q;obtain⟨_,hf,Rq⟩:=fm ho;intro H1 s1;have b1:=b.kept f (.same s1);obtain⟨ds,hD,pD⟩:=b1.hD;obtain⟨ux,hU,pU⟩:=b1.hU;have ll:=cE i;have dl:=cE pD;have pl:=cE pp;have pe:=b.past.len;refine⟨_,rfl,x,dx,_,rfl,s1 _ _ hx,qm _ _ _,_,rfl,?_⟩;intro v dv nv WW ne;refine⟨v,dv,n,.non,rfl,ag,fun l H2 kp hl hlv hv2 hl2=>⟨rfl,?_⟩⟩;have s2:ao H1 H2:=fun y o hy=>kp y o (by rw[ak (au hy nv),ak (au hy WW)];exact hy) (au hy nv);have hl1:H1 l=none:=zb hl;refine⟨x,dx,L,D,U,v,M L,ds,ux,rfl,s2 _ _ (s1 _ _ hx),s2 _ _ b1.hL,s2 _ _ hD,s2 _ _ hU,b.LD,b.LU,b.DU,by omega,by omega,fun e H3 H' eT ei eb ea s3 nB nA hd fr hL' hD' hU'=>?_⟩;obtain⟨F',g,fr',B'⟩:=Bk.added b1 (Is.kept (F:=F) (.same s1) i) (dC (fun _ _ q=>Is.kept (F:=F) (.same s1) q) pp) f B.wv (a:=⟨v,dv,n,.non,l⟩) (th:=.pl []) s2 nv hl1 hv2 hl2 (fun M' h0=>⟨rfl,by rw[h0];exact .nil⟩) ((B.wv vw (.inr (.inl rfl))).TF (iu hf) Rq) eT ei eb ea s3 nB nA hd hD pD fr hL' hD' hU';exact q F' H' (g.old s1) (fun y o hy hn=>fr' y o (s1 y o hy) hn) B'
inductive hI (c:Cs)(vs:List V)(H:Hp)(Q:VK)(E:XK):Prop
 |mk (i n:Int) (cL:vs=[.int i,.int n]) (cM:((0<=i/\i<=n->Q .non H)/\(¬(0<=i/\i<=n)->RX E c .sQ H))):hI c vs H Q E
theorem nq (T:Txt K w mg t):aR P w K mg base (hZ P w) (0+1) t.ie t.ig ["at","last"] (hI (cs t)):=by
 refine T.cA.GY gU ?_ ?_
 x_go
 obtain⟨i,n,rfl,q1,q2⟩:=h;refine aH (ah (aI (cy (oB ko ko ai (pv 0) (pv 1))) (ah (fT (X:=(sf T.cA.1 gU (hZ P w) P w mg base cdv A outer s H E)) (fun _ _ z=>z) rfl T.Ht.exc rfl T.Hm (aa aA af))) ax)) ?_;refine⟨_,rfl,_,_,rfl,rfl,_,rfl,?_⟩;refine aG (fun h0=>?_) (fun h0=>?_)
 ·refine⟨_,rfl,_,_,rfl,rfl,_,rfl,?_⟩;refine aG (fun h=>?_) (fun h=>?_)
  ·have h':(!decide (i<=n))=true:=h;have q:=q2 fun z=>by rw[L' z.2]at h';cases h'
   exact⟨by show 1<=sizeLine;decide,q.2⟩
  ·have h':¬(!decide (i<=n))=true:=h;refine q1 ⟨G' h0,?_⟩
   by_cases z:i<=n
   ·exact z
   ·exact j' (by rw[V' z];rfl) h'
 ·have q:=q2 fun z=>h0 (L' z.1);exact⟨_,rfl,cX ⟨by show 1<=sizeLine;decide,q.2⟩⟩
inductive Jw (vs:List V)(H:Hp)(Q:VK)(E:XK):Prop
 |mk (p:Addr) (s:Sn) (cL:vs=[.ref p]) (cM:H p=some (.tup [.str s.1,.int s.2])) (dA:Q (.bl (nI s)) H):Jw vs H Q E
theorem Jx (T:Txt K w mg t):aR P w K mg base d3 (0+1) t.M3 t.M4 ["sign"] Jw:=by
 refine T.Hr.ok Dp ?_ ?_
 x_go
 obtain⟨p,s,rfl,hp,q⟩:=h;unfold nI at q;refine aH (ae (eL (pv 0) (fP rfl (aM (kj 1 Dp.nd) (aM (kj 2 Dp.nd) dU)))) (ae (aI (aq (bX.or bW) (pv 1) (aZ (v:=.ref t.ee) rfl T.iB rfl) rfl) (ah (av (D8 ko ko ai (pv 2) (aZ (v:=.int 99) rfl T.zS ⟨_,rfl⟩)))) ax) (ah (av (bJ (eX (bB (bX.or bW) (pv 1) (aZ (v:=.ref t.gX) rfl T.pj rfl) rfl) (gm (bB (ba.or (aN (aF hr))) (pv 2) ai (aw _))))))))) ?_;refine⟨_,rfl,_,_,rfl,iQ.of hp,rfl,_,_,rfl,_,_,rfl,rfl,_,rfl,.inl ⟨_,_,rfl,.inr (T.dh _),rfl,rfl,_,rfl,?_⟩⟩;refine aG (fun h=>?_) (fun h=>?_)
 ·rw[Zc' (show inV (.str s.1) jN=true from h)]at q;refine⟨_,rfl,_,_,rfl,rfl,_,rfl,?_⟩;refine aG (fun h2=>?_) (fun h2=>?_)
  ·rw[Zc' h2]at q;exact⟨_,_,rfl,rfl,q⟩
  ·rw[Za' h2]at q;exact q
 ·rw[Za' (show ¬ inV (.str s.1) jN=true from h)]at q;refine⟨fun v H'=>v=.bl (if inV (V.str s.fst) cH=true then decide (s.snd=0) else false)/\H'=H,?_,fun _ _ ⟨e1,e2⟩=>by rw[e1,e2];exact q⟩;refine⟨_,rfl,.inl ⟨_,_,rfl,.inr (T.pB _),rfl,rfl,_,rfl,?_⟩⟩;refine aG (fun h2=>?_) (fun h2=>?_)
  ·rw[Zc' (show inV (.str s.1) cH=true from h2)];refine⟨_,rfl,.inl ⟨rfl,?_⟩⟩;rw[dq];exact⟨rfl,rfl⟩
  ·rw[Za' (show ¬ inV (.str s.1) cH=true from h2)];exact⟨rfl,rfl⟩
inductive ke (c:Cs)(vs:List V)(H:Hp)(Q:VK)(E:XK):Prop
 |mk (p:Addr) (s:Sn) (cL:vs=[.ref p]) (cM:H p=some (.tup [.str s.1,.int s.2])) (dA:((nI s=true->Q .non H)/\(nI s=false->RX E c .sP H))):ke c vs H Q E
theorem rR (T:Txt K w mg t):aR P w K mg base (hZ P w) (0+2) t.kU t.kW ["sign"] (ke (cs t)):=by
 have HE:=Jx P base T;refine T.dP.GY jR ?_ ?_
 x_go
 obtain⟨p,g,rfl,hp,q1,q2⟩:=h;refine aH (ah (aI (cy (aT (dg T.Hr HE hr (aa (pv 0) af)))) (ah (fT (X:=(sf T.dP.1 jR (hZ P w) P w mg base cdv A outer s H E)) (fun _ _ z=>z) rfl T.Ad.exc rfl T.zQ (aa aA af))) ax)) ?_;refine⟨_,rfl,p,g,rfl,hp,_,rfl,?_⟩;cases hg:nI g with
 |true=>exact cf (q1 hg)
 |false =>
  have q:=q2 hg;exact cX ⟨by show 1<=sizeLine;decide,q.2⟩
inductive FY (vs:List V)(H:Hp)(Q:VK)(E:XK):Prop
 |mk (p:Addr) (s:Sg) (cL:vs=[.ref p]) (cM:H p=some (.tup [.str s.1.str,.int s.2])) (dA:Q (.bl s.1.small) H):FY vs H Q E
theorem OS (k:Kd):inV (.str k.str) [.str "s",.str "d",.str "r"]=k.small:=by cases k <;> decide +kernel
theorem FZ (T:Txt K w mg t):aR P w K mg base d3 (0+1) t.Jd t.Je ["sign"] FY:=by
 refine T.DB.ok M0 ?_ ?_
 x_go
 obtain⟨p,s,rfl,hp,q⟩:=h;rw[<-OS]at q;refine aH (ah (av (bB (bX.or bW) (bY (pv 0)) (aZ (v:=.ref t.lS) rfl T.AU rfl) rfl))) ?_;tm_up;exact .inl ⟨_,_,rfl,.inr (T.AW _),rfl,rfl,q⟩
theorem HF (ks:List Kd)(p met:Nat):qo ks (p+1) met=if(if(ks.getD p .dot).small=true then met else met+1)=2 then p else qo ks p (if(ks.getD p .dot).small=true then met else met+1):=rfl
inductive Ap (K:Frag)(vs:List V)(H:Hp)(Q:VK)(E:XK):Prop
 |mk (l:Addr) (xs:List V) (ss:List Sg) (i:Nat) (cL:vs=[.ref l,.int (i:Int)]) (cM:aL K H l xs) (dA:ia H xs ss) (fA:ss.length<=200) (ki:i<=ss.length) (Bb:Q (.int (qo (bc ss) i 0:Nat)) H):Ap K vs H Q E
theorem HG (T:Txt K w mg t):aR P w K mg base d3 (0+2) t.BX t.BY ["line","at"] (Ap K):=by
 have DJ:=FZ P base T;refine T.Co.ok m6 ?_ ?_
 x_go
 obtain⟨l,xs,ss,i,rfl,hS,g,hl,hi,q⟩:=h;refine aH (ae (cZ 2 m6.nd ai) (ae (dF PassesOwn.never rfl (J5 rfl T.gZ (aa (aD gn (pv 1) ai) (aa (vR oz ai) (aa (vR oz ai) af)))) (kj 3 m6.nd) (ae (gQ (aI (cy (aT (dg T.DB DJ hr (aa (bL bo (pv 0) (pv 3) (fun _ _=>rfl)) af)))) (ah (P8 (i:=2) m6.nd rfl (Or.inl rfl) ai P9)) ax)) (ah (aI (aq (ba.or (aN (aF hr))) (pv 2) ai (aw _)) (ah (av (pv 3))) ax)))) (ah (av ai)))) ?_;tm_up;have xl:=cE g;refine⟨(i:Int)-1,-1,rfl,⟨by omega,by omega,by omega,by omega⟩,Mj (fun j σ H'=>∃(met:Nat)(v:Option V),σ=[some (.ref l),some (.int (i:Int)),some (.int (met:Int)),v]/\H'=H/\met<2/\qo (bc ss) i 0=qo (bc ss) (i-j) met) ⟨0,none,rfl,rfl,by decide,rfl⟩ ?_ ?_⟩
 ·rintro j σ H1 hj ⟨met,v,rfl,eH,hm2,hgo⟩;have eH:=eH.symm;subst eH;obtain⟨sg,hsg⟩:∃ sg,ss[i-1-j]? = some sg:=⟨_,R' (by omega)⟩;have hk:(bc ss).getD (i-1-j) .dot=sg.1:=by rw[List.getD_eq_getElem?_getD,Zl',hsg];rfl
  have hij:i-j=(i-1-j)+1:=by omega
  refine⟨fun σ H'=>σ=[some (.ref l),some (.int (i:Int)),some (.int ((if sg.1.small=true then met else met+1:Nat):Int)),some (.int ((i:Int)-1-(j:Int)))]/\H'=H,?_,?_⟩
  ·tm_up;refine AN hS g (n:=i-1-j) (by omega) hsg fun b hb=>?_;refine⟨b,sg,rfl,hb,?_⟩;refine⟨_,rfl,?_⟩;refine aG (fun hc=>?_) (fun hc=>?_)
   ·have hc':sg.1.small=false:=by simpa using hc
    rw[hc'];tm_up;exact⟨by simp,rfl⟩
   ·have hc':sg.1.small=true:=by simpa using hc
    rw[hc'];exact⟨rfl,rfl⟩
  ·rintro _ H1 ⟨rfl,eH⟩;have eH:=eH.symm;subst eH;tm_up;have Nt:qo (bc ss) i 0=if(if sg.1.small=true then met else met+1)=2 then i-1-j else qo (bc ss) (i-1-j) (if sg.1.small=true then met else met+1):=by
    rw[hgo,hij,HF,hk]
   have hle:(if sg.1.small=true then met else met+1)<=2:=by split <;> omega
   generalize (if sg.1.small=true then met else met+1)=Rr at Nt hle;refine aG (fun hc=>?_) (fun hc=>?_)
   ·have e2:Rr=2:=by have:=V.int.inj (G' hc);omega
    rw[Zc' e2]at Nt;refine⟨_,rfl,?_⟩;rw[Nt]at q;have:((i:Int)-1-(j:Int))=((i-1-j:Nat):Int):=by omega
    rw[this];exact q
   ·have e2:¬ Rr=2:=fun z=>hc (L' (Zn' V.int (by omega)));rw[Za' e2]at Nt;exact⟨Rr,_,rfl,rfl,by omega,by rw[Nt];congr 1;omega⟩
 ·rintro σ H1 ⟨met,v,rfl,eH,hm2,hgo⟩;have eH:=eH.symm;subst eH;have:qo (bc ss) i 0=0:=by
   rw[hgo];have e:i-(↑i-1 - -1:Int).toNat=0:=by omega
   rw[e];rfl
  rw[this]at q;exact q
inductive xF (K:Frag)(vs:List V)(H:Hp)(Q:VK)(E:XK):Prop
 |mk (l kp:Addr) (xs:List V) (ss:List Sg) (i:Nat) (wide:Bool) (cL:vs=[.ref l,.int (i:Int),.ref kp]) (cM:aL K H l xs) (dA:ia H xs ss) (fA:ss.length<=200) (ki:iQ K H kp (Hc wide)) (Bb:i<=ss.length) (Rm:Q (.int (BA (bc ss) i wide:Nat)) H):xF K vs H Q E
theorem F3 (T:Txt K w mg t):aR P w K mg base d3 (0+1) t.zz t.zA ["line","first","kinds"] (xF K):=by
 refine T.zZ.ok wD ?_ ?_
 x_go
 obtain⟨l,kp,xs,ss,i,wide,rfl,hS,g,hl,hT,hi,q⟩:=h;refine aH (ae (dF PassesOwn.never rfl (JN rfl T.gZ (aa (pv 1) (aa (aE (aB.or aC) rfl T.bg bf (aa (pv 0) af)) af))) (kj 3 wD.nd) (ah (aI (aq (bX.or bW) (bL bo (bL bo (pv 0) (pv 3) (fun _ _=>rfl)) ai (fun _ _=>rfl)) (pv 2) rfl) (ah (av (pv 3))) ax))) (ah (av (aE (aB.or aC) rfl T.bg bf (aa (pv 0) af))))) ?_;have xl:=cE g;tm_up;refine .inl ⟨l,xs,rfl,.inl hS,?_⟩;refine⟨(i:Int),(xs.length:Int),rfl,⟨by omega,by omega,by omega,by omega⟩,jv (fun j σ H'=>∃(v:Option V),σ=[some (.ref l),some (.int (i:Int)),some (.ref kp),v]/\H'=H/\∀ m x,m<j->(bc ss)[i+m]? = some x->Bz wide x=false) ⟨none,rfl,rfl,fun m x hm=>by omega⟩ ?_ ?_⟩
 ·rintro j σ H1 hj ⟨v,rfl,eH,hno⟩;have eH:=eH.symm;subst eH;obtain⟨sg,hsg⟩:∃ sg,ss[i+j]? = some sg:=⟨_,R' (by omega)⟩;tm_up;refine AN hS g (n:=i+j) (by omega) hsg fun b hb=>?_;tm_up;refine .inl ⟨kp,_,rfl,.inr hT,rfl,by cases wide <;> rfl,_,rfl,?_⟩;have hk:(bc ss)[i+j]? = some sg.1:=by rw[Zl',hsg];rfl
  rw[ML];refine aG (fun hc=>?_) (fun hc=>?_)
  ·rw[OG hno hk hc]at q;refine⟨_,rfl,?_⟩;have e:((i+j:Nat):Int)=(i:Int)+(j:Int):=by omega
   rw[e]at q;exact q
  ·refine⟨_,rfl,rfl,fun m x hm hx=>?_⟩;rcases Nat.lt_or_ge m j with z|z
   ·exact hno m x z hx
   ·have e:m=j:=by omega
    subst e;rw[hk]at hx;cases hx
    simpa using hc
 ·rintro σ H1 ⟨v,rfl,eH,hno⟩;have eH:=eH.symm;subst eH;refine⟨_,rfl,.inl ⟨l,_,rfl,.inl hS,?_⟩⟩;have kl:(bc ss).length=ss.length:=P' ..;rw[MN (by omega) fun m x hx=>hno m x (by have:=(S'.mp hx).1;omega) hx,kl,<-xl]at q;exact q
inductive og (vs:List V)(H:Hp)(Q:VK)(E:XK):Prop
 |mk (p:Addr) (s:Sg) (cL:vs=[.ref p]) (cM:H p=some (.tup [.str s.1.str,.int s.2])) (dA:Q (.bl s.1.meas) H):og vs H Q E
theorem Rt (k:Kd):inV (.str k.str) [.str "3",.str "2"]=k.meas:=by cases k <;> decide +kernel
theorem oh (T:Txt K w mg t):aR P w K mg base d3 (0+1) t.oZ t.o8 ["sign"] og:=by
 refine T.j3.ok xZ ?_ ?_
 x_go
 obtain⟨p,s,rfl,hp,q⟩:=h;rw[<-Rt]at q;refine aH (ah (av (bB (bX.or bW) (bY (pv 0)) (aZ (v:=.ref t.gj) rfl T.nX rfl) rfl))) ?_;tm_up;exact .inl ⟨_,_,rfl,.inr (T.nY _),rfl,rfl,q⟩
inductive Cy (K:Frag)(vs:List V)(H:Hp)(Q:VK)(E:XK):Prop
 |mk (l ch:Addr) (xs cx:List V) (ss cs:List Sg) (i b:Nat) (cL:vs=[.ref l,.int (i:Int),.int (b:Int),.ref ch]) (cM:aL K H l xs) (dA:ia H xs ss) (fA:ss.length<=200) (ki:i<=ss.length) (Bb:b<=ss.length) (Rm:aL K H ch cx) (R1:ia H cx cs) (WT:cs.length<=100) (X0:∀(p:Addr)(H':Hp),ao H H'->H' p=some (.tup (TN ss i b cs))->Q (.ref p) H'):Cy K vs H Q E
theorem KO (T:Txt K w mg t):aR P w K mg base d3 (0+3) t.Ff t.Fg ["line","at","behind","changed"] (Cy K):=by
 have KP:=HG P base T;have HH:=F3 P base T;have kf:=oh P base T;refine T.FK.ok BN ?_ ?_
 x_go
 obtain⟨l,ch,xs,cx,ss,cs,i,b,rfl,hS,g,hl,hi,hb,hC,gc,hcl,q⟩:=h;refine aH (ae (cZ 4 BN.nd (bJ (cu (aT (aE Eh rfl T.Nd LZ (aa (eB (cn:=["sign"]) rfl (b8.of rfl) (dz (pv 3)) (fun _=>(bZ (i:=0) E8 rfl (Or.inl rfl))) (fun _=>eZ) (fun _=>(dg T.j3 kf hr (aa (pv 0) af)))) af))) (aZ (v:=.ref t.gj) rfl T.nX rfl) (aZ (v:=.ref t.i4) rfl T.ya rfl)))) (ah (av (cU (aa (dg T.Co KP hr (aa (pv 0) (aa (pv 1) af))) (aa (dg T.zZ HH hr (aa (pv 0) (aa (pv 2) (aa (pv 4) af)))) af)))))) ?_;have cl:=cE gc;refine⟨fun v H'=>∃ kp,v=.ref kp/\(∀ DK ,iQ K DK kp (Hc (cs.any fun s=>s.1.meas)))/\ao H H',?_,?_⟩
 ·refine⟨_,rfl,ch,rfl,⟨_,hC⟩,fun D b2 hD=>?_⟩;refine dH (K:=K) (xs:=cx) (fun ii ys σ H'=>∃ v,σ=[v,some (.ref l),some (.int (i:Int)),some (.int (b:Int)),some (.ref ch),none]/\H'=upd H D (.lst ys)/\ys=((cs.take ii).map fun s=>s.1.meas).map V.bl) ⟨none,rfl,rfl,rfl⟩ ?_ ?_ ?_
  ·rintro ii ys σ H' ⟨v,rfl,rfl,_⟩;exact dX hC hD
  ·rintro ii ys x σ H' hx ⟨v,rfl,rfl,rfl⟩ N hN;obtain⟨sg,e1,p,rfl,hp⟩:=oK gc hx;have hii:ii<cs.length:=(S'.mp e1).1;refine bT ?_;refine⟨_,rfl,p,sg,rfl,(by rw[ak (au hp hD)];exact hp),ag,?_,?_⟩
   ·rw[P',P',length_take];exact aJ (by omega)
   ·refine hN _ _ _ ⟨_,rfl,cq,?_⟩;rw[take_succ,e1];simp
  ·rintro ys σ H' ⟨v,rfl,rfl,rfl⟩;refine⟨rfl,D,_,rfl,aL.of ag,_,rfl,?_⟩;rw[cl,take_length,List.any_map];refine aG (fun hc=>?_) (fun hc=>?_)
   ·have e:(cs.any fun s=>s.1.meas)=true:=hc;refine⟨_,rfl,fun DK=>?_,ao.upd hD⟩;rw[e];exact T.nY DK
   ·have e:(cs.any fun s=>s.1.meas)=false:=by
     cases z:(cs.any fun s=>s.1.meas) with
     |false=>rfl
     |true=>exact j' z hc
    refine⟨_,rfl,fun DK=>?_,ao.upd hD⟩;rw[e];exact T.yc DK
 ·rintro _ H1 ⟨kp,rfl,hk,s1⟩;refine⟨_,rfl,_,rfl,l,xs,ss,i,rfl,s1.seq hS,g.same s1,hl,hi,?_⟩;refine⟨_,rfl,_,rfl,_,rfl,l,kp,xs,ss,b,_,rfl,s1.seq hS,g.same s1,hl,hk _,hb,?_⟩;refine⟨by show 2<=sizeLine;decide,fun p hp=>q p _ (s1.trans (ao.upd hp)) ag⟩
inductive iY (c:Cs)(vs:List V)(H:Hp)(Q:VK)(E:XK):Prop
 |mk (x dx L D U:Addr) (xs:List V) (vx:List Vx) (n:Str) (cL:vs=[.ref x,.str n]) (cM:H x=some (.ins c.B dx (sN L D U))) (dA:H L=some (.lst xs)) (fA:Paired (OC c.V H) xs vx) (ki:match vx.find? (fun a=>decide (a.n=n)) with
 |none=>RX E c .gi H
 |some a=>Q (.ref a.o) H):iY c vs H Q E
theorem KQ {vx:List Vx}{n:Str}:∀{i:Nat},(∀ j a,j<i->vx[j]? = some a->a.n≠n)->∀{b},vx[i]? = some b->b.n=n->vx.find? (fun a=>decide (a.n=n))=some b:=by
 induction vx with
 |nil=>intro i _ b h;simp at h
 |cons v vs ih =>
  intro i hi b hb he;cases i with
  |zero =>
   simp at hb;subst hb;exact List.find?_cons_of_pos (L' he)
  |succ i =>
   have h0:=hi 0 v (by omega) rfl;have h1:(v::vs).find? (fun a=>decide (a.n=n))=vs.find? (fun a=>decide (a.n=n)):=List.find?_cons_of_neg (fun z=>h0 (G' z));rw[h1];exact ih (i:=i) (fun j a hj ha=>hi (j+1) a (Nat.succ_lt_succ hj) (by simpa using ha)) (by simpa using hb) he
theorem dQ (T:Txt K w mg t):aR P w K mg base (hZ P w) (0+1) t.je t.jf ["self","name"] (iY (cs t)):=by
 refine T.a9.GY fg ?_ ?_
 x_go
 obtain⟨x,dx,L,D,U,xs,vx,n,rfl,hx,hL,g,q⟩:=h;refine aH (ae (QJ (dF PassesOwn.never rfl (dz (dR (pv 0) rfl)) (kj 2 fg.nd) (ah (aI (aq (ba.or (aN (aF hr))) (dR (pv 2) rfl) (pv 1) (aw _)) (ah (av (pv 2))) ax)))) (ah (fT (X:=(sf T.a9.1 fg (hZ P w) P w mg base cdv A outer s H E)) (fun _ _ z=>z) rfl T.Hu.exc rfl T.Hn (aa aA af)))) ?_;have xl:=cE g;refine⟨_,rfl,x,_,dx,_,_,rfl,hx,T.aQ,T.eh,jL _ _ _,L,rfl,⟨_,aL.of hL⟩,lX (K:=K) (xs:=xs) (fun i σ H'=>∃ v,σ=[some (.ref x),some (.str n),v]/\H'=H/\∀ j a,j<i->vx[j]? = some a->a.n≠n) ⟨none,rfl,rfl,fun j a hj=>by omega⟩ ?_ ?_ ?_⟩
 ·rintro i σ H1 _ ⟨v,rfl,eH,_⟩;rw[eH];exact aL.of hL
 ·rintro i y σ H1 hy ⟨v,rfl,eH,hi⟩;have eH:=eH.symm;subst eH;obtain⟨b,e1,rfl,hb⟩:=oK g hy;refine⟨_,rfl,b.o,_,b.d,_,_,rfl,hb,T.f6,T.lT,EG _ _ _,?_⟩;refine⟨_,rfl,.inl ⟨rfl,_,rfl,?_⟩⟩;refine aG (fun h=>?_) (fun h=>?_)
  ·have e:b.n=n:=V.str.inj (G' h);rw[KQ hi e1 e]at q;exact⟨_,rfl,q⟩
  ·refine⟨_,rfl,rfl,fun j a hj ha=>?_⟩;rcases Nat.lt_or_ge j i with z|z
   ·exact hi j a z ha
   ·have hij:j=i:=by omega
    rw[hij,e1]at ha;cases ha;exact fun z=>h (L' (Zn' V.str z))
 ·rintro σ H1 ⟨v,rfl,eH,hi⟩;have eH:=eH.symm;subst eH;have hn:vx.find? (fun a=>decide (a.n=n))=none:=List.find?_eq_none.mpr fun a ha z=>by
   obtain⟨j,hj⟩:=getElem?_of_mem ha;have hjl:j<vx.length:=(S'.mp hj).1;exact hi j a (by omega) hj (G' z)
  rw[hn]at q;exact⟨by show 1<=sizeLine;decide,q.2⟩
inductive jg (c:Cs)(vs:List V)(H:Hp)(Q:VK)(E:XK):Prop
 |mk (x dx L D U:Addr) (xs:List V) (vx:List Vx) (n:Str) (cL:vs=[.ref x,.str n]) (cM:H x=some (.ins c.B dx (sN L D U))) (dA:H L=some (.lst xs)) (fA:Paired (OC c.V H) xs vx) (ki:match vx.find? (fun a=>decide (a.n=n)) with
 |none=>RX E c .gi H
 |some a=>(a.tm=.non->Q (.ref a.o) H)/\(∀ p,a.tm=.ref p->RX E c .iU H)/\(a.tm=.non\/∃ p,a.tm=.ref p)):jg c vs H Q E
theorem jh (T:Txt K w mg t):aR P w K mg base (hZ P w) (0+2) t.jV t.jW ["self","name"] (jg (cs t)):=by
 have bN:=dQ P base T;refine T.bV.GY dZ ?_ ?_
 x_go
 obtain⟨x,dx,L,D,U,xs,vx,n,rfl,hx,hL,g,q⟩:=h;refine aH (ae (cZ 2 dZ.nd (dr (X:=(sf T.bV.1 dZ (hZ P w) P w mg base cdv A outer s H E)) (pv 0) T.aQ T.a9.me bN (iA hr) T.a9.b .nil (fun _ _ z=>Or.inl z) (aa (pv 1) af))) (ae (aI (aq Ii (dR (pv 2) rfl) cS (aw _)) (ah (fT (X:=(sf T.bV.1 dZ (hZ P w) P w mg base cdv A outer s H E)) (fun _ _ z=>z) rfl T.FQ.exc rfl T.FI (aa aA af))) ax) (ah (av (pv 2))))) ?_;refine⟨_,rfl,x,dx,_,rfl,hx,dY _ _ _,_,rfl,x,dx,L,D,U,xs,vx,n,rfl,hx,hL,g,?_⟩;cases hf:vx.find? (fun a=>decide (a.n=n)) with
 |none =>
  rw[hf]at q;exact q
 |some a =>
  rw[hf]at q;obtain⟨q1,q2,q3⟩:=q;obtain⟨j,hj⟩:=getElem?_of_mem (List.mem_of_find?_eq_some hf);obtain⟨v,hv,rfl,ha⟩:=wc g hj;refine⟨_,rfl,a.o,_,a.d,_,_,rfl,ha,T.f6,T.j5,Bv _ _ _,?_⟩;rcases q3 with e|⟨p,e⟩
  ·rw[e];refine⟨rfl,_,rfl,?_⟩;exact aG (fun h=>j' h (by decide)) (fun _=>⟨_,rfl,q1 e⟩)
  ·have q:=q2 p e;rw[e];refine⟨rfl,_,rfl,?_⟩;exact aG (fun _=>⟨by show 1<=sizeLine;decide,q.2⟩) (fun h=>j' (show(!decide (V.ref p=V.non))=true by rw[V' (fun z=>nomatch z)];rfl) h)
inductive xG (c:Cs)(vs:List V)(H:Hp)(Q:VK)(E:XK):Prop
 |mk (x:Addr) (F:Addr->Prop) (vw:Vw) (ps fs:List Vw) (n:Str) (i:Int) (p:Addr) (sn:Sn) (cL:vs=[.ref x,.str n,.int i,.ref p]) (cM:yp c H x F vw ps fs) (dA:H p=some (.tup [.str sn.1,.int sn.2])) (fA:ps.length<=9000) (ki:match bj vw n with
 |none=>RX E c .gi H
 |some (.cn _ _ _ _)=>RX E c .iU H
 |some (.pl ss)=>(¬(0<=i/\i<=(ss.length:Int))->RX E c .sQ H)/\((0<=i/\i<=(ss.length:Int))->nI sn=false->RX E c .sP H)/\((0<=i/\i<=(ss.length:Int))->nI sn=true->200<=ss.length->RX E c .Full H) /\
  ((0<=i/\i<=(ss.length:Int))->nI sn=true->ss.length<200->∀(s:Sg)(w:Addr) F' H',s.1.str=sn.1->s.2=sn.2->H' w=some (.tup (TN (ss.take i.toNat++[s]++ss.drop i.toNat) i.toNat (i.toNat+1) [s]))->Gr F F' H->Fr F H H'->yp c H' x F' (yW vw n (.pl (ss.take i.toNat++[s]++ss.drop i.toNat))) (ps++[vw]) []->Q (.ref w) H')):xG c vs H Q E
theorem F4 (T:Txt K w mg t):aR P w K mg base (hZ P w) (0+4) t.zB t.zC ["self","name","at","sign"] (xG (cs t)):=by
 have oo:=nq P base T;have uy:=rR P base T;have kc:=oa P base T;have Nu:=KO P base T;have gA:=jh P base T;have i8:=mM P base T;refine T.gy.GY gG ?_ ?_
 x_go
 obtain⟨x,F,vw,ps,fs,n,iz,p,sn,rfl,B,hp,hps,q⟩:=h;refine aH (ae (cZ 4 gG.nd (dR (dr (X:=(sf T.gy.1 gG (hZ P w) P w mg base cdv A outer s H E)) (pv 0) T.aQ T.bV.me gA (iA hr) T.bV.b .nil (fun _ _ z=>Or.inl z) (aa (pv 1) af)) rfl)) (ae (aS (yI (X:=(sf T.gy.1 gG (hZ P w) P w mg base cdv A outer s H E)) oo (iA hr) rfl T.cA.g T.cA.kp T.cA.b .nil (fun _ _ z=>Or.inl z) (aa (pv 2) (aa (aE (aB.or aC) rfl T.bg bf (aa (pv 4) af)) af)))) (ae (aS (yI (X:=(sf T.gy.1 gG (hZ P w) P w mg base cdv A outer s H E)) uy (iA hr) rfl T.dP.g T.dP.kp T.dP.b .nil (fun _ _ z=>Or.inl z) (aa (pv 3) af))) (ae (aI (aq Lu (aE (aB.or aC) rfl T.bg bf (aa (pv 4) af)) (aZ (v:=.int 200) rfl T.Dz ⟨_,rfl⟩) (aw _)) (ah (fT (X:=(sf T.gy.1 gG (hZ P w) P w mg base cdv A outer s H E)) (fun _ _ z=>z) rfl T.Jm.exc rfl T.Jk (aa aA af))) ax) (ae (aS (gL (pv 0) T.aQ T.fk.me kc (iA hr) T.fk.b .nil fS (aa (yj T.eJ.TY i8 (iA hr) rfl T.Jj T.eJ.b .nil fS (aa (pv 4) (aa (pv 2) (aa (bC af) (aa (bC (aa (pv 3) af)) af))))) af))) (ah (av (dg T.FK Nu hr (aa (pv 4) (aa (pv 2) (aa (aD (aO.or (ay.or aP)) (pv 2) ai) (aa (bC (aa (pv 3) af)) af)))))))))))) ?_;obtain⟨L,D,U,all,M,Ps,Fs,es,us,b,iM,pp,pf,f⟩:=B.ex;obtain⟨dx,hx⟩:=b.hx;obtain⟨vx,g,gv⟩:=b.vk iM;obtain⟨ds,hD,pD⟩:=b.hD;obtain⟨ux,hU,pU⟩:=b.hU;have dl:=cE pD;have pl:=cE pp;have pe:=b.past.len;refine⟨_,rfl,x,dx,_,rfl,hx,jM _ _ _,_,rfl,x,dx,L,D,U,M L,vx,n,rfl,hx,b.hL,g,?_⟩;rcases EK gv (fun _ _ r=>r.2.1) n with ⟨f1,f2⟩|⟨a,th,j,f1,f2,r,an,fj,fw⟩
 ·rw[f1];rw[f2]at q;exact q
 rw[f1];rw[f2]at q;subst an;cases th with
 |cn ld lt sl tn =>
  obtain⟨pt,Ru,_⟩:=r.2.2;refine⟨fun z=>?_,fun _ _=>q,.inr ⟨pt,Ru⟩⟩;rw[Ru]at z;cases z
 |pl ss =>
  obtain⟨NT,hg⟩:=r.2.2;obtain⟨q1,q2,q3,q4⟩:=q;have haa:=r.1;obtain⟨ha,hl⟩:=b.ha a haa;have yl:=cE hg;have hj:(M L)[j]? = some (.ref a.o):=by
   obtain⟨v,hv,e1,_⟩:=wc g fj;rw[<-e1];exact hv
  refine⟨fun _=>?_,(fun pz z=>by rw[NT]at z;cases z),.inl NT⟩;refine⟨a.o,_,a.d,_,_,rfl,ha,T.f6,T.g8,vh _ _ _,?_⟩;refine⟨_,rfl,_,rfl,.inl ⟨a.l,M a.l,rfl,.inl (aL.of hl),?_⟩⟩;refine⟨iz,((M a.l).length:Int),rfl,fun hi=>?_,fun hi=>?_⟩
  rotate_left
  ·have q:=q1 (by rw[<-yl];exact hi);exact q
  rw[yl]at hi;refine⟨_,rfl,p,sn,rfl,hp,fun hgd=>?_,fun hgd=>?_⟩
  rotate_left
  ·have q:=q2 hi hgd;exact q
  refine⟨_,rfl,.inl ⟨a.l,M a.l,rfl,.inl (aL.of hl),?_⟩⟩;refine⟨_,_,rfl,rfl,_,rfl,?_⟩;refine aG (fun h=>?_) (fun h=>?_)
  ·have h':=G' h;have q:=q3 hi hgd (by omega);exact⟨by show 1<=sizeLine;decide,q.2⟩
  have hlt:ss.length<200:=by
   rcases Nat.lt_or_ge ss.length 200 with z|z
   ·exact z
   ·exact j' (L' (by omega)) h
  obtain⟨sg,e1,e2,gt⟩:=OF hgd;rw[<-e1,<-e2]at hp;obtain⟨i,rfl⟩:∃ i:Nat,iz=(i:Int):=⟨iz.toNat,by omega⟩;have hi:i<=ss.length:=by omega
  have q4:=q4 (by omega) hgd hlt sg;rw[Int.toNat_natCast]at q4;refine⟨_,rfl,x,dx,_,rfl,hx,oO _ _ _,?_⟩;refine⟨_,rfl,_,rfl,big (by show 0<=1000;omega),fun B' hB=>?_⟩;refine⟨_,rfl,big (by show 1<=1000;omega),fun A_ hA=>?_⟩;have UT:=IV hA;have sB:=(ao.upd (o:=.lst []) hB).trans (ao.upd (o:=.lst [V.ref p]) hA);have hB2:=ao.upd (o:=.lst [V.ref p]) hA _ _ (ag (H:=H) (a:=B') (o:=.lst []));have Rp:=ag (H:=upd H B' (.lst [])) (a:=A_) (o:=.lst [V.ref p]);have lA:a.l≠A_:=au hl UT;generalize upd (upd H B' (.lst [])) A_ (.lst [V.ref p])=H2 at sB hB2 Rp;intro d dd nd WV ne;refine⟨d,dd,a.l,(i:Int),B',A_,rfl,ag,rfl,?_⟩;rw[cq];have s3:ao H2 (upd (upd H2 dd (.own d)) d (.ins t.eO dd (G7 a.l (i:Int) B' A_))):=fun y o hy=>by
   rw[ak (au hy nd),ak (au hy WV)];exact hy
  have NR:=ag (H:=upd H2 dd (.own d)) (a:=d) (o:=.ins t.eO dd (G7 a.l (i:Int) B' A_));generalize upd (upd H2 dd (.own d)) d (.ins t.eO dd (G7 a.l (i:Int) B' A_))=H3 at s3 NR;have s4:=sB.trans s3;obtain⟨_,d1,d2⟩:=b.lists (.inr ⟨a,haa,rfl⟩);refine⟨x,dx,L,D,U,d,dd,a.l,B',A_,i,ds,ux,M a.l,[],[.ref p],rfl,s4 _ _ hx,s4 _ _ hD,s4 _ _ hU,NR,s4 _ _ hl,s3 _ _ hB2,s3 _ _ Rp,lA,d1,d2,b.DU,by simp;omega,by simp;omega,by omega,?_⟩;have hM:AO ⟨d,dd,a.l,i,B',A_,[],[.ref p]⟩ M a.l=(M a.l).take i++[.ref p]++(M a.l).drop (i+0):=yU;have keep:∀ y o,H3 y=some o->y≠a.l->y≠D->y≠U->(upd (upd (upd H3 a.l (.lst ((M a.l).take i++[.ref p]++(M a.l).drop (i+0)))) D (.lst (ds++[.ref d]))) U (.lst [])) y=some o:=fun y o hy y1 y2 y3=>by
   rw[ak y3,ak y2,ak y1];exact hy
  have k1:(upd (upd (upd H3 a.l (.lst ((M a.l).take i++[.ref p]++(M a.l).drop (i+0)))) D (.lst (ds++[.ref d]))) U (.lst [])) a.l=some (.lst ((M a.l).take i++[.ref p]++(M a.l).drop (i+0))):=by
   rw[ak d2,ak d1,ag]
  have k2:(upd (upd (upd H3 a.l (.lst ((M a.l).take i++[.ref p]++(M a.l).drop (i+0)))) D (.lst (ds++[.ref d]))) U (.lst [])) D=some (.lst (ds++[.ref d])):=by
   rw[ak b.DU,ag]
  have k3:(upd (upd (upd H3 a.l (.lst ((M a.l).take i++[.ref p]++(M a.l).drop (i+0)))) D (.lst (ds++[.ref d]))) U (.lst [])) U=some (.lst []):=ag;generalize (upd (upd (upd H3 a.l (.lst ((M a.l).take i++[.ref p]++(M a.l).drop (i+0)))) D (.lst (ds++[.ref d]))) U (.lst []))=H4 at keep k1 k2 k3;have g3:=hg.same s4;have X1:ia H3 ((M a.l).take i++[.ref p]++(M a.l).drop (i+0)) (ss.take i++[sg]++ss.drop i):=Oy (Oy (MA i g3) (.cons ⟨p,rfl,s4 _ _ hp⟩ .nil)) (PB i g3);obtain⟨F',gr,fr,B4⟩:=Bk.TL b iM pp f B.wv haa hj fw NT (e:=⟨d,dd,a.l,i,B',A_,[],[.ref p]⟩) rfl ⟨by simp;omega,by simp⟩ (by simp) (by simp) s4 hB UT ⟨rfl,NR,s3 _ _ hB2,s3 _ _ Rp⟩ (by rw[hM];exact X1) (by simp;omega) (fun s hs=>by
   have wg:=((B.wv vw (.inr (.inl rfl))).gd _ _ (Zh' fw)).2;rcases mem_append.mp hs with hs|hs
   ·rcases mem_append.mp hs with hs|hs
    ·exact wg s (List.mem_of_mem_take hs)
    ·rw[mem_singleton.mp hs];exact gt
   ·exact wg s (List.mem_of_mem_drop hs)) hD pD keep (by rw[hM];exact k1) k2 k3
  have nT:∀{y us},H3 y=some (.tup us)->H4 y=some (.tup us):=fun {y us} hy=>keep y _ hy (qi hy (s4 _ _ hl) (by intro z;cases z)) (qi hy (s4 _ _ hD) (by intro z;cases z)) (qi hy (s4 _ _ hU) (by intro z;cases z));have sg4:ia H4 ((M a.l).take i++[.ref p]++(M a.l).drop (i+0)) (ss.take i++[sg]++ss.drop i):=dC (fun _ _ ⟨z,e1,e2⟩=>⟨z,e1,nT e2⟩) X1;refine⟨_,rfl,_,rfl,_,rfl,.inl ⟨_,_,rfl,rfl,_,rfl,big (by show 1<=1000;omega),fun lc hlc=>?_⟩⟩;have sc:=ao.upd (o:=.lst [V.ref p]) hlc;refine⟨a.l,lc,_,[.ref p],ss.take i++[sg]++ss.drop i,[sg],i,i+1,rfl,aL.of (sc _ _ k1),sg4.same sc,by simp;omega,by simp;omega,by simp;omega,aL.of ag,.cons ⟨p,rfl,sc _ _ (nT (s4 _ _ hp))⟩ .nil,by simp,fun w H5 s5 hw5=>?_⟩;have s6:=sc.trans s5;exact q4 w F' H5 e1 e2 hw5 gr (fun y o hy hn=>s6 _ _ (fr y o hy hn)) (B4.same s6)
noncomputable def F5 (m:Nat)(z:Str):V:=match fY m z with|none=>.non|some n=>.int n
theorem yv {m:Nat}{z:Str}(h:okN m z.cps.toList=false):F5 m z=.non:=by unfold F5;rw[yr h]
inductive uA (vs:List V)(H:Hp)(Q:VK)(E:XK):Prop
 |mk (z:Str) (m:Nat) (cL:vs=[.str z,.int (m:Int)]) (cM:m<=3) (dA:z.length<=100000) (fA:∀ H',ao H H'->Q (F5 m z) H'):uA vs H Q E
theorem uB (T:Txt K w mg t):aR P w K mg base d3 (0+1) t.wX t.wY ["word","most"] uA:=by
 refine T.lu.ok Dq ?_ ?_
 x_go
 obtain⟨z,m,rfl,hm,hz,q⟩:=h;have big:z.length<=sizeLine:=Zf' hz (by decide);have hlen:z.cps.toList.length=z.length:=Array.length_toList;refine aH (ae (aI (cy (oB ko ko ai (aE (aB.or aC) rfl T.bg bf (aa (pv 0) af)) (pv 1))) (ah (av cS)) ax) (ae (aI (aT (aE Eh rfl T.Nd LZ (aa (eB (cn:=["figure"]) rfl (b8.of rfl) (uZ (pv 0)) (fun _=>(bZ (i:=0) zw rfl (Or.inl rfl))) (fun _=>eZ) (fun _=>(bB (cV.or cW) (pv 0) (aZ (v:=.ref t.vF) rfl T.KA rfl) rfl))) af))) (ah (av cS)) ax) (ae (aI (bq (PW.pt (cN (aq nG (aE (aB.or aC) rfl T.bg bf (aa (pv 0) af)) ai (aw _)) (dJ (aq (ba.or (aN (aF hr))) (bY (pv 0)) aA (aw _)))))) (ah (av cS)) ax) (ah (av (bP (fB.or cG) rfl T.j1 jF (aa (pv 0) af))))))) ?_;refine⟨_,rfl,.inr ⟨_,rfl,big,_,_,rfl,rfl,_,rfl,?_⟩⟩;refine aG (fun h1=>?_) (fun h1=>?_)
 case refine_2 =>
  have hno:okN m z.cps.toList=false:=by
   unfold okN;rw[hlen,V' (fun x=>h1 (L' (by omega)))];rfl
  rw[yv hno]at q
  first|exact⟨_,rfl,cX (q H (ao.refl H))⟩|exact cX (q H (ao.refl H))|exact⟨_,rfl,q H (ao.refl H)⟩|exact q H (ao.refl H)
 refine⟨_,rfl,_,_,rfl,rfl,_,rfl,?_⟩;refine aG (fun h2=>?_) (fun h2=>?_)
 ·have h2:(!decide (((z.length:Nat):Int)<=(m:Int)))=true:=h2;have hno:okN m z.cps.toList=false:=by
   unfold okN;rw[hlen,V' (p:=z.length<=m) (fun x=>by rw[L' (show((z.length:Nat):Int)<=(m:Int) by omega)]at h2;cases h2)];simp
  rw[yv hno]at q;exact q H (ao.refl H)
 ·have hzm:z.cps.size<=m:=by
   have h2:¬(!decide (((z.length:Nat):Int)<=(m:Int)))=true:=h2
   by_cases hh:((z.length:Nat):Int)<=(m:Int)
   ·exact Int.ofNat_le.mp hh
   ·exact j' (by rw[V' hh];rfl) h2
  refine⟨_,rfl,_,rfl,fun D b hD=>?_⟩;refine yG (fun i ys σ H'=>∃ v,σ=[v,some (.str z),some (.int (m:Int))]/\H'=upd H D (.lst ys)/\ys=((z.cps.toList.take i).map fun c=>!decide (c∈eN)).map V.bl/\i<=z.cps.size) ⟨none,rfl,rfl,rfl,Nat.zero_le _⟩ ?_ ?_
  ·rintro i ys c σ H' hc ⟨v,rfl,rfl,rfl,hi⟩ N hN;have hi2:i<z.cps.size:=(Array.getElem?_eq_some_iff.mp hc).1;have hcl:z.cps.toList[i]? = some c:=by simpa using hc
   refine bT ?_;refine⟨_,rfl,.inl ⟨_,_,rfl,.inr (T.KC _),rfl,rfl,ag,?_,?_⟩⟩
   ·rw[P',P',length_take];exact aJ (by omega)
   ·refine hN _ _ _ ⟨_,rfl,cq,?_,hi2⟩;have:inV (.str ⟨#[c]⟩) IY=decide (c∈eN):=OJ c;show(((z.cps.toList.take i).map fun c=>!decide (c∈eN)).map V.bl)++[V.bl (!inV (.str ⟨#[c]⟩) IY)]=_;rw[this,take_succ,hcl];simp
  ·rintro ys σ H' ⟨v,rfl,rfl,rfl,hi⟩;refine⟨rfl,D,_,rfl,aL.of ag,_,rfl,?_⟩;have et:z.cps.toList.take z.cps.size=z.cps.toList:=List.take_of_length_le (by rw[Array.length_toList];exact X' _);rw[et];have last:∀ v,F5 m z=v->Q v (upd H D (.lst ((z.cps.toList.map fun c=>!decide (c∈eN)).map V.bl))):=fun v e=>e ▸ q _ (ao.upd hD);refine aG (fun h3=>?_) (fun h3=>?_)
   ·have hno:okN m z.cps.toList=false:=by
     unfold okN;have:(z.cps.toList.all fun c=>decide (c∈eN))=false:=by
      have h3:((z.cps.toList.map fun c=>!decide (c∈eN)).any id)=true:=h3;rw[List.any_map]at h3;rw[<-Bool.not_eq_true,all_eq_true];intro h;obtain⟨c,hc,hh⟩:=any_eq_true.mp h3;have hh:(!decide (c∈eN))=true:=hh;rw[h c hc]at hh;cases hh
     rw[this];simp
    exact last _ (yv hno)
   ·have hall:(z.cps.toList.all fun c=>decide (c∈eN))=true:=by
     have h3:¬((z.cps.toList.map fun c=>!decide (c∈eN)).any id)=true:=h3;rw[List.any_map]at h3;rw[all_eq_true];intro c hc;cases hcf:decide (c∈eN) with
     |true=>rfl
     |false=>exact j' (any_eq_true.mpr ⟨c,hc,by show(!decide (c∈eN))=true;rw[hcf];rfl⟩) h3
    have e1:decide (1<=z.cps.toList.length)=true:=L' (by rw[hlen];have:=G' h1;omega);have e2:decide (z.cps.toList.length<=m)=true:=by
     rw[hlen];have h2:¬(!decide (((z.length:Nat):Int)<=(m:Int)))=true:=h2;refine L' ?_
     by_cases hh:((z.length:Nat):Int)<=(m:Int)
     ·omega
     ·exact j' (by rw[V' hh];rfl) h2
    have hl2:z.length<=m:=by have:=G' e2;omega
    have en:okN m z.cps.toList = !(decide (1<z.cps.toList.length)&&decide (z.cps.toList[0]? = some 48)):=by
     unfold okN;rw[e1,e2,hall];rfl
    have fin:okN m z.cps.toList=true->∃ n,PySem.intText? z=some n/\F5 m z=.int n:=fun hok=>by
     have hn:=p3 hok (by omega);refine⟨_,hn,?_⟩;unfold F5;rw[Dm hok,hn]
    cases hb:decide (1<z.length)&&decide (z.cps.toList[0]? = some 48) with
    |true =>
     rw[Bool.and_eq_true]at hb;have hgt:=G' hb.1;have XN:=G' hb.2;have hno:okN m z.cps.toList=false:=by rw[en,hlen,hb.1,hb.2];rfl
     refine dG true ?_ ?_
     ·refine⟨_,rfl,.inr ⟨_,rfl,big,_,_,rfl,rfl,_,rfl,?_⟩⟩;refine aG (fun _=>?_) (fun h=>j' (L' (by omega)) h);refine⟨_,rfl,.inr (.inr ⟨_,_,48,rfl,rfl,big,eQ (j:=0) XN,.inl ⟨rfl,_,rfl,bD ?_⟩⟩)⟩;rw[oR];exact L' rfl
     ·exact cX (last _ (yv hno))
    |false =>
     have hok:okN m z.cps.toList=true:=by rw[en,hlen,hb];rfl
     obtain⟨n,hn,hv⟩:=fin hok;refine dG false ?_ ?_
     ·refine⟨_,rfl,.inr ⟨_,rfl,big,_,_,rfl,rfl,_,rfl,?_⟩⟩;refine aG (fun h=>?_) (fun h=>?_)
      ·have hgt:1<z.length:=by have:=G' h;omega
       rw[L' hgt,Bool.true_and]at hb;obtain⟨c0,hc0⟩:∃ c0,z.cps.toList[0]? = some c0:=⟨_,R' (by rw[hlen];omega)⟩;refine⟨_,rfl,.inr (.inr ⟨_,_,c0,rfl,rfl,big,eQ (j:=0) hc0,.inl ⟨rfl,_,rfl,bD ?_⟩⟩)⟩;refine V' fun e=>?_
       injection e with e
       rw[oR]at e;have e:=(yq c0 48).symm.trans (beq_iff_eq.mpr e);have e:=G' e;rw[hc0,<-e]at hb;exact j' rfl (of_decide_eq_false hb)
      ·exact bD rfl
     ·exact cf ⟨_,rfl,.inr ⟨_,_,rfl,hn,by omega,last _ hv⟩⟩
def SgQ (z:Str)(H:Hp)(Q:VK):Prop:=(eo z=none->∀ H',ao H H'->Q .non H')/\∀ s:Sg,eo z=some s->∀ p H',ao H H'->H' p=some (.tup [.str s.1.str,.int s.2])->Q (.ref p) H'
inductive rS (vs:List V)(H:Hp)(Q:VK)(E:XK):Prop
 |mk (z:Str) (cL:vs=[.str z]) (cM:z.length<=100000) (dA:SgQ z H Q):rS vs H Q E
theorem Cz {z:Str}(h:inV (.str z) cH=true):∃ k:Kd,k.str=z/\eo z=some (k,0):=by
 rw[TX]at h;cases e:Hd.find? fun k=>decide (k.str=z) with
 |none=>rw[e]at h;cases h
 |some k =>
  refine⟨k,MW e,?_⟩;unfold eo;rw[e]
theorem Aq {z:Str}(h:inV (.str z) cH=false):eo z=match z.cps.toList with
  |[]=>none
  |c::cs=>match EU c with
   |none=>none
   |some k=>(fY 2 ⟨cs.toArray⟩).map fun n=>(k,n):=by
 rw[TX]at h;cases e:Hd.find? fun k=>decide (k.str=z) with
 |some k=>rw[e]at h;cases h
 |none =>
  conv=>lhs;unfold eo
  rw[e]
  try rfl
theorem OT {z:Str}(h:z.cps.toList=[]):z=⟨#[]⟩:=Str.ext' (Array.toList_inj.mp h)
theorem HI (T:Txt K w mg t):aR P w K mg base d3 (0+2) t.BZ t.B3 ["word"] rS:=by
 have lF:=uB P base T;refine T.Cp.ok rE ?_ ?_
 x_go
 obtain⟨z,rfl,hz,qn,qs⟩:=h;have big:z.length<=sizeLine:=Zf' hz (by decide);have hlen:z.cps.toList.length=z.length:=Array.length_toList;refine aH (ae (aI (aq (bX.or bW) (pv 0) (aZ (v:=.ref t.gX) rfl T.pj rfl) rfl) (ah (av (cU (aa (pv 0) (aa ai af))))) ax) (ae (cZ 1 rE.nd (dN (eR.or (gM.or gP)) (pv 0) eP (dW ai))) (ae (cZ 2 rE.nd (dg T.lu lF hr (aa (dN (eR.or (gM.or gP)) (pv 0) (dW ai) eP) (aa (aZ (v:=.int 2) rfl T.pq ⟨_,rfl⟩) af)))) (ae (aI (bq (PW.pt (dj (aq (cV.or cW) (pv 1) (aZ (v:=.ref t.ee) rfl T.iB rfl) rfl) (cT (aq mR (pv 2) cS (aw _)))))) (ah (av cS)) ax) (ah (av (cU (aa (pv 1) (aa (pv 2) af))))))))) ?_;refine⟨_,rfl,.inl ⟨_,_,rfl,.inr (T.pB _),rfl,rfl,_,rfl,?_⟩⟩;refine aG (fun h=>?_) (fun h=>?_)
 ·have h:inV (.str z) cH=true:=h;obtain⟨k,rfl,e⟩:=Cz h;refine⟨_,rfl,(by show 2<=sizeLine;decide),fun p hp=>?_⟩;exact qs (k,0) e p _ (ao.upd hp) ag
 have hs:inV (.str z) cH=false:=Y'.mpr h;have e3:=Aq hs;refine⟨_,rfl,_,rfl,.inr (.inr ⟨_,rfl,big,?_⟩)⟩;refine⟨_,rfl,_,rfl,.inr (.inr ⟨_,rfl,big,?_⟩)⟩;cases hc:z.cps.toList with
 |nil =>
  have e:=OT hc;subst e;have e1:Txt.slice ⟨#[]⟩ none (some 1)=(⟨#[]⟩:Str):=by lk
  have e2:Txt.slice ⟨#[]⟩ (some 1) none=(⟨#[]⟩:Str):=by lk
  rw[e1,e2];tm_up;refine⟨_,2,rfl,by decide,by decide,fun H1 s1=>?_⟩;refine dG true ?_ (cX (qn e3 H1 s1));refine⟨_,rfl,.inl ⟨_,_,rfl,.inr (T.dh _),rfl,rfl,_,rfl,cX (bD ?_)⟩⟩;decide +kernel
 |cons c cs =>
  rw[hc]at e3;have e3:eo z=match EU c with|none=>none|some k=>(fY 2 ⟨cs.toArray⟩).map fun n=>(k,n):=e3
  rw[OK hc,Dk hc];tm_up;refine⟨_,2,rfl,by decide,?_,fun H1 s1=>?_⟩
  ·rw[hc,Zk']at hlen;show cs.toArray.size<=100000;rw[Zm'];omega
  have snd:=Wx c;cases h4:EU c with
  |some k =>
   rw[h4]at e3 snd;have e3:eo z=(fY 2 ⟨cs.toArray⟩).map fun n=>(k,n):=e3;unfold F5;show _;cases hn:fY 2 ⟨cs.toArray⟩ with
   |none =>
    rw[hn]at e3;refine dG true ?_ (cX (qn e3 H1 s1));refine⟨_,rfl,.inl ⟨_,_,rfl,.inr (T.dh _),rfl,rfl,_,rfl,?_⟩⟩;refine aG (fun _=>bD rfl) (fun _=>?_);exact⟨_,rfl,rfl,_,rfl,bD rfl⟩
   |some n =>
    rw[hn]at e3;refine dG false ?_ (cf ?_)
    ·refine⟨_,rfl,.inl ⟨_,_,rfl,.inr (T.dh _),rfl,rfl,_,rfl,?_⟩⟩;refine aG (fun h'=>?_) (fun _=>?_)
     ·have h':(!inV (.str (chr c)) jN)=true:=h';rw[snd]at h';cases h'
     ·exact⟨_,rfl,rfl,_,rfl,bD rfl⟩
    ·refine⟨_,rfl,_,rfl,(by show 2<=sizeLine;decide),fun p hp=>?_⟩;exact qs (k,n) e3 p _ (s1.trans (ao.upd hp)) (by rw[(oS h4).1];exact ag)
  |none =>
   rw[h4]at e3 snd;refine dG true ?_ (cX (qn e3 H1 s1));refine⟨_,rfl,.inl ⟨_,_,rfl,.inr (T.dh _),rfl,rfl,_,rfl,?_⟩⟩;refine aG (fun _=>bD rfl) (fun h'=>?_);exact j' (show(!inV (.str (chr c)) jN)=true by rw[snd];rfl) h'
inductive ji (C:Addr)(vs:List V)(H:Hp)(Q:VK)(E:XK):Prop
 |mk (a:Addr) (n:Nat) (cL:vs=[.ref a,.int (n:Int)]) (cM:n<=400) (dA:H a=some (IG a C none)) (fA:∀ D,H D=none->D≠a->Q .non (upd (upd H D (.xd [("at",.int (n:Int))])) a (IG a C (some D)))):ji C vs H Q E
theorem Rv:(List.range 401).all (fun n=>decide ((Str.ofString (toString (n:Int))).length<=3))=true:=by lk
theorem HJ {n:Nat}(h:n<=400):(Str.ofString (toString (n:Int))).length<=3:=G' (all_eq_true.mp Rv n (mem_range.mpr (by omega)))
theorem Rw {n:Nat}(h:n<=400):((n:Int)).natAbs.log2<1920:=by
 have hb:((n:Int)).natAbs<2 ^ 1920:=Ze' (show((n:Int)).natAbs<2 ^ 9 by omega) (Nat.pow_le_pow_right (by decide) (by decide))
 by_cases z:((n:Int)).natAbs=0
 ·rw[z];decide
 ·exact(Nat.log2_lt z).mpr hb
theorem qg (T:Txt K w mg t):aR P w K mg base d3 (0+1) t.jX t.jY ["self","at"] (ji t.bE):=by
 refine T.dy.ok qd ?_ ?_
 x_go
 obtain⟨a,n,rfl,hn,ha,q⟩:=h;refine aH (ae (aS (Eu (B:=t.bA) rfl T.jt T.uf T.dy.xs.ini (aa (pv 0) (aa (sC (bx eI (bx (gO (pv 1)) sy))) af)))) (ah (IH T.dy.xs T.AX (pv 0) (pv 1) rfl))) ?_;have f3:=HJ hn;have big:∀{m:Nat},m<=200->m<=sizeLine:=fun h=>Zf' h (by decide);have cl:(Str.ofString "no good sign is written by the word at place ").length=45:=by lk
 have l2:(Str.empty++Str.ofString "no good sign is written by the word at place " ++ Str.ofString (toString (n:Int))).length<=200:=by
  rw[PySem.Str.empty_append,PySem.Str.length_append];omega
 refine⟨_,rfl,?_,_,rfl,.inr ⟨_,rfl,Rw hn,?_,?_,?_⟩⟩
 ·rw[PySem.Str.empty_append,cl];exact big (by decide)
 ·exact big l2
 ·exact big l2
 refine⟨a,_,rfl,by show 1<=sizeLine;decide,ha,?_⟩;refine⟨_,rfl,_,rfl,a,rfl,ha,fun D hD hne=>q D hD hne⟩
inductive uC (C:Addr)(vs:List V)(H:Hp)(Q:VK)(E:XK):Prop
 |mk (z:Str) (cL:vs=[.str z]) (cM:z.length<=100000) (dA:(∀ s:Sg,eo z=some s->∀ p H',ao H H'->H' p=some (.tup [.str s.1.str,.int s.2])->Q (.ref p) H')) (fA:(eo z=none->∀ D H',ao H H'->H' D=some (.xd [("at",.int 0)])->E (.ref C) (some D) H')):uC C vs H Q E
theorem DM (T:Txt K w mg t):aR P w K mg base (DZ P w) (0+3) t.wZ t.w6 ["word"] (uC t.bE):=by
 have KR:=HI P base T;have rT:=qg P base T;refine T.lx.ok2 tw ?_ ?_
 x_go
 obtain⟨z,rfl,hz,q,qe⟩:=h;refine aH (ae (cZ 1 tw.nd (dg T.Cp KR hr (aa (pv 0) af))) (ae (aI (aq mR (pv 1) cS (aw _)) (ah (Bu (fun _ _ z=>Mw z) rfl rfl T.dy.xs rT (iA hr) T.dy.b rfl T.zR (aa ai af))) ax) (ah (av (pv 1))))) ?_;refine⟨_,rfl,z,rfl,hz,fun e H1 s1=>?_,fun g e p H1 s1 hp=>?_⟩
 ·refine⟨_,rfl,rfl,_,rfl,cX ?_⟩;refine⟨by show 1<=sizeLine;decide,fun a ha=>⟨a,0,rfl,by decide,ag,fun D hD hne=>⟨rfl,D,ag,?_⟩⟩⟩;have hD1:H1 D=none:=by rw[ak hne]at hD;exact hD
  refine qe e D _ (s1.trans fun b o hb=>?_) ?_
  ·have hba:b≠a:=fun z=>by rw[z,ha]at hb;cases hb
   have hbD:b≠D:=fun z=>by rw[z,hD1]at hb;cases hb
   rw[cC hba,ak hba,ak hbD,ak hba];exact hb
  ·rw[cC hne,ak hne,ag];rfl
 ·refine⟨_,rfl,rfl,_,rfl,cf ⟨_,rfl,q g e p H1 s1 hp⟩⟩
theorem Bw.down {c:Cs}{H0 H1 H:Hp}{x:Addr}{vw:Vw}{ps fs:List Vw}(h:Bw c H1 H x [] vw ps fs)(s:ao H0 H1):Bw c H0 H x [] vw ps fs:=by
 obtain⟨F,b,hF,h0,ho⟩:=h.ex;exact⟨⟨F,b,hF,fun y z=>s.free (h0 y z),ho⟩,s.trans h.sm⟩
theorem Bw.fresh {c:Cs}{H0 H H':Hp}{x:Addr}{vw:Vw}{ps fs:List Vw}(h:Bw c H0 H x [] vw ps fs)(s:ao H H'){l:Addr}(n:H l=none){o:HO}(e:H' l=some o):∃ H1,Bw c H1 H' x [] vw ps fs/\ao H0 H1/\H1 l=some o:=by
 obtain⟨F,b,hF,h0,ho⟩:=(h.add s n e).ex;have sm:=h.sm.trans s
 classical
 refine⟨fun y=>if F y then none else H' y,⟨⟨F,b,hF,fun y hy=>Zc' hy,fun a ha=>nomatch ha⟩,fun y o e=>?_⟩,fun y o e=>?_,?_⟩
 ·have e:(if F y then none else H' y)=some o:=e
  by_cases hy:F y
  ·rw[Zc' hy]at e;exact nomatch e
  ·rwa [Za' hy]at e
 ·show(if F y then none else H' y)=some o;rw[Za' (fun hy=>by rw[h0 y hy]at e;exact nomatch e)];exact sm _ _ e
 ·show(if F l then none else H' l)=some o;rw[Za' (ho l mem_cons_self).1];exact e
theorem KS {vw:Vw}{n:Str}{a b:Th}(h:∀ q∈vw,q.1≠n):yW (vw++[(n,a)]) n b=vw++[(n,b)]:=by
 unfold yW;rw[map_append];have e1:vw.map (fun q=>if q.1=n then(n,b) else q)=vw:=by
  conv=>rhs;rw[<-List.map_id vw]
  exact List.map_congr_left fun q hq=>Za' (h q hq)
 have e2:[(n,a)].map (fun q:Str×Th=>if q.1=n then(n,b) else q)=[(n,b)]:=by
  show [if n=n then(n,b) else(n,a)]=_;rw[Zc' rfl]
 rw[e2];exact Zn' (· ++ [(n,b)]) e1
theorem KU {vw:Vw}{n:Str}{a:Th}(h:∀ q∈vw,q.1≠n):bj (vw++[(n,a)]) n=some a:=by
 unfold bj;rw[List.find?_append,List.find?_eq_none.mpr (fun q hq e=>h q hq (G' e))];rw[Option.none_or,List.find?_cons_of_pos (p:=fun q:Str×Th=>decide (q.1=n)) (L' rfl)];rfl
def UU (K:Frag)(t:Hj)(E:XK):Prop:=∀(C:Addr)(od:Option Addr)(H':Hp),exmOne K (.ref C) (.ref t.bA)=some true->E (.ref C) od H'
theorem CA {K:Frag}{w:World}{mg:Str->Option Value}{t:Hj}(T:Txt K w mg t){E:XK}(h:UU K t E){r:Rf}(h1:r≠.yZ)(h2:r≠.y8){H':Hp}:RX E (cs t) r H':=by
 refine⟨rfl,h _ _ _ ?_⟩;cases r with
 |sP=>exact T.pH
 |yo=>exact T.pF
 |pZ=>exact T.nj
 |Full=>exact T.ug
 |gi=>exact T.pI
 |iU=>exact T.om
 |sQ=>exact T.pG
 |jm=>exact T.pJ
 |yZ=>exact j' rfl h1
 |y8=>exact j' rfl h2
theorem p7 {vw:Vw}{n:Str}{r:Rf}(h:bU vw n=some r):r≠.yZ/\r≠.y8:=by
 unfold bU at h;split at h
 ·obtain rfl:=W' h;exact⟨(fun z=>by cases z),(fun z=>by cases z)⟩
 ·split at h
  ·obtain rfl:=W' h;exact⟨(fun z=>by cases z),(fun z=>by cases z)⟩
  ·split at h
   ·obtain rfl:=W' h;exact⟨(fun z=>by cases z),(fun z=>by cases z)⟩
   ·cases h
theorem KW {vw:Vw}{n:Str}(h:bU vw n=none):∀ q∈vw,q.1≠n:=iu (fm h).2.1
theorem HK {ws:List Str}{j:Nat}{w:Str}(hw:ws[j]? = some w)(h:eo w=none):br ws=none:=by
 have e:ws=ws.take (j+1)++ws.drop (j+1):=(List.take_append_drop _ _).symm;rw[e];refine He ?_;rw[take_succ,hw];show br (ws.take j++[w])=none;rw[we];cases br (ws.take j) with
 |none=>rfl
 |some ss=>rw[h];rfl
theorem F6 {ws:List Str}{j:Nat}{w:Str}{s:Sg}{ss:List Sg}(h0:br (ws.take j)=some ss)(hw:ws[j]? = some w)(h:eo w=some s):br (ws.take (j+1))=some (ss++[s]):=by
 rw[take_succ,hw];show br (ws.take j++[w])=_;rw[we,h0,h];rfl
theorem Nv {ss:List Sg}{s:Sg}{j:Nat}(h:ss.length=j):ss.take j++[s]++ss.drop j=ss++[s]:=by
 rw[List.take_of_length_le (by omega),List.drop_eq_nil_of_le (by omega),append_nil]
inductive qO (K:Frag)(t:Hj)(vs:List V)(H:Hp)(Q:VK)(E:XK):Prop
 |mk (x wl:Addr) (H0:Hp) (vw:Vw) (ps:List Vw) (ws:List Str) (cL:vs=[.ref x,.ref wl]) (cM:Bw (cs t) H0 H x [] vw ps []) (dA:H0 wl=some (.lst (ws.map V.str))) (fA:(∀ w∈ws,w.length<=100000)) (ki:ws.length<=100001) (Bb:ps.length<=4000) (Rm:(vo vw ws=none->UU K t E/\∀ H',Q (.bl false) H')) (R1:∀ q,vo vw ws=some q->∀(H':Hp)(ps':List Vw),Bw (cs t) H0 H' x [] (vw++[q]) ps' []->ps'.length<=ps.length+201->Q (.bl true) H'):qO K t vs H Q E
theorem AY (T:Txt K w mg t):aR P w K mg base (AM P w) (0+5) t.tL t.tM ["book","words"] (qO K t):=by
 have vM:=uw P base T;have HL:=F4 P base T;have F8:=DM P base T;refine T.cJ.Wm cj ?_ ?_
 x_go
 obtain⟨x,wl,H0,vw,ps,ws,rfl,B,hw,wz,wn,pl,qn,qs⟩:=h;refine aH (ae (aI (aq gK (aE (aB.or aC) rfl T.bg bf (aa (pv 1) af)) ai (aw _)) (ah (av di)) ax) (ae (cZ 2 cj.nd (bY (pv 1))) (ae (aS (Ey (X:=(sf T.cJ.1 cj (AM P w) P w mg base cdv A outer s H E)) (W:=(sf T.cJ.1 cj (AM P w) P w mg base cdv A outer s H E).xe) (XS:=fun _ cls od H'=>E cls od H') (pv 0) T.aQ T.fK.me (vM.to3 Pz) (iA hr) T.fK.b .nil (fun _ _ z=>G3 z) (aa (pv 2) af))) (ae (dF PassesOwn.leaving rfl (yk rfl T.gY (dN (eR.or (gM.or gP)) (pv 1) (dW ai) eP)) (fP rfl (aM (kj 3 cj.nd) (aM (kj 4 cj.nd) dU))) (ah (aS (Ey (X:=(sf T.cJ.1 cj (AM P w) P w mg base cdv A outer s H E)) (W:=(sf T.cJ.1 cj (AM P w) P w mg base cdv A outer s H E).xe) (XS:=fun _ cls od H'=>E cls od H') (pv 0) T.aQ T.gy.me (HL.to3 Pz) (iA hr) T.gy.b .nil (fun _ _ z=>G3 z) (aa (pv 2) (aa (pv 3) (aa (Ex (X:=(sf T.cJ.1 cj (AM P w) P w mg base cdv A outer s H E)) (W:=(sf T.cJ.1 cj (AM P w) P w mg base cdv A outer s H E).xe) (XS:=fun _ cls od H'=>E cls od H') (F8.to3 Tt) (iA hr) rfl T.lx.g T.lx.kp T.lx.b .nil (fun _ _ z=>G3 z) (aa (pv 4) af)) af))))))) (ah (av di)))))) ?_;have hw':=B.sm _ _ hw;have R4:(ws.map V.str).length=ws.length:=P' _;tm_up;refine .inl ⟨wl,_,rfl,.inl (aL.of hw'),?_⟩;tm_up;refine aG (fun h1=>?_) (fun h1=>?_)
 ·have h1:=G' h1;rw[R4]at h1;refine(qn ?_).2 _
  match ws,h1 with
  |[],_=>rfl
  |[_],_=>rfl
  |_::_::_,h1=>simp at h1;omega
 obtain⟨hd,n,r,rfl⟩:∃ hd n r,ws=hd::n::r:=by
  match ws,h1 with
  |[],h1=>exact j' (L' (by simp)) h1
  |[_],h1=>exact j' (L' (by simp)) h1
  |a::b::c,_=>exact⟨a,b,c,rfl⟩
 clear h1;have hw2:H wl=some (.lst (V.str hd::V.str n::r.map V.str)):=hw';have nl:n.length<=100000:=wz n (by simp);have rz:∀ w∈r,w.length<=100000:=fun w hw=>wz w (mem_cons_of_mem _ (mem_cons_of_mem _ hw));have rl:r.length<=100000:=by simp at wn;omega
 tm_up;refine oM (aL.of hw2) (n:=1) rfl rfl ?_;obtain⟨dx,L,D,U,hx⟩:=B.hx;obtain⟨F1,b1,f1,z1,o1⟩:=B.ex;tm_up;refine⟨x,dx,_,rfl,hx,vi _ _ _,_,rfl,?_⟩;refine⟨x,F1,_,ps,[],n,rfl,b1,nl,by omega,?_⟩;rw[kD]at qn qs;cases no:bU vw n with
 |some rr =>
  rw[no,Za' (fun z=>nomatch z)]at qn;exact fun H' _=>CA T (qn rfl).1 (p7 no).1 (p7 no).2
 |none =>
  rw[no,Zc' rfl]at qn qs;have nn:=KW no;intro F2 H2 X2 X3 b2;obtain⟨B2,k2⟩:=Bw.mk' b2 B.sm f1 z1 o1 X2 X3;clear b1 f1 z1 o1 X2 X3 b2 k2 hx hw' hw2;have UW:H2 wl=some (.lst (V.str hd::V.str n::r.map V.str)):=B2.sm _ _ hw;tm_up;have Rx:qY (V.str hd::V.str n::r.map V.str) (some (2:Int)) none=r.map V.str:=by
   have:=ym (V.str hd::V.str n::r.map V.str) 2 (by simp);rw[show(((2:Nat):Int))=2 from rfl]at this;rw[this];rfl
  refine .inl ⟨wl,_,rfl,aL.of UW,fun k hk=>?_⟩;rw[Rx];have s4:=ao.upd (o:=.lst (r.map V.str)) hk;have h4:=ag (H:=H2) (a:=k) (o:=.lst (r.map V.str));generalize upd H2 k (.lst (r.map V.str))=H4 at s4 h4;obtain⟨H1,B4,s1,UX⟩:=B2.fresh s4 hk h4;have sll:(r.map V.str).length=r.length:=P' _;refine⟨k,rfl,⟨_,aL.of h4⟩,sF (K:=K) (xs:=r.map V.str) (fun j σ H'=>∃(v4 v5:Option V)(ps':List Vw)(ss:List Sg),σ=[some (.ref x),some (.ref wl),some (.str n),v4,v5]/\Bw (cs t) H1 H' x [] (vw++[(n,.pl ss)]) ps' []/\ps'.length=ps.length+1+j/\ss.length=j/\j<=200/\br (r.take j)=some ss)
   ⟨none,none,_,[],rfl,B4,by rw[Zd'];rfl,rfl,by omega,rfl⟩ ?_ ?_ ?_⟩
  ·rintro j σ H5 ⟨_,_,ps',ss,rfl,B5,_⟩;exact aL.of (B5.sm _ _ UX)
  ·rintro j y τ σ H5 hy ⟨_,_,ps',ss,rfl,B5,X4,ssl,j2,T7⟩ hτ;obtain⟨w,hsg,rfl⟩:∃ w,r[j]? = some w/\y=.str w:=by
    rw[Zl']at hy;cases e:r[j]? with
    |none=>rw[e]at hy;cases hy
    |some z=>rw[e]at hy;exact⟨z,rfl,(W' hy).symm⟩
   have hj:j<r.length:=(S'.mp hsg).1;have s6:=ao.upd (o:=.tup [.int (j:Int),.str w]) hτ;have PX:=ag (H:=H5) (a:=τ) (o:=.tup [.int (j:Int),.str w]);generalize upd H5 τ (.tup [.int (j:Int),.str w])=H6 at s6 PX;have B6:=B5.same s6;refine⟨τ,_,rfl,iQ.of PX,rfl,_,_,rfl,_,_,rfl,rfl,?_⟩;obtain⟨WY,L6,D6,U6,WZ⟩:=B6.hx;refine⟨_,rfl,x,WY,_,rfl,WZ,Ha _ _ _,_,rfl,_,rfl,?_⟩;refine⟨_,rfl,w,rfl,rz w (Zh' hsg),fun sg esg pp H7 s7 hpp=>?_,fun esg D7 H7 s7 h7=>?_⟩
   rotate_left
   ·rw[HK hsg esg]at qn;exact(qn rfl).1 _ _ _ T.pK
   have gsg:=(EV esg).1;have B7:=B6.same s7;obtain⟨F7,b7,f7,z7,o7⟩:=B7.ex;refine⟨x,F7,_,ps',[],n,(j:Int),pp,(sg.1.str,sg.2),rfl,b7,hpp,by omega,?_⟩;rw[KU nn];have gg:=IU gsg;refine⟨(fun z=>j' ⟨by omega,by rw[ssl];omega⟩ z),(fun _ z=>by rw[gg]at z;cases z),(fun _ _ z=>?_),fun _ _ z s9 w9 F9 H9 e1 e2 _ gr9 fr9 b9=>?_⟩
   ·refine CA (r:=.Full) (E:=E) T (qn ?_).1 (by intro z;cases z) (by intro z;cases z);cases er:br r with
    |none=>rfl
    |some sr =>
     have:=ze er;show(if sr.length<=200 then some (n,Th.pl sr) else none)=none;rw[Za' (by omega)]
   have es:s9=sg:=Prod.ext (str_inj.mp e1) e2;subst es;rw[Int.toNat_natCast,Nv ssl,KS nn]at b9;obtain⟨B9,k9⟩:=Bw.mk' b9 B7.sm f7 z7 o7 gr9 fr9;exact⟨_,_,_,_,rfl,B9,by rw[Zd'];show ps'.length+1=_;omega,by rw[Zd'];show ss.length+1=_;omega,by omega,F6 T7 hsg esg⟩
  ·rintro σ H5 ⟨_,_,ps',ss,rfl,B5,X4,ssl,j2,T7⟩;rw[sll]at X4 ssl j2 T7;rw[take_length]at T7;tm_up;refine qs _ ?_ H5 ps' (B5.down s1) (by omega);rw[T7];show(if ss.length<=200 then some (n,Th.pl ss) else none)=_;rw[Zc' (by omega)]
inductive lG (c:Cs)(vs:List V)(H:Hp)(Q:VK)(E:XK):Prop
 |mk (x:Addr) (F:Addr->Prop) (vw:Vw) (ps fs:List Vw) (n ld:Str) (lt sl:Int) (tn:Bool) (cL:vs=[.ref x,.str n,.str ld,.int lt,.int sl,.bl tn]) (cM:yp c H x F vw ps fs) (dA:n.length<=100000) (fA:ps.length<=9000) (ki:match bU vw n with
 |some r=>∀ H',ao H H'->RX E c r H'
 |none=>match bj vw ld with
  |none=>∀ H',ao H H'->RX E c .gi H'
  |some (.cn _ _ _ _)=>∀ H',ao H H'->RX E c .iU H'
  |some (.pl _)=>(¬ eE lt sl->∀ H',ao H H'->RX E c .jm H')/\(eE lt sl->∀ F' H',Gr F F' H->Fr F H H'->yp c H' x F' (vw++[(n,.cn ld lt sl tn)]) (ps++[vw]) []->Q .non H')):lG c vs H Q E
theorem uD (T:Txt K w mg t):aR P w K mg base (hZ P w) (0+4) t.ed t.ix ["self","name","leader","later","slow","is_turned"] (lG (cs t)):=by
 have g9:=j9 P base T;have gA:=jh P base T;have lV:=pP P base T;have iF:=lD P base T;refine T.fL.GY tD ?_ ?_
 x_go
 obtain⟨x,F,vw,ps,fs,n,ld,lt,sl,tn,rfl,B,hlen,hps,q⟩:=h;refine aH (ae (aS (dr (X:=(dM (hZ P w) P w K mg base ["self","name","leader","later","slow","is_turned"] "Book.add_canon" (aj d6) t.ed cdv A outer s H E)) (pv 0) T.aQ T.bO.me g9 (iA hr) T.bO.b .nil (fun _ _ z=>Or.inl z) (aa (pv 1) af))) (ae (aS (dr (X:=(dM (hZ P w) P w K mg base ["self","name","leader","later","slow","is_turned"] "Book.add_canon" (aj d6) t.ed cdv A outer s H E)) (pv 0) T.aQ T.bV.me gA (iA hr) T.bV.b .nil (fun _ _ z=>Or.inl z) (aa (pv 2) af))) (ae (aI (cy (bq (PW.pt (cN (oB ko ko ai (pv 3) (aZ (v:=.int 999) rfl T.Nb ⟨_,rfl⟩)) (dJ (oB ko ko ai (pv 4) (aZ (v:=.int 9) rfl T.Kz ⟨_,rfl⟩))))))) (ah (fT (X:=(dM (hZ P w) P w K mg base ["self","name","leader","later","slow","is_turned"] "Book.add_canon" (aj d6) t.ed cdv A outer s H E)) (fun _ _ z=>z) rfl T.Hv.exc rfl T.Ho (aa aA af))) ax) (ah (aS (gL (pv 0) T.aQ T.fZ.me lV (iA hr) T.fZ.b .nil fS (aa (yj T.ef.TY iF (iA hr) rfl T.FH T.ef.b .nil fS (aa (pv 1) (aa (cU (aa (pv 2) (aa (pv 3) (aa (pv 4) (aa (pv 5) af))))) af))) af))))))) ?_;obtain⟨L,D,U,all,M,Ps,Fs,es,us,b,i,pp,pf,f⟩:=B.ex;obtain⟨dx,hx⟩:=b.hx;have wv:=B.wv vw (.inr (.inl rfl));refine⟨_,rfl,x,dx,_,rfl,hx,kA _ _ _,_,rfl,x,F,vw,ps,fs,n,rfl,B,hlen,?_⟩;cases ho:bU vw n with
 |some r =>
  rw[ho]at q;intro H' s';have q:=q H' s';exact q
 |none =>
  rw[ho]at q;obtain⟨_,hf,Rq⟩:=fm ho;intro H1 s1;have b1:=b.kept f (.same s1);have i1:Is H1 L all M vw:=Is.kept (F:=F) (.same s1) i;obtain⟨vx,g,gv⟩:=b1.vk i1;have hx1:=s1 _ _ hx;refine⟨_,rfl,x,dx,_,rfl,hx1,jM _ _ _,_,rfl,x,dx,L,D,U,M L,vx,ld,rfl,hx1,b1.hL,g,?_⟩;rcases EK gv (fun _ _ r=>r.2.1) ld with ⟨f1,f2⟩|⟨a,th,j,f1,f2,r,an,fj,fw⟩
  ·rw[f1];rw[f2]at q;have q:=q H1 s1;exact q
  rw[f1];rw[f2]at q;cases th with
  |cn X5 X6 sl2 X7 =>
   obtain⟨pt,Ru,_⟩:=r.2.2;have q:=q H1 s1;refine⟨(fun z=>by rw[Ru]at z;cases z),(fun _ _=>q),.inr ⟨pt,Ru⟩⟩
  |pl ss =>
   obtain⟨NT,hg⟩:=r.2.2;obtain⟨q1,q2⟩:=q;refine⟨fun _=>?_,(fun pz z=>by rw[NT]at z;cases z),.inl NT⟩;refine⟨fun bb H'=>bb=decide (eE lt sl)/\H'=H1,?_,?_⟩
   ·refine⟨_,rfl,_,_,rfl,rfl,_,rfl,?_⟩;refine aG (fun h1=>?_) (fun h1=>?_)
    rotate_left
    ·have e:decide (eE lt sl)=false:=V' fun z=>h1 (L' z.1);rw[e];exact⟨_,rfl,cf ⟨rfl,rfl⟩⟩
    refine⟨_,_,rfl,rfl,_,rfl,?_⟩;refine aG (fun h2=>?_) (fun h2=>?_)
    rotate_left
    ·have e:decide (eE lt sl)=false:=V' fun z=>h2 (L' z.2.1);rw[e];exact⟨rfl,rfl⟩
    refine⟨_,rfl,_,_,rfl,rfl,_,rfl,?_⟩;refine aG (fun h3=>?_) (fun h3=>?_)
    rotate_left
    ·have e:decide (eE lt sl)=false:=V' fun z=>h3 (L' z.2.2.1);rw[e];exact⟨_,rfl,rfl,rfl⟩
    refine⟨_,_,rfl,rfl,_,rfl,?_,rfl⟩;refine decide_eq_decide.mpr ⟨fun z=>⟨G' h1,G' h2,G' h3,z⟩,fun z=>z.2.2.2⟩
   intro bb H1' ⟨e1,e2⟩;rw[e1,e2]
   by_cases hok:eE lt sl
   rotate_left
   ·rw[V' hok];have q:=q1 hok H1 s1;exact cX ⟨by show 1<=sizeLine;decide,q.2⟩
   rw[L' hok];refine cf ?_;obtain⟨ds,hD,pD⟩:=b1.hD;obtain⟨ux,hU,pU⟩:=b1.hU;have ll:=cE i;have dl:=cE pD;have pl:=cE pp;have pe:=b.past.len;refine⟨_,rfl,x,dx,_,rfl,hx1,qm _ _ _,_,rfl,_,rfl,_,rfl,_,rfl,_,rfl,(by show 4<=sizeLine;decide),fun tp htp=>?_⟩;have st:=ao.upd (o:=.tup [V.str ld,V.int lt,V.int sl,V.bl tn]) htp;have T8:=ag (H:=H1) (a:=tp) (o:=.tup [V.str ld,V.int lt,V.int sl,V.bl tn]);generalize upd H1 tp (.tup [V.str ld,V.int lt,V.int sl,V.bl tn])=H1t at st T8;intro v dv nv WW ne;refine⟨v,dv,n,.ref tp,rfl,ag,fun l H2 kp hl hlv hv2 hl2=>⟨rfl,?_⟩⟩;have X8:ao H1t H2:=fun y o hy=>kp y o (by rw[ak (au hy nv),ak (au hy WW)];exact hy) (au hy nv);have s2:=st.trans X8;have hl1:H1 l=none:=st.free (zb hl);refine⟨x,dx,L,D,U,v,M L,ds,ux,rfl,s2 _ _ hx1,s2 _ _ b1.hL,s2 _ _ hD,s2 _ _ hU,b.LD,b.LU,b.DU,by omega,by omega,fun e H3 H' eT ei eb ea s3 nB nA hd fr hL' hD' hU'=>?_⟩;obtain⟨F',gr,fr',B'⟩:=Bk.added b1 i1 (dC (fun _ _ q=>Is.kept (F:=F) (.same s1) q) pp) f B.wv (a:=⟨v,dv,n,.ref tp,l⟩) (th:=.cn ld lt sl tn) s2 (st.free nv) hl1 hv2 hl2 (fun M' h0=>⟨tp,rfl,X8 _ _ T8⟩) (wv.TJ (iu hf) Rq (cF f2) hok.1 hok.2.1 hok.2.2.1 hok.2.2.2) eT ei eb ea s3 nB nA hd hD pD fr hL' hD' hU';exact q2 hok F' H' (gr.old s1) (fun y o hy hn=>fr' y o (s1 y o hy) hn) B'
theorem Ry {wy:Str}(h:qc wy=none):(!(List.lookup wy [(Str.ofString "straight",V.bl false),(Str.ofString "turned",V.bl true)]).isSome)=true:=by
 unfold qc at h
 by_cases h1:wy = "straight"
 ·rw[Zc' h1]at h;cases h
 ·rw[Za' h1]at h
  by_cases h2:wy = "turned"
  ·rw[Zc' h2]at h;cases h
  ·have e1:(wy==Str.ofString "straight")=false:=Y'.mpr fun z=>h1 (beq_iff_eq.mp z);have e2:(wy==Str.ofString "turned")=false:=Y'.mpr fun z=>h2 (beq_iff_eq.mp z);simp[List.lookup,e1,e2]
theorem Ar {vw:Vw}{ws:List Str}(h:ws.length≠6):gu vw ws=none:=by
 unfold gu;split
 ·exact j' rfl h
 ·rfl
theorem rV {vw:Vw}{hd n ld a b wy:Str}:gu vw [hd,n,ld,a,b,wy]=match fY 3 a,fY 3 b,qc wy with
  |some lt,some sl,some tn=>if bU vw n=none/\cR vw ld lt sl=none then some (n,.cn ld lt sl tn) else none
  |_,_,_=>none:=rfl
inductive qP (K:Frag)(t:Hj)(vs:List V)(H:Hp)(Q:VK)(E:XK):Prop
 |mk (x wl:Addr) (H0:Hp) (vw:Vw) (ps:List Vw) (ws:List Str) (cL:vs=[.ref x,.ref wl]) (cM:Bw (cs t) H0 H x [] vw ps []) (dA:H0 wl=some (.lst (ws.map V.str))) (fA:(∀ w∈ws,w.length<=100000)) (ki:ws.length<=100001) (Bb:ps.length<=4000) (Rm:(gu vw ws=none->UU K t E/\∀ H',Q (.bl false) H')) (R1:∀ q,gu vw ws=some q->∀(H':Hp)(ps':List Vw),Bw (cs t) H0 H' x [] (vw++[q]) ps' []->ps'.length<=ps.length+1->Q (.bl true) H'):qP K t vs H Q E
theorem AZ (T:Txt K w mg t):aR P w K mg base (hZ P w) (0+5) t.tO t.tP ["book","words"] (qP K t):=by
 have lF:=uB P base T;have vN:=uD P base T;refine T.g6.GY iK ?_ ?_
 x_go
 obtain⟨x,wl,H0,vw,ps,ws,rfl,B,hw,wz,wn,pl,qn,qs⟩:=h;refine aH (ae (aI (aq (iR.or (fb (aF hr))) (aE (aB.or aC) rfl T.bg bf (aa (pv 1) af)) ai (aw _)) (ah (av di)) ax) (ae (cZ 2 iK.nd (dg T.lu lF hr (aa (bY (pv 1)) (aa (aZ (v:=.int 3) rfl T.iW ⟨_,rfl⟩) af)))) (ae (cZ 3 iK.nd (dg T.lu lF hr (aa (bY (pv 1)) (aa (aZ (v:=.int 3) rfl T.iW ⟨_,rfl⟩) af)))) (ae (aI (bq (PW.pt (dj (aq mR (pv 2) cS (aw _)) (dj (aq mR (pv 3) cS (aw _)) (cT (aq Em (bY (pv 1)) (aZ (v:=.ref t.Dv) rfl T.Nc rfl) rfl)))))) (ah (av di)) ax) (ae (aS (dr (X:=(sf T.g6.1 iK (hZ P w) P w mg base cdv A outer s H E)) (pv 0) T.aQ T.fL.me vN (iA hr) T.vJ .nil (fun _ _ z=>Or.inl z) (aa (bY (pv 1)) (aa (bY (pv 1)) (aa (pv 2) (aa (pv 3) (aa (bL Ma (aZ (v:=.ref t.Dv) rfl T.Nc rfl) (bY (pv 1)) (fun _ _=>rfl)) af))))))) (ah (av di))))))) ?_;have hw':=B.sm _ _ hw;have R4:(ws.map V.str).length=ws.length:=P' _;tm_up;refine .inl ⟨wl,_,rfl,.inl (aL.of hw'),?_⟩;tm_up
 by_cases l6:ws.length=6
 rotate_left
 ·have q:=(qn (Ar l6)).2;refine aG (fun _=>q _) (fun h1=>j' (show(!decide (V.int ((ws.map V.str).length:Nat)=V.int 6))=true from ?_) h1);rw[R4,V' (fun z=>l6 (by have:=V.int.inj z;omega))];rfl
 obtain⟨hd,n,ld,wa,wb,wy,rfl⟩:∃ hd n ld a b wy,ws=[hd,n,ld,a,b,wy]:=by
  match ws,l6 with
  |[a,b,c,d,e,f],_=>exact⟨a,b,c,d,e,f,rfl⟩
 refine cf ?_;have hw2:H wl=some (.lst [.str hd,.str n,.str ld,.str wa,.str wb,.str wy]):=hw';tm_up;refine oM (aL.of hw2) (n:=3) rfl rfl ?_;refine⟨_,3,rfl,by decide,wz wa (by simp),fun H1 s1=>?_⟩;have UW:=s1 _ _ hw2;have B1:=B.same s1;tm_up;refine oM (aL.of UW) (n:=4) rfl rfl ?_;refine⟨_,3,rfl,by decide,wz wb (by simp),fun H2 s2=>?_⟩;have T9:=s2 _ _ UW;have B2:=B1.same s2;rw[rV]at qn qs;unfold F5;cases ea:fY 3 wa with
 |none =>
  rw[ea]at qn;refine dG true ?_ (cX ((qn rfl).2 _));tm_up;exact⟨rfl,_,rfl,cX (bD rfl)⟩
 |some lt =>
 cases eb:fY 3 wb with
 |none =>
  rw[ea,eb]at qn;refine dG true ?_ (cX ((qn rfl).2 _));tm_up;refine⟨rfl,_,rfl,?_⟩;tm_up;exact⟨rfl,_,rfl,cX (bD rfl)⟩
 |some sl =>
 cases ew:qc wy with
 |none =>
  rw[ea,eb,ew]at qn;refine dG true ?_ (cX ((qn rfl).2 _));tm_up;refine⟨rfl,_,rfl,?_⟩;tm_up;refine⟨rfl,_,rfl,?_⟩;tm_up;refine oM (aL.of T9) (n:=5) rfl rfl ?_;refine⟨_,_,_,rfl,rfl,T.DC,_,rfl,bD ?_⟩;exact Ry ew
 |some tn =>
 rw[ea,eb,ew]at qn qs;refine dG false ?_ (cf ?_)
 ·tm_up;refine⟨rfl,_,rfl,?_⟩;tm_up;refine⟨rfl,_,rfl,?_⟩;tm_up;refine oM (aL.of T9) (n:=5) rfl rfl ?_;refine⟨_,_,_,rfl,rfl,T.DC,_,rfl,bD ?_⟩;rw[yt ew];cases tn <;> decide +kernel
 obtain⟨dx,L,D,U,hx⟩:=B2.hx;obtain⟨F2,b2,f2,z2,o2⟩:=B2.ex;refine⟨_,rfl,x,dx,_,rfl,hx,vj _ _ _,?_⟩;tm_up;refine oM (aL.of T9) (n:=1) rfl rfl ?_;tm_up;refine oM (aL.of T9) (n:=2) rfl rfl ?_;tm_up;refine oM (aL.of T9) (n:=5) rfl rfl ?_;refine⟨_,_,_,.bl tn,rfl,rfl,T.DC,by rw[yt ew];cases tn <;> decide +kernel,?_⟩;refine⟨x,F2,_,ps,[],n,ld,lt,sl,tn,rfl,b2,wz n (by simp),by omega,?_⟩;have qn:((if bU vw n=none/\cR vw ld lt sl=none then some (n,Th.cn ld lt sl tn) else none)=none->UU K t E/\∀ H',Q (.bl false) H'):=qn;have qs:∀ q,(if bU vw n=none/\cR vw ld lt sl=none then some (n,Th.cn ld lt sl tn) else none)=some q->_:=qs;cases no:bU vw n with
 |some r=>exact fun H' _=>CA (E:=E) T (qn (Za' (fun z=>by rw[no]at z;cases z.1))).1 (p7 no).1 (p7 no).2
 |none =>
 unfold cR at qn qs;cases hf:bj vw ld with
 |none=>exact fun H' _=>CA (E:=E) (r:=.gi) T (qn (Za' (fun z=>by rw[hf]at z;cases z.2))).1 (by intro z;cases z) (by intro z;cases z)
 |some th =>
  rw[hf]at qn qs;cases th with
  |cn X5 X6 sl2 X7=>exact fun H' _=>CA (E:=E) (r:=.iU) T (qn (Za' (fun z=>by cases z.2))).1 (by intro z;cases z) (by intro z;cases z)
  |pl ss =>
   refine⟨fun z H' _=>CA (E:=E) (r:=.jm) T (qn (Za' (fun y=>?_))).1 (by intro z;cases z) (by intro z;cases z),fun z F7 H7 gr7 fr7 b7=>?_⟩
   ·have y2:(if eE lt sl then none else some Rf.jm)=none:=y.2;rw[Za' z]at y2;cases y2
   ·obtain⟨B7,k7⟩:=Bw.mk' b7 B2.sm f2 z2 o2 gr7 fr7;refine qs _ (Zc' ⟨no,?_⟩) H7 _ B7 (by rw[Zd'];exact X' _);show(if eE lt sl then none else some Rf.jm)=none;rw[Zc' z]
theorem Jy {X:Cx}{K:Frag}(h:X.K=K):LH X (VG K):=h ▸ bo
theorem ju {vw:Vw}{h:Str}{r:List Str}:mY vw (h::r)=if h = "voice" then vo vw (h::r) else if h = "canon" then gu vw (h::r) else none:=rfl
inductive xH (K:Frag)(t:Hj)(vs:List V)(H:Hp)(Q:VK)(E:XK):Prop
 |mk (x:Addr) (H0:Hp) (vw:Vw) (ps:List Vw) (row:Str) (cL:vs=[.ref x,.str row]) (cM:Bw (cs t) H0 H x [] vw ps []) (dA:row.length<=90000) (fA:ps.length<=4000) (ki:(kC vw row=none->∀ H',Q (.bl false) H')) (Bb:∀ q,kC vw row=some q->∀(H':Hp)(ps':List Vw),Bw (cs t) H0 H' x [] (vw++[q]) ps' []->ps'.length<=ps.length+201->Q (.bl true) H'):xH K t vs H Q E
theorem Ga (T:Txt K w mg t):aR P w K mg base d3 (0+6) t.m9 t.zD ["book","row"] (xH K t):=by
 have DN:=AY P base T;have DO:=AZ P base T;refine T.z6.ok wF ?_ ?_
 x_go
 obtain⟨x,H0,vw,ps,row,rfl,B,rl,pl,qn,qs⟩:=h;refine aH (ae (cZ 2 wF.nd (cQ plainAttrs_str slot_str_split type_str_split oF (pv 1) (aa aA af))) (ah (Oq (fun pn XS=>(ae (aI (aq ba (bL (Jy (K:=K) rfl) (pv 2) ai (fun _ _=>rfl)) aA (aw _)) (ah (av (Ex (X:=Cx.uT (dM d3 P w K mg base ["book","row","words"] "take_row" (aj mZ) t.m9 cdv A outer s H E).Lk pn) (XS:=fun σ cls _ H'=>XS σ cls H') DN (iA hr) rfl T.cJ.g T.cJ.kp T.cJ.b .nil (fun _ _ z=>QU z) (aa (pv 0) (aa (pv 2) af))))) ax) (ah (av (bJ (eX (bB ba (bL (Jy (K:=K) rfl) (pv 2) ai (fun _ _=>rfl)) aA (aw _)) (gm (yI (X:=Cx.uT (dM d3 P w K mg base ["book","row","words"] "take_row" (aj mZ) t.m9 cdv A outer s H E).Lk pn) (XS:=XS) DO (iA hr) rfl T.g6.g T.g6.kp T.g6.b .nil (fun _ _ z=>z) (aa (pv 0) (aa (pv 2) af)))))))))) (Mt (CT:=t.bA) (fun pn a=>(ah (av di))) rfl T.jt Oo) rfl rfl))) ?_;have sl:=PyProof.Rows.split_le row " ";have l0:100000<=sizeLine:=by decide
 obtain⟨hd,r,sp⟩:=Am row " ";have sm:∀ w∈hd::r,w.length<=100000:=fun w hw=>by
  rw[<-sp]at hw;have:=mL hw;omega
 unfold kC at qn qs;rw[sp]at qn qs sl;tm_up;refine⟨rfl,_,_,rfl,rfl,by lk,Zf' (by omega) l0,by rw[sp];exact Zf' (by omega) l0,fun k hk=>?_⟩;rw[sp];have s4:=ao.upd (o:=.lst ((hd::r).map V.str)) hk;have h4:=ag (H:=H) (a:=k) (o:=.lst ((hd::r).map V.str));generalize upd H k (.lst ((hd::r).map V.str))=H4 at s4 h4;obtain⟨H1,B4,s1,UX⟩:=B.fresh s4 hk h4;have h4':H4 k=some (.lst (.str hd::r.map V.str)):=h4;rw[ju]at qn qs;tm_up;refine oM (aL.of h4') (n:=0) rfl rfl ?_;refine⟨rfl,_,rfl,?_⟩
 by_cases e1:hd = "voice"
 ·rw[Zc' e1]at qn qs;refine aG (fun _=>?_) (fun z=>j' (L' (Zn' V.str e1)) z);refine⟨_,rfl,_,rfl,x,k,H1,vw,ps,hd::r,rfl,B4,UX,sm,by omega,pl,fun e=>⟨fun C od H' hC=>.inl ⟨hC,?_⟩,fun H'=>qn e H'⟩,fun q e H' ps' B' l'=>qs q e H' ps' (B'.down s1) l'⟩;exact qn e H'
 rw[Za' e1]at qn qs;refine aG (fun z=>j' (V.str.inj (G' z)) e1) (fun _=>?_);refine⟨fun v H'=>(v=.bl false/\(if hd = "canon" then gu vw (hd::r) else none)=none)\/∃ q ps',v=.bl true/\(if hd = "canon" then gu vw (hd::r) else none)=some q/\Bw (cs t) H1 H' x [] (vw++[q]) ps' []/\ps'.length<=ps.length+201,?_,?_⟩
 ·tm_up;refine oM (aL.of h4') (n:=0) rfl rfl ?_;refine⟨rfl,_,rfl,?_⟩
  by_cases e2:hd = "canon"
  ·rw[Zc' e2]at qn qs;refine aG (fun _=>?_) (fun z=>j' (L' (Zn' V.str e2)) z);refine⟨_,rfl,_,rfl,x,k,H1,vw,ps,hd::r,rfl,B4,UX,sm,by omega,pl,fun e=>⟨fun C od H' hC=>.inl ⟨hC,qn e H'⟩,fun H'=>.inl ⟨rfl,by rw[Zc' e2];exact e⟩⟩,fun q e H' ps' B' l'=>.inr ⟨q,ps',rfl,by rw[Zc' e2];exact e,B',by omega⟩⟩
  ·refine aG (fun z=>j' (V.str.inj (G' z)) e2) (fun z=>.inl ⟨rfl,Za' e2⟩)
 ·rintro v H' (⟨rfl,e⟩|⟨q,ps',rfl,e,B',l'⟩)
  ·exact qn e H'
  ·exact qs q e H' ps' (B'.down s1) l'
inductive kg (C:Addr)(vs:List V)(H:Hp)(Q:VK)(E:XK):Prop
 |mk (a:Addr) (n:Nat) (cL:vs=[.ref a,.int (n:Int)]) (cM:n<=400) (dA:H a=some (IG a C none)) (fA:∀ D,H D=none->D≠a->Q .non (upd (upd H D (.xd [("at",.int (n:Int))])) a (IG a C (some D)))):kg C vs H Q E
theorem OU:(List.range 401).all (fun n=>decide ((Str.ofString (toString (n:Int))).length<=3))=true:=by lk
theorem Gb {n:Nat}(h:n<=400):(Str.ofString (toString (n:Int))).length<=3:=G' (all_eq_true.mp OU n (mem_range.mpr (by omega)))
theorem OV {n:Nat}(h:n<=400):((n:Int)).natAbs.log2<1920:=by
 have hb:((n:Int)).natAbs<2 ^ 1920:=Ze' (show((n:Int)).natAbs<2 ^ 9 by omega) (Nat.pow_le_pow_right (by decide) (by decide))
 by_cases z:((n:Int)).natAbs=0
 ·rw[z];decide
 ·exact(Nat.log2_lt z).mpr hb
theorem rW (T:Txt K w mg t):aR P w K mg base d3 (0+1) t.kX t.kY ["self","at"] (kg t.bI):=by
 refine T.bH.ok rF ?_ ?_
 x_go
 obtain⟨a,n,rfl,hn,ha,q⟩:=h;refine aH (ae (aS (Eu (B:=t.bA) rfl T.jt T.uf T.bH.xs.ini (aa (pv 0) (aa (sC (bx eI (bx (gO (pv 1)) sy))) af)))) (ah (IH T.bH.xs T.nh (pv 0) (pv 1) rfl))) ?_;have f3:=Gb hn;have big:∀{m:Nat},m<=200->m<=sizeLine:=fun h=>Zf' h (by decide);have cl:(Str.ofString "no voice is written by the row at place ").length=40:=by lk
 have l2:(Str.empty++Str.ofString "no voice is written by the row at place " ++ Str.ofString (toString (n:Int))).length<=200:=by
  rw[PySem.Str.empty_append,PySem.Str.length_append];omega
 refine⟨_,rfl,?_,_,rfl,.inr ⟨_,rfl,OV hn,?_,?_,?_⟩⟩
 ·rw[PySem.Str.empty_append,cl];exact big (by decide)
 ·exact big l2
 ·exact big l2
 refine⟨a,_,rfl,by show 1<=sizeLine;decide,ha,?_⟩;refine⟨_,rfl,_,rfl,a,rfl,ha,fun D hD hne=>q D hD hne⟩
theorem xI {vw:Vw}{rows:List Str}{j:Nat}{v:Vw}:∀(_:bu vw (rows.take j)=(v,none)),bu vw rows=((bu v (rows.drop j)).1,(bu v (rows.drop j)).2.map (· + min j rows.length)):=by
 induction rows generalizing vw j with
 |nil =>
  intro h;have e:v=vw:=by
   rw[List.take_nil]at h;exact(Prod.mk.inj h).1.symm
  subst e;rw[List.drop_nil];rfl
 |cons r rs ih =>
  intro h;cases j with
  |zero =>
   have e:v=vw:=by exact(Prod.mk.inj h).1.symm
   subst e;rw[List.drop_zero];simp
  |succ j =>
   rw[List.take_succ_cons]at h;unfold bu at h;rw[List.drop_succ_cons]
   conv=>lhs;unfold bu
   cases e:kC vw r with
   |none=>rw[e]at h;cases h
   |some q =>
    rw[e]at h;have h':((bu (vw++[q]) (rs.take j)).1,(bu (vw++[q]) (rs.take j)).2.map (· + 1))=(v,none):=h;obtain⟨h1,h2⟩:=Prod.mk.inj h';have h3:(bu (vw++[q]) (rs.take j)).2=none:=by
     cases z:(bu (vw++[q]) (rs.take j)).2 with
     |none=>rfl
     |some _=>rw[z]at h2;cases h2
    have:=ih (vw:=vw++[q]) (j:=j) (Prod.ext h1 h3);show((bu (vw++[q]) rs).1,(bu (vw++[q]) rs).2.map (· + 1))=_;rw[this];refine Prod.ext rfl ?_;show Option.map _ (Option.map _ _)=_;rw[Option.map_map]
    congr 1
    funext m
    show m+min j rs.length+1=m+min (j+1) (rs.length+1);omega
theorem xJ {vw v:Vw}{rows:List Str}{j:Nat}{r:Str}(h:bu vw (rows.take j)=(v,none))(hr:rows[j]? = some r)(hn:kC v r=none):bu vw rows=(v,some j):=by
 have hj:j<rows.length:=(S'.mp hr).1;rw[xI h,List.drop_eq_getElem_cons hj];have e:rows[j]=r:=by
  rw[R' hj]at hr;exact W' hr
 rw[e];unfold bu;rw[hn];show(v,some (0+min j rows.length))=_;rw[show 0+min j rows.length=j by omega]
theorem xK {vw v:Vw}{rows:List Str}{j:Nat}{r:Str}{q:Str×Th}(h:bu vw (rows.take j)=(v,none))(hr:rows[j]? = some r)(hn:kC v r=some q):bu vw (rows.take (j+1))=(v++[q],none):=by
 have hj:j<rows.length:=(S'.mp hr).1;have e:(rows.take (j+1)).take j=rows.take j:=by rw[List.take_take,Nat.min_eq_left (by omega)]
 have d:(rows.take (j+1)).drop j=[r]:=by
  rw[take_succ,hr];show(rows.take j++[r]).drop j=[r];rw[List.drop_append_of_le_length (by rw[length_take];omega),List.drop_eq_nil_of_le (by rw[length_take];omega)];rfl
 have:=xI (vw:=vw) (rows:=rows.take (j+1)) (j:=j) (v:=v) (by rw[e];exact h);rw[this,d];unfold bu;rw[hn];rfl
noncomputable def oi (z:Str):List Str:=if z=Str.empty then [] else Txt.split z "\n"
inductive uE (K:Frag)(t:Hj)(vs:List V)(H:Hp)(Q:VK)(E:XK):Prop
 |mk (z:Str) (cL:vs=[.str z]) (cM:z.length<=90000) (dA:(∀ k,(bu [] (oi z)).2=some k->∀ D H',H' D=some (.xd [("at",.int (k:Int))])->E (.ref t.bI) (some D) H')) (fA:((bu [] (oi z)).2=none->∀ x H',Bw (cs t) H H' x [] (bu [] (oi z)).1 [] []->Q (.ref x) H')):uE K t vs H Q E
theorem uF (T:Txt K w mg t):aR P w K mg base (DZ P w) (0+7) t.xf t.xh ["text"] (uE K t):=by
 have yg:=vL P base T;have qh:=pN P base T;have HM:=Ga P base T;have uG:=rW P base T;refine T.fi.ok2 jq ?_ ?_
 x_go
 obtain⟨z,rfl,zl,qe,q⟩:=h
 skip
 refine aH (ae (cZ 1 jq.nd (LC T.i6.TY yg (iA hr) rfl T.OO T.i6.b .nil fS)) (ae (aI (aq (ba.or (aN (aF hr))) (pv 0) aA (aw _)) (ah (av (pv 1))) ax) (ae (dF PassesOwn.leaving rfl (yk rfl T.gY (cQ plainAttrs_str slot_str_split type_str_split oF (pv 0) (aa aA af))) (fP rfl (aM (kj 2 jq.nd) (aM (kj 3 jq.nd) dU))) (ah (aI (cy (aT (dg T.z6 HM hr (aa (pv 1) (aa (pv 3) af))))) (ah (Bu (fun _ _ z=>Mw z) rfl rfl T.bH.xs uG (iA hr) T.bH.b rfl T.Cm (aa (pv 2) af))) ax))) (ae (aS (lY (pv 1) T.aQ T.fR.me qh (iA hr) T.fR.b .nil fS)) (ah (av (pv 1))))))) ?_;refine mW fun N hN=>?_;intro x dx nx ndx _;refine⟨x,dx,rfl,ag,fun L D U H4 X9 nL nD nU LD LU DU Ya Yb PU Yc=>⟨rfl,?_⟩⟩;have s4:=QZ nx ndx X9;have B4:Bw (cs t) H H4 x [] [] [] []:=Bw.new Ya Yb PU Yc LD LU DU s4 (zb nL) (zb nD) (zb nU);clear X9 nL nD nU LD LU DU Yb PU Yc s4 nx ndx Ya;refine hN _ _ ?_;clear hN N;refine mW fun N hN=>?_;tm_up;unfold oi at q qe;refine aG (fun h=>?_) (fun h=>?_)
 ·have e:z=Str.empty:=V.str.inj (G' h);rw[Zc' e]at q;tm_up;exact q rfl x H4 B4
 have ne:¬ z=Str.empty:=fun e=>h (L' (by rw[e];rfl));rw[Za' ne]at q qe;refine hN _ _ ?_;clear hN N;have sl:=PyProof.Rows.split_le z "\n";have l0:100000<=sizeLine:=by decide
 tm_up;refine⟨rfl,_,_,rfl,rfl,by lk,Zf' (by omega) l0,Zf' (by omega) l0,fun k hk=>?_⟩;have sm:∀ w∈Txt.split z "\n",w.length<=90000:=fun w hw=>by
  have:=mL hw;omega
 generalize Txt.split z "\n" = rows at q qe sl sm;have s5:=ao.upd (o:=.lst (rows.map V.str)) hk;have h5:=ag (H:=H4) (a:=k) (o:=.lst (rows.map V.str));generalize upd H4 k (.lst (rows.map V.str))=H5 at s5 h5;obtain⟨H1,B5,s1,h51⟩:=B4.fresh s5 hk h5;refine⟨k,rfl,⟨_,aL.of h5⟩,sF (K:=K) (xs:=rows.map V.str) (fun j σ H'=>∃(v2 v3:Option V)(ps vw:List _),σ=[some (.str z),some (.ref x),v2,v3]/\Bw (cs t) H1 H' x [] vw ps []/\ps.length<=201 * j/\vw.length=j/\j<=12/\bu [] (rows.take j)=(vw,none))
  ⟨none,none,[],[],rfl,B5,by simp,rfl,by omega,rfl⟩ ?_ ?_ ?_⟩
 ·rintro j σ H6 ⟨_,_,ps,vw,rfl,B6,_⟩;exact aL.of (B6.sm _ _ h51)
 ·rintro j y τ σ H6 hy ⟨_,_,ps,vw,rfl,B6,pl,vl,j12,rr⟩ hτ;obtain⟨row,hq,rfl⟩:∃ row,rows[j]? = some row/\y=.str row:=by
   rw[Zl']at hy;cases e:rows[j]? with
   |none=>rw[e]at hy;cases hy
   |some z=>rw[e]at hy;exact⟨z,rfl,(W' hy).symm⟩
  have s6:=ao.upd (o:=.tup [.int (j:Int),.str row]) hτ;have PX:=ag (H:=H6) (a:=τ) (o:=.tup [.int (j:Int),.str row]);generalize upd H6 τ (.tup [.int (j:Int),.str row])=H7 at s6 PX;have B7:=B6.same s6;refine⟨τ,_,rfl,iQ.of PX,rfl,_,_,rfl,_,_,rfl,rfl,?_⟩;refine⟨_,rfl,_,rfl,x,H1,_,ps,row,rfl,B7,sm row (Zh' hq),by omega,fun en H8=>⟨_,rfl,cX ?_⟩,fun sq es H8 ps' B8 e8=>⟨_,rfl,cf ?_⟩⟩
  ·refine⟨_,rfl,by show 1<=sizeLine;decide,fun a ha=>⟨a,j,rfl,by omega,ag,fun D hD hne=>⟨rfl,D,ag,?_⟩⟩⟩;rw[xJ rr hq en]at qe;refine qe j rfl D _ ?_;rw[cC hne,ak hne,ag]
   try rfl
  ·have nw:=fm (vq es);refine⟨_,_,ps',_,rfl,B8,by omega,by rw[Zd'];show vw.length+1=_;omega,by omega,xK rr hq es⟩
 ·rintro σ H6 ⟨_,_,ps,vw,rfl,B6,_,vl,j12,rr⟩;rw[P',take_length]at rr;rw[rr]at q;obtain⟨WY,L6,D6,U6,WZ⟩:=B6.hx;tm_up;refine⟨x,WY,_,rfl,WZ,qa _ _ _,?_⟩;exact⟨x,H1,_,_,_,rfl,B6,fun H7 B7=>⟨_,rfl,q rfl x H7 (B7.down s1)⟩⟩
theorem Nw (k:Kd):vd k.str "GDsd"=k.du:=by cases k <;> decide +kernel
inductive CC (vs:List V)(H:Hp)(Q:VK)(E:XK):Prop
 |mk (p:Addr) (s:Sg) (cL:vs=[.ref p]) (cM:H p=some (.tup [.str s.1.str,.int s.2])) (dA:ff s) (fA:Q (.str (d4 s)) H):CC vs H Q E
theorem KY (T:Txt K w mg t):aR P w K mg base d3 (0+1) t.Fh t.Fi ["_law_sign"] CC:=by
 refine T.FL.ok Kq ?_ ?_
 x_go
 obtain⟨p,g,rfl,hp,gt,q⟩:=h;have wl:=vm gt;unfold d4 at q wl;rw[<-Nw]at q wl;refine aH (ae (aI (aq (bX.or bW) (bY (pv 0)) aA rfl) (ah (av (aD (aO.or (ay.or aP)) (bY (pv 0)) (bP su rfl T.Hq GX (aa (bY (pv 0)) af))))) ax) (ah (av (bY (pv 0))))) ?_;tm_up;refine aG (fun h=>?_) (fun h=>?_)
 ·have h':vd g.1.str "GDsd"=true:=h;rw[Zc' h']at q wl;have hn:=gt.1 ((Nw g.1).symm.trans h');tm_up;refine⟨Bx hn.1 hn.2,.inr (.inl ⟨_,_,rfl,rfl,?_,q⟩)⟩;rw[PySem.Str.length_append]at wl;exact Zf' wl (by decide)
 ·rw[Za' (show ¬ vd g.1.str "GDsd"=true from h)]at q;tm_up;exact q
inductive pQ (K:Frag)(vs:List V)(H:Hp)(Q:VK)(E:XK):Prop
 |mk (l:Addr) (xs:List V) (ss:List Sg) (cL:vs=[.ref l]) (cM:aL K H l xs) (dA:ia H xs ss) (fA:(∀ s∈ss,ff s)) (ki:ss.length<=200) (Bb:∀ H',ao H H'->Q (.str (IW ss)) H'):pQ K vs H Q E
theorem As (T:Txt K w mg t):aR P w K mg base d3 (0+2) t.qz t.qA ["_law_line_here"] (pQ K):=by
 have Nx:=KY P base T;refine T.qH.ok zo ?_ ?_
 x_go
 obtain⟨l,xs,ss,rfl,hS,g,gd,hl,q⟩:=h;refine aH (ah (av (cQ plainAttrs_str slot_str_join type_str_join pW aA (aa (eB (cn:=["_law_sign"]) rfl (b8.of rfl) (dz (pv 0)) (fun _=>(bZ (i:=0) vA rfl (Or.inl rfl))) (fun _=>eZ) (fun _=>(dg T.FL Nx hr (aa (pv 0) af)))) af)))) ?_;have ex:=cE g;have w3:=jO gd;refine⟨rfl,_,rfl,l,rfl,⟨_,hS⟩,fun D b hD=>?_⟩;refine dH (K:=K) (xs:=xs) (fun i ys σ H'=>∃ v,σ=[v,some (.ref l)]/\H'=upd H D (.lst ys)/\ys=((ss.take i).map d4).map V.str) ⟨none,rfl,rfl,by simp⟩ ?_ ?_ ?_
 ·rintro i ys σ H' ⟨v,rfl,rfl,rfl⟩;exact dX hS hD
 ·rintro i ys x σ H' hx ⟨v,rfl,rfl,rfl⟩ N hN;obtain⟨sg,e1,p,rfl,hp⟩:=oK g hx;have hi:i<ss.length:=(S'.mp e1).1;refine bT ?_;refine⟨_,rfl,p,sg,rfl,(by rw[ak (au hp hD)];exact hp),gd sg (Zh' e1),ag,?_,?_⟩
  ·rw[P',P',length_take];exact aJ (by omega)
  ·refine hN _ _ _ ⟨_,rfl,cq,?_⟩;rw[take_succ,e1];simp
 ·rintro ys σ H' ⟨v,rfl,rfl,rfl⟩;rw[ex,take_length];refine⟨_,D,ss.map d4,rfl,rfl,aL.of ag,?_,q _ (ao.upd hD)⟩;have e:(Str.ofString " ").length=1:=by lk
  rw[e,P'];omega
theorem yh {K:Frag}{H:Hp}{p:Addr}{a b c d:V}{i:Nat}{v:V}{Q:VK}(h:H p=some (.tup [a,b,c,d]))(e:[a,b,c,d][i]? = some v)(q:Q v H):CW K (.ref p) (.int (i:Int)) H Q\/CY K (.ref p) (.int (i:Int)) H Q\/CZ (.ref p) (.int (i:Int)) H Q:=.inr (.inl ⟨p,_,i,v,rfl,rfl,iQ.of h,eQ e,q⟩)
theorem join_le (d:Str):∀ xs:List Str,(Str.join d xs).length<=(xs.map (·.length)).sum+xs.length * d.length
 |[]=>by show(0:Nat)<=_;omega
 |[a]=>by
  show a.length<=a.length+0+1 * d.length;omega
 |a::b::t=>by
  have ih:=join_le d (b::t);rw[join_cons,PySem.Str.length_append,PySem.Str.length_append];simp only [map_cons,List.sum_cons,Zk']at ih ⊢;rw[Nat.add_mul,Nat.one_mul];omega
theorem CF {ss:List Sg}(gd:∀ s∈ss,ff s):(IW ss).length<=4 * ss.length:=by
 have:=join_le " " (ss.map d4);have w:=jO gd;have e:(Str.ofString " ").length=1:=by lk
 rw[e,P']at this;unfold IW;omega
inductive xM (K:Frag)(vs:List V)(H:Hp)(Q:VK)(E:XK):Prop
 |mk (n:Str) (v:V) (th:Th) (cL:vs=[.str n,v]) (cM:MJ H v th) (dA:n.length<=1000) (fA:(∀ ss,th=.pl ss->ss.length<=200/\∀ s∈ss,ff s)) (ki:(∀ ld lt sl tn,th=.cn ld lt sl tn->ld.length<=1000/\0<=lt/\lt<=999/\1<=sl/\sl<=9)) (Bb:∀ H',ao H H'->Q (.str (mX (n,th))) H'):xM K vs H Q E
theorem Gd (T:Txt K w mg t):aR P w K mg base d3 (0+3) t.zE t.zF ["_law_name","_law_thing"] (xM K):=by
 have A0:=As P base T;refine T.z8.ok wG ?_ ?_
 x_go
 obtain⟨n,v,th,rfl,hv,hn,hp,hc,q⟩:=h;refine aH (ae (aI (aT (aE cK rfl T.aV aU (aa (pv 1) (aa (dS (v:=.ty "tuple") rfl T.zX yE rfl) af)))) (ae (cZ 2 wG.nd (bJ (cu (aT (bY (pv 1))) aA aA))) (ah (av (sC (bx eI (bx (gO (pv 0)) (bx eI (bx (gO (bY (pv 1))) (bx eI (bx (gO (bY (pv 1))) (bx eI (bx (gO (bY (pv 1))) (bx eI (bx (gO (pv 2)) sy)))))))))))))) ax) (ah (av (bJ (cu (aq (Md (aF hr)) (pv 1) (bC af) (aw _)) (aD (aO.or (ay.or aP)) aA (pv 0)) (aD (aO.or (ay.or aP)) (aD (aO.or (ay.or aP)) (aD (aO.or (ay.or aP)) aA (pv 0)) aA) (dg T.qH A0 hr (aa (pv 1) af)))))))) ?_;cases th with
 |pl ss =>
  obtain⟨l,ys,rfl,hl,g⟩:=hv;obtain⟨sl,gd⟩:=hp ss rfl;refine⟨_,rfl,_,_,_,_,rfl,eY.lst hl,rfl,_,rfl,cf ?_⟩;have yl:=cE g;have e6:(Str.ofString "voice ").length=6:=by lk
  have e1:(Str.ofString " ").length=1:=by lk
  have big:∀{n:Nat},n<=9000->n<=sizeLine:=fun h=>Zf' h (by decide);refine⟨fun v H'=>v=.str (mX (n,.pl ss))/\ao H H',?_,?_⟩
  ·refine⟨_,rfl,by show 0<=sizeLine;decide,fun d hd=>?_⟩;have sd:=ao.upd (o:=.lst []) hd;have hd':=ag (H:=H) (a:=d) (o:=.lst []);generalize upd H d (.lst [])=H1 at sd hd';refine⟨l,d,ys,rfl,rfl,aL.of (sd _ _ hl),aL.of hd',_,rfl,?_⟩;cases ss with
   |nil =>
    cases ys with
    |cons y ys=>exact nomatch yl
    |nil =>
     refine cX ⟨_,rfl,.inr (.inl ⟨_,_,rfl,rfl,big (by rw[e6];omega),?_,sd⟩)⟩;rw[IX]
   |cons s ss =>
    cases ys with
    |nil=>exact nomatch yl
    |cons y ys =>
     have tl:=CF gd;refine cf ⟨_,rfl,.inr (.inl ⟨_,_,rfl,rfl,big (by rw[e6];omega),.inr (.inl ⟨_,_,rfl,rfl,big (by rw[PySem.Str.length_append,e6,e1];omega),?_⟩)⟩)⟩;refine⟨_,rfl,l,y::ys,s::ss,rfl,aL.of (sd _ _ hl),g.same sd,gd,sl,fun H2 s2=>?_⟩;refine .inr (.inl ⟨_,_,rfl,rfl,big (by rw[PySem.Str.length_append,PySem.Str.length_append,e6,e1];omega),?_,sd.trans s2⟩);rw[EO]
  rintro v H' ⟨rfl,s'⟩;exact q H' s'
 |cn ld lt sl tn =>
  obtain⟨p,rfl,h4⟩:=hv;obtain⟨uU,a1,a2,a3,a4⟩:=hc ld lt sl tn rfl;refine⟨_,rfl,_,_,_,_,rfl,eY.tup h4,rfl,_,rfl,cX ?_⟩;refine⟨fun v H'=>v=.str (oQ tn)/\H'=H,?_,?_⟩
  ·refine⟨_,rfl,yh (i:=3) h4 rfl ⟨_,rfl,?_⟩⟩;unfold oQ;cases tn
   ·exact cf ⟨rfl,rfl⟩
   ·exact cX ⟨rfl,rfl⟩
  intro v H' e;obtain⟨e1,e2⟩:=e;subst e1 e2;have f4:(Str.ofString (toString lt)).length<=3:=EN a1 (by omega);have f5:(Str.ofString (toString sl)).length<=3:=EN (by omega) (by omega);have f7:(oQ tn).length<=8:=by cases tn <;> decide +kernel
  have e6:(Str.ofString "canon ").length=6:=by lk
  have e1:(Str.ofString " ").length=1:=by lk
  have e0:Str.empty.length=0:=by lk
  have big:∀{n:Nat},n<=3000->n<=sizeLine:=fun h=>Zf' h (by decide);refine⟨?_,_,rfl,.inl ⟨_,rfl,?_,?_,?_,_,rfl,yh (i:=0) h4 rfl (.inl ⟨_,rfl,?_,?_,?_,_,rfl,yh (i:=1) h4 rfl (.inr ⟨_,rfl,MR a1 (by omega),?_,?_,_,rfl,yh (i:=2) h4 rfl (.inr ⟨_,rfl,MR (by omega) (by omega),?_,?_,_,rfl,.inl ⟨_,rfl,?_,?_,?_,?_⟩⟩)⟩)⟩)⟩⟩
  all_goals try (refine big ?_;(try simp only [PySem.Str.length_append]);omega)
  rw[PySem.Str.empty_append];exact q _ (ao.refl _)
inductive qQ (c:Cs)(vs:List V)(H:Hp)(Q:VK)(E:XK):Prop
 |mk (x:Addr) (F:Addr->Prop) (vw:Vw) (ps fs:List Vw) (n:Str) (cL:vs=[.ref x,.str n]) (cM:yp c H x F vw ps fs) (dA:match bj vw n with
 |none=>RX E c .gi H
 |some (.pl _)=>Q .non H
 |some (.cn ld lt sl tn)=>∀ p,H p=some (.tup [.str ld,.int lt,.int sl,.bl tn])->Q (.ref p) H):qQ c vs H Q E
theorem gb (T:Txt K w mg t):aR P w K mg base (hZ P w) (0+2) t.tQ t.tR ["self","name"] (qQ (cs t)):=by
 have bN:=dQ P base T;refine T.bR.GY qu ?_ ?_
 x_go
 obtain⟨x,F,vw,ps,fs,n,rfl,B,q⟩:=h;refine aH (ah (av (dR (dr (X:=(sf T.bR.1 qu (hZ P w) P w mg base cdv A outer s H E)) (pv 0) T.aQ T.a9.me bN (iA hr) T.a9.b .nil (fun _ _ z=>Or.inl z) (aa (pv 1) af)) rfl))) ?_;obtain⟨L,D,U,all,M,Ps,Fs,es,us,b,iM,pp,pf,f⟩:=B.ex;obtain⟨dx,hx⟩:=b.hx;obtain⟨vx,g,gv⟩:=b.vk iM;refine⟨_,rfl,x,dx,_,rfl,hx,dY _ _ _,_,rfl,x,dx,L,D,U,M L,vx,n,rfl,hx,b.hL,g,?_⟩;rcases EK gv (fun _ _ r=>r.2.1) n with ⟨f1,f2⟩|⟨a,th,j,f1,f2,r,an,fj,fw⟩
 ·rw[f1];rw[f2]at q;exact q
 rw[f1];rw[f2]at q;refine⟨a.o,_,a.d,_,_,rfl,(b.ha a r.1).1,T.f6,T.j5,Bv _ _ _,?_⟩;cases th with
 |pl ss=>rw[r.2.2.1];exact q
 |cn ld lt sl tn =>
  obtain⟨p,e1,e2⟩:=r.2.2;rw[e1];exact q p e2
inductive rX (vs:List V)(H:Hp)(Q:VK)(E:XK):Prop
 |mk (n:Int) (cL:vs=[.int n]) (cM:Q (.bl true) H):rX vs H Q E
theorem nu (T:Txt K w mg t):aR P w K mg base d3 (0+1) t.vD t.vE ["_law_found"] rX:=by
 refine T.fH.ok zp ?_ ?_
 x_go
 obtain⟨n,rfl,q⟩:=h;refine aH (ah (av (bJ (eX (aE cK rfl T.aV aU (aa (pv 0) (aa (dS (v:=.ty "int") rfl T.j1 jF rfl) af))) (gm (Lj (aE cK rfl T.aV aU (aa (pv 0) (aa (dS (v:=.ty "bool") rfl T.DA C4 rfl) af))))))))) ?_;refine rb (.bl true) ?_ q;exact⟨_,rfl,_,_,_,_,rfl,eY.int _,rfl,_,rfl,cX ⟨_,rfl,_,_,_,_,rfl,eY.int _,rfl,_,rfl,i0 rfl⟩⟩
theorem Ge (T:Txt K w mg t):IJ P w K mg base (0+1) t.vD t.vE ["_law_found"] rX:=by
 refine T.fH.Ze zp (fun vs H Q E h=>?_) (fun cdv A ea outer s H vs Q hr h=>?_)
 ·obtain⟨_,rfl,_⟩:=h;rfl
 ·obtain⟨n,rfl,q⟩:=h;refine aH (ah (av (bJ (eX (aE cK rfl T.aV aU (aa (pv 0) (aa (dS (v:=.ty "int") rfl T.j1 jF rfl) af))) (gm (Lj (aE cK rfl T.aV aU (aa (pv 0) (aa (dS (v:=.ty "bool") rfl T.DA C4 rfl) af))))))))) ?_;refine rb (.bl true) ?_ q;exact⟨_,rfl,_,_,_,_,rfl,eY.int _,rfl,_,rfl,cX ⟨_,rfl,_,_,_,_,rfl,eY.int _,rfl,_,rfl,i0 rfl⟩⟩
inductive Au (K:Frag)(vs:List V)(H:Hp)(Q:VK)(E:XK):Prop
 |mk (l1 l2:Addr) (xs ys:List V) (ss:List Sg) (cL:vs=[.ref l1,.ref l2]) (cM:H l1=some (.lst xs)) (dA:aL K H l2 ys) (fA:ia H xs ss) (ki:ia H ys ss) (Bb:∀ H',ao H H'->Q (.bl true) H'):Au K vs H Q E
theorem HN (T:Txt K w mg t):aR P w K mg base d3 (0+2) t.Ca t.Cb ["_law_found","_law_due"] (Au K):=by
 have iG:=nu P base T;refine T.Cq.ok rG ?_ ?_
 x_go
 obtain⟨l1,l2,xs,ys,ss,rfl,h1,h2,g1,g2,q⟩:=h;have el:xs.length=ys.length:=(cE g1).trans (cE g2).symm;refine aH (ae (aI (bq (PW.pt (dj (cy (aT (aE cK rfl T.aV aU (aa (pv 0) (aa (dS (v:=.ty "list") rfl T.fG fE rfl) af))))) (cT (aq (iR.or (fb (aF hr))) (aE (aB.or aC) rfl T.bg bf (aa (pv 0) af)) (aE (aB.or aC) rfl T.bg bf (aa (pv 1) af)) (aw _)))))) (ah (av di)) ax) (ae (dF PassesOwn.never rfl (Qw rfl T.Nf (pv 0) (pv 1)) (fP rfl (aM (kj 2 rG.nd) (aM (kj 3 rG.nd) dU))) (ae (aI (bq (PW.pt (dj (cy (aT (aE cK rfl T.aV aU (aa (pv 2) (aa (dS (v:=.ty "tuple") rfl T.zX yE rfl) af))))) (cT (aq (iR.or (fb (aF hr))) (aE (aB.or aC) rfl T.bg bf (aa (pv 2) af)) ai (aw _)))))) (ah (av di)) ax) (ah (aI (bq (PW.pt (dj (cy (aT (aE cK rfl T.aV aU (aa (bY (pv 2)) (aa (dS (v:=.ty "str") rfl T.Hq GX rfl) af))))) (dj (cy (aT (dg T.fH iG hr (aa (bY (pv 2)) af)))) (cT (aq (iR.or (fb (aF hr))) (pv 2) (pv 3) (aw _))))))) (ah (av di)) ax)))) (ah (av di)))) ?_;refine dG false ?_ ?_
 ·tm_up;refine⟨_,_,_,_,rfl,eY.lst h1,rfl,_,rfl,cf ?_⟩;tm_up;refine .inl ⟨_,_,rfl,.inl (aL.of h1),?_⟩;tm_up;refine .inl ⟨_,_,rfl,.inl h2,?_⟩;tm_up;exact bD (by rw[el];simp)
 refine cf ?_;tm_up;refine⟨⟨_,aL.of h1⟩,⟨_,h2⟩,N9 (K:=K) (xs:=xs) (ys:=ys) (fun i σ H'=>∃ v1 v2,σ=[some (.ref l1),some (.ref l2),v1,v2]/\ao H H') el ⟨none,none,rfl,ao.refl _⟩ ?_ ?_ ?_⟩
 ·rintro i σ H' ⟨v1,v2,rfl,s2⟩;exact⟨s2.seq (aL.of h1),s2.seq h2⟩
 ·rintro i x y tt σ H' hx hy ⟨v1,v2,rfl,s2⟩ hn;obtain⟨sg,e1,p,rfl,hp⟩:=oK g1 hx;obtain⟨sg',e2,p2,rfl,hp2⟩:=oK g2 hy;have es:sg'=sg:=W' (e2.symm.trans e1);subst es;have s3:ao H (upd H' tt (.tup [.ref p,.ref p2])):=s2.trans (ao.upd hn);have hp':=s3 _ _ hp;have hp2':=s3 _ _ hp2;refine⟨tt,_,rfl,iQ.of ag,rfl,_,_,rfl,_,_,rfl,rfl,?_⟩;generalize upd H' tt (.tup [.ref p,.ref p2])=H3 at s3 hp' hp2';refine dG false ?_ ?_
  ·tm_up;refine⟨_,_,_,_,rfl,eY.tup hp',rfl,_,rfl,cf ?_⟩;tm_up;refine .inl ⟨_,_,rfl,.inr (iQ.of hp'),?_⟩;tm_up;exact bD rfl
  refine cf ?_;refine dG false ?_ ?_
  ·tm_up;refine⟨_,_,_,_,rfl,eY.str _,rfl,_,rfl,cf ?_⟩;tm_up;refine⟨Tx 59 hp' hp2',?_⟩;tm_up;exact bD rfl
  refine cf ?_;exact⟨_,_,rfl,s3⟩
 ·rintro σ H' ⟨v1,v2,rfl,s2⟩;exact q _ s2
inductive CG (K:Frag)(vs:List V)(H:Hp)(Q:VK)(E:XK):Prop
 |mk (f d:Addr) (fs ds:List Int) (cL:vs=[.ref f,.ref d]) (cM:H f=some (.lst (fs.map V.int))) (dA:aL K H d (ds.map V.int)) (fA:ds.length<=1000) (ki:Q (.bl (decide (fs=ds))) H):CG K vs H Q E
theorem KZ (T:Txt K w mg t):aR P w K mg base d3 (0+2) t.Fj t.Fl ["_law_found","_law_due"] (CG K):=by
 have iG:=nu P base T;refine T.FN.ok BO ?_ ?_
 x_go
 obtain⟨f,d,fs,ds,rfl,hf,hd,hn,q⟩:=h;refine aH (ae (aI (bq (PW.pt (dj (cy (aT (aE cK rfl T.aV aU (aa (pv 0) (aa (dS (v:=.ty "list") rfl T.fG fE rfl) af))))) (cT (aq (iR.or (fb (aF hr))) (aE (aB.or aC) rfl T.bg bf (aa (pv 0) af)) (aE (aB.or aC) rfl T.bg bf (aa (pv 1) af)) (aw _)))))) (ah (av di)) ax) (ae (dF PassesOwn.never rfl (ip rfl T.gZ (aa (aE (aB.or aC) rfl T.bg bf (aa (pv 1) af)) af)) (kj 2 BO.nd) (ah (aI (bq (PW.pt (dj (cy (aT (dg T.fH iG hr (aa (bL bo (pv 0) (pv 2) (fun _ _=>rfl)) af)))) (cT (aq (iR.or (fb (aF hr))) (bL bo (pv 0) (pv 2) (fun _ _=>rfl)) (bL bo (pv 1) (pv 2) (fun _ _=>rfl)) (aw _)))))) (ah (av di)) ax))) (ah (av di)))) ?_;refine dG (decide (fs.length≠ds.length)) ?_ ?_
 ·tm_up;refine⟨_,_,_,_,rfl,eY.lst hf,rfl,_,rfl,?_⟩;refine cf ?_;tm_up;refine .inl ⟨_,_,rfl,.inl (aL.of hf),?_⟩;tm_up;refine .inl ⟨_,_,rfl,.inl hd,?_⟩;tm_up;rw[P',P'];refine bD ?_;rw[dq]
  by_cases e:fs.length=ds.length
  ·simp[e]
  ·have:¬((fs.length:Int)=(ds.length:Int)):=by omega
   simp[e,this]
 ·refine aG (fun h=>?_) (fun h=>?_)
  ·have e:fs≠ds:=fun z=>by
    have:=G' h;rw[z]at this;exact this rfl
   rw[V' e]at q;exact q
  ·have el:fs.length=ds.length:=by
    by_cases e:fs.length=ds.length
    ·exact e
    ·exact j' (L' e) h
   tm_up;refine .inl ⟨_,_,rfl,.inl hd,?_⟩;rw[P'];have Jt:(2:Int) ^ 62=4611686018427387904:=by decide
   refine⟨(ds.length:Int),rfl,by rw[Jt];omega,by rw[Jt];omega,?_⟩;refine jv (n:=((ds.length:Int)).toNat) (fun i σ H'=>∃ v,σ=[some (.ref f),some (.ref d),v]/\H'=H/\fs.take i=ds.take i) ⟨none,rfl,rfl,rfl⟩ ?_ ?_
   ·rintro i σ H' hi ⟨v,rfl,rfl,ht⟩;have hid:i<ds.length:=by omega
    have hif:i<fs.length:=by omega
    refine dG (decide (fs[i]≠ds[i])) ?_ ?_
    ·tm_up;refine MB (aL.of hf) (n:=i) (by omega) (R' hif) ?_;tm_up;refine MB (aL.of hf) (n:=i) (by omega) (R' hif) ?_;tm_up;refine MB hd (n:=i) (by omega) (R' hid) ?_;tm_up;refine bD ?_;rw[dq];simp
    ·refine aG (fun h=>?_) (fun h=>?_)
     ·have e:fs≠ds:=fun z=>by
       subst z;exact(G' h) rfl
      rw[V' e]at q;exact q
     ·have e:fs[i]=ds[i]:=by
       by_cases z:fs[i]=ds[i]
       ·exact z
       ·exact j' (L' z) h
      refine⟨_,rfl,rfl,?_⟩;rw[List.take_succ_eq_append_getElem hif,List.take_succ_eq_append_getElem hid,ht,e]
   ·rintro σ H' ⟨v,rfl,rfl,ht⟩;have e:fs=ds:=by
     have h1:((ds.length:Int)).toNat=ds.length:=by omega
     rw[h1,take_length,<-el,take_length]at ht;exact ht
    rw[L' e]at q;exact q
inductive xO (K:Frag)(vs:List V)(H:Hp)(Q:VK)(E:XK):Prop
 |mk (l:Addr) (b:Int) (xs:List V) (ss:List Sg) (cL:vs=[.ref l,.int b]) (cM:aL K H l xs) (dA:ia H xs ss) (fA:ss.length<=400) (ki:∀(f:Addr)(H':Hp),ao H H'->H f=none->H' f=some (.lst ((eS b (bc ss)).map V.int))->Q (.ref f) H'):xO K vs H Q E
theorem Ua {k:Kd}(h:k.meas=true)(m:Int):intText? k.str=some (nm m k)/\k.str.length<=640:=by
 cases k <;> first|(cases h;done)|exact⟨by first|exact(show intText? Kd.three.str=some 3 by lk)|exact(show intText? Kd.two.str=some 2 by lk),by lk⟩
theorem Rz {k:Kd}(h:¬ k.meas=true)(m:Int):nm m k=m:=by
 cases k <;> first|rfl|exact j' rfl h
theorem xP (T:Txt K w mg t):aR P w K mg base d3 (0+2) t.zG t.rM ["line","begin"] (xO K):=by
 have kf:=oh P base T;refine T.gw.ok iV ?_ ?_
 x_go
 obtain⟨l,b,xs,ss,rfl,hS,hg,hn,q⟩:=h;refine aH (ae (cZ 2 iV.nd (bC af)) (ae (cZ 3 iV.nd (pv 1)) (ae (dF PassesOwn.never rfl (dz (pv 0)) (kj 4 iV.nd) (ae (gQ (aI (aT (dg T.j3 kf hr (aa (pv 4) af))) (ah (cZ 3 iV.nd (bP (fB.or cG) rfl T.j1 jF (aa (bY (pv 4)) af)))) ax)) (ah (aS (cQ Zj' slot_list_append Zp' bp (pv 2) (aa (pv 3) af)))))) (ah (av (pv 2)))))) ?_;refine⟨big (by show 0<=1000;omega),fun f hf=>?_⟩;tm_up;refine⟨⟨xs,dX hS hf⟩,lX (K:=K) (xs:=xs) (fun i σ H'=>∃(m:Int)(v:Option V)(fs:List Int),σ=[some (.ref l),some (.int b),some (.ref f),some (.int m),v]/\H'=upd H f (.lst (fs.map V.int))/\fs++eS m ((bc ss).drop i)=eS b (bc ss))
  ⟨b,none,[],rfl,rfl,rfl⟩ ?_ ?_ ?_⟩
 ·rintro i σ H' _ ⟨m,v,fs,rfl,rfl,_⟩;exact dX hS hf
 ·rintro i x σ H' hx ⟨m,v,fs,rfl,rfl,hm⟩;obtain⟨s,hs,p,rfl,hp⟩:=oK hg hx;have hd:=jj (oN (f:=Prod.fst) hs);rw[hd]at hm;have hp':upd H f (.lst (fs.map V.int)) p=some (.tup [.str s.1.str,.int s.2]):=by rw[ak (au hp hf)];exact hp
  have hl:=Zn' List.length hm;simp only [Zd',eS,Zk',vf,P']at hl;refine Mc [some (.ref l),some (.int b),some (.ref f),some (.int (nm m s.1)),some (.ref p)] (upd H f (.lst (fs.map V.int))) ?_ ?_
  ·refine⟨_,rfl,p,s,rfl,hp',_,rfl,?_⟩;refine aG (fun h=>?_) (fun h=>?_)
   ·obtain⟨e1,e2⟩:=Ua h m;tm_up;exact .inr ⟨_,_,rfl,e1,e2,rfl,rfl⟩
   ·rw[Rz h];exact⟨rfl,rfl⟩
  ·tm_up;refine⟨.inl ⟨rfl,_,aL.of ag⟩,?_⟩;tm_up;refine⟨_,_,_,rfl,rfl,ag,by rw[P'];exact aJ (by omega),?_⟩;exact⟨_,_,fs++[nm m s.1],rfl,by rw[cq,map_append];rfl,by rw[List.append_assoc];exact hm⟩
 ·rintro σ H' ⟨m,v,fs,rfl,rfl,hm⟩;rw[List.drop_eq_nil_of_le (by rw[P',cE hg];exact X' _)]at hm;tm_up;have e:fs=eS b (bc ss):=by rw[<-hm];simp[eS]
  subst e;exact q f _ (ao.upd hf) hf ag
inductive Av (K:Frag)(vs:List V)(H:Hp)(Q:VK)(E:XK):Prop
 |mk (l:Addr) (i:Int) (xs:List V) (ss:List Sg) (cL:vs=[.ref l,.int i]) (cM:aL K H l xs) (dA:ia H xs ss) (fA:Q (.str (kx (Df (bc ss) i))) H):Av K vs H Q E
theorem nC (T:Txt K w mg t):aR P w K mg base d3 (0+1) t.Cc t.Cd ["line","at"] (Av K):=by
 refine T.fJ.ok Hi ?_ ?_
 x_go
 obtain⟨l,i,xs,ss,rfl,hS,hg,q⟩:=h;have out:¬(0<=i/\i<ss.length)->Df (bc ss) i=none:=fun z=>by
  unfold Df;split
  ·exact List.getElem?_eq_none (by rw[P'];omega)
  ·rfl
 refine aH (ae (aI (oB ko gK ai (pv 1) (aE (aB.or aC) rfl T.bg bf (aa (pv 0) af))) (ah (av (bL bo (bL bo (pv 0) (pv 1) (fun _ _=>rfl)) ai (fun _ _=>rfl)))) ax) (ah (av aA))) ?_;tm_up;refine aG (fun h0=>?_) (fun h0=>?_)
 ·have h0':=G' h0;tm_up;refine .inl ⟨_,_,rfl,.inl hS,?_⟩;rw[cE hg];tm_up;refine aG (fun h1=>?_) (fun h1=>?_)
  ·have h1':=G' h1;have hi:i.toNat<ss.length:=by omega
   have e:Df (bc ss) i=some (ss[i.toNat]).1:=by
    unfold Df;rw[Zc' h0',Zl',R' hi];rfl
   rw[e]at q;tm_up;refine AN hS hg (n:=i.toNat) (by omega) (R' hi) fun b hb=>?_;tm_up;exact q
  ·rw[out fun z=>h1 (L' z.2)]at q;exact q
 ·rw[out fun z=>h0 (L' z.1)]at q;exact⟨_,rfl,cf q⟩
inductive pR (vs:List V)(H:Hp)(Q:VK)(E:XK):Prop
 |mk (k:Kd) (m:Int) (cL:vs=[.str k.str,.int m]) (cM:Q (.int (pw k m)) H):pR vs H Q E
theorem Aw (T:Txt K w mg t):aR P w K mg base d3 (0+1) t.qB t.qC ["kind","measure"] pR:=by
 refine T.qI.ok zq ?_ ?_
 x_go
 obtain⟨k,m,rfl,q⟩:=h;refine aH (ae (aI (bq (PW.pt (cN (aq (ba.or (aN (aF hr))) (pv 1) ai (aw _)) (dJ (aq L9 (pv 0) (aZ (v:=.ref t.fF) rfl T.mJ rfl) rfl))))) (ah (av (bL Ma (aZ (v:=.ref t.fF) rfl T.mJ rfl) (pv 0) (fun _ _=>rfl)))) ax) (ah (av (bL Ma (aZ (v:=.ref t.j0) rfl T.zU rfl) (pv 0) (fun _ _=>rfl))))) ?_;refine dG (decide (m=2)&&(decide (k=.G)||decide (k=.R))) ?_ ?_
 ·tm_up;rw[dq];refine aG (fun h=>?_) (fun h=>?_)
  ·tm_up;refine⟨_,_,_,rfl,rfl,T.lC,_,rfl,bD ?_⟩;rw[h];cases k <;> decide +kernel
  ·exact bD (by rw[Y'.mpr h];rfl)
 ·refine aG (fun h=>?_) (fun h=>?_)
  ·tm_up;obtain⟨h1,h2⟩:=Bool.and_eq_true_iff.mp h;have hm:=G' h1;have e:[(Str.ofString "G",V.int 2),(Str.ofString "R",V.int 2)].lookup k.str=some (.int (pw k m)):=by
    rw[hm];cases k <;> first|decide +kernel|(exfalso;revert h2;decide)
   exact⟨_,_,_,_,rfl,rfl,T.lC,e,q⟩
  ·tm_up;have e:[(Str.ofString "G",V.int 3),(Str.ofString "D",V.int 2),(Str.ofString "R",V.int 3),(Str.ofString "s",V.int 1),(Str.ofString "d",V.int 1),(Str.ofString "r",V.int 1),(Str.ofString ".",V.int 0),(Str.ofString "3",V.int 0),(Str.ofString "2",V.int 0)].lookup k.str=some (.int (pw k m)):=by
    by_cases hm:m=2
    ·rw[hm]at h ⊢;cases k <;> first|decide +kernel|(exfalso;revert h;decide)
    ·cases k <;> first|decide +kernel|(simp only [pw,Za' hm];decide +kernel)
   exact⟨_,_,_,_,rfl,rfl,T.ye,e,q⟩
inductive hV (K:Frag)(vs:List V)(H:Hp)(Q:VK)(E:XK):Prop
 |mk (l:Addr) (b:Int) (xs:List V) (ss:List Sg) (cL:vs=[.ref l,.int b]) (cM:aL K H l xs) (dA:ia H xs ss) (fA:ss.length<=400) (ki:∀(f:Addr)(H':Hp),ao H H'->H f=none->H' f=some (.lst ((fc b (bc ss)).map V.int))->Q (.ref f) H'):hV K vs H Q E
theorem nE (T:Txt K w mg t):aR P w K mg base d3 (0+3) t.ij t.ik ["line","begin"] (hV K):=by
 have rY:=xP P base T;have ej:=nC P base T;have A1:=Aw P base T;refine T.il.ok cY ?_ ?_
 x_go
 obtain⟨l,b,xs,ss,rfl,hS,hg,hn,q⟩:=h;refine aH (ae (cZ 2 cY.nd (bC af)) (ae (dF PassesOwn.never rfl (yk rfl T.gY (kq rY (iA hr) rfl T.gw.g T.gw.kp T.Ak .nil fS (aa (pv 0) (aa (pv 1) af)))) (fP rfl (aM (kj 3 cY.nd) (aM (kj 4 cY.nd) dU))) (ah (aI (bq (PW.pt (cN (aq (ba.or (aN (aF hr))) (pv 4) ai (aw _)) (cN (aq (ba.or (aN (aF hr))) (dg T.fJ ej hr (aa (pv 0) (aa (pv 3) af))) aA (aw _)) (dJ (aq (ba.or (aN (aF hr))) (dg T.fJ ej hr (aa (pv 0) (aa (aD (aO.or (ay.or aP)) (pv 3) ai) af))) aA (aw _))))))) (ah (aS (cQ Zj' slot_list_append Zp' bp (pv 2) (aa (aZ (v:=.int 3) rfl T.zV ⟨_,rfl⟩) af)))) (ah (aS (cQ Zj' slot_list_append Zp' bp (pv 2) (aa (dg T.qI A1 hr (aa (dg T.fJ ej hr (aa (pv 0) (aa (pv 3) af))) (aa (pv 4) af))) af))))))) (ah (av (pv 2))))) ?_;refine⟨big (by show 0<=1000;omega),fun f hf=>?_⟩;tm_up;refine⟨l,b,xs,ss,rfl,dX hS hf,hg.same (ao.upd hf),hn,fun f2 H2 s2 n2 h2=>⟨_,rfl,⟨_,aL.of h2⟩,?_⟩⟩;have ml:(eS b (bc ss)).length=ss.length:=by rw[vf,P']
 have W0:f2≠f:=fun e=>by rw[e,ag]at n2;cases n2
 refine sF (K:=K) (xs:=(eS b (bc ss)).map V.int) (fun i σ H'=>∃(v w:Option V)(fs:List Int),σ=[some (.ref l),some (.int b),some (.ref f),v,w]/\ao H H'/\H' f=some (.lst (fs.map V.int))/\H' f2=some (.lst ((eS b (bc ss)).map V.int))/\fs++rq ((bc ss).drop i) ((eS b (bc ss)).drop i)=fc b (bc ss))
  ⟨none,none,[],rfl,(ao.upd hf).trans s2,s2 _ _ ag,h2,EC ..⟩ ?_ ?_ ?_
 ·rintro i σ H' ⟨v,w,fs,rfl,_,_,h3,_⟩;exact aL.of h3
 ·rintro i x t σ H' hx ⟨v,w,fs,rfl,s3,h3,h4,hm⟩ ht;obtain⟨m,hm1,rfl⟩:=ve hx;have hil:i<ss.length:=by
   have:=(S'.mp hm1).1;omega
  have hk:(bc ss)[i]? = some (ss[i]).1:=oN (R' hil);rw[jj hk,jj hm1]at hm;simp only [rq,head_drop]at hm;have hl:=Zn' List.length hm;simp only [Zd',Zk',mj,P']at hl;have sT:ao H' (upd H' t (.tup [.int i,.int m])):=ao.upd ht;have hS':aL K (upd H' t (.tup [.int i,.int m])) l xs:=(s3.trans sT).seq hS;have hg':=hg.same (s3.trans sT);have h3':=sT _ _ h3;have ka:Df (bc ss) (i:Int)=some (ss[i]).1:=by rw[ky];exact hk
  have kb:Df (bc ss) ((i:Int)+1)=(bc ss)[i+1]?:=by rw[<-ky];rfl
  refine⟨t,_,rfl,iQ.of ag,rfl,_,_,rfl,_,_,rfl,rfl,?_⟩;have fin:∀ z:Int,z=bw m (ss[i]).1 (bc ss)[i+1]?->∃(v w:Option V)(fs':List Int),[some (V.ref l),some (V.int b),some (V.ref f),some (V.int (i:Int)),some (V.int m)]=[some (.ref l),some (.int b),some (.ref f),v,w]/\ao H (upd (upd H' t (.tup [.int i,.int m])) f (.lst (fs.map V.int++[V.int z]))) /\
    (upd (upd H' t (.tup [.int i,.int m])) f (.lst (fs.map V.int++[V.int z]))) f=some (.lst (fs'.map V.int))/\(upd (upd H' t (.tup [.int i,.int m])) f (.lst (fs.map V.int++[V.int z]))) f2=some (.lst ((eS b (bc ss)).map V.int))/\fs'++rq ((bc ss).drop (i+1)) ((eS b (bc ss)).drop (i+1))=fc b (bc ss):=by
   intro z hz;refine⟨_,_,fs++[z],rfl,cb (s3.trans sT) hf,by rw[ag,map_append];rfl,by rw[ak W0];exact sT _ _ h4,?_⟩;rw[List.append_assoc,hz];exact hm
  refine dG (decide (m=2)&&(decide (kx (Df (bc ss) (i:Int)) = "G")&&decide (kx (Df (bc ss) ((i:Int)+1)) = "."))) ?_ ?_
  ·tm_up;rw[dq];refine aG (fun h=>?_) (fun h=>?_)
   ·tm_up;refine⟨l,_,xs,ss,rfl,hS',hg',?_⟩;tm_up;rw[Ox];refine aG (fun h2=>?_) (fun h2=>?_)
    ·tm_up;refine⟨l,_,xs,ss,rfl,hS',hg',?_⟩;tm_up;rw[Ox];exact bD (by rw[h,h2];rfl)
    ·exact bD (by rw[h,Y'.mpr h2];rfl)
   ·exact bD (by rw[Y'.mpr h];rfl)
  ·refine aG (fun h=>?_) (fun h=>?_)
   ·tm_up;refine⟨.inl ⟨rfl,_,aL.of h3'⟩,?_⟩;refine⟨_,_,_,rfl,rfl,h3',by rw[P'];exact aJ (by omega),fin 3 ?_⟩;obtain⟨h1,h2⟩:=Bool.and_eq_true_iff.mp h;obtain⟨h2,h5⟩:=Bool.and_eq_true_iff.mp h2;have e1:(ss[i]).1=.G:=by
     have:=G' h2;rw[ka]at this;exact str_inj.mp (this.trans (rfl:("G":Str)=Kd.G.str))
    have e2:(bc ss)[i+1]? = some .dot:=by
     have:=G' h5;rw[kb]at this;exact Ez.mp (this.trans (rfl:(".":Str)=kx (some .dot)))
    unfold bw;rw[Zc' ⟨G' h1,e1,e2⟩]
   ·tm_up;refine⟨.inl ⟨rfl,_,aL.of h3'⟩,?_⟩;tm_up;refine⟨l,_,xs,ss,rfl,hS',hg',?_⟩;tm_up;rw[ka];refine⟨_,_,rfl,?_⟩;refine⟨_,_,_,rfl,rfl,h3',by rw[P'];exact aJ (by omega),fin _ ?_⟩;unfold bw;rw[Za'];rintro⟨h1,h2,h5⟩;refine h ?_;rw[ka,kb,h2,h5,h1];decide +kernel
 ·rintro σ H' ⟨v,w,fs,rfl,s3,h3,_,hm⟩;rw[P',ml,List.drop_eq_nil_of_le (by rw[P'];exact X' _)]at hm;tm_up;have e:fs=fc b (bc ss):=by rw[<-hm];simp[rq]
  subst e;exact q f _ s3 hf h3
inductive Jz (K:Frag)(vs:List V)(H:Hp)(Q:VK)(E:XK):Prop
 |mk (l:Addr) (b:Int) (xs:List V) (ss:List Sg) (cL:vs=[.ref l,.int b]) (cM:aL K H l xs) (dA:ia H xs ss) (fA:ss.length<=400) (ki:∀(f:Addr)(ys:List V)(H':Hp),ao H H'->H f=none->H' f=some (.lst ys)->G5 H' ys (nH b (bc ss))->Q (.ref f) H'):Jz K vs H Q E
theorem OW (T:Txt K w mg t):aR P w K mg base d3 (0+3) t.M5 t.Hk ["line","begin"] (Jz K):=by
 have rY:=xP P base T;have DJ:=FZ P base T;refine T.Ac.ok m7 ?_ ?_
 x_go
 obtain⟨l,b,xs,ss,rfl,hS,hg,hn,q⟩:=h;refine aH (ae (cZ 2 m7.nd (bC af)) (ae (cZ 3 m7.nd ai) (ae (dF PassesOwn.never rfl (SV rfl T.Nf rfl T.gY (pv 0) (kq rY (iA hr) rfl T.gw.g T.gw.kp T.Ak .nil fS (aa (pv 0) (aa (pv 1) af)))) (fP rfl (aM (kj 4 m7.nd) (aM (fP rfl (aM (kj 5 m7.nd) (aM (kj 6 m7.nd) dU))) dU))) (ah (aI (bq (PW.pt (dj (aq (ba.or (aN (aF hr))) (pv 6) ai (aw _)) (cT (cy (aT (dg T.DB DJ hr (aa (pv 5) af)))))))) (ae (gQ (aI (aq gK (pv 3) (pv 4) (aw _)) (ah (aS (cQ Zj' slot_list_append Zp' bp (pv 2) (aa (cU (aa (pv 3) (aa (pv 4) af))) af)))) ax)) (ah (cZ 3 m7.nd (aD (aO.or (ay.or aP)) (pv 4) ai)))) ax))) (ae (gQ (aI (aq gK (pv 3) (aE (aB.or aC) rfl T.bg bf (aa (pv 0) af)) (aw _)) (ah (aS (cQ Zj' slot_list_append Zp' bp (pv 2) (aa (cU (aa (pv 3) (aa (aE (aB.or aC) rfl T.bg bf (aa (pv 0) af)) af))) af)))) ax)) (ah (av (pv 2))))))) ?_;refine⟨big (by show 0<=1000;omega),fun f hf=>?_⟩;tm_up;refine⟨l,b,xs,ss,rfl,dX hS hf,hg.same (ao.upd hf),hn,fun f2 H2 s2 n2 h2=>⟨_,_,rfl,rfl,⟨xs,((ao.upd hf).trans s2).seq hS⟩,⟨_,aL.of h2⟩,?_⟩⟩;have ml:(eS b (bc ss)).length=ss.length:=by rw[vf,P']
 have W0:f2≠f:=fun e=>by rw[e,ag]at n2;cases n2
 have cnt:(nH b (bc ss)).length<=401:=by
  have:=iT (fW b (bc ss)) 0 0;rw[jJ,P']at this;exact Zf' this (by omega)
 refine Qy (K:=K) (xs:=xs) (ys:=(eS b (bc ss)).map V.int) (fun i σ H'=>∃(v w u:Option V)(first:Nat)(ys:List V)(qs:List (Nat×Nat)),σ=[some (.ref l),some (.int b),some (.ref f),some (.int (first:Int)),v,w,u]/\ao H H'/\H' f=some (.lst ys)/\G5 H' ys qs/\H' f2=some (.lst ((eS b (bc ss)).map V.int))/\first<=i/\qs++dE i first (ED ((bc ss).drop i) ((eS b (bc ss)).drop i))=nH b (bc ss))
  (by rw[P',ml];exact cE hg) ⟨none,none,none,0,[],[],rfl,(ao.upd hf).trans s2,s2 _ _ ag,.nil,h2,X' _,by rw[List.drop_zero,List.drop_zero,G4];rfl⟩ ?_ ?_ ?_
 ·rintro i σ H' ⟨v,w,u,first,ys,qs,rfl,s3,_,_,h4,_⟩;exact⟨s3.seq hS,aL.of h4⟩
 ·rintro i x y t u' σ H' hx hy ⟨v,w,u,first,ys,qs,rfl,s3,h3,hq,h4,hfi,hm⟩ ht hu htu;obtain⟨s,hs,p,rfl,hp⟩:=oK hg hx;obtain⟨m,hm1,rfl⟩:=ve hy;rw[jj (oN (f:=Prod.fst) hs),jj hm1]at hm;simp only [ED]at hm;have sT:ao H' (upd (upd H' t (.tup [.ref p,.int m])) u' (.tup [.int i,.ref t])):=(ao.upd ht).trans (ao.upd (by rw[ak htu.symm];exact hu));have ut:upd (upd H' t (.tup [.ref p,.int m])) u' (.tup [.int i,.ref t]) t=some (.tup [.ref p,.int m]):=by rw[ak htu,ag]
  refine⟨u',_,rfl,iQ.of ag,rfl,_,_,rfl,_,_,rfl,t,_,rfl,iQ.of ut,rfl,_,_,rfl,_,_,rfl,rfl,rfl,?_⟩;generalize upd (upd H' t (.tup [.ref p,.int m])) u' (.tup [.int i,.ref t])=H3 at sT;have hp3:=(s3.trans sT) _ _ hp;have UY:=sT _ _ h3;have UZ:=kz sT hq;refine dG (!inR m s.1) ?_ ?_
  ·tm_up;rw[dq];refine aG (fun h=>?_) (fun h=>?_)
   ·refine bD ?_;unfold inR;have:=G' h;simp[this]
   ·tm_up;refine⟨p,s,rfl,hp3,_,rfl,bD ?_⟩;have hm2:m≠2:=fun e=>h (L' e);unfold inR;simp[hm2]
  ·cases hin:inR m s.1 with
   |false =>
    rw[hin]at hm;refine cX ?_;refine⟨fun σ1 H1=>σ1=[some (.ref l),some (.int b),some (.ref f),some (.int (first:Int)),some (.int i),some (.ref p),some (.int m)]/\ao H H1/\(∃ ys',H1 f=some (.lst ys')/\G5 H1 ys' (qs++if first<i then [(first,i)] else []))/\H1 f2=some (.lst ((eS b (bc ss)).map V.int)),?_,?_⟩
    ·tm_up;refine aG (fun h=>?_) (fun h=>?_)
     ·have hlt:first<i:=by have:=G' h;omega
      have ql:qs.length<=401:=by
       have:=Zn' List.length hm;simp only [Zd']at this;omega
      tm_up;refine⟨.inl ⟨rfl,_,aL.of UY⟩,?_⟩;tm_up;refine⟨by show 2<=sizeLine;decide,fun z hz=>?_⟩;have sz:ao H3 (upd H3 z (.tup [.int (first:Int),.int i])):=ao.upd hz;have RA:=sz _ _ UY;refine⟨_,_,_,rfl,rfl,RA,by rw[cE UZ];exact aJ (by omega),?_⟩;rw[Zc' hlt];exact⟨rfl,cb ((s3.trans sT).trans sz) hf,⟨_,ag,iS (jK RA (kz sz UZ)) (EF RA ⟨z,rfl,ag⟩)⟩,by rw[ak W0];exact sz _ _ (sT _ _ h4)⟩
     ·have hlt:¬ first<i:=fun z=>h (L' (by omega))
      rw[Za' hlt,append_nil];exact⟨rfl,s3.trans sT,⟨_,UY,UZ⟩,sT _ _ h4⟩
    ·rintro σ1 H1 ⟨rfl,sa,⟨ys',hb,hc⟩,hd⟩;tm_up;refine⟨_,_,_,i+1,ys',_,rfl,sa,hb,hc,hd,X' _,?_⟩;rw[<-hm,List.append_assoc];rfl
   |true =>
    rw[hin]at hm;refine cf ?_;exact⟨_,_,_,first,ys,qs,rfl,s3.trans sT,UY,UZ,sT _ _ h4,by omega,hm⟩
 ·rintro σ H' ⟨v,w,u,first,ys,qs,rfl,s3,h3,hq,h4,hfi,hm⟩;rw[cE hg]at hm hfi;rw[List.drop_eq_nil_of_le (by rw[P'];exact X' _)]at hm;have hm':qs++(if first<ss.length then [(first,ss.length)] else [])=nH b (bc ss):=hm;have ql:qs.length<=401:=by
   have:=Zn' List.length hm;simp only [Zd']at this;omega
  refine⟨fun σ1 H1=>σ1=[some (.ref l),some (.int b),some (.ref f),some (.int (first:Int)),v,w,u]/\ao H H1/\∃ ys',H1 f=some (.lst ys')/\G5 H1 ys' (nH b (bc ss)),?_,?_⟩
  ·tm_up;refine .inl ⟨_,_,rfl,.inl (s3.seq hS),?_⟩;rw[cE hg];tm_up;refine aG (fun h=>?_) (fun h=>?_)
   ·have hlt:first<ss.length:=by have:=G' h;omega
    tm_up;refine⟨.inl ⟨rfl,_,aL.of h3⟩,?_⟩;tm_up;refine .inl ⟨_,_,rfl,.inl (s3.seq hS),?_⟩;rw[cE hg];refine⟨by show 2<=sizeLine;decide,fun z hz=>?_⟩;have sz:ao H' (upd H' z (.tup [.int (first:Int),.int (ss.length:Int)])):=ao.upd hz;have RA:=sz _ _ h3;refine⟨_,_,_,rfl,rfl,RA,by rw[cE hq];exact aJ (by omega),?_⟩;rw[Zc' hlt]at hm';rw[<-hm'];exact⟨rfl,cb (s3.trans sz) hf,_,ag,iS (jK RA (kz sz hq)) (EF RA ⟨z,rfl,ag⟩)⟩
   ·have hlt:¬ first<ss.length:=fun z=>h (L' (by omega))
    rw[Za' hlt,append_nil]at hm';rw[<-hm'];exact⟨rfl,s3,_,h3,hq⟩
  ·rintro σ1 H1 ⟨rfl,sa,ys',hb,hc⟩;tm_up;exact q f ys' H1 sa hf hb hc
inductive mO (K:Frag)(vs:List V)(H:Hp)(Q:VK)(E:XK):Prop
 |mk (l f:Addr) (a:Nat) (xs:List V) (ss:List Sg) (fs:List Int) (cL:vs=[.ref l,.ref f,.int (a:Int)]) (cM:aL K H l xs) (dA:ia H xs ss) (fA:H f=some (.lst (fs.map V.int))) (ki:fs.length=ss.length) (Bb:Q (.bl (fX (bc ss) fs a)) H):mO K vs H Q E
theorem mP (T:Txt K w mg t):aR P w K mg base d3 (0+2) t.nV t.nW ["line","found","first"] (mO K):=by
 have ej:=nC P base T;refine T.i5.ok vz ?_ ?_
 x_go
 obtain⟨l,f,a,xs,ss,fs,rfl,hS,hg,hf,hl,q⟩:=h;refine aH (ah (av (bJ (eX (bB (ba.or (aN (aF hr))) (dg T.fJ ej hr (aa (pv 0) (aa (aD gn (pv 2) ai) af))) aA (aw _)) (gm (bB (ba.or (aN (aF hr))) (bL bo (pv 1) (aD gn (pv 2) ai) (fun _ _=>rfl)) (aZ (v:=.int 3) rfl T.Dy ⟨_,rfl⟩) (aw _))))))) ?_;refine rb (.bl (fX (bc ss) fs a)) ?_ q;tm_up;refine⟨l,_,xs,ss,rfl,hS,hg,?_⟩;tm_up;rw[XF];refine aG (fun h=>?_) (fun h=>?_)
 ·have e:=G' h;have e':1<=a/\a-1<ss.length:=by
   unfold Df at e;split at e
   ·have:=(S'.mp e).1;rw[P']at this;omega
   ·cases e
  tm_up;refine MB (aL.of hf) (n:=a-1) (by omega) (R' (by omega)) ?_;tm_up;rw[dq];refine i0 ?_;unfold fX;rw[h,List.getD_eq_getElem?_getD,R' (by omega)];rfl
 ·refine i0 ?_;unfold fX;rw[Y'.mpr h];rfl
inductive lH (K:Frag)(vs:List V)(H:Hp)(Q:VK)(E:XK):Prop
 |mk (l:Addr) (z:Nat) (xs:List V) (ss:List Sg) (cL:vs=[.ref l,.int (z:Int)]) (cM:aL K H l xs) (dA:ia H xs ss) (fA:Q (.bl (eC (bc ss) z)) H):lH K vs H Q E
theorem JA (k:Option Kd):inV (.str (kx k)) [.str "G",.str "D",.str "R"]=lP k:=by
 cases k with
 |none=>decide +kernel
 |some k=>cases k <;> decide +kernel
theorem lI (T:Txt K w mg t):aR P w K mg base d3 (0+2) t.mF t.mG ["line","behind"] (lH K):=by
 have ej:=nC P base T;refine T.iC.ok tE ?_ ?_
 x_go
 obtain⟨l,z,xs,ss,rfl,hS,hg,q⟩:=h;refine aH (ah (av (bJ (eX (bB (ba.or (aN (aF hr))) (dg T.fJ ej hr (aa (pv 0) (aa (pv 1) af))) aA (aw _)) (gm (bB (cV.or cW) (dg T.fJ ej hr (aa (pv 0) (aa (aD (aO.or (ay.or aP)) (pv 1) ai) af))) (aZ (v:=.ref t.iO) rfl T.qG rfl) rfl)))))) ?_;refine rb (.bl (eC (bc ss) z)) ?_ q;tm_up;refine⟨l,_,xs,ss,rfl,hS,hg,?_⟩;tm_up;rw[XF];refine aG (fun h=>?_) (fun h=>?_)
 ·tm_up;refine⟨l,_,xs,ss,rfl,hS,hg,?_⟩;tm_up;refine .inl ⟨_,_,rfl,.inr (T.qK _),rfl,rfl,i0 ?_⟩;unfold eC;rw[ky]at h;have e:Df (bc ss) ((z:Int)+1)=(bc ss)[z+1]?:=by rw[<-ky];rfl
  rw[h,<-JA,<-e];rfl
 ·refine i0 ?_;unfold eC;rw[ky]at h;rw[Y'.mpr h];rfl
def Ny (K:Frag)(g:List Kd->List Int->Nat->Nat->Bool×List Int):Sp:=fun vs H Q _=>∃(l f:Addr)(a z:Nat)(xs:List V)(ss:List Sg)(fs:List Int),vs=[.ref l,.ref f,.int (a:Int),.int (z:Int)]/\aL K H l xs/\ia H xs ss/\H f=some (.lst (fs.map V.int))/\fs.length=ss.length/\a<z/\z<=ss.length /\
 Q (.bl (g (bc ss) fs a z).1) (upd H f (.lst ((g (bc ss) fs a z).2.map V.int)))
theorem rZ (T:Txt K w mg t):aR P w K mg base d3 (0+3) t.kZ t.k8 ["line","found","first","behind"] (Ny K sJ):=by
 have i9:=mP P base T;have iH:=lI P base T;refine T.ly.ok rH ?_ ?_
 x_go
 obtain⟨l,f,a,z,xs,ss,fs,rfl,hS,hg,hf,hl,Ub,hz,q⟩:=h;unfold sJ at q;refine aH (ae (aI (aT (dg T.i5 i9 hr (aa (pv 0) (aa (pv 1) (aa (pv 2) af))))) (ae (eL (aZ (v:=.int 2) rfl T.eU ⟨_,rfl⟩) (jD (pv 1) (aD gn (pv 2) ai) set_list)) (ah (av di))) ax) (ae (aI (aT (dg T.iC iH hr (aa (pv 0) (aa (pv 3) af)))) (ae (eL (aZ (v:=.int 2) rfl T.eU ⟨_,rfl⟩) (jD (pv 1) (pv 3) set_list)) (ah (av di))) ax) (ah (av di)))) ?_;tm_up;refine⟨l,f,a,xs,ss,fs,rfl,hS,hg,hf,hl,_,rfl,?_⟩;refine aG (fun h=>?_) (fun h=>?_)
 ·rw[Zc' h]at q;have hp:=vg h;rw[P']at hp;tm_up;refine⟨_,_,_,_,rfl,rfl,hf,gR (j:=a-1) (by omega) (by rw[P'];omega),?_⟩;rw[iJ];exact q
 ·rw[Za' h]at q;tm_up;refine⟨l,z,xs,ss,rfl,hS,hg,_,rfl,?_⟩;refine aG (fun h2=>?_) (fun h2=>?_)
  ·rw[Zc' h2]at q;have hp:=rB h2;rw[P']at hp;tm_up;refine⟨_,_,_,_,rfl,rfl,hf,gR (j:=z) rfl (by rw[P'];omega),?_⟩;rw[iJ];exact q
  ·rw[Za' h2,sM hf]at q;exact q
theorem r0 (T:Txt K w mg t):aR P w K mg base d3 (0+3) t.lh t.lj ["line","found","first","behind"] (Ny K sL):=by
 have i9:=mP P base T;have iH:=lI P base T;have ej:=nC P base T;refine T.lz.ok rJ ?_ ?_
 x_go
 obtain⟨l,f,a,z,xs,ss,fs,rfl,hS,hg,hf,hl,Ub,hz,q⟩:=h;unfold sL at q;refine aH (ae (aI (bq (PW.pt (cN (aq (bX.or bW) (dg T.fJ ej hr (aa (pv 0) (aa (pv 3) af))) (aZ (v:=.ref t.iO) rfl T.qG rfl) rfl) (dJ (aq (ba.or (aN (aF hr))) (dg T.fJ ej hr (aa (pv 0) (aa (aD gn (pv 3) ai) af))) aA (aw _)))))) (ae (eL (aZ (v:=.int 2) rfl T.yb ⟨_,rfl⟩) (jD (pv 1) (aD gn (pv 3) ai) set_list)) (ah (av di))) ax) (ae (aI (bq (PW.pt (cN (aT (dg T.i5 i9 hr (aa (pv 0) (aa (pv 1) (aa (pv 2) af))))) (dJ (aT (dg T.iC iH hr (aa (pv 0) (aa (pv 3) af)))))))) (ae (eL (aZ (v:=.int 2) rfl T.eU ⟨_,rfl⟩) (jD (pv 1) (aD gn (pv 2) ai) set_list)) (ae (eL (aZ (v:=.int 2) rfl T.eU ⟨_,rfl⟩) (jD (pv 1) (pv 3) set_list)) (ah (av di)))) ax) (ah (av di)))) ?_;refine dG (lP (bc ss)[z]? && decide ((bc ss)[z-1]? = some .s)) ?_ ?_
 ·tm_up;refine⟨l,_,xs,ss,rfl,hS,hg,?_⟩;tm_up;refine .inl ⟨_,_,rfl,.inr (T.qK _),rfl,rfl,_,rfl,?_⟩;show if inV (.str (kx (Df (bc ss) (z:Int)))) [.str "G",.str "D",.str "R"]=true then _ else _;rw[JA,ky];refine aG (fun h=>?_) (fun h=>?_)
  ·tm_up;refine⟨l,_,xs,ss,rfl,hS,hg,?_⟩;tm_up;rw[Zg];have e:Df (bc ss) ((z:Int)-1)=(bc ss)[z-1]?:=by rw[<-ky];congr 1;omega
   rw[e];exact bD (by rw[h];rfl)
  ·exact bD (by rw[Y'.mpr h];rfl)
 ·refine aG (fun h=>?_) (fun h=>?_)
  ·rw[Zc' h]at q;tm_up;refine⟨_,_,_,_,rfl,rfl,hf,gR (j:=z-1) (by omega) (by rw[P'];omega),?_⟩;rw[iJ];exact q
  ·rw[Za' h]at q;refine dG (fX (bc ss) fs a&&eC (bc ss) z) ?_ ?_
   ·tm_up;refine⟨l,f,a,xs,ss,fs,rfl,hS,hg,hf,hl,_,rfl,?_⟩;refine aG (fun h=>?_) (fun h=>?_)
    ·tm_up;refine⟨l,z,xs,ss,rfl,hS,hg,_,rfl,bD ?_⟩;rw[h];rfl
    ·exact bD (by rw[Y'.mpr h];rfl)
   ·refine aG (fun h2=>?_) (fun h2=>?_)
    ·rw[Zc' h2]at q;have hp:=vg (Bool.and_eq_true_iff.mp h2).1;have hr:=rB (Bool.and_eq_true_iff.mp h2).2;rw[P']at hp hr;tm_up;refine⟨_,_,_,_,rfl,rfl,hf,gR (j:=a-1) (by omega) (by rw[P'];omega),?_⟩;rw[iJ];tm_up;refine⟨_,_,_,_,rfl,rfl,ag,gR (j:=z) rfl (by rw[P',List.length_set];omega),?_⟩;rw[iJ,cq];exact q
    ·rw[Za' h2,sM hf]at q;exact q
theorem A2 (T:Txt K w mg t):aR P w K mg base d3 (0+4) t.tS t.tT ["line","found","first","behind"] (Ny K settle):=by
 have uH:=rZ P base T;have uI:=r0 P base T;refine T.uc.ok qv ?_ ?_
 x_go
 obtain⟨l,f,a,z,xs,ss,fs,rfl,hS,hg,hf,hl,Ub,hz,q⟩:=h;unfold settle at q;refine aH (ae (cZ 4 qv.nd (aD bF (aD gn (pv 3) (pv 2)) ai)) (ae (aI (aq (ba.or (aN (aF hr))) (pv 4) ai (aw _)) (ah (av (dg T.ly uH hr (aa (pv 0) (aa (pv 1) (aa (pv 2) (aa (pv 3) af))))))) ax) (ae (aI (aq (ba.or (aN (aF hr))) (pv 4) ai (aw _)) (ah (av (dg T.lz uI hr (aa (pv 0) (aa (pv 1) (aa (pv 2) (aa (pv 3) af))))))) ax) (ah (av di))))) ?_;tm_up;rw[dq];have e:((z:Int)-(a:Int)) % 3=(((z-a) % 3:Nat):Int):=by omega
 refine aG (fun h=>?_) (fun h=>?_)
 ·have h1:(z-a) % 3=1:=by have:((z:Int)-(a:Int)) % 3=1:=G' h;omega
  rw[Zc' h1]at q;tm_up;exact⟨l,f,a,z,xs,ss,fs,rfl,hS,hg,hf,hl,Ub,hz,q⟩
 ·have h1:¬(z-a) % 3=1:=fun c=>h (L' (by show((z:Int)-(a:Int)) % 3=1;omega));rw[Za' h1]at q;tm_up;rw[dq];refine aG (fun h=>?_) (fun h=>?_)
  ·have h2:(z-a) % 3=2:=by have:((z:Int)-(a:Int)) % 3=2:=G' h;omega
   rw[Zc' h2]at q;tm_up;exact⟨l,f,a,z,xs,ss,fs,rfl,hS,hg,hf,hl,Ub,hz,q⟩
  ·have h2:¬(z-a) % 3=2:=fun c=>h (L' (by show((z:Int)-(a:Int)) % 3=2;omega));rw[Za' h2,sM hf]at q;exact q
inductive Ax (K:Frag)(vs:List V)(H:Hp)(Q:VK)(E:XK):Prop
 |mk (l:Addr) (b:Int) (xs:List V) (ss:List Sg) (cL:vs=[.ref l,.int b]) (cM:aL K H l xs) (dA:ia H xs ss) (fA:ss.length<=400) (ki:∀(p f lo:Addr)(ys:List V)(H':Hp),ao H H'->H f=none->H lo=none->f≠lo->H' p=some (.tup [.ref f,.ref lo])->H' f=some (.lst ((gC b (bc ss)).1.map V.int))->H' lo=some (.lst ys)->G5 H' ys (gC b (bc ss)).2->Q (.ref p) H'):Ax K vs H Q E
theorem HP (T:Txt K w mg t):aR P w K mg base d3 (0+5) t.Ce t.Cf ["line","begin"] (Ax K):=by
 have oq:=nE P base T;have RB:=OW P base T;have DP:=A2 P base T;refine T.Cr.ok jS ?_ ?_
 x_go
 obtain⟨l,b,xs,ss,rfl,hS,hg,hn,q⟩:=h;refine aH (ae (cZ 2 jS.nd (dg T.il oq hr (aa (pv 0) (aa (pv 1) af)))) (ae (cZ 3 jS.nd (bC af)) (ae (dF PassesOwn.never rfl (dz (kq RB (iA hr) rfl T.Ac.g T.Ac.kp T.Rb .nil fS (aa (pv 0) (aa (pv 1) af)))) (fP rfl (aM (kj 4 jS.nd) (aM (kj 5 jS.nd) dU))) (ah (aI (cy (aT (dg T.uc DP hr (aa (pv 0) (aa (pv 2) (aa (pv 4) (aa (pv 5) af))))))) (ah (aS (cQ Zj' slot_list_append Zp' bp (pv 3) (aa (cU (aa (pv 4) (aa (pv 5) af))) af)))) ax))) (ah (av (cU (aa (pv 2) (aa (pv 3) af)))))))) ?_;tm_up;refine⟨l,b,xs,ss,rfl,hS,hg,hn,fun f H1 s1 n1 h1=>?_⟩;refine⟨big (by show 0<=1000;omega),fun lo hlo=>?_⟩;have U0:=s1.trans (ao.upd (o:=.lst []) hlo);tm_up;refine⟨l,b,xs,ss,rfl,U0.seq hS,hg.same U0,hn,fun r zs H2 s2 n2 h2 hz=>⟨_,rfl,⟨_,aL.of h2⟩,?_⟩⟩;have Nz:H lo=none:=s1.free hlo;have RC:f≠lo:=au h1 hlo;have nrf:r≠f:=fun e=>by
  have:=U0.free n2;have h1':=ao.upd (o:=.lst []) hlo _ _ h1;rw[<-e,n2]at h1';cases h1'
 have nrl:r≠lo:=fun e=>by rw[e,ag]at n2;cases n2
 have bl:(fc b (bc ss)).length=ss.length:=by rw[mj,P']
 have cnt:(nH b (bc ss)).length<=401:=by
  have:=iT (fW b (bc ss)) 0 0;rw[jJ,P']at this;exact Zf' this (by omega)
 refine lX (K:=K) (xs:=zs) (fun i σ H'=>∃(v w:Option V)(c:PD)(ys:List V),σ=[some (.ref l),some (.int b),some (.ref f),some (.ref lo),v,w]/\ao H H'/\H' f=some (.lst (c.1.map V.int))/\H' lo=some (.lst ys)/\G5 H' ys c.2/\H' r=some (.lst zs)/\G5 H' zs (nH b (bc ss))/\c.1.length=ss.length/\c.2.length<=i/\((nH b (bc ss)).drop i).foldl (lQ (bc ss)) c=gC b (bc ss))
  ⟨none,none,(fc b (bc ss),[]),[],rfl,U0.trans s2,s2 _ _ (ao.upd (o:=.lst []) hlo _ _ h1),s2 _ _ ag,.nil,h2,hz,bl,X' _,rfl⟩ ?_ ?_ ?_
 ·rintro i σ H' _ ⟨v,w,c,ys,rfl,_,_,_,_,hr,_⟩;exact aL.of hr
 ·rintro i x σ H' hx ⟨v,w,c,ys,rfl,s3,RD,RE,hys,Uc,hzs,hcl,hci,lJ⟩;obtain⟨pr,hpr,p,rfl,hp⟩:=oK hzs hx;have hin:=MD b (bc ss) pr (Zh' hpr);rw[P']at hin;rw[jj hpr,List.foldl_cons]at lJ;have hil:i<401:=by
   have:=(S'.mp hpr).1;omega
  refine⟨p,_,rfl,iQ.of hp,rfl,_,_,rfl,_,_,rfl,rfl,?_⟩;tm_up;refine⟨l,f,pr.1,pr.2,xs,ss,c.1,rfl,s3.seq hS,hg.same s3,RD,hcl,hin.1,hin.2,?_⟩;have s4:ao H (upd H' f (.lst ((settle (bc ss) c.1 pr.1 pr.2).2.map V.int))):=cb s3 n1;have HQ:upd H' f (.lst ((settle (bc ss) c.1 pr.1 pr.2).2.map V.int)) lo=some (.lst ys):=by rw[ak RC.symm];exact RE
  have Yd:upd H' f (.lst ((settle (bc ss) c.1 pr.1 pr.2).2.map V.int)) r=some (.lst zs):=by rw[ak nrf];exact Uc
  have Rj:(settle (bc ss) c.1 pr.1 pr.2).2.length=ss.length:=by rw[rA];exact hcl
  tm_up;refine aG (fun h=>?_) (fun h=>?_)
  ·have hst:(settle (bc ss) c.1 pr.1 pr.2).1=false:=by
    cases e:(settle (bc ss) c.1 pr.1 pr.2).1
    ·rfl
    ·rw[e]at h;cases h
   tm_up;refine⟨.inl ⟨rfl,_,aL.of HQ⟩,?_⟩;tm_up;refine⟨by show 2<=sizeLine;decide,fun z hz=>?_⟩;have sz:=ao.upd (o:=.tup [.int (pr.1:Int),.int (pr.2:Int)]) hz;have Gf:=sz _ _ HQ;refine⟨_,_,_,rfl,rfl,Gf,by rw[cE hys];exact aJ (by omega),?_⟩;refine⟨_,_,((settle (bc ss) c.1 pr.1 pr.2).2,c.2++[pr]),_,rfl,cb (s4.trans sz) Nz,by rw[ak RC];exact sz _ _ ag,ag,iS (jK Gf (kz sz (jK RD hys))) (EF Gf ⟨z,rfl,ag⟩),
    by rw[ak nrl];exact sz _ _ Yd,jK Gf (kz sz (jK RD hzs)),Rj,by simp;omega,?_⟩
   rw[<-lJ];unfold lQ;rw[hst];rfl
  ·have hst:(settle (bc ss) c.1 pr.1 pr.2).1=true:=by
    cases e:(settle (bc ss) c.1 pr.1 pr.2).1
    ·rw[e]at h;exact j' rfl h
    ·rfl
   refine⟨_,_,((settle (bc ss) c.1 pr.1 pr.2).2,c.2),ys,rfl,s4,ag,HQ,jK RD hys,Yd,jK RD hzs,Rj,by show c.2.length<=i+1;omega,?_⟩;rw[<-lJ];unfold lQ;rw[hst];rfl
 ·rintro σ H' ⟨v,w,c,ys,rfl,s3,RD,RE,hys,Uc,hzs,hcl,hci,lJ⟩;rw[cE hz,List.drop_length]at lJ;have e:c=gC b (bc ss):=lJ;subst e;tm_up;refine⟨by show 2<=sizeLine;decide,fun z hz=>?_⟩;have sz:=ao.upd (o:=.tup [.ref f,.ref lo]) hz;exact q z f lo ys _ (s3.trans sz) n1 Nz RC ag (sz _ _ RD) (sz _ _ RE) (kz sz hys)
inductive CH (K:Frag)(vs:List V)(H:Hp)(Q:VK)(E:XK):Prop
 |mk (l:Addr) (b:Int) (xs:List V) (ss:List Sg) (cL:vs=[.ref l,.int b]) (cM:aL K H l xs) (dA:ia H xs ss) (fA:ss.length<=400) (ki:∀(f:Addr)(H':Hp),ao H H'->H f=none->H' f=some (.lst ((gC b (bc ss)).1.map V.int))->Q (.ref f) H'):CH K vs H Q E
theorem K0 (T:Txt K w mg t):aR P w K mg base d3 (0+6) t.Fn t.zH ["line","begin"] (CH K):=by
 have K1:=HP P base T;refine T.j4.ok Kr ?_ ?_
 x_go
 obtain⟨l,b,xs,ss,rfl,hS,hg,hn,q⟩:=h;refine aH (ah (av (bL bo (dg T.Cr K1 hr (aa (pv 0) (aa (pv 1) af))) ai (fun _ _=>rfl)))) ?_;tm_up;refine⟨l,b,xs,ss,rfl,hS,hg,hn,fun p f lo ys H' s1 n1 n2 _ hp hf _ _=>?_⟩;tm_up;exact q f H' s1 n1 hf
theorem NA (k:Kd):(([(Str.ofString "3",V.str "2"),(Str.ofString "2",V.str "3")]:List (Str×V)).lookup k.str).getD (.str k.str)=.str (By k).str:=by cases k <;> decide +kernel
inductive CI (K:Frag)(vs:List V)(H:Hp)(Q:VK)(E:XK):Prop
 |mk (l:Addr) (xs:List V) (ss:List Sg) (cL:vs=[.ref l]) (cM:aL K H l xs) (dA:ia H xs ss) (fA:ss.length<=400) (ki:∀(f:Addr)(ys:List V)(H':Hp),ao H H'->H f=none->H' f=some (.lst ys)->ia H' ys (ss.map kB)->Q (.ref f) H'):CI K vs H Q E
theorem CJ (T:Txt K w mg t):aR P w K mg base d3 (0+1) t.Fo t.Fp ["line"] (CI K):=by
 refine T.z9.ok Ks ?_ ?_
 x_go
 obtain⟨l,xs,ss,rfl,hS,hg,hn,q⟩:=h;refine aH (ah (av (eB (cn:=["kind","tone"]) rfl (b8.of rfl) (dz (pv 0)) (fun _=>(fP rfl (aM (bZ (i:=0) wI rfl (Or.inl rfl)) (aM (bZ (i:=1) wI rfl (Or.inl rfl)) dU)))) (fun _=>eZ) (fun _=>(cU (aa (Mb (aZ (v:=.ref t.jZ) rfl T.zT rfl) (pv 0) (pv 0)) (aa (pv 1) af))))))) ?_;tm_up;refine⟨⟨xs,hS⟩,fun D b hD=>?_⟩;refine dH (K:=K) (xs:=xs) (fun i ys σ H'=>∃(v w:Option V),σ=[v,w,some (.ref l)]/\ao H H'/\H' D=some (.lst ys)/\ia H' ys ((ss.take i).map kB))
  ⟨none,none,rfl,ao.upd hD,ag,.nil⟩ ?_ ?_ ?_
 ·rintro i ys σ H' ⟨v,w,rfl,s2,_⟩;exact s2.seq hS
 ·rintro i ys x σ H' hx ⟨v,w,rfl,s2,Hy,hsg⟩ N hN;obtain⟨s,hs,p,rfl,hp⟩:=oK hg hx;have hi:i<ss.length:=(S'.mp hs).1;refine⟨p,_,rfl,iQ.of (s2 _ _ hp),rfl,_,_,rfl,_,_,rfl,rfl,?_⟩;refine⟨_,_,rfl,T.yd,?_⟩;tm_up;rw[NA];refine⟨by show 2<=sizeLine;decide,fun z hz=>?_⟩;have sz:=ao.upd (o:=.tup [.str (By s.1).str,.int s.2]) hz;have R5:=sz _ _ Hy;refine⟨R5,?_,?_⟩
  ·rw[cE hsg,P',length_take];exact aJ (by omega)
  ·refine hN _ _ _ ⟨_,_,rfl,cb (s2.trans sz) hD,ag,?_⟩;rw[take_succ,hs,map_append];exact iS (Dc R5 (hsg.same sz)) (EB R5 ⟨z,rfl,ag⟩)
 ·rintro ys σ H' ⟨v,w,rfl,s2,Hy,hsg⟩;rw[cE hg,take_length]at hsg;exact q D ys H' s2 hD Hy hsg
inductive qR (c:Cs)(vs:List V)(H:Hp)(Q:VK)(E:XK):Prop
 |mk (x:Addr) (F:Addr->Prop) (vw:Vw) (ps fs:List Vw) (n:Str) (ss:List Sg) (cL:vs=[.ref x,.str n]) (cM:yp c H x F vw ps fs) (dA:bj vw n=some (.pl ss)) (fA:∀(l:Addr)(ys:List V)(H':Hp),H l=none->ao H H'->H' l=some (.lst ys)->ia H' ys ss->Q (.ref l) H'):qR c vs H Q E
theorem A3 (T:Txt K w mg t):aR P w K mg base (hZ P w) (0+3) t.o9 t.pb ["self","name"] (qR (cs t)):=by
 have c9:=gb P base T;have Ay:=CJ P base T;have bN:=dQ P base T;refine T.bh.GY aX ?_ ?_
 x_go
 obtain⟨x,F,vw,ps,fs,n,ss,rfl,B,hf,q⟩:=h;refine aH (ae (cZ 2 aX.nd (dr (X:=(sf T.bh.1 aX (hZ P w) P w mg base cdv A outer s H E)) (pv 0) T.aQ T.bR.me c9 (iA hr) T.bR.b .nil (fun _ _ z=>Or.inl z) (aa (pv 1) af))) (ae (aI (aq mR (pv 2) cS (aw _)) (ah (av (bP mT rfl T.fG fE (aa (dR (dr (X:=(sf T.bh.1 aX (hZ P w) P w mg base cdv A outer s H E)) (pv 0) T.aQ T.a9.me bN (iA hr) T.a9.b .nil (fun _ _ z=>Or.inl z) (aa (pv 1) af)) rfl) af)))) ax) (ae (eL (pv 2) (fP rfl (aM (kj 3 aX.nd) (aM (kj 4 aX.nd) (aM (kj 5 aX.nd) (aM (kj 6 aX.nd) dU)))))) (ae (cZ 7 aX.nd Ml) (ah (av (bJ (cu (aT (pv 6)) (dg T.z9 Ay hr (aa (pv 7) af)) (pv 7))))))))) ?_;obtain⟨L,D,U,all,M,Ps,Fs,es,us,b,iM,pp,pf,f⟩:=B.ex;obtain⟨dx,hx⟩:=b.hx;obtain⟨vx,g,gv⟩:=b.vk iM;refine⟨_,rfl,x,dx,_,rfl,hx,gS _ _ _,_,rfl,x,F,vw,ps,fs,n,rfl,B,?_⟩;rw[hf];refine⟨_,rfl,rfl,_,rfl,?_⟩;refine aG (fun _=>?_) (fun h=>j' (by decide) h);refine⟨_,rfl,x,dx,_,rfl,hx,dY _ _ _,_,rfl,x,dx,L,D,U,M L,vx,n,rfl,hx,b.hL,g,?_⟩;rcases EK gv (fun _ _ r=>r.2.1) n with ⟨f1,f2⟩|⟨a,th,j,f1,f2,r,an,fj,fw⟩
 ·rw[f2]at hf;cases hf
 rw[f1];rw[f2]at hf;cases hf;refine⟨a.o,_,a.d,_,_,rfl,(b.ha a r.1).1,T.f6,T.g8,vh _ _ _,?_⟩;refine⟨_,_,rfl,.inl (aL.of (b.ha a r.1).2),fun l hl=>?_⟩;exact q l _ _ hl (ao.upd hl) ag (r.2.2.2.same (ao.upd hl))
inductive uJ (c:Cs)(vs:List V)(H:Hp)(Q:VK)(E:XK):Prop
 |mk (x:Addr) (F:Addr->Prop) (vw:Vw) (ps fs:List Vw) (n:Str) (cL:vs=[.ref x,.str n]) (cM:yp c H x F vw ps fs) (dA:match bj vw n with
 |none=>RX E c .gi H
 |some _=>∀(l:Addr)(ys:List V)(H':Hp),H l=none->ao H H'->H' l=some (.lst ys)->ia H' ys (sR vw n)->Q (.ref l) H'):uJ c vs H Q E
theorem nF (T:Txt K w mg t):aR P w K mg base (hZ P w) (0+4) t.o9 t.pb ["self","name"] (uJ (cs t)):=by
 have DQ:=A3 P base T;have c9:=gb P base T;have Ay:=CJ P base T;have bN:=dQ P base T;refine T.bh.GY aX ?_ ?_
 x_go
 obtain⟨x,F,vw,ps,fs,n,rfl,B,q⟩:=h;refine aH (ae (cZ 2 aX.nd (dr (X:=(sf T.bh.1 aX (hZ P w) P w mg base cdv A outer s H E)) (pv 0) T.aQ T.bR.me c9 (iA hr) T.bR.b .nil (fun _ _ z=>Or.inl z) (aa (pv 1) af))) (ae (aI (aq mR (pv 2) cS (aw _)) (ah (av (bP mT rfl T.fG fE (aa (dR (dr (X:=(sf T.bh.1 aX (hZ P w) P w mg base cdv A outer s H E)) (pv 0) T.aQ T.a9.me bN (iA hr) T.a9.b .nil (fun _ _ z=>Or.inl z) (aa (pv 1) af)) rfl) af)))) ax) (ae (eL (pv 2) (fP rfl (aM (kj 3 aX.nd) (aM (kj 4 aX.nd) (aM (kj 5 aX.nd) (aM (kj 6 aX.nd) dU)))))) (ae (cZ 7 aX.nd (dr (X:=(sf T.bh.1 aX (hZ P w) P w mg base cdv A outer s H E)) (pv 0) T.aQ T.bh.me DQ (iA hr) T.bh.b .nil (fun _ _ z=>Or.inl z) (aa (pv 3) af))) (ah (av (bJ (cu (aT (pv 6)) (dg T.z9 Ay hr (aa (pv 7) af)) (pv 7))))))))) ?_;obtain⟨L,D,U,all,M,Ps,Fs,es,us,b,iM,pp,pf,f⟩:=B.ex;obtain⟨dx,hx⟩:=b.hx;obtain⟨vx,g,gv⟩:=b.vk iM;have wv:=B.wv vw (.inr (.inl rfl));refine⟨_,rfl,x,dx,_,rfl,hx,gS _ _ _,_,rfl,x,F,vw,ps,fs,n,rfl,B,?_⟩;cases hf:bj vw n with
 |none =>
  rw[hf]at q;exact q
 |some th =>
  rw[hf]at q;cases th with
  |pl ss =>
   refine⟨_,rfl,rfl,_,rfl,?_⟩;refine aG (fun _=>?_) (fun h=>j' (by decide) h);refine⟨_,rfl,x,dx,_,rfl,hx,dY _ _ _,_,rfl,x,dx,L,D,U,M L,vx,n,rfl,hx,b.hL,g,?_⟩;rcases EK gv (fun _ _ r=>r.2.1) n with ⟨f1,f2⟩|⟨a,th,j,f1,f2,r,an,fj,fw⟩
   ·rw[f2]at hf;cases hf
   rw[f1];rw[f2]at hf;cases hf;refine⟨a.o,_,a.d,_,_,rfl,(b.ha a r.1).1,T.f6,T.g8,vh _ _ _,?_⟩;refine⟨_,_,rfl,.inl (aL.of (b.ha a r.1).2),fun l hl=>?_⟩;exact q l _ _ hl (ao.upd hl) ag (by rw[mn f2];exact r.2.2.2.same (ao.upd hl))
  |cn ld lt sl tn =>
   intro p hp;refine⟨_,rfl,rfl,_,rfl,?_⟩;refine aG (fun h=>by have:=G' h;cases this) (fun _=>?_);obtain⟨⟨ss,uU⟩,_⟩:=wv.ld n ld lt sl tn (cF hf);have hfl:=wv.find uU;have gl:=(wv.gd _ _ uU).1;rw[oP hf hfl]at q;refine⟨_,rfl,p,_,rfl,iQ.of hp,rfl,_,_,rfl,_,_,rfl,_,_,rfl,_,_,rfl,rfl,?_⟩;refine⟨_,rfl,x,dx,_,rfl,hx,gF _ _ _,_,rfl,x,F,vw,ps,fs,ld,ss,rfl,B,hfl,fun l ys H1 hl s1 h1 g1=>?_⟩;refine⟨fun v H'=>∃ l' ys',v=.ref l'/\H l'=none/\ao H H'/\H' l'=some (.lst ys')/\ia H' ys' (if tn=true then ss.map kB else ss),?_,?_⟩
   ·refine⟨_,rfl,_,rfl,?_⟩;cases tn with
    |true =>
     refine cX ⟨_,rfl,l,ys,ss,rfl,aL.of h1,g1,by omega,fun f' ys' H2 s2 hf' h2 g2=>⟨f',ys',rfl,s1.free hf',s1.trans s2,h2,g2⟩⟩
    |false=>exact cf ⟨_,rfl,l,ys,rfl,hl,s1,h1,g1⟩
   ·rintro v H' ⟨l',ys',rfl,a1,a2,a3,a4⟩;exact q l' ys' H' a1 a2 a3 a4
inductive uK (c:Cs)(vs:List V)(H:Hp)(Q:VK)(E:XK):Prop
 |mk (x:Addr) (F:Addr->Prop) (vw:Vw) (ps fs:List Vw) (n:Str) (cL:vs=[.ref x,.str n]) (cM:yp c H x F vw ps fs) (dA:match bj vw n with
 |none=>RX E c .gi H
 |some _=>∀(l:Addr)(H':Hp),H l=none->ao H H'->H' l=some (.lst ((nJ vw n).map V.int))->Q (.ref l) H'):uK c vs H Q E
theorem DR (T:Txt K w mg t):aR P w K mg base (hZ P w) (0+7) t.xi t.xj ["self","name"] (uK (cs t)):=by
 have c9:=gb P base T;have Gg:=K0 P base T;have fo:=nF P base T;refine T.eA.GY cI ?_ ?_
 x_go
 obtain⟨x,F,vw,ps,fs,n,rfl,B,q⟩:=h;refine aH (ae (cZ 2 cI.nd (dr (X:=(sf T.eA.1 cI (hZ P w) P w mg base cdv A outer s H E)) (pv 0) T.aQ T.bR.me c9 (iA hr) T.bR.b .nil (fun _ _ z=>Or.inl z) (aa (pv 1) af))) (ae (aI (aq mR (pv 2) cS (aw _)) (ah (av (kq Gg (iA hr) rfl T.j4.g T.j4.kp T.FR .nil fS (aa (dr (X:=(sf T.eA.1 cI (hZ P w) P w mg base cdv A outer s H E)) (pv 0) T.aQ T.bh.me fo (iA hr) T.bh.b .nil (fun _ _ z=>Or.inl z) (aa (pv 1) af)) (aa ai af))))) ax) (ae (eL (pv 2) (fP rfl (aM (kj 3 cI.nd) (aM (kj 4 cI.nd) (aM (bZ (i:=5) cI.nd rfl (Or.inr rfl)) (aM (kj 6 cI.nd) dU)))))) (ae (cZ 7 cI.nd (bJ (cu (aT (pv 6)) ai ai))) (ah (av (eB (cn:=["worth"]) rfl (b8.of rfl) (dz (kq Gg (iA hr) rfl T.j4.g T.j4.kp T.FR .nil fS (aa (dr (X:=(sf T.eA.1 cI (hZ P w) P w mg base cdv A outer s H E)) (pv 0) T.aQ T.bh.me fo (iA hr) T.bh.b .nil (fun _ _ z=>Or.inl z) (aa (pv 1) af)) (aa (pv 7) af)))) (fun _=>(bZ (i:=0) x6 rfl (Or.inl rfl))) (fun _=>eZ) (fun _=>(aD (gJ.or gN) (pv 6) (pv 0)))))))))) ?_;obtain⟨L,D,U,all,M,Ps,Fs,es,us,b,iM,pp,pf,f⟩:=B.ex;obtain⟨dx,hx⟩:=b.hx;have wv:=B.wv vw (.inr (.inl rfl));refine⟨_,rfl,x,dx,_,rfl,hx,gS _ _ _,_,rfl,x,F,vw,ps,fs,n,rfl,B,?_⟩;cases hf:bj vw n with
 |none =>
  rw[hf]at q;exact q
 |some th =>
  rw[hf]at q;cases th with
  |pl ss =>
   have gl:=(wv.gd _ _ (cF hf)).1;refine⟨_,rfl,rfl,_,rfl,?_⟩;refine aG (fun _=>?_) (fun h=>j' (by decide) h);refine⟨_,rfl,x,dx,_,rfl,hx,gF _ _ _,_,rfl,x,F,vw,ps,fs,n,rfl,B,?_⟩;rw[hf];intro l ys H1 hl s1 h1 g1;rw[mn hf]at g1;refine⟨l,3,ys,ss,rfl,aL.of h1,g1,by omega,fun f' H2 s2 n2 h2=>?_⟩;exact q f' H2 (s1.free n2) (s1.trans s2) (by rw[y9 hf];exact h2)
  |cn ld lt sl tn =>
   intro p hp;obtain⟨⟨ss,uU⟩,WK,lt1,UQ,WL⟩:=wv.ld n ld lt sl tn (cF hf);have hfl:=wv.find uU;have gl:=(wv.gd _ _ uU).1;rw[za hf hfl]at q;refine⟨_,rfl,rfl,_,rfl,?_⟩;refine aG (fun h=>by have:=G' h;cases this) (fun _=>?_);refine⟨_,rfl,p,_,rfl,iQ.of hp,rfl,_,_,rfl,_,_,rfl,_,_,rfl,_,_,rfl,rfl,?_⟩;refine⟨fun v H'=>v=.int (if tn=true then 2 else 3)/\H'=H,?_,?_⟩
   ·refine⟨_,rfl,_,rfl,?_⟩;cases tn with
    |true=>exact cX ⟨rfl,rfl⟩
    |false=>exact cf ⟨rfl,rfl⟩
   intro v0 H0 ⟨e1,e2⟩;rw[e1,e2];refine⟨_,rfl,x,dx,_,rfl,hx,gF _ _ _,_,rfl,x,F,vw,ps,fs,n,rfl,B,?_⟩;rw[hf];intro l ys H1 hl s1 h1 g1;rw[oP hf hfl]at g1;have Ud:(if tn=true then ss.map kB else ss).length<=400:=by
    split
    ·rw[P'];omega
    ·omega
   refine⟨_,rfl,l,(if tn=true then 2 else 3),ys,_,rfl,aL.of h1,g1,Ud,fun f' H2 s2 n2 h2=>?_⟩;generalize hW:(gC (if tn=true then 2 else 3) (bc (if tn=true then ss.map kB else ss))).1=W at q h2;have hWl:W.length<=400:=by rw[<-hW,pX,P'];exact Ud
   refine⟨f',rfl,⟨_,aL.of h2⟩,fun D' b' hD'=>?_⟩;generalize hbz:(if tn=true then(2:Int) else 3)=bz;refine dH (K:=K) (xs:=W.map V.int) (fun i ys σ H'=>∃ v,σ=[v,some (.ref x),some (.str n),some (.ref p),some (.str ld),some (.int lt),some (.int sl),some (.bl tn),some (.int bz)]/\H'=upd H2 D' (.lst ys)/\ys=((W.take i).map fun w=>sl * w).map V.int) ⟨none,rfl,rfl,by simp⟩ ?_ ?_ ?_
   ·rintro i ys σ H' ⟨v,rfl,rfl,_⟩;exact dX (aL.of h2) hD'
   ·rintro i ys y σ H' hy ⟨v,rfl,rfl,rfl⟩ N hN;obtain⟨z,hz,rfl⟩:=ve hy;have hi:i<W.length:=(S'.mp hz).1;refine bT ?_;refine⟨_,rfl,_,rfl,.inl ⟨_,_,rfl,rfl,.inl ⟨by omega,by omega⟩,ag,?_,?_⟩⟩
    ·rw[P',P',length_take];exact aJ (by omega)
    ·refine hN _ _ _ ⟨_,rfl,cq,?_⟩;rw[take_succ,hz,map_append,map_append];rfl
   ·rintro ys σ H' ⟨v,rfl,rfl,rfl⟩;rw[P',take_length];exact q D' _ (s1.free (s2.free hD')) ((s1.trans s2).trans (ao.upd hD')) ag
theorem _root_.L2.mf.same {H H':Hp}{a:Addr}{y:V}{r:Option V}(s:ao H H')(h:mf H a y r):mf H' a y r:=by
 have rd:∀{u},Rd H a u->Rd H' a u:=fun z=>z.imp (fun e=>s _ _ e) fun⟨o,e⟩=>⟨o,s _ _ e⟩;rcases h with ⟨kvs,k,e,e2,e3⟩|⟨kvs,k,b,e,e2,e3,e4⟩
 ·exact .inl ⟨kvs,k,rd e,e2,e3⟩
 ·exact .inr ⟨kvs,k,b,rd e,e2,s _ _ e3,e4⟩
inductive uL (K:Frag)(vs:List V)(H:Hp)(Q:VK)(E:XK):Prop
 |mk (d:Addr) (vw:Vw) (n:Str) (th:Th) (cL:vs=[.ref d,.str n]) (cM:km H d vw) (dA:sO vw) (fA:bj vw n=some th) (ki:∀(l:Addr)(ys:List V)(H':Hp),ao H H'->H' l=some (.lst ys)->ia H' ys (sR vw n)->Q (.ref l) H'):uL K vs H Q E
theorem uM (T:Txt K w mg t):aR P w K mg base d3 (0+1) t.xk t.xm ["_law_voices","_law_name"] (uL K):=by
 refine T.pA.ok gW ?_ ?_
 x_go
 obtain⟨d,vw,n,th,rfl,hd,wv,hf,q⟩:=h;refine aH (ae (cZ 2 gW.nd (ku (lZ hr) (pv 0) (pv 1) (fun _ _=>rfl))) (ae (aI (aT (aE cK rfl T.aV aU (aa (pv 2) (aa (dS (v:=.ty "list") rfl T.fG fE rfl) af)))) (ah (av (pv 2))) ax) (ae (aI (cy (aT (bY (pv 2)))) (ah (av (ku (lZ hr) (pv 0) (bY (pv 2)) (fun _ _=>rfl)))) ax) (ae (cZ 3 gW.nd (bC af)) (ae (dF PassesOwn.never rfl (dz (ku (lZ hr) (pv 0) (bY (pv 2)) (fun _ _=>rfl))) (kj 4 gW.nd) (ae (cZ 5 gW.nd (bJ (cu (aq (ba.or (aN (aF hr))) (bY (pv 4)) aA (aw _)) aA (bJ (cu (aq (ba.or (aN (aF hr))) (bY (pv 4)) aA (aw _)) aA (bY (pv 4))))))) (ah (aS (cQ Zj' slot_list_append Zp' bp (pv 3) (aa (cU (aa (pv 5) (aa (bY (pv 4)) af))) af)))))) (ah (av (pv 3)))))))) ?_;obtain⟨v,hg,hv⟩:=hd.get hf;refine⟨_,rfl,_,rfl,d,v,rfl,hg,?_⟩;cases th with
 |pl ss =>
  obtain⟨l,ys,rfl,h1,h2⟩:=hv;tm_up;refine⟨_,_,_,_,rfl,eY.lst h1,rfl,_,rfl,cX ?_⟩;exact⟨_,rfl,q l ys H (ao.refl _) h1 (by rw[mn hf];exact h2)⟩
 |cn ld lt sl tn =>
  obtain⟨p,rfl,hp⟩:=hv;obtain⟨⟨ss,uU⟩,_⟩:=wv.ld n ld lt sl tn (cF hf);have hfl:=wv.find uU;have gl:=(wv.gd _ _ uU).1;rw[oP hf hfl]at q;obtain⟨v2,hg2,l,ys,rfl,h1,h2⟩:=hd.get hfl;tm_up;refine⟨_,_,_,_,rfl,eY.tup hp,rfl,_,rfl,cf ?_⟩;refine⟨_,rfl,yh (i:=3) hp rfl ?_⟩;refine⟨_,rfl,?_⟩;cases tn with
  |false =>
   refine cX ?_;refine⟨_,rfl,_,rfl,yh (i:=0) hp rfl ?_⟩;exact⟨d,_,rfl,hg2,q l ys H (ao.refl _) h1 h2⟩
  |true =>
   refine cf ?_;refine⟨big (by show 0<=1000;omega),fun told NB=>?_⟩;have s1:=ao.upd (o:=.lst []) NB;have ht1:=ag (H:=H) (a:=told) (o:=.lst []);generalize upd H told (.lst [])=H1 at s1 ht1;have y3:=cE h2;refine⟨_,rfl,_,rfl,yh (i:=0) (s1 _ _ hp) rfl ?_⟩;have nlt:l≠told:=au h1 NB;have hg3:mf H1 d (.str ld) (some (.ref l)):=hg2.same s1;refine⟨d,_,rfl,hg3,l,rfl,⟨_,aL.of (s1 _ _ h1)⟩,lX (K:=K) (xs:=ys) (fun i σ H'=>∃(u k:Option V)(zs:List V),σ=[some (.ref d),some (.str n),some (.ref p),some (.ref told),u,k]/\ao H H'/\H' told=some (.lst zs)/\ia H' zs ((ss.take i).map kB)) ⟨none,none,[],rfl,s1,ht1,.nil⟩ ?_ ?_ ?_⟩
   ·rintro i σ H' _ ⟨u,k,zs,rfl,s2,_⟩;exact aL.of (s2 _ _ h1)
   ·rintro i y σ H' hy ⟨u,k,zs,rfl,s2,Nm,gz⟩;obtain⟨sg,hsg,ps,rfl,hps⟩:=oK h2 hy;have hi:i<ss.length:=(S'.mp hsg).1;have OX:=s2 _ _ hps;have zl:=cE gz;rw[P',length_take]at zl;refine⟨fun v Hx=>v=.str (By sg.1).str/\Hx=H',?_,?_⟩
    ·refine⟨_,rfl,R0 OX ?_⟩;refine .inl ⟨rfl,_,rfl,?_⟩;rw[Mz];refine aG (fun h=>?_) (fun h=>?_)
     ·rw[G' h];exact⟨rfl,rfl⟩
     ·have h':sg.1≠.two:=fun z=>h (L' z);refine⟨fun v Hx=>v=.str (By sg.1).str/\Hx=H',?_,fun _ _ z=>z⟩;refine⟨_,rfl,R0 OX ?_⟩;refine .inl ⟨rfl,_,rfl,?_⟩;rw[C9];refine aG (fun h3=>?_) (fun h3=>?_)
      ·rw[G' h3];exact⟨rfl,rfl⟩
      ·have h3':sg.1≠.three:=fun z=>h3 (L' z);refine⟨_,rfl,R0 OX ⟨?_,rfl⟩⟩;cases hk:sg.1 <;> first|rfl|exact j' hk h'|exact j' hk h3'
    intro v Hx ⟨e1,e2⟩;rw[e1,e2];refine⟨_,rfl,.inl ⟨rfl,_,aL.of Nm⟩,_,rfl,_,rfl,XG OX ?_⟩;refine⟨by show 2<=sizeLine;decide,fun tp htp=>?_⟩;have s3:=ao.upd (o:=.tup [V.str (By sg.1).str,V.int sg.2]) htp;refine⟨told,_,_,rfl,rfl,s3 _ _ Nm,aJ (by omega),?_⟩;refine⟨_,_,zs++[.ref tp],rfl,cb (s2.trans s3) NB,ag,?_⟩;rw[take_succ,hsg,map_append];exact iS (Dc (s3 _ _ Nm) (gz.same s3)) (EB (s3 _ _ Nm) ⟨tp,rfl,ag⟩)
   ·rintro σ H' ⟨u,k,zs,rfl,s2,Nm,gz⟩;rw[y3,take_length]at gz;exact⟨_,rfl,q told zs H' s2 Nm gz⟩
theorem RF {k:Kd}(h:k.meas=true)(m:Int):intText? k.str=some (nm m k)/\k.str.length<=640:=by
 cases k <;> first|(cases h;done)|exact⟨by first|exact(show intText? Kd.three.str=some 3 by lk)|exact(show intText? Kd.two.str=some 2 by lk),by lk⟩
theorem Ue {k:Kd}(h:¬ k.meas=true)(m:Int):nm m k=m:=by
 cases k <;> first|rfl|exact j' rfl h
theorem Gh (k:Kd):k.meas=(decide (k=.three)||decide (k=.two)):=by cases k <;> rfl
theorem JB (k:Kd):vd k.str ".32" = k.parting:=by cases k <;> decide +kernel
theorem uN (k:Kd):vd k.str "sdr"=k.small:=by cases k <;> decide +kernel
theorem OY {k:Kd}(h:k.parting=true)(m:Int)(n:Option Kd):bw m k n=0:=by cases k <;> first|(cases h;done)|(unfold bw;rw[Za' (by rintro⟨_,z,_⟩;cases z)];rfl)
theorem NC {k:Kd}(h:k.small=true)(m:Int)(n:Option Kd):bw m k n=1:=by cases k <;> first|(cases h;done)|(unfold bw;rw[Za' (by rintro⟨_,z,_⟩;cases z)];rfl)
theorem W2 (m:Int)(n:Option Kd):bw m .D n=2:=by unfold bw;rw[Za' (by rintro⟨_,z,_⟩;cases z)];rfl
theorem OZ {k:Kd}{m:Int}{n:Option Kd}(hm:Ms m)(h1:k.parting=false)(h2:k.small=false)(h3:k≠.D)(h4:¬(m=2/\k=.G/\n=some .dot)):bw m k n=m:=by
 unfold bw;rw[Za' h4];rcases hm with rfl|rfl <;> cases k <;> first|(cases h1;done)|(cases h2;done)|rfl|exact j' rfl h3
inductive CK (K:Frag)(vs:List V)(H:Hp)(Q:VK)(E:XK):Prop
 |mk (l:Addr) (b:Int) (xs:List V) (ss:List Sg) (cL:vs=[.ref l,.int b]) (cM:Ms b) (dA:aL K H l xs) (fA:ia H xs ss) (ki:ss.length<=400) (Bb:∀(f:Addr)(H':Hp),ao H H'->H f=none->H' f=some (.lst ((fc b (bc ss)).map V.int))->Q (.ref f) H'):CK K vs H Q E
theorem K2 (T:Txt K w mg t):aR P w K mg base d3 (0+1) t.Fq t.Ft ["_law_line_here","_law_begin"] (CK K):=by
 refine T.FO.ok jw ?_ ?_
 x_go
 obtain⟨l,b,xs,ss,rfl,R6,hS,hg,hn,q⟩:=h;have Jt:(2:Int) ^ 62=4611686018427387904:=by decide
 refine aH (ae (cZ 2 jw.nd (bC af)) (ae (cZ 3 jw.nd (pv 1)) (ae (dF PassesOwn.never rfl (ip rfl T.gZ (aa (aE (aB.or aC) rfl T.bg bf (aa (pv 0) af)) af)) (kj 4 jw.nd) (ae (cZ 5 jw.nd (bL bo (bL bo (pv 0) (pv 4) (fun _ _=>rfl)) ai (fun _ _=>rfl))) (ae (gQ (aI (bq (PW.pt (dj (aq (ba.or (aN (aF hr))) (pv 5) aA (aw _)) (cT (aq (ba.or (aN (aF hr))) (pv 5) aA (aw _)))))) (ah (cZ 3 jw.nd (bP (fB.or cG) rfl T.j1 jF (aa (pv 5) af)))) ax)) (ah (aI (aq (bX.or bW) (pv 5) aA rfl) (ah (aS (cQ Zj' slot_list_append Zp' bp (pv 2) (aa ai af)))) (ah (aI (aq (bX.or bW) (pv 5) aA rfl) (ah (aS (cQ Zj' slot_list_append Zp' bp (pv 2) (aa ai af)))) (ah (aI (aq (ba.or (aN (aF hr))) (pv 5) aA (aw _)) (ah (aS (cQ Zj' slot_list_append Zp' bp (pv 2) (aa ai af)))) (ah (aI (bq (PW.pt (cN (aq (ba.or (aN (aF hr))) (pv 3) ai (aw _)) (cN (aq (ba.or (aN (aF hr))) (pv 5) aA (aw _)) (cN (aq gK (aD (aO.or (ay.or aP)) (pv 4) ai) (aE (aB.or aC) rfl T.bg bf (aa (pv 0) af)) (aw _)) (dJ (aq (ba.or (aN (aF hr))) (bL bo (bL bo (pv 0) (aD (aO.or (ay.or aP)) (pv 4) ai) (fun _ _=>rfl)) ai (fun _ _=>rfl)) aA (aw _)))))))) (ah (aS (cQ Zj' slot_list_append Zp' bp (pv 2) (aa ai af)))) (ah (aS (cQ Zj' slot_list_append Zp' bp (pv 2) (aa (pv 3) af))))))))))))))) (ah (av (pv 2)))))) ?_;refine⟨big (by show 0<=1000;omega),fun f hf=>?_⟩;tm_up;refine .inl ⟨_,_,rfl,.inl (dX hS hf),?_⟩;rw[cE hg];refine⟨(ss.length:Int),rfl,by rw[Jt];omega,by rw[Jt];omega,?_⟩;refine jv (n:=((ss.length:Int)).toNat) (fun i σ H'=>∃(m:Int)(v w:Option V)(fs:List Int),σ=[some (.ref l),some (.int b),some (.ref f),some (.int m),v,w]/\Ms m/\H'=upd H f (.lst (fs.map V.int))/\fs++fc m ((bc ss).drop i)=fc b (bc ss))
  ⟨b,none,none,[],rfl,R6,rfl,rfl⟩ ?_ ?_
 ·rintro i σ H' hi ⟨m,v,w,fs,rfl,XR,rfl,hm⟩;have hil:i<ss.length:=by omega
  have hd:=jj (oN (f:=Prod.fst) (R' hil));rw[hd]at hm;have hS':aL K (upd H f (.lst (fs.map V.int))) l xs:=dX hS hf;have hg':ia (upd H f (.lst (fs.map V.int))) xs ss:=hg.same (ao.upd hf);have hl:=Zn' List.length hm;simp only [Zd',fc,Zk',mj,P']at hl;simp only [fc,head_drop]at hm;tm_up;refine AN hS' hg' (n:=i) (by omega) (R' hil) fun p hp=>?_;generalize hk:(ss[i]).1=k at hm hp;tm_up;refine Mc [some (.ref l),some (.int b),some (.ref f),some (.int (nm m k)),some (.int (0+(i:Int))),some (.str k.str)] (upd H f (.lst (fs.map V.int))) ?_ ?_
  ·refine dG k.meas ?_ ?_
   ·tm_up;rw[C9];refine aG (fun h=>?_) (fun h=>?_)
    ·exact bD (by rw[Gh,h];rfl)
    ·tm_up;rw[Mz];exact bD (by rw[Gh,Y'.mpr h];rfl)
   refine aG (fun h=>?_) (fun h=>?_)
   ·obtain⟨e1,e2⟩:=RF h m;tm_up;exact .inr ⟨_,_,rfl,e1,e2,rfl,rfl⟩
   ·rw[Ue h];exact⟨rfl,rfl⟩
  have Ye:=XR.nm k;have fin:∀(z:Int),z=bw (nm m k) k (bc ss)[i+1]?->∃(m':Int)(v w:Option V)(fs':List Int),[some (V.ref l),some (V.int b),some (V.ref f),some (V.int (nm m k)),some (V.int (0+(i:Int))),some (V.str k.str)]=[some (.ref l),some (.int b),some (.ref f),some (.int m'),v,w]/\Ms m'/\upd (upd H f (.lst (fs.map V.int))) f (.lst (fs.map V.int++[V.int z]))=upd H f (.lst (fs'.map V.int))/\fs'++fc m' ((bc ss).drop (i+1))=fc b (bc ss):=by
   intro z hz;exact⟨nm m k,_,_,fs++[z],rfl,Ye,by rw[cq,map_append];rfl,by rw[List.append_assoc,hz];exact hm⟩
  tm_up;refine aG (fun h=>?_) (fun h=>?_)
  ·have h':k.parting=true:=by rw[<-JB];exact h
   tm_up;refine⟨.inl ⟨rfl,_,aL.of ag⟩,?_⟩;refine⟨_,_,_,rfl,rfl,ag,by rw[P'];exact aJ (by omega),fin 0 (OY h' ..).symm⟩
  ·have h1:k.parting=false:=by rw[<-JB];exact Y'.mpr h
   tm_up;refine aG (fun h=>?_) (fun h=>?_)
   ·have h':k.small=true:=by rw[<-uN];exact h
    tm_up;refine⟨.inl ⟨rfl,_,aL.of ag⟩,?_⟩;refine⟨_,_,_,rfl,rfl,ag,by rw[P'];exact aJ (by omega),fin 1 (NC h' ..).symm⟩
   ·have h2:k.small=false:=by rw[<-uN];exact Y'.mpr h
    tm_up;rw[Zf];refine aG (fun h=>?_) (fun h=>?_)
    ·have h':k=.D:=G' h;tm_up;refine⟨.inl ⟨rfl,_,aL.of ag⟩,?_⟩;refine⟨_,_,_,rfl,rfl,ag,by rw[P'];exact aJ (by omega),fin 2 (by rw[h'];exact(W2 ..).symm)⟩
    ·have h3:k≠.D:=fun z=>h (L' z);refine dG (decide (nm m k=2/\k=.G/\(bc ss)[i+1]? = some .dot)) ?_ ?_
     ·tm_up;rw[dq];refine aG (fun h=>?_) (fun h=>?_)
      ·have e1:=G' h;tm_up;rw[Wn];refine aG (fun h=>?_) (fun h=>?_)
       ·have e2:=G' h;tm_up;refine .inl ⟨_,_,rfl,.inl hS',?_⟩;rw[cE hg];tm_up;refine aG (fun h=>?_) (fun h=>?_)
        ·have hlt:i+1<ss.length:=by have:=G' h;omega
         tm_up;refine AN hS' hg' (n:=i+1) (by omega) (R' hlt) fun p2 hp2=>?_;tm_up;rw[Tw];refine bD ?_;have e3:(bc ss)[i+1]? = some (ss[i+1]).1:=oN (R' hlt);rw[e3];subst e2;simp[e1]
        ·refine bD ?_;have e3:(bc ss)[i+1]? = none:=List.getElem?_eq_none (by rw[P'];have:¬(0+(i:Int)+1<ss.length):=fun z=>h (L' z);omega);rw[e3];simp
       ·refine bD ?_;have e2:k≠.G:=fun z=>h (L' z);simp[e2]
      ·refine bD ?_;have e1:nm m k≠2:=fun z=>h (L' z);simp[e1]
     ·refine aG (fun h=>?_) (fun h=>?_)
      ·have h':=G' h;tm_up;refine⟨.inl ⟨rfl,_,aL.of ag⟩,?_⟩;refine⟨_,_,_,rfl,rfl,ag,by rw[P'];exact aJ (by omega),fin 3 (by unfold bw;rw[Zc' h'])⟩
      ·have h':¬(nm m k=2/\k=.G/\(bc ss)[i+1]? = some .dot):=fun z=>h (L' z);tm_up;refine⟨.inl ⟨rfl,_,aL.of ag⟩,?_⟩;tm_up;refine⟨_,_,_,rfl,rfl,ag,by rw[P'];exact aJ (by omega),fin _ (OZ Ye h1 h2 h3 h').symm⟩
 ·rintro σ H' ⟨m,v,w,fs,rfl,_,rfl,hm⟩;have e0:((ss.length:Int)).toNat=ss.length:=by omega
  rw[e0,List.drop_eq_nil_of_le (by rw[P'];exact X' _)]at hm;tm_up;have e:fs=fc b (bc ss):=by rw[<-hm];simp[fc]
  subst e;exact q f _ (ao.upd hf) hf ag
inductive Az (K:Frag)(vs:List V)(H:Hp)(Q:VK)(E:XK):Prop
 |mk (l:Addr) (b:Int) (xs:List V) (ss:List Sg) (cL:vs=[.ref l,.int b]) (cM:aL K H l xs) (dA:ia H xs ss) (fA:ss.length<=400) (ki:∀(f:Addr)(H':Hp),ao H H'->H f=none->H' f=some (.lst ((gq b (bc ss)).map V.bl))->Q (.ref f) H'):Az K vs H Q E
theorem Ug {k:Kd}(h:k.meas=true)(m:Int):intText? k.str=some (nm m k)/\k.str.length<=640:=by
 cases k <;> first|(cases h;done)|exact⟨by first|exact(show intText? Kd.three.str=some 3 by lk)|exact(show intText? Kd.two.str=some 2 by lk),by lk⟩
theorem W3 {k:Kd}(h:¬ k.meas=true)(m:Int):nm m k=m:=by
 cases k <;> first|rfl|exact j' rfl h
theorem JC (k:Kd):k.meas=(decide (k=.three)||decide (k=.two)):=by cases k <;> rfl
theorem HR (T:Txt K w mg t):aR P w K mg base d3 (0+1) t.Cg t.Ci ["_law_line_here","_law_begin"] (Az K):=by
 refine T.Ct.ok jT ?_ ?_
 x_go
 obtain⟨l,b,xs,ss,rfl,hS,hg,hn,q⟩:=h;refine aH (ae (cZ 2 jT.nd (bC af)) (ae (cZ 3 jT.nd (pv 1)) (ae (dF PassesOwn.never rfl (dz (pv 0)) (kj 4 jT.nd) (ae (gQ (aI (bq (PW.pt (dj (aq (ba.or (aN (aF hr))) (bY (pv 4)) aA (aw _)) (cT (aq (ba.or (aN (aF hr))) (bY (pv 4)) aA (aw _)))))) (ah (cZ 3 jT.nd (bP (fB.or cG) rfl T.j1 jF (aa (bY (pv 4)) af)))) ax)) (ah (aS (cQ Zj' slot_list_append Zp' bp (pv 2) (aa (bB (ba.or (aN (aF hr))) (pv 3) ai (aw _)) af)))))) (ah (av (pv 2)))))) ?_;refine⟨big (by show 0<=1000;omega),fun f hf=>?_⟩;tm_up;refine⟨⟨xs,dX hS hf⟩,lX (K:=K) (xs:=xs) (fun i σ H'=>∃(m:Int)(v:Option V)(fs:List Bool),σ=[some (.ref l),some (.int b),some (.ref f),some (.int m),v]/\H'=upd H f (.lst (fs.map V.bl))/\fs++gq m ((bc ss).drop i)=gq b (bc ss))
  ⟨b,none,[],rfl,rfl,rfl⟩ ?_ ?_ ?_⟩
 ·rintro i σ H' _ ⟨m,v,fs,rfl,rfl,_⟩;exact dX hS hf
 ·rintro i x σ H' hx ⟨m,v,fs,rfl,rfl,hm⟩;obtain⟨s,hs,p,rfl,hp⟩:=oK hg hx;have hd:=jj (oN (f:=Prod.fst) hs);rw[hd]at hm;have hp':upd H f (.lst (fs.map V.bl)) p=some (.tup [.str s.1.str,.int s.2]):=by rw[ak (au hp hf)];exact hp
  have hl:=Zn' List.length hm;simp only [Zd',gq,Zk',G6,P']at hl;refine Mc [some (.ref l),some (.int b),some (.ref f),some (.int (nm m s.1)),some (.ref p)] (upd H f (.lst (fs.map V.bl))) ?_ ?_
  ·refine dG s.1.meas ?_ ?_
   ·tm_up;rw[C9];refine aG (fun h=>?_) (fun h=>?_)
    ·exact bD (by rw[JC,h];rfl)
    ·tm_up;rw[Mz];exact bD (by rw[JC,Y'.mpr h];rfl)
   refine aG (fun h=>?_) (fun h=>?_)
   ·obtain⟨e1,e2⟩:=Ug h m;tm_up;exact .inr ⟨_,_,rfl,e1,e2,rfl,rfl⟩
   ·rw[W3 h];exact⟨rfl,rfl⟩
  ·tm_up;refine⟨.inl ⟨rfl,_,aL.of ag⟩,?_⟩;tm_up;rw[dq];refine⟨_,_,_,rfl,rfl,ag,by rw[P'];exact aJ (by omega),?_⟩;exact⟨_,_,fs++[decide (nm m s.1=3)],rfl,by rw[cq,map_append];rfl,by rw[List.append_assoc];exact hm⟩
 ·rintro σ H' ⟨m,v,fs,rfl,rfl,hm⟩;rw[List.drop_eq_nil_of_le (by rw[P',cE hg];exact X' _)]at hm;tm_up;have e:fs=gq b (bc ss):=by rw[<-hm];simp[gq]
  subst e;exact q f _ (ao.upd hf) hf ag
def W4 (K:Frag)(g:List Kd->List Int->Nat->Nat->Bool×List Int):Sp:=fun vs H Q _=>∃(l f:Addr)(a z:Nat)(xs:List V)(ss:List Sg)(fs:List Int),vs=[.ref l,.ref f,.int (a:Int),.int (z:Int)]/\aL K H l xs/\ia H xs ss/\l≠f/\H f=some (.lst (fs.map V.int))/\fs.length=ss.length/\a<z/\z<=ss.length /\
 Q (.bl (g (bc ss) fs a z).1) (upd H f (.lst ((g (bc ss) fs a z).2.map V.int)))
theorem AA (k:Kd):vd k.str "GDR"=k.great:=by cases k <;> decide +kernel
theorem vO (o:Option Kd):(o.getD .dot).great=lP o:=by cases o <;> rfl
theorem W5 (o:Option Kd):decide (o.getD .dot=.G)=decide (o=some .G):=by
 cases o with
 |none=>decide
 |some k=>simp
theorem K3 {ks:List Kd}{f:List Int}{a z:Nat}{r:Nat}(hr:(z-a) % 3=r)(Uc:r<3) :
  settle ks f a z=if decide (r=2)&&(lP ks[z]? && decide (ks[z-1]? = some .s)) then(true,f.set (z-1) 2) else
   (decide (r=0)||((decide (r=1)&&(fX ks f a||eC ks z))||(decide (r=2)&&(fX ks f a&&eC ks z))),
    let g:=if(decide (r=1)&&fX ks f a)||(decide (r=2)&&(fX ks f a&&eC ks z)) then f.set (a-1) 2 else f
    if(decide (r=1)&&(eC ks z && !fX ks f a))||(decide (r=2)&&(fX ks f a&&eC ks z)) then g.set z 2 else g):=by
 unfold settle sJ sL;rw[hr];have:r=0\/r=1\/r=2:=by omega
 rcases this with rfl|rfl|rfl <;> cases fX ks f a <;> cases eC ks z <;> cases lP ks[z]? <;> cases decide (ks[z-1]? = some .s) <;> rfl
theorem ND (T:Txt K w mg t):aR P w K mg base d3 (0+1) t.Jf t.Jg ["_law_line_here","_law_told","_law_low","_law_high"] (W4 K settle):=by
 refine T.Jl.ok my ?_ ?_
 x_go
 obtain⟨l,f,a,z,xs,ss,fs,rfl,hS,hg,hlf,hf,hl,Ub,hz,q⟩:=h;obtain⟨r,hrr⟩:∃ r:Nat,(z-a) % 3=r:=⟨_,rfl⟩;have Uc:r<3:=by omega
 rw[K3 hrr Uc]at q;have hri:((z:Int)-(a:Int)) % 3=(r:Int):=by omega
 have dI:∀ n:Nat,decide (V.int (((z:Int)-(a:Int)) % 3)=V.int (n:Int))=decide (r=n):=fun n=>by
  rw[hri,dq]
  by_cases e:r=n
  ·simp[e]
  ·have:¬((r:Int)=(n:Int)):=by omega
   simp[e,this]
 have d0:decide (V.int (((z:Int)-(a:Int)) % 3)=V.int 0)=decide (r=0):=dI 0;have d1:decide (V.int (((z:Int)-(a:Int)) % 3)=V.int 1)=decide (r=1):=dI 1;have d2:decide (V.int (((z:Int)-(a:Int)) % 3)=V.int 2)=decide (r=2):=dI 2;refine aH (ae (cZ 4 my.nd (aD bF (aD gn (pv 3) (pv 2)) ai)) (ae (cZ 5 my.nd (bJ (cu (aq gK (pv 3) (aE (aB.or aC) rfl T.bg bf (aa (pv 0) af)) (aw _)) (bL bo (bL bo (pv 0) (pv 3) (fun _ _=>rfl)) ai (fun _ _=>rfl)) aA))) (ae (cZ 6 my.nd (bJ (cu (aq gK (aD (aO.or (ay.or aP)) (pv 3) ai) (aE (aB.or aC) rfl T.bg bf (aa (pv 0) af)) (aw _)) (bL bo (bL bo (pv 0) (aD (aO.or (ay.or aP)) (pv 3) ai) (fun _ _=>rfl)) ai (fun _ _=>rfl)) aA))) (ae (cZ 7 my.nd (bJ (eX (bB nG (pv 2) ai (aw _)) (eX (bB (ba.or (aN (aF hr))) (bL bo (bL bo (pv 0) (aD gn (pv 2) ai) (fun _ _=>rfl)) ai (fun _ _=>rfl)) aA (aw _)) (gm (bB (ba.or (aN (aF hr))) (bL bo (pv 1) (aD gn (pv 2) ai) (fun _ _=>rfl)) ai (aw _))))))) (ae (cZ 8 my.nd (bJ (eX (bB (ba.or (aN (aF hr))) (pv 5) aA (aw _)) (gm (bB (cV.or cW) (pv 6) aA rfl))))) (ae (aI (bq (PW.pt (cN (aq (ba.or (aN (aF hr))) (pv 4) ai (aw _)) (cN (aq (bX.or bW) (pv 5) aA rfl) (dJ (aq (ba.or (aN (aF hr))) (bL bo (bL bo (pv 0) (aD gn (pv 3) ai) (fun _ _=>rfl)) ai (fun _ _=>rfl)) aA (aw _))))))) (ae (eL ai (jD (pv 1) (aD gn (pv 3) ai) set_list)) (ah (av di))) ax) (ae (gQ (aI (bq (PW.pt (dj (bq (PW.pt (cN (aq (ba.or (aN (aF hr))) (pv 4) ai (aw _)) (dJ (aT (pv 7)))))) (cT (bq (PW.pt (cN (aq (ba.or (aN (aF hr))) (pv 4) ai (aw _)) (cN (aT (pv 7)) (dJ (aT (pv 8))))))))))) (ah (eL ai (jD (pv 1) (aD gn (pv 2) ai) set_list))) ax)) (ae (gQ (aI (bq (PW.pt (dj (bq (PW.pt (cN (aq (ba.or (aN (aF hr))) (pv 4) ai (aw _)) (cN (aT (pv 8)) (dJ (cy (aT (pv 7)))))))) (cT (bq (PW.pt (cN (aq (ba.or (aN (aF hr))) (pv 4) ai (aw _)) (cN (aT (pv 7)) (dJ (aT (pv 8))))))))))) (ah (eL ai (jD (pv 1) (pv 3) set_list))) ax)) (ah (av (bJ (Li (bB (ba.or (aN (aF hr))) (pv 4) ai (aw _)) (Li (bJ (eX (bB (ba.or (aN (aF hr))) (pv 4) ai (aw _)) (gm (bJ (Li (pv 7) (gm (pv 8))))))) (gm (bJ (eX (bB (ba.or (aN (aF hr))) (pv 4) ai (aw _)) (eX (pv 7) (gm (pv 8))))))))))))))))))) ?_;tm_up;refine rb (.str ((bc ss)[z]?.getD .dot).str) ?_ ?_
 ·tm_up;refine .inl ⟨_,_,rfl,.inl hS,?_⟩;rw[cE hg];tm_up;refine aG (fun h=>?_) (fun h=>?_)
  ·have hlt:z<ss.length:=by have:=G' h;omega
   tm_up;refine AN hS hg (n:=z) rfl (R' hlt) fun p hp=>?_;tm_up;refine i0 ?_;rw[Zl',R' hlt];rfl
  ·refine i0 ?_;have hge:¬ z<ss.length:=fun c=>h (L' (by omega));rw[List.getElem?_eq_none (by rw[P'];omega)];rfl
 refine rb (.str ((bc ss)[z+1]?.getD .dot).str) ?_ ?_
 ·tm_up;refine .inl ⟨_,_,rfl,.inl hS,?_⟩;rw[cE hg];tm_up;refine aG (fun h=>?_) (fun h=>?_)
  ·have hlt:z+1<ss.length:=by have:=G' h;omega
   tm_up;refine AN hS hg (n:=z+1) (by omega) (R' hlt) fun p hp=>?_;tm_up;refine i0 ?_;rw[Zl',R' hlt];rfl
  ·refine i0 ?_;have hge:¬ z+1<ss.length:=fun c=>h (L' (by omega));rw[List.getElem?_eq_none (by rw[P'];omega)];rfl
 refine rb (.bl (fX (bc ss) fs a)) ?_ ?_
 ·tm_up;refine aG (fun h=>?_) (fun h=>?_)
  ·have hp:0<a:=by have:=G' h;omega
   have hlt:a-1<ss.length:=by omega
   have ek:Df (bc ss) ((a:Int)-1)=some (ss[a-1]).1:=by
    have:(a:Int)-1=((a-1:Nat):Int):=by omega
    rw[this,ky,Zl',R' hlt];rfl
   tm_up;refine AN hS hg (n:=a-1) (by omega) (R' hlt) fun p hp=>?_;tm_up;rw[Wn];refine aG (fun h2=>?_) (fun h2=>?_)
   ·tm_up;refine MB (aL.of hf) (n:=a-1) (by omega) (R' (by omega)) ?_;tm_up;rw[dq];refine i0 ?_;unfold fX;rw[ek,G' h2,List.getD_eq_getElem?_getD,R' (by omega)];simp
   ·refine i0 ?_;unfold fX;rw[ek];have:(ss[a-1]).1≠.G:=fun c=>h2 (L' c);simp[this]
  ·refine i0 ?_;have hp:a=0:=by
    have:¬ 0<a:=fun c=>h (L' (by omega));omega
   subst hp;unfold fX Df;simp
 refine rb (.bl (eC (bc ss) z)) ?_ ?_
 ·tm_up;rw[Wn,W5];refine aG (fun h=>?_) (fun h=>?_)
  ·tm_up;refine i0 ?_;unfold eC;rw[h];show V.bl (!vd _ _)=_;rw[AA,vO];rfl
  ·refine i0 ?_;unfold eC;rw[Y'.mpr h];rfl
 generalize hL:fX (bc ss) fs a=L at q;generalize hR:eC (bc ss) z=R at q;refine dG (decide (r=2)&&(lP (bc ss)[z]? && decide ((bc ss)[z-1]? = some .s))) ?_ ?_
 ·tm_up;rw[d2];refine aG (fun h=>?_) (fun h=>?_)
  ·rw[h];tm_up;refine aG (fun h2=>?_) (fun h2=>?_)
   ·have h2':lP (bc ss)[z]? = true:=by
     have:vd ((bc ss)[z]?.getD .dot).str "GDR"=true:=h2
     rwa [AA,vO]at this
    rw[h2'];tm_up;have hlt:z-1<ss.length:=by omega
    refine AN hS hg (n:=z-1) (by omega) (R' hlt) fun p hp=>?_;tm_up;rw[Zh];refine bD ?_;rw[Zl',R' hlt];simp
   ·have h2':lP (bc ss)[z]? = false:=by
     have:vd ((bc ss)[z]?.getD .dot).str "GDR"=false:=Y'.mpr h2
     rwa [AA,vO]at this
    rw[h2'];exact bD rfl
  ·exact bD (by rw[Y'.mpr h];rfl)
 refine aG (fun h=>?_) (fun h=>?_)
 ·rw[Zc' h]at q;tm_up;refine⟨_,_,_,_,rfl,rfl,hf,gR (j:=z-1) (by omega) (by rw[P'];omega),?_⟩;rw[iJ];exact q
 ·rw[Za' h]at q;dsimp only at q;have hLp:L=true->1<=a/\a-1<ss.length:=fun e=>by
   have:=vg (hL.trans e)
   rwa [P']at this
  have hRp:R=true->z<ss.length:=fun e=>by
   have:=rB (hR.trans e)
   rwa [P']at this
  generalize hg1:(if(decide (r=1)&&L||decide (r=2)&&(L&&R))=true then fs.set (a-1) 2 else fs)=g1 at q;have g1l:g1.length=ss.length:=by rw[<-hg1];split <;> simp[hl]
  refine Mc [some (.ref l),some (.ref f),some (.int (a:Int)),some (.int (z:Int)),some (.int (((z:Int)-(a:Int)) % 3)),some (.str ((bc ss)[z]?.getD .dot).str),some (.str ((bc ss)[z+1]?.getD .dot).str),some (.bl L),some (.bl R)] (upd H f (.lst (g1.map V.int))) ?_ ?_
  ·refine dG (decide (r=1)&&L||decide (r=2)&&(L&&R)) ?_ ?_
   ·refine dG (decide (r=1)&&L) ?_ ?_
    ·tm_up;rw[d1];refine aG (fun h=>?_) (fun h=>?_)
     ·tm_up;exact bD (by rw[h];rfl)
     ·exact bD (by rw[Y'.mpr h];rfl)
    ·refine aG (fun h=>bD (by rw[h];rfl)) (fun h=>?_);rw[Y'.mpr h,Bool.false_or];refine dG (decide (r=2)&&(L&&R)) ?_ (bD rfl);tm_up;rw[d2];refine aG (fun h=>?_) (fun h=>?_)
     ·tm_up;refine aG (fun h2=>?_) (fun h2=>?_)
      ·tm_up;exact bD (by rw[h,h2];rfl)
      ·exact bD (by rw[h,Y'.mpr h2];rfl)
     ·exact bD (by rw[Y'.mpr h];rfl)
   ·refine aG (fun h=>?_) (fun h=>?_)
    ·rw[Zc' h]at hg1;have hp:=hLp (by cases L <;> simp_all);tm_up;refine⟨_,_,_,_,rfl,rfl,hf,gR (j:=a-1) (by omega) (by rw[P'];omega),?_⟩;rw[iJ,hg1];exact⟨rfl,rfl⟩
    ·rw[Za' h]at hg1;subst hg1;rw[sM hf];exact⟨rfl,rfl⟩
  generalize hg2:(if(decide (r=1)&&(R && !L)||decide (r=2)&&(L&&R))=true then g1.set z 2 else g1)=g2 at q;refine Mc [some (.ref l),some (.ref f),some (.int (a:Int)),some (.int (z:Int)),some (.int (((z:Int)-(a:Int)) % 3)),some (.str ((bc ss)[z]?.getD .dot).str),some (.str ((bc ss)[z+1]?.getD .dot).str),some (.bl L),some (.bl R)] (upd H f (.lst (g2.map V.int))) ?_ ?_
  ·refine dG (decide (r=1)&&(R && !L)||decide (r=2)&&(L&&R)) ?_ ?_
   ·refine dG (decide (r=1)&&(R && !L)) ?_ ?_
    ·tm_up;rw[d1];refine aG (fun h=>?_) (fun h=>?_)
     ·tm_up;refine aG (fun h2=>?_) (fun h2=>?_)
      ·tm_up;exact bD (by rw[h,h2];rfl)
      ·exact bD (by rw[h,Y'.mpr h2];rfl)
     ·exact bD (by rw[Y'.mpr h];rfl)
    ·refine aG (fun h=>bD (by rw[h];rfl)) (fun h=>?_);rw[Y'.mpr h,Bool.false_or];refine dG (decide (r=2)&&(L&&R)) ?_ (bD rfl);tm_up;rw[d2];refine aG (fun h=>?_) (fun h=>?_)
     ·tm_up;refine aG (fun h2=>?_) (fun h2=>?_)
      ·tm_up;exact bD (by rw[h,h2];rfl)
      ·exact bD (by rw[h,Y'.mpr h2];rfl)
     ·exact bD (by rw[Y'.mpr h];rfl)
   ·refine aG (fun h=>?_) (fun h=>?_)
    ·rw[Zc' h]at hg2;have hp:=hRp (by cases R <;> simp_all);tm_up;refine⟨_,_,_,_,rfl,rfl,ag,gR (j:=z) rfl (by rw[P'];omega),?_⟩;rw[iJ,hg2,cq];exact⟨rfl,rfl⟩
    ·rw[Za' h]at hg2;subst hg2;exact⟨rfl,rfl⟩
  refine rb (.bl (decide (r=0)||(decide (r=1)&&(L||R)||decide (r=2)&&(L&&R)))) ?_ q;tm_up;rw[d0];refine aG (fun h=>i0 (by rw[h];rfl)) (fun h=>?_);rw[Y'.mpr h,Bool.false_or];refine rb (.bl (decide (r=1)&&(L||R))) ?_ ?_
  ·tm_up;rw[d1];refine aG (fun h=>?_) (fun h=>i0 (by rw[Y'.mpr h];rfl));refine rb (.bl (L||R)) ?_ (i0 (by rw[h];rfl));tm_up;refine aG (fun h=>i0 (by rw[h];rfl)) (fun h=>?_);tm_up;exact i0 (by rw[Y'.mpr h];rfl)
  ·refine⟨_,rfl,?_⟩;refine aG (fun h=>i0 (by rw[h];rfl)) (fun h=>?_);rw[Y'.mpr h,Bool.false_or];refine rb (.bl (decide (r=2)&&(L&&R))) ?_ (i0 rfl);tm_up;rw[d2];refine aG (fun h=>?_) (fun h=>i0 (by rw[Y'.mpr h];rfl));tm_up;refine aG (fun h2=>?_) (fun h2=>?_)
   ·tm_up;exact i0 (by rw[h,h2];rfl)
   ·exact i0 (by rw[h,Y'.mpr h2];rfl)
inductive CL (K:Frag)(vs:List V)(H:Hp)(Q:VK)(E:XK):Prop
 |mk (l:Addr) (b:Int) (xs:List V) (ss:List Sg) (cL:vs=[.ref l,.int b]) (cM:Ms b) (dA:H l=some (.lst xs)) (fA:ia H xs ss) (ki:ss.length<=400) (Bb:∀(p f lo:Addr)(ys:List V)(H':Hp),ao H H'->H f=none->H lo=none->f≠lo->H' p=some (.tup [.ref f,.ref lo])->H' f=some (.lst ((gC b (bc ss)).1.map V.int))->H' lo=some (.lst ys)->G5 H' ys (gC b (bc ss)).2->Q (.ref p) H'):CL K vs H Q E
theorem K4 (T:Txt K w mg t):aR P w K mg base d3 (0+2) t.Fu t.Fv ["_law_line_here","_law_begin"] (CL K):=by
 have NF:=K2 P base T;have K5:=HR P base T;have O0:=ND P base T;refine T.Aa.ok gH ?_ ?_
 x_go
 obtain⟨l,b,xs,ss,rfl,R6,hS,hg,hn,q⟩:=h;refine aH (ae (cZ 2 gH.nd (dg T.FO NF hr (aa (pv 0) (aa (pv 1) af)))) (ae (cZ 3 gH.nd (dg T.Ct K5 hr (aa (pv 0) (aa (pv 1) af)))) (ae (cZ 4 gH.nd (bC af)) (ae (cZ 5 gH.nd ai) (ae (yy PassesOwn.never (aq gK (pv 5) (aE (aB.or aC) rfl T.bg bf (aa (pv 0) af)) (aw _)) (ae (cZ 6 gH.nd (pv 5)) (ae (yy PassesOwn.never (bq (PW.pt (cN (aq gK (pv 6) (aE (aB.or aC) rfl T.bg bf (aa (pv 0) af)) (aw _)) (cN (aq (bX.or bW) (bL bo (bL bo (pv 0) (pv 6) (fun _ _=>rfl)) ai (fun _ _=>rfl)) aA rfl) (dJ (aT (bL bo (pv 3) (pv 6) (fun _ _=>rfl)))))))) (ah (cZ 6 gH.nd (aD (aO.or (ay.or aP)) (pv 6) ai)))) (ae (gQ (aI (bq (PW.pt (cN (aq nG (pv 6) (pv 5) (aw _)) (dJ (cy (aT (dg T.Jl O0 hr (aa (pv 0) (aa (pv 2) (aa (pv 5) (aa (pv 6) af))))))))))) (ah (aS (cQ Zj' slot_list_append Zp' bp (pv 4) (aa (cU (aa (pv 5) (aa (pv 6) af))) af)))) ax)) (ah (cZ 5 gH.nd (aE (JP rfl) rfl T.Q9 Qs (aa (pv 6) (aa (aD (aO.or (ay.or aP)) (pv 5) ai) af))))))))) (ah (av (cU (aa (pv 2) (aa (pv 4) af)))))))))) ?_;tm_up;refine⟨l,b,xs,ss,rfl,R6,aL.of hS,hg,hn,fun f H1 s1 n1 h1=>?_⟩;tm_up;refine⟨l,b,xs,ss,rfl,aL.of (s1 _ _ hS),hg.same s1,hn,fun th H2 s2 n2 h2=>?_⟩;refine⟨big (by show 0<=1000;omega),fun lo hlo=>?_⟩;have s3:=s2.trans (ao.upd (o:=.lst []) hlo);have Nz:H lo=none:=s1.free (s2.free hlo);have RC:f≠lo:=au (s2 _ _ h1) hlo;have Ri:th≠lo:=au h2 hlo;have ntf:th≠f:=fun e=>by rw[e,h1]at n2;cases n2
 have nlf:l≠f:=au hS n1;have bl:(fc b (bc ss)).length=ss.length:=by rw[mj,P']
 have cnt:(nH b (bc ss)).length<=401:=by
  have:=iT (fW b (bc ss)) 0 0;rw[jJ,P']at this;exact Zf' this (by omega)
 tm_up;refine⟨fun mm σ H'=>∃(low:Nat)(v:Option V)(c:PD)(ys:List V),mm=ss.length-low/\low<=ss.length/\σ=[some (.ref l),some (.int b),some (.ref f),some (.ref th),some (.ref lo),some (.int (low:Int)),v]/\ao H H'/\H' f=some (.lst (c.1.map V.int))/\H' lo=some (.lst ys)/\G5 H' ys c.2/\H' th=some (.lst ((gq b (bc ss)).map V.bl))/\c.1.length=ss.length/\c.2.length+(dE low low ((fW b (bc ss)).drop low)).length<=401/\(dE low low ((fW b (bc ss)).drop low)).foldl (lQ (bc ss)) c=gC b (bc ss),
  ⟨_,0,none,(fc b (bc ss),[]),[],rfl,Nat.zero_le _,rfl,s1.trans s3,s3 _ _ h1,ag,.nil,by rw[ak Ri];exact h2,bl,by show 0+(nH b (bc ss)).length<=401;omega,rfl⟩,?_⟩
 rintro mm σ H' ⟨low,v,c,ys,rfl,hlow,rfl,s4,Uh,HQ,hys,hth,hcl,Ui,lJ⟩;have U1:=s4 _ _ hS;have Yf:=hg.same s4;tm_up;refine .inl ⟨_,_,rfl,.inl (aL.of U1),?_⟩;rw[cE hg];tm_up;refine aG (fun h=>?_) (fun h=>?_)
 ·have hlt:low<ss.length:=by have:=G' h;omega
  refine⟨fun σ' DK=>∃ m',m'<ss.length-low/\∃(low:Nat)(v:Option V)(c:PD)(ys:List V),m'=ss.length-low/\low<=ss.length/\σ'=[some (.ref l),some (.int b),some (.ref f),some (.ref th),some (.ref lo),some (.int (low:Int)),v]/\ao H DK/\DK f=some (.lst (c.1.map V.int))/\DK lo=some (.lst ys)/\G5 DK ys c.2/\DK th=some (.lst ((gq b (bc ss)).map V.bl))/\c.1.length=ss.length/\c.2.length+(dE low low ((fW b (bc ss)).drop low)).length<=401/\(dE low low ((fW b (bc ss)).drop low)).foldl (lQ (bc ss)) c=gC b (bc ss),fun _ _ h=>h,?_⟩;generalize hn':lead ((fW b (bc ss)).drop low)=n;have hnle:n<=ss.length-low:=by
   have:=IL ((fW b (bc ss)).drop low);rw[length_drop,jJ,P',hn']at this;exact this
  tm_up;refine⟨fun mm σ DK=>∃ j:Nat,mm=n-j/\j<=n/\σ=[some (.ref l),some (.int b),some (.ref f),some (.ref th),some (.ref lo),some (.int (low:Int)),some (.int ((low+j:Nat):Int))]/\DK=H',⟨n,0,rfl,Nat.zero_le _,rfl,rfl⟩,?_⟩;rintro mm σ DK ⟨j,rfl,hj,rfl,rfl⟩;have hla:=IP ((fW b (bc ss)).drop low) j (by rw[hn'];exact hj);rw[hn',QV]at hla;refine dG (decide (j<n)) ?_ ?_
  ·tm_up;refine .inl ⟨_,_,rfl,.inl (aL.of U1),?_⟩;rw[cE hg];tm_up;refine aG (fun h=>?_) (fun h=>?_)
   ·have hjl:low+j<ss.length:=by have:=G' h;omega
    have hk:(bc ss)[low+j]? = some (ss[low+j]).1:=oN (R' hjl);obtain⟨tb,ht1,Nm⟩:=IM R6 (bc ss) (low+j) _ hk;rw[Nm]at hla;tm_up;refine AN (aL.of U1) Yf (n:=low+j) rfl (R' hjl) fun p hp=>?_;tm_up;refine aG (fun h=>?_) (fun h=>?_)
    ·have h':(ss[low+j]).1.small=true:=by rw[<-uN];exact h
     rw[h',Bool.true_and]at hla;tm_up;refine oM (aL.of hth) (n:=low+j) rfl (oN ht1) ?_;tm_up;refine bD ?_;cases tb with
     |true=>exact(L' (hla.mpr rfl)).symm
     |false=>exact(V' (fun z=>by have:=hla.mp z;cases this)).symm
    ·have h':(ss[low+j]).1.small=false:=by rw[<-uN];exact Y'.mpr h
     rw[h',Bool.false_and]at hla;exact bD (V' (fun z=>by have:=hla.mp z;cases this)).symm
   ·have hjl:¬ low+j<ss.length:=fun z=>h (L' (by omega));exact bD (V' (by omega)).symm
  refine aG (fun h=>?_) (fun h=>?_)
  ·have hjn:=G' h;refine⟨fun σ' Hx=>∃ m',m'<n-j/\∃ j:Nat,m'=n-j/\j<=n/\σ'=[some (.ref l),some (.int b),some (.ref f),some (.ref th),some (.ref lo),some (.int (low:Int)),some (.int ((low+j:Nat):Int))]/\Hx=DK,fun _ _ h=>h,?_⟩;tm_up;exact⟨n-(j+1),by omega,j+1,rfl,by omega,rfl,rfl⟩
  ·have hjn:j=n:=by
    have:¬ j<n:=fun z=>h (L' z);omega
   subst hjn;have U2:=yR ((fW b (bc ss)).drop low) low low (by rw[hn'];omega) (X' _);rw[hn',List.drop_drop]at U2;refine⟨fun σ1 H1=>σ1=[some (.ref l),some (.int b),some (.ref f),some (.ref th),some (.ref lo),some (.int (low:Int)),some (.int ((low+j:Nat):Int))]/\∃(c:PD)(ys:List V),ao H H1/\H1 f=some (.lst (c.1.map V.int))/\H1 lo=some (.lst ys)/\G5 H1 ys c.2/\H1 th=some (.lst ((gq b (bc ss)).map V.bl))/\c.1.length=ss.length/\c.2.length+(dE (low+j) (low+j) ((fW b (bc ss)).drop (low+j))).length<=401/\(dE (low+j) (low+j) ((fW b (bc ss)).drop (low+j))).foldl (lQ (bc ss)) c=gC b (bc ss),?_,?_⟩
   ·by_cases hj0:j=0
    ·subst hj0;refine dG false ?_ ?_
     ·tm_up;rw[V' (show ¬((low:Int)<((low+0:Nat):Int)) by omega)];exact bD rfl
     ·exact cf ⟨rfl,c,ys,s4,Uh,HQ,hys,hth,hcl,Ui,lJ⟩
    ·have hlt2:low<low+j:=by omega
     rw[Zc' hlt2,List.singleton_append]at U2;rw[U2,List.foldl_cons]at lJ;rw[U2,Zk']at Ui;have s5:ao H (upd DK f (.lst ((settle (bc ss) c.1 low (low+j)).2.map V.int))):=cb s4 n1;have Gf:upd DK f (.lst ((settle (bc ss) c.1 low (low+j)).2.map V.int)) lo=some (.lst ys):=by rw[ak RC.symm];exact HQ
     have Uj:upd DK f (.lst ((settle (bc ss) c.1 low (low+j)).2.map V.int)) th=some (.lst ((gq b (bc ss)).map V.bl)):=by rw[ak ntf];exact hth
     have Nn:(settle (bc ss) c.1 low (low+j)).2.length=ss.length:=by rw[rA];exact hcl
     refine⟨fun bb H3=>bb = !(settle (bc ss) c.1 low (low+j)).1/\H3=upd DK f (.lst ((settle (bc ss) c.1 low (low+j)).2.map V.int)),?_,?_⟩
     ·tm_up;rw[L' (show((low:Int)<((low+j:Nat):Int)) by omega)];refine cX ?_;tm_up;refine⟨l,f,low,low+j,xs,ss,c.1,rfl,aL.of U1,Yf,nlf,Uh,hcl,hlt2,by omega,?_⟩;tm_up;exact⟨rfl,rfl⟩
     ·rintro bb H3 ⟨rfl,rfl⟩;refine aG (fun h=>?_) (fun h=>?_)
      ·have hst:(settle (bc ss) c.1 low (low+j)).1=false:=by
        cases e:(settle (bc ss) c.1 low (low+j)).1
        ·rfl
        ·rw[e]at h;cases h
       tm_up;refine⟨.inl ⟨rfl,_,aL.of Gf⟩,?_⟩;tm_up;refine⟨by show 2<=sizeLine;decide,fun z hz=>?_⟩;have sz:=ao.upd (o:=.tup [.int (low:Int),.int ((low+j:Nat):Int)]) hz;have K6:=sz _ _ Gf;refine⟨_,_,_,rfl,rfl,K6,by rw[cE hys];exact aJ (by omega),?_⟩;refine⟨rfl,((settle (bc ss) c.1 low (low+j)).2,c.2++[(low,low+j)]),_,cb (s5.trans sz) Nz,by rw[ak RC];exact sz _ _ ag,ag,iS (jK K6 (kz sz (jK Uh hys))) (EF K6 ⟨z,rfl,ag⟩),
        by rw[ak Ri];exact sz _ _ Uj,Nn,by simp only [Zd',List.length_singleton];omega,?_⟩
       rw[<-lJ];unfold lQ;rw[hst];rfl
      ·have hst:(settle (bc ss) c.1 low (low+j)).1=true:=by
        cases e:(settle (bc ss) c.1 low (low+j)).1
        ·rw[e]at h;exact j' rfl h
        ·rfl
       refine⟨rfl,((settle (bc ss) c.1 low (low+j)).2,c.2),ys,s5,ag,Gf,jK Uh hys,Uj,Nn,by show c.2.length+_<=401;omega,?_⟩;rw[<-lJ];unfold lQ;rw[hst];rfl
   ·rintro σ1 H1 ⟨rfl,c',ys',s6,Yg,K6,Uk,Ul,Um,JD,DS⟩;tm_up;refine⟨_,_,rfl,?_⟩
    by_cases hj0:j=0
    ·subst hj0;have hbl:(fW b (bc ss))[low]? = some false:=by
      have h1:low<(fW b (bc ss)).length:=by rw[jJ,P'];exact hlt
      have h2:¬(fW b (bc ss))[low+0]? = some true:=fun z=>Nat.lt_irrefl _ (hla.mpr z);rw[Nat.add_zero,R' h1]at h2;rw[R' h1];cases e:(fW b (bc ss))[low]
      ·rfl
      ·rw[e]at h2;exact j' rfl h2
     rw[Nat.add_zero,jj hbl]at DS JD;have er:dE low low (false::(fW b (bc ss)).drop (low+1))=dE (low+1) (low+1) ((fW b (bc ss)).drop (low+1)):=by
      show(if low<low then [(low,low)] else [])++dE (low+1) (low+1) ((fW b (bc ss)).drop (low+1))=_;rw[Za' (Nat.lt_irrefl _),nil_append]
     rw[er]at DS JD;have em:(if(low:Int)+1 > ((low+0:Nat):Int) then(low:Int)+1 else((low+0:Nat):Int))=((low+1:Nat):Int):=by rw[Zc' (by omega)];rfl
     rw[em];exact⟨ss.length-(low+1),by omega,low+1,_,c',ys',rfl,by omega,rfl,s6,Yg,K6,Uk,Ul,Um,JD,DS⟩
    ·have em:(if(low:Int)+1 > ((low+j:Nat):Int) then(low:Int)+1 else((low+j:Nat):Int))=((low+j:Nat):Int):=by
      split <;> omega
     rw[em];exact⟨ss.length-(low+j),by omega,low+j,_,c',ys',rfl,by omega,rfl,s6,Yg,K6,Uk,Ul,Um,JD,DS⟩
 ·have hlt:low=ss.length:=by
   have:¬ low<ss.length:=fun z=>h (L' (by omega));omega
  subst hlt;rw[List.drop_eq_nil_of_le (by rw[jJ,P'];exact X' _)]at lJ;have e:c=gC b (bc ss):=by
   have:dE ss.length ss.length []=[]:=by unfold dE;rw[Za' (Nat.lt_irrefl _)]
   rw[this]at lJ;exact lJ
  subst e;tm_up;refine⟨by show 2<=sizeLine;decide,fun z hz=>?_⟩;have sz:=ao.upd (o:=.tup [.ref f,.ref lo]) hz;exact q z f lo ys _ (s4.trans sz) n1 Nz RC ag (sz _ _ Uh) (sz _ _ HQ) (kz sz hys)
inductive uO (K:Frag)(vs:List V)(H:Hp)(Q:VK)(E:XK):Prop
 |mk (d:Addr) (vw:Vw) (n:Str) (th:Th) (cL:vs=[.ref d,.str n]) (cM:km H d vw) (dA:sO vw) (fA:bj vw n=some th) (ki:∀(l:Addr)(H':Hp),ao H H'->H' l=some (.lst ((nJ vw n).map V.int))->Q (.ref l) H'):uO K vs H Q E
theorem DT (T:Txt K w mg t):aR P w K mg base d3 (0+3) t.xp t.xq ["_law_voices","_law_name"] (uO K):=by
 have pS:=uM P base T;have Gi:=K4 P base T;refine T.xB.ok m8 ?_ ?_
 x_go
 obtain⟨d,vw,n,th,rfl,hd,wv,hf,q⟩:=h;refine aH (ae (CP (i:=2) m8.nd rfl (Or.inr rfl) (ku (lZ hr) (pv 0) (pv 1) (fun _ _=>rfl))) (ae (cZ 3 m8.nd (dg T.pA pS hr (aa (pv 0) (aa (pv 1) af)))) (ae (aI (aT (aE cK rfl T.aV aU (aa (pv 2) (aa (dS (v:=.ty "list") rfl T.fG fE rfl) af)))) (ah (av (bL bo (dg T.Aa Gi hr (aa (pv 3) (aa ai af))) ai (fun _ _=>rfl)))) ax) (ah (av (eB (cn:=["_law_worth"]) rfl (b8.of rfl) (dz (bL bo (dg T.Aa Gi hr (aa (pv 3) (aa (bJ (cu (aT (bY (pv 2))) ai ai)) af))) ai (fun _ _=>rfl))) (fun _=>(bZ (i:=0) x8 rfl (Or.inl rfl))) (fun _=>eZ) (fun _=>(aD (gJ.or gN) (bY (pv 3)) (pv 0))))))))) ?_;obtain⟨v,hg,hv⟩:=hd.get hf;refine⟨_,rfl,_,rfl,d,v,rfl,hg,?_⟩;refine⟨_,rfl,_,rfl,d,vw,n,th,rfl,hd,wv,hf,fun l ys H1 s1 h1 g1=>?_⟩;cases th with
 |pl ss =>
  obtain⟨l0,ys0,rfl,h0,_⟩:=hv;have gl:=(wv.gd _ _ (cF hf)).1;rw[mn hf]at g1;tm_up;refine⟨_,_,_,_,rfl,eY.lst (s1 _ _ h0),rfl,_,rfl,cX ?_⟩;refine⟨_,rfl,l,3,ys,ss,rfl,.inl rfl,h1,g1,by omega,fun p f lo zs H2 s2 _ _ _ hp hf2 _ _=>R0 hp ?_⟩;exact q f H2 (s1.trans s2) (by rw[y9 hf];exact hf2)
 |cn ld lt sl tn =>
  obtain⟨p,rfl,hp⟩:=hv;obtain⟨⟨ss,uU⟩,WK,lt1,UQ,WL⟩:=wv.ld n ld lt sl tn (cF hf);have hfl:=wv.find uU;have gl:=(wv.gd _ _ uU).1;rw[oP hf hfl]at g1;rw[za hf hfl]at q;have Ud:(if tn=true then ss.map kB else ss).length<=400:=by
   split
   ·rw[P'];omega
   ·omega
  tm_up;refine⟨_,_,_,_,rfl,eY.tup (s1 _ _ hp),rfl,_,rfl,cf ?_⟩;refine⟨_,rfl,?_⟩;refine⟨fun v H'=>v=.int (if tn=true then 2 else 3)/\H'=H1,?_,?_⟩
  ·refine⟨_,rfl,yh (i:=3) (s1 _ _ hp) rfl ⟨_,rfl,?_⟩⟩;cases tn with
   |true=>exact cX ⟨rfl,rfl⟩
   |false=>exact cf ⟨rfl,rfl⟩
  intro v0 H0 ⟨e1,e2⟩;rw[e1,e2];have R6:Ms (if tn=true then 2 else 3):=by cases tn;exact .inl rfl;exact .inr rfl
  refine⟨l,_,ys,_,rfl,R6,h1,g1,Ud,fun p2 f lo zs H2 s2 _ _ _ hp2 hf2 _ _=>R0 hp2 ?_⟩;generalize hW:(gC (if tn=true then 2 else 3) (bc (if tn=true then ss.map kB else ss))).1=W at q hf2;have hWl:W.length<=400:=by rw[<-hW,pX,P'];exact Ud
  refine⟨f,rfl,⟨_,aL.of hf2⟩,fun D' b' hD'=>?_⟩;have Yh:=s2 _ _ (s1 _ _ hp);refine dH (K:=K) (xs:=W.map V.int) (fun i ys' σ H'=>∃ v,σ=[v,some (.ref d),some (.str n),some (.ref p),some (.ref l)]/\H'=upd H2 D' (.lst ys')/\ys'=((W.take i).map fun w=>sl * w).map V.int) ⟨none,rfl,rfl,by simp⟩ ?_ ?_ ?_
  ·rintro i ys σ H' ⟨v,rfl,rfl,_⟩;exact dX (aL.of hf2) hD'
  ·rintro i ys' y σ H' hy ⟨v,rfl,rfl,rfl⟩ N hN;obtain⟨z,hz,rfl⟩:=ve hy;have hi:i<W.length:=(S'.mp hz).1;refine bT ?_;refine⟨_,rfl,yh (i:=2) (by rw[ak (au Yh hD')];exact Yh) rfl ?_⟩;refine⟨_,rfl,.inl ⟨_,_,rfl,rfl,.inl ⟨by omega,by omega⟩,ag,?_,?_⟩⟩
   ·rw[P',P',length_take];exact aJ (by omega)
   ·refine hN _ _ _ ⟨_,rfl,cq,?_⟩;rw[take_succ,hz,map_append,map_append];rfl
  ·rintro ys' σ H' ⟨v,rfl,rfl,rfl⟩;rw[P',take_length];exact q D' _ ((s1.trans s2).trans (ao.upd hD')) ag
theorem JE {K:Frag}{H:Hp}{a b:Addr}{ys:List V}(ha:aL K H a ys)(hb:aL K H b ys)(hf:∀ v∈ys,∃ x,v=.str x):LV K H 60 (.ref a) (.ref b):=by
 refine .lst ha hb rfl fun i x y e1 e2=>?_;have e:x=y:=W' (e1.symm.trans e2);subst e;obtain⟨z,rfl⟩:=hf x (Zh' e1);exact .flat rfl
theorem Uo {K:Frag}{H:Hp}{p p2:Addr}{ld:Str}{lt sl:Int}{tn:Bool}(n:Nat)(h1:H p=some (.tup [.str ld,.int lt,.int sl,.bl tn]))(h2:H p2=some (.tup [.str ld,.int lt,.int sl,.bl tn])):LV K H (n+1) (.ref p) (.ref p2):=by
 refine .tup (iQ.of h1) (iQ.of h2) rfl fun i x y e1 e2=>?_;have e:x=y:=W' (e1.symm.trans e2);subst e
 match i,e1 with
 |0,e1=>cases e1;exact .flat rfl
 |1,e1=>cases e1;exact .flat rfl
 |2,e1=>cases e1;exact .flat rfl
 |3,e1=>cases e1;exact .flat rfl
 |n+4,e1=>simp at e1
theorem NG {vw:Vw}(w:sO vw)(n:Str):(nJ vw n).length<=400:=by
 cases hf:bj vw n with
 |none=>unfold nJ;rw[hf];exact Nat.zero_le _
 |some th =>
  cases th with
  |pl ss =>
   rw[y9 hf,pX,P'];have:=(w.gd _ _ (cF hf)).1;omega
  |cn ld lt sl tn =>
   obtain⟨⟨ss,uU⟩,_⟩:=w.ld n ld lt sl tn (cF hf);rw[za hf (w.find uU),P',pX,P'];have:=(w.gd _ _ uU).1;split
   ·rw[P'];omega
   ·omega
theorem NH {vw:Vw}(w:sO vw)(n:Str):(sR vw n).length<=200:=by
 cases hf:bj vw n with
 |none=>unfold sR;rw[hf];exact Nat.zero_le _
 |some th =>
  cases th with
  |pl ss =>
   rw[mn hf];exact(w.gd _ _ (cF hf)).1
  |cn ld lt sl tn =>
   obtain⟨⟨ss,uU⟩,_⟩:=w.ld n ld lt sl tn (cF hf);rw[oP hf (w.find uU)];have:=(w.gd _ _ uU).1;split
   ·rw[P'];exact this
   ·exact this
inductive xQ (K:Frag)(c:Cs)(vs:List V)(H:Hp)(Q:VK)(E:XK):Prop
 |mk (x d:Addr) (F:Addr->Prop) (vw:Vw) (ps fs:List Vw) (cL:vs=[.ref x,.ref d]) (cM:yp c H x F vw ps fs) (dA:km H d vw) (fA:∀ H',ao H H'->Q (.bl true) H'):xQ K c vs H Q E
theorem Gj (T:Txt K w mg t):aR P w K mg base d3 (0+8) t.zI t.zJ ["_law_book","_law_voices"] (xQ K (cs t)):=by
 have fM:=lU P base T;have c9:=gb P base T;have K7:=HN P base T;have NI:=KZ P base T;have xR:=DR P base T;have fo:=nF P base T;have pS:=uM P base T;have Gk:=DT P base T;have iG:=nu P base T;refine T.Ab.ok kP ?_ ?_
 x_go
 obtain⟨x,d,F,vw,ps,fs,rfl,B,hd,q⟩:=h;refine aH (ae (cZ 2 kP.nd (lY (pv 0) T.aQ T.c8.me fM (iA hr) T.c8.b .nil fS)) (ae (aI (bq (PW.pt (dj (cy (aT (aE cK rfl T.aV aU (aa (pv 2) (aa (dS (v:=.ty "list") rfl T.fG fE rfl) af))))) (cT (aq (iR.or (fb (aF hr))) (pv 2) (bP rg rfl T.fG fE (aa (pv 1) af)) (aw _)))))) (ah (av di)) ax) (ae (aS (C1 Zj' PySem.F.slot_list_reverse PySem.F.type_list_reverse GR (pv 2))) (ae (aS (cQ Zj' slot_list_append Zp' bp (pv 2) (aa aA af))) (ae (aI (aq (iR.or (fb (aF hr))) (lY (pv 0) T.aQ T.c8.me fM (iA hr) T.c8.b .nil fS) (bP rg rfl T.fG fE (aa (pv 1) af)) (aw _)) (ah (av di)) ax) (ae (dF PassesOwn.never rfl (dz (bP rg rfl T.fG fE (aa (pv 1) af))) (kj 3 kP.nd) (ae (aS (cQ Zj' slot_list_append Zp' bp (gL (pv 0) T.aQ T.eA.me xR (iA hr) T.eA.b .nil vW (aa (pv 3) af)) (aa ai af))) (ae (aS (cQ Zj' slot_list_append Zp' bp (gL (pv 0) T.aQ T.bh.me fo (iA hr) T.bh.b .nil vW (aa (pv 3) af)) (aa (cU (aa aA (aa ai af))) af))) (ae (aI (cy (aT (dg T.Cq K7 hr (aa (gL (pv 0) T.aQ T.bh.me fo (iA hr) T.bh.b .nil vW (aa (pv 3) af)) (aa (dg T.pA pS hr (aa (pv 1) (aa (pv 3) af))) af))))) (ah (av di)) ax) (ae (aI (cy (aT (dg T.FN NI hr (aa (gL (pv 0) T.aQ T.eA.me xR (iA hr) T.eA.b .nil vW (aa (pv 3) af)) (aa (dg T.xB Gk hr (aa (pv 1) (aa (pv 3) af))) af))))) (ah (av di)) ax) (ae (cZ 4 kP.nd (gL (pv 0) T.aQ T.bR.me c9 (iA hr) T.bR.b .nil vW (aa (pv 3) af))) (ah (aI (aT (aE cK rfl T.aV aU (aa (ku (lZ hr) (pv 1) (pv 3) (fun _ _=>rfl)) (aa (dS (v:=.ty "list") rfl T.fG fE rfl) af)))) (ah (aI (aq Ii (pv 4) cS (aw _)) (ah (av di)) ax)) (ah (aI (bq (PW.pt (dj (cy (aT (aE cK rfl T.aV aU (aa (pv 4) (aa (dS (v:=.ty "tuple") rfl T.zX yE rfl) af))))) (dj (aq (iR.or (fb (aF hr))) (aE (aB.or aC) rfl T.bg bf (aa (pv 4) af)) ai (aw _)) (cT (aq (iR.or (fb (aF hr))) (pv 4) (ku (lZ hr) (pv 1) (pv 3) (fun _ _=>rfl)) (aw _))))))) (ah (av di)) (ah (aI (bq (PW.pt (dj (cy (aT (dg T.fH iG hr (aa (bY (pv 4)) af)))) (dj (cy (aT (dg T.fH iG hr (aa (bY (pv 4)) af)))) (cT (cy (aT (aE cK rfl T.aV aU (aa (bY (pv 4)) (aa (dS (v:=.ty "bool") rfl T.DA C4 rfl) af)))))))))) (ah (av di)) ax)))))))))))) (ah (av di)))))))) ?_;have wv:=B.wv vw (.inr (.inl rfl));have hx:∃ dx L D U,H x=some (.ins t.cO dx (sN L D U)):=by
  obtain⟨L,D,U,all,M,Ps,Fs,es,us,b,_⟩:=B.ex;obtain⟨dx,e⟩:=b.hx;exact⟨dx,L,D,U,e⟩
 obtain⟨dx,L,D,U,hx⟩:=hx;have wl:=wv.len;have hstr:∀ v∈vw.map (fun q=>V.str q.1),∃ z,v=.str z:=fun v hv=>by
  obtain⟨q,_,e⟩:=mem_map.mp hv;exact⟨_,e.symm⟩
 refine⟨_,rfl,x,dx,_,rfl,hx,jk _ _ _,x,F,vw,ps,fs,rfl,B,fun l1 H1 W6 s1 h1=>?_⟩;obtain⟨kvs,hk,ek⟩:=hd.keys;refine⟨fun b H'=>b=false/\ao H1 H',?_,?_⟩
 ·tm_up;refine⟨_,_,_,_,rfl,eY.lst h1,rfl,_,rfl,cf ?_⟩;refine⟨_,rfl,_,rfl,rfl,d,kvs,rfl,.inl (s1 _ _ hk),fun l2 hl2=>?_⟩;have s2:=ao.upd (o:=.lst (kvs.map fun kv=>kV kv.1)) hl2;have h2:=ag (H:=H1) (a:=l2) (o:=.lst (kvs.map fun kv=>kV kv.1));rw[ek]at s2 h2 ⊢;refine .inr ⟨l1,l2,rfl,rfl,JE (aL.of (s2 _ _ h1)) (aL.of h2) hstr,?_⟩;exact⟨_,rfl,rfl,s2⟩
 rintro b H2 ⟨rfl,s2⟩;refine cf ?_;have h12:=s2 _ _ h1;refine⟨_,rfl,.inl ⟨rfl,_,aL.of h12⟩,l1,_,rfl,rfl,h12,?_⟩;have s3:ao H (upd H2 l1 (.lst (vw.map fun a=>V.str a.1).reverse)):=cb (s1.trans s2) W6;have h3:=ag (H:=H2) (a:=l1) (o:=.lst (vw.map fun a=>V.str a.1).reverse);generalize upd H2 l1 (.lst (vw.map fun a=>V.str a.1).reverse)=H3 at s3 h3;refine⟨_,rfl,.inl ⟨rfl,_,aL.of h3⟩,l1,_,_,rfl,rfl,h3,aJ (by rw[List.length_reverse,P'];omega),?_⟩;have s4:ao H (upd H3 l1 (.lst ((vw.map fun a=>V.str a.1).reverse++[V.str "x"]))):=cb s3 W6;generalize upd H3 l1 (.lst ((vw.map fun a=>V.str a.1).reverse++[V.str "x"]))=H4 at s4;refine⟨_,rfl,x,dx,_,rfl,s4 _ _ hx,jk _ _ _,x,F,vw,ps,fs,rfl,B.same s4,fun l5 H5 nl5 s5 h5=>?_⟩;refine⟨_,rfl,rfl,d,kvs,rfl,.inl (s5 _ _ (s4 _ _ hk)),fun l6 hl6=>?_⟩;have s6:=ao.upd (o:=.lst (kvs.map fun kv=>kV kv.1)) hl6;have h6:=ag (H:=H5) (a:=l6) (o:=.lst (kvs.map fun kv=>kV kv.1));rw[ek]at s6 h6 ⊢;refine .inr ⟨l5,l6,rfl,rfl,JE (aL.of (s6 _ _ h5)) (aL.of h6) hstr,?_⟩;refine⟨_,rfl,cf ?_⟩;have S6:=(s4.trans s5).trans s6;generalize upd H5 l6 (.lst (vw.map fun q=>V.str q.1))=H6 at S6;refine⟨_,rfl,rfl,d,kvs,rfl,.inl (S6 _ _ hk),fun l7 hl7=>?_⟩;have s7:=ao.upd (o:=.lst (kvs.map fun kv=>kV kv.1)) hl7;have h7:=ag (H:=H6) (a:=l7) (o:=.lst (kvs.map fun kv=>kV kv.1));rw[ek]at s7 h7 ⊢;have S7:=S6.trans s7;generalize upd H6 l7 (.lst (vw.map fun q=>V.str q.1))=H7 at S7 h7;refine⟨l7,rfl,⟨_,aL.of h7⟩,lX (K:=K) (xs:=vw.map fun q=>V.str q.1) (fun i σ H'=>∃(u v:Option V),σ=[some (.ref x),some (.ref d),some (.ref l1),u,v]/\ao H7 H') ⟨none,none,rfl,ao.refl _⟩ ?_ ?_ ?_⟩
 ·rintro i σ H' _ ⟨u,v,rfl,s8⟩;exact aL.of (s8 _ _ h7)
 ·rintro i y σ H8 hy ⟨u,v,rfl,s8⟩;obtain⟨qn,hq,rfl⟩:∃ qn,vw[i]? = some qn/\y=.str qn.1:=by
   rw[Zl']at hy;cases e:vw[i]? with
   |none=>rw[e]at hy;cases hy
   |some z=>rw[e]at hy;exact⟨z,rfl,(W' hy).symm⟩
  obtain⟨n,th⟩:=qn;have hf:=wv.find (Zh' hq);have kl:=NG wv n;have ll:=NH wv n;have S8:=S7.trans s8;have B8:=B.same S8;have W7:=hd.same S8;refine⟨_,rfl,x,dx,_,rfl,S8 _ _ hx,wd _ _ _,_,rfl,x,F,vw,ps,fs,n,rfl,B8,?_⟩;rw[hf];intro k1 H9 nk1 s9 hk1;refine⟨.inl ⟨rfl,_,aL.of hk1⟩,k1,_,_,rfl,rfl,hk1,aJ (by rw[P'];omega),?_⟩;have R7:ao H8 (upd H9 k1 (.lst ((nJ vw n).map V.int++[V.int 7]))):=cb s9 nk1;generalize upd H9 k1 (.lst ((nJ vw n).map V.int++[V.int 7]))=H10 at R7;have B10:=B8.same R7;refine⟨_,rfl,x,dx,_,rfl,R7 _ _ (S8 _ _ hx),gF _ _ _,_,rfl,x,F,vw,ps,fs,n,rfl,B10,?_⟩;rw[hf];intro W8 Up Yi W9 s11 h11 g11;have y11:=cE g11;refine⟨.inl ⟨rfl,_,aL.of h11⟩,(by show 2<=sizeLine;decide),fun tp htp=>?_⟩;have st:=ao.upd (o:=.tup [V.str "R",V.int 0]) htp;refine⟨W8,_,_,rfl,rfl,st _ _ h11,aJ (by omega),?_⟩;have s12:ao H10 (upd (upd Yi tp (.tup [V.str "R",V.int 0])) W8 (.lst (Up++[.ref tp]))):=cb (s11.trans st) W9;generalize upd (upd Yi tp (.tup [V.str "R",V.int 0])) W8 (.lst (Up++[.ref tp]))=H12 at s12;have U3:=R7.trans s12;have B12:=B8.same U3;have Xa:=W7.same U3;refine⟨_,rfl,x,dx,_,rfl,U3 _ _ (S8 _ _ hx),gF _ _ _,_,rfl,x,F,vw,ps,fs,n,rfl,B12,?_⟩;rw[hf];intro l13 Xb H13 aa0 Yj h13 g13;refine⟨_,rfl,_,rfl,d,vw,n,th,rfl,Xa.same Yj,wv,hf,fun l14 Xc H14 R3 h14 g14=>?_⟩;refine⟨l13,l14,Xb,Xc,sR vw n,rfl,R3 _ _ h13,aL.of h14,g13.same R3,g14,fun H15 U4=>?_⟩;refine⟨_,rfl,cf ?_⟩;have U7:=((U3.trans Yj).trans R3).trans U4;have B15:=B8.same U7;refine⟨_,rfl,x,dx,_,rfl,U7 _ _ (S8 _ _ hx),wd _ _ _,_,rfl,x,F,vw,ps,fs,n,rfl,B15,?_⟩;rw[hf];intro k16 H16 aa5 U8 h16;refine⟨_,rfl,_,rfl,d,vw,n,th,rfl,(W7.same U7).same U8,wv,hf,fun l17 Xd Yk h17=>?_⟩;refine⟨k16,l17,nJ vw n,nJ vw n,rfl,Yk _ _ h16,aL.of h17,by omega,?_⟩;rw[L' rfl];refine⟨_,rfl,cf ?_⟩;have U9:=(U7.trans U8).trans Yk;have B17:=B8.same U9;have Xe:=W7.same U9;have fin:∀{u v:Option V},∃(u' v':Option V),[some (V.ref x),some (V.ref d),some (V.ref l1),u,v]=[some (V.ref x),some (V.ref d),some (V.ref l1),u',v']/\ao H7 Xd:=⟨_,_,rfl,s8.trans U9⟩;obtain⟨v18,RG,Uq⟩:=Xe.get hf;refine⟨_,rfl,x,dx,_,rfl,U9 _ _ (S8 _ _ hx),gS _ _ _,_,rfl,x,F,vw,ps,fs,n,rfl,B17,?_⟩;rw[hf];cases th with
  |pl ss =>
   obtain⟨l0,ys0,rfl,h0,_⟩:=Uq;refine⟨_,rfl,_,rfl,d,_,rfl,RG,?_⟩;refine⟨_,_,_,_,rfl,eY.lst h0,rfl,_,rfl,cX ?_⟩;refine⟨_,rfl,rfl,_,rfl,?_⟩;exact aG (fun h=>j' h (by decide)) (fun _=>fin)
  |cn ld lt sl tn =>
   intro p hp;obtain⟨p2,rfl,hp2⟩:=Uq;refine⟨_,rfl,_,rfl,d,_,rfl,RG,?_⟩;refine⟨_,_,_,_,rfl,eY.tup hp2,rfl,_,rfl,cf ?_⟩;refine⟨fun b H'=>b=false/\H'=Xd,?_,?_⟩
   ·tm_up;refine⟨_,_,_,_,rfl,eY.tup hp,rfl,_,rfl,cf ?_⟩;refine⟨_,rfl,.inl ⟨p,_,rfl,.inr (iQ.of hp),?_⟩⟩;refine .inl ⟨rfl,_,rfl,cf ?_⟩;refine⟨_,rfl,_,rfl,_,rfl,d,_,rfl,RG,.inr ⟨p,p2,rfl,rfl,Uo 59 hp hp2,?_⟩⟩;exact⟨_,rfl,rfl,rfl⟩
   intro b H18 ⟨e1,e2⟩;rw[e1,e2];refine cf ?_;refine⟨fun b H'=>b=false/\H'=Xd,?_,?_⟩
   ·refine⟨_,rfl,yh (i:=1) hp rfl ⟨lt,rfl,_,rfl,cf ?_⟩⟩;refine⟨_,rfl,yh (i:=2) hp rfl ⟨sl,rfl,_,rfl,cf ?_⟩⟩;refine⟨_,rfl,yh (i:=3) hp rfl ?_⟩;exact⟨_,_,_,_,rfl,eY.bl _,rfl,_,rfl,rfl,rfl⟩
   intro b H18 ⟨e1,e2⟩;rw[e1,e2];refine cf ?_;exact fin
 ·rintro σ H' ⟨u,v,rfl,s8⟩;exact q _ (S7.trans s8)
inductive qS (vs:List V)(H:Hp)(Q:VK)(E:XK):Prop
 |mk (z:Str) (cL:vs=[.str z]) (cM:z.length<=90000) (dA:(∀ k:Nat,(bu [] (oi z)).2=some k->∀ H',Q (.int (k:Int)) H')) (fA:((bu [] (oi z)).2=none->∀ H',ao H H'->Q (.int (-1)) H')):qS vs H Q E
theorem A4 (T:Txt K w mg t):aR P w K mg base d3 (0+8) t.js t.tU ["_law_text"] qS:=by
 have HS:=Ge P base T;have pT:=uF P base T;have iG:=nu P base T;refine T.nc.ok qw ?_ ?_
 x_go
 obtain⟨z,rfl,zl,qe,q⟩:=h;refine aH (ae (Kf (CT:=t.bA) (i:=1) (fun pn XS=>(ah (aS (Mx (X:=Cx.uT (dM d3 P w K mg base ["_law_text","e"] "_law_place_of" (aj jo) t.js cdv A outer s H E).Lk pn) (XS:=XS) pT (iA hr) rfl T.fi.g T.fi.kp T.fi.b (fun _ _ z=>z) (aa (pv 0) af))))) (fun pn a=>(ae (aI (bq (PW.pt (dj (cy (aT (aE (Ew (K:=K) rfl) rfl T.aV aU (aa (pv 1) (aa (aZ (v:=.ref t.bI) rfl T.Cm rfl) af))))) (cT (aT (aE (Ew (K:=K) rfl) rfl T.aV aU (aa (pv 1) (aa (cU (aa (aZ (v:=.ref t.bK) rfl T.zP rfl) (aa (aZ (v:=.ref t.bE) rfl T.zR rfl) af))) af)))))))) (ah (av (vR oz ai))) ax) (ah (av (bJ (cu (aT (My (X:=Cx.uT (dM d3 P w K mg base ["_law_text","e"] "_law_place_of" (aj jo) t.js cdv A outer s H E).Lk pn) HS (iA hr) rfl T.fH.g T.fH.kp T.fH.b (aa (II (K:=K) rfl (pv 1) rfl) af))) (II (K:=K) rfl (pv 1) rfl) (vR oz ai))))))) qw.nd rfl rfl rfl rfl rfl T.jt) (ah (av (vR oz ai)))) ?_;tm_up;refine⟨z,rfl,zl,fun k e D H1 hD=>?_,fun e x H1 B1=>?_⟩
 ·refine⟨D,rfl,T.qf,fun a ha=>?_⟩;have sa:=ao.upd (o:=AL a (.ref t.bI) D) ha;have Va:=ag (H:=H1) (a:=a) (o:=AL a (.ref t.bI) D);have hD2:=sa _ _ hD;generalize upd H1 a (AL a (.ref t.bI) D)=H2 at sa Va hD2;refine⟨fun b H'=>b=false/\H' a=some (AL a (.ref t.bI) D)/\H' D=some (.xd [("at",.int (k:Int))]),?_,?_⟩
  ·refine⟨_,rfl,.inr (.inr (.inl ⟨a,_,_,_,_,_,rfl,Va,T.bH.xs,T.vI,_,rfl,cf ?_⟩))⟩;tm_up;refine⟨by show 2<=sizeLine;decide,fun p hp=>?_⟩;have sp:=ao.upd (o:=.tup [V.ref t.bK,V.ref t.bE]) hp;exact .inr (.inr (.inr ⟨a,_,_,_,p,[t.bK,t.bE],_,rfl,sp _ _ Va,T.bH.xs,ag,T.kn,_,rfl,rfl,sp _ _ Va,sp _ _ hD2⟩))
  ·rintro b H3 ⟨rfl,Ur,R5⟩;refine cf ?_;refine⟨fun v H'=>v=.int (k:Int),?_,?_⟩
   ·refine⟨_,rfl,a,_,D,_,[("at",.int (k:Int))],k,rfl,Ur,T.bH.xs,T.nh,R5,rfl,_,rfl,_,rfl,cX ?_⟩;exact⟨_,rfl,a,_,D,_,[("at",.int (k:Int))],k,rfl,Ur,T.bH.xs,T.nh,R5,rfl,rfl⟩
   ·rintro v H' rfl;exact qe k e H'
 ·exact⟨_,rfl,q e H1 B1.sm⟩
inductive CM (vs:List V)(H:Hp)(Q:VK)(E:XK):Prop
 |mk (p:Addr) (s:Sg) (cL:vs=[.ref p]) (cM:H p=some (.tup [.str s.1.str,.int s.2])) (dA:Q (.bl s.1.du) H):CM vs H Q E
theorem K8 (k:Kd):inV (.str k.str) [.str "G",.str "D",.str "s",.str "d"]=k.du:=by cases k <;> decide +kernel
theorem K9 (T:Txt K w mg t):aR P w K mg base d3 (0+1) t.Fx t.Fy ["sign"] CM:=by
 refine T.FP.ok Kt ?_ ?_
 x_go
 obtain⟨p,s,rfl,hp,q⟩:=h;rw[<-K8]at q;refine aH (ah (av (bB (bX.or bW) (bY (pv 0)) (aZ (v:=.ref t.ee) rfl T.iB rfl) rfl))) ?_;tm_up;exact .inl ⟨_,_,rfl,.inr (T.dh _),rfl,rfl,q⟩
inductive qT (vs:List V)(H:Hp)(Q:VK)(E:XK):Prop
 |mk (p:Addr) (s:Sg) (cL:vs=[.ref p]) (cM:H p=some (.tup [.str s.1.str,.int s.2])) (dA:ff s) (fA:Q (.str (d4 s)) H):qT vs H Q E
theorem A5 (T:Txt K w mg t):aR P w K mg base (hZ P w) (0+2) t.tV t.tW ["sign"] qT:=by
 have NJ:=K9 P base T;have HE:=Jx P base T;refine T.g7.GY iL ?_ ?_
 x_go
 obtain⟨p,g,rfl,hp,gt,q⟩:=h;refine aH (ae (aI (cy (aT (dg T.Hr HE hr (aa (pv 0) af)))) (ah (fT (X:=(sf T.g7.1 iL (hZ P w) P w mg base cdv A outer s H E)) (fun _ _ z=>z) rfl T.Ad.exc rfl T.zQ (aa aA af))) ax) (ae (eL (pv 0) (fP rfl (aM (kj 1 iL.nd) (aM (kj 2 iL.nd) dU)))) (ae (aI (aT (dg T.FP NJ hr (aa (pv 0) af))) (ah (av (sC (bx (gO (pv 1)) (bx (gO (pv 2)) sy))))) ax) (ah (av (pv 1)))))) ?_;refine⟨_,rfl,p,(g.1.str,g.2),rfl,hp,_,rfl,?_⟩;rw[IU gt];have wl:=vm gt;unfold d4 at q wl;refine cf ⟨_,rfl,_,_,rfl,iQ.of hp,rfl,_,_,rfl,_,_,rfl,rfl,_,rfl,p,g,rfl,hp,_,rfl,?_⟩;refine aG (fun h=>?_) (fun h=>?_)
 ·rw[Zc' h]at q wl;have hn:=gt.1 h;have big:∀{n:Nat},n<=4->n<=sizeLine:=fun h=>Zf' h (by decide);have k1:=MQ g.1;refine⟨_,rfl,.inl ⟨_,rfl,big (by omega),?_,_,rfl,.inr ⟨_,rfl,Bx hn.1 hn.2,?_,?_,?_⟩⟩⟩
  all_goals rw[PySem.Str.empty_append]
  ·exact big (by omega)
  ·exact big (Nat.le_succ_of_le wl)
  ·exact big (Nat.le_succ_of_le wl)
  ·exact q
 ·rw[Za' h]at q;exact⟨_,rfl,q⟩
inductive pV (c:Cs)(vs:List V)(H:Hp)(Q:VK)(E:XK):Prop
 |mk (x:Addr) (F:Addr->Prop) (vw:Vw) (ps fs:List Vw) (n:Str) (th:Th) (cL:vs=[.ref x,.str n]) (cM:yp c H x F vw ps fs) (dA:bj vw n=some th) (fA:n.length<=1000) (ki:(∀ ld lt sl tn,th=.cn ld lt sl tn->ld.length<=1000)) (Bb:∀ H',ao H H'->Q (.str (mX (n,th))) H'):pV c vs H Q E
theorem AB (T:Txt K w mg t):aR P w K mg base d3 (0+5) t.qD t.qF ["book","name"] (pV (cs t)):=by
 have c9:=gb P base T;have DV:=A5 P base T;have fo:=nF P base T;refine T.qJ.ok dw ?_ ?_
 x_go
 obtain⟨x,F,vw,ps,fs,n,th,rfl,B,hf,hn,uU,q⟩:=h;refine aH (ae (cZ 2 dw.nd (gL (pv 0) T.aQ T.bR.me c9 (iA hr) T.bR.b .nil vW (aa (pv 1) af))) (ae (aI (aq mR (pv 2) cS (aw _)) (ah (av (cQ plainAttrs_str slot_str_join type_str_join pW aA (aa (aD (aO.or (ay.or aP)) (bC (aa aA (aa (pv 1) af))) (eB (cn:=["sign"]) rfl (b8.of rfl) (dz (gL (pv 0) T.aQ T.bh.me fo (iA hr) T.bh.b .nil vW (aa (pv 1) af))) (fun _=>(bZ (i:=0) tH rfl (Or.inl rfl))) (fun _=>eZ) (fun _=>(kq DV (iA hr) rfl T.g7.g T.g7.kp T.g7.b .nil vW (aa (pv 0) af))))) af)))) ax) (ae (eL (pv 2) (fP rfl (aM (kj 3 dw.nd) (aM (kj 4 dw.nd) (aM (kj 5 dw.nd) (aM (kj 6 dw.nd) dU)))))) (ae (cZ 7 dw.nd (bJ (cu (aT (pv 6)) aA aA))) (ah (av (sC (bx eI (bx (gO (pv 1)) (bx eI (bx (gO (pv 3)) (bx eI (bx (gO (pv 4)) (bx eI (bx (gO (pv 5)) (bx eI (bx (gO (pv 7)) sy))))))))))))))))) ?_;have wv:=B.wv vw (.inr (.inl rfl));have hx:∃ dx L D U,H x=some (.ins t.cO dx (sN L D U)):=by
  obtain⟨L,D,U,all,M,Ps,Fs,es,us,b,_⟩:=B.ex;obtain⟨dx,e⟩:=b.hx;exact⟨dx,L,D,U,e⟩
 obtain⟨dx,L,D,U,hx⟩:=hx;refine⟨_,rfl,x,dx,_,rfl,hx,gS _ _ _,_,rfl,x,F,vw,ps,fs,n,rfl,B,?_⟩;rw[hf];cases th with
 |pl ss =>
  refine⟨_,rfl,rfl,_,rfl,?_⟩;refine aG (fun _=>?_) (fun h=>j' (by decide) h);have gd:=wv.gd _ _ (cF hf);have w3:=jO gd.2;refine⟨rfl,_,rfl,by show 2<=sizeLine;decide,fun d0 hd0=>?_⟩;have s0:=ao.upd (o:=.lst [V.str "voice",V.str n]) hd0;have h0:=ag (H:=H) (a:=d0) (o:=.lst [V.str "voice",V.str n]);generalize upd H d0 (.lst [V.str "voice",V.str n])=H0 at s0 h0;have B0:=B.same s0;refine⟨_,rfl,x,dx,_,rfl,s0 _ _ hx,gF _ _ _,_,rfl,x,F,vw,ps,fs,n,rfl,B0,?_⟩;rw[hf,mn hf];intro l ys H1 hl s1 h1 g1;have yl:=cE g1;have Yl:=s1 _ _ h0;refine⟨l,rfl,⟨_,aL.of h1⟩,fun D b hD=>?_⟩;refine dH (K:=K) (xs:=ys) (fun i zs σ H'=>∃ v,σ=[v,some (.ref x),some (.str n),some .non,none,none,none,none,none]/\H'=upd H1 D (.lst zs)/\zs=((ss.take i).map d4).map V.str) ⟨none,rfl,rfl,by simp⟩ ?_ ?_ ?_
  ·rintro i zs σ H' ⟨v,rfl,rfl,rfl⟩;exact dX (aL.of h1) hD
  ·rintro i zs y σ H' hy ⟨v,rfl,rfl,rfl⟩ N hN;obtain⟨sg,e1,p,rfl,hp⟩:=oK g1 hy;have hi:i<ss.length:=(S'.mp e1).1;refine bT ?_;refine⟨_,rfl,p,sg,rfl,(by rw[ak (au hp hD)];exact hp),gd.2 sg (Zh' e1),ag,?_,?_⟩
   ·rw[P',P',length_take];exact aJ (by omega)
   ·refine hN _ _ _ ⟨_,rfl,cq,?_⟩;rw[take_succ,e1];simp
  ·rintro zs σ H' ⟨v,rfl,rfl,rfl⟩;rw[yl,take_length];have hdD:(upd H1 D (.lst ((ss.map d4).map V.str))) d0=some (.lst [V.str "voice",V.str n]):=by rw[ak (au Yl hD)];exact Yl
   refine .inr (.inr ⟨d0,D,_,_,rfl,rfl,hdD,ag,?_,fun c hc=>?_⟩)
   ·rw[P',P'];exact Nat.le_of_lt (aJ (by show 2+_<=_;omega))
   have sD:=ao.upd (o:=.lst ((ss.map d4).map V.str)) hD;generalize upd H1 D (.lst ((ss.map d4).map V.str))=H2 at hc sD;refine⟨_,c,"voice" :: n::ss.map d4,rfl,rfl,aL.of ag,?_,q _ (((s0.trans s1).trans sD).trans (ao.upd hc))⟩;have e:(Str.ofString " ").length=1:=by lk
   have e5:(Str.ofString "voice").length=5:=by lk
   simp only [map_cons,List.sum_cons,Zk',P'];rw[e,e5];omega
 |cn ld lt sl tn =>
  intro p hp;refine⟨_,rfl,rfl,_,rfl,?_⟩;refine aG (fun h=>by have:=G' h;cases this) (fun _=>?_);refine⟨_,rfl,p,_,rfl,iQ.of hp,rfl,_,_,rfl,_,_,rfl,_,_,rfl,_,_,rfl,rfl,?_⟩;refine⟨fun v H'=>v=.str (oQ tn)/\H'=H,?_,?_⟩
  ·refine⟨_,rfl,_,rfl,?_⟩;unfold oQ;cases tn
   ·exact cf ⟨rfl,rfl⟩
   ·exact cX ⟨rfl,rfl⟩
  intro v H' e;obtain⟨e1,e2⟩:=e;subst e1 e2;obtain⟨_,a1,a2,a3,a4⟩:=wv.ld n ld lt sl tn (cF hf);have ln:=uU ld lt sl tn rfl;have f4:(Str.ofString (toString lt)).length<=3:=EN a1 (by omega);have f5:(Str.ofString (toString sl)).length<=3:=EN (by omega) (by omega);have f7:(oQ tn).length<=8:=by cases tn <;> decide +kernel
  have e6:(Str.ofString "canon ").length=6:=by lk
  have e1:(Str.ofString " ").length=1:=by lk
  have e0:Str.empty.length=0:=by lk
  have big:∀{n:Nat},n<=3000->n<=sizeLine:=fun h=>Zf' h (by decide);refine⟨?_,_,rfl,.inl ⟨_,rfl,?_,?_,?_,_,rfl,.inl ⟨_,rfl,?_,?_,?_,_,rfl,.inr ⟨_,rfl,MR a1 (by omega),?_,?_,_,rfl,.inr ⟨_,rfl,MR (by omega) (by omega),?_,?_,_,rfl,.inl ⟨_,rfl,?_,?_,?_,?_⟩⟩⟩⟩⟩⟩
  all_goals try (refine big ?_;(try simp only [PySem.Str.length_append]);omega)
  rw[PySem.Str.empty_append];exact q _ (ao.refl _)
theorem AD (d:Str):∀ xs:List Str,(Str.join d xs).length<=(xs.map (·.length)).sum+xs.length * d.length
 |[]=>by show(0:Nat)<=_;omega
 |[a]=>by
  show a.length<=a.length+0+1 * d.length;omega
 |a::b::t=>by
  have ih:=AD d (b::t);rw[join_cons,PySem.Str.length_append,PySem.Str.length_append];simp only [map_cons,List.sum_cons,Zk']at ih ⊢;rw[Nat.add_mul,Nat.one_mul];omega
theorem NK {vw:Vw}(w:sO vw)(hn:∀ q∈vw,q.1.length<=1000){q:Str×Th}(hq:q∈vw):(mX q).length<=10000:=by
 obtain⟨n,th⟩:=q;have h1:=hn _ hq;cases th with
 |pl ss =>
  have g:=w.gd _ _ hq;have w3:=jO g.2;have j:=AD " " ("voice" :: n::ss.map d4);have e:(Str.ofString " ").length=1:=by lk
  have e5:(Str.ofString "voice").length=5:=by lk
  simp only [map_cons,List.sum_cons,Zk',P',e,e5]at j;show(Str.join " " ("voice" :: n::ss.map d4)).length<=_;have h1:n.length<=1000:=h1;omega
 |cn ld lt sl tn =>
  obtain⟨⟨ss,uU⟩,a1,a2,a3,a4⟩:=w.ld n ld lt sl tn hq;have h1:n.length<=1000:=h1;have h2:ld.length<=1000:=hn _ uU;have f4:(ow lt).length<=3:=EN a1 (by omega);have f5:(ow sl).length<=3:=EN (by omega) (by omega);have f7:(oQ tn).length<=8:=by cases tn <;> decide +kernel
  have e6:(Str.ofString "canon ").length=6:=by lk
  have e1:(Str.ofString " ").length=1:=by lk
  show(Str.ofString "canon " ++ n++Str.ofString " " ++ ld++Str.ofString " " ++ ow lt++Str.ofString " " ++ ow sl++Str.ofString " " ++ oQ tn).length<=_;simp only [PySem.Str.length_append];omega
theorem Gm {vw:Vw}(w:sO vw)(hn:∀ q∈vw,q.1.length<=1000):∀ us:Vw,(∀ q∈us,q∈vw)->((us.map mX).map (·.length)).sum<=10000 * us.length
 |[],_=>X' _
 |q::us,h=>by
  have h1:=NK w hn (h q mem_cons_self);have h2:=Gm w hn us fun x hx=>h x (mem_cons_of_mem _ hx);simp only [map_cons,List.sum_cons,Zk'];omega
inductive qU (c:Cs)(vs:List V)(H:Hp)(Q:VK)(E:XK):Prop
 |mk (x:Addr) (F:Addr->Prop) (vw:Vw) (ps fs:List Vw) (cL:vs=[.ref x]) (cM:yp c H x F vw ps fs) (dA:(∀ q∈vw,q.1.length<=1000)) (fA:∀ H',ao H H'->Q (.str (MS vw)) H'):qU c vs H Q E
theorem A6 (T:Txt K w mg t):aR P w K mg base d3 (0+6) t.tX t.tY ["book"] (qU (cs t)):=by
 have A7:=AB P base T;have fM:=lU P base T;refine T.ud.ok AR ?_ ?_
 x_go
 obtain⟨x,F,vw,ps,fs,rfl,B,hn,q⟩:=h;refine aH (ah (av (cQ plainAttrs_str slot_str_join type_str_join pW aA (aa (eB (cn:=["name"]) rfl (b8.of rfl) (dz (lY (pv 0) T.aQ T.c8.me fM (iA hr) T.c8.b .nil fS)) (fun _=>(bZ (i:=0) vB rfl (Or.inl rfl))) (fun _=>eZ) (fun _=>(dg T.qJ A7 hr (aa (pv 1) (aa (pv 0) af))))) af)))) ?_;have wv:=B.wv vw (.inr (.inl rfl));have hx:∃ dx L D U,H x=some (.ins t.cO dx (sN L D U)):=by
  obtain⟨L,D,U,all,M,Ps,Fs,es,us,b,_⟩:=B.ex;obtain⟨dx,e⟩:=b.hx;exact⟨dx,L,D,U,e⟩
 obtain⟨dx,L,D,U,hx⟩:=hx;have wl:=wv.len;refine⟨rfl,_,rfl,x,dx,_,rfl,hx,jk _ _ _,x,F,vw,ps,fs,rfl,B,fun l1 H1 W6 s1 h1=>?_⟩;refine⟨l1,rfl,⟨_,aL.of h1⟩,fun D b hD=>?_⟩;refine dH (K:=K) (xs:=vw.map fun a=>V.str a.1) (fun i zs σ H'=>∃ v,σ=[v,some (.ref x)]/\ao H1 H'/\H' D=some (.lst zs)/\zs=((vw.take i).map mX).map V.str) ⟨none,rfl,ao.upd hD,ag,by simp⟩ ?_ ?_ ?_
 ·rintro i zs σ H' ⟨v,rfl,s2,hD2,rfl⟩;exact aL.of (s2 _ _ h1)
 ·rintro i zs y σ H' hy ⟨v,rfl,s2,hD2,rfl⟩ N hN;obtain⟨qn,hq,rfl⟩:∃ qn,vw[i]? = some qn/\y=.str qn.1:=by
   rw[Zl']at hy;cases e:vw[i]? with
   |none=>rw[e]at hy;cases hy
   |some z=>rw[e]at hy;exact⟨z,rfl,(W' hy).symm⟩
  obtain⟨n,th⟩:=qn;have hm:=Zh' hq;have hf:=wv.find hm;have hi:i<vw.length:=(S'.mp hq).1;refine bT ?_;refine⟨_,rfl,_,rfl,x,F,vw,ps,fs,n,th,rfl,B.same (s1.trans s2),hf,hn _ hm,?_,fun H3 s3=>⟨s3 _ _ hD2,?_,?_⟩⟩
  ·rintro ld lt sl tn rfl;obtain⟨⟨ss,uU⟩,_⟩:=wv.ld n ld lt sl tn hm;exact hn _ uU
  ·rw[P',P',length_take];exact aJ (by omega)
  ·refine hN _ _ _ ⟨_,rfl,cb (s2.trans s3) hD,ag,?_⟩;rw[take_succ,hq];simp
 ·rintro zs σ H' ⟨v,rfl,s2,hD2,rfl⟩;rw[P',take_length]at hD2;refine⟨_,D,vw.map mX,rfl,rfl,aL.of hD2,?_,q _ (s1.trans s2)⟩;have e:(Str.ofString "\n").length=1:=by lk
  have z:=Gm wv hn vw fun _ h=>h;rw[e,P'];omega
noncomputable def iI (z:Str):Int:=if okN 4 z.cps.toList=true then((NumText.digitsVal z.cps.toList:Nat):Int) else -1
theorem AE (z:Str):(∃ n,fY 3 z=some n/\iI z=n)\/(fY 3 z=none/\(iI z<0\/1000<=iI z)):=by
 unfold iI
 by_cases h:okN 4 z.cps.toList=true
 ·rw[Zc' h];have hi:=p3 h (by decide);rcases Ww h hi with e|⟨e,g⟩
  ·exact .inl ⟨_,e,rfl⟩
  ·exact .inr ⟨e,.inr g⟩
 ·rw[Za' h];refine .inr ⟨yr ?_,.inl (by decide)⟩;cases e:okN 3 z.cps.toList with
  |false=>rfl
  |true=>exact j' (ES (by decide) e) h
theorem O1 {z:Str}(h:¬ okN 4 z.cps.toList=true):iI z = -1:=Za' h
theorem uP (c:Nat):vd ⟨#[c]⟩ "0123456789"=decide (c∈eN):=by
 by_cases h:c∈eN
 ·rw[L' h];have:eN.all (fun c=>vd ⟨#[c]⟩ "0123456789")=true:=by lk
  exact all_eq_true.mp this c h
 ·rw[V' h];unfold vd;rw[occ_nil_of_no (x:=Str.ofString "0123456789") (y:=⟨#[c]⟩) 1 fun i hi=>?_]
  ·rfl
  ·refine Y'.mpr fun q=>h ?_;have q:((Str.ofString "0123456789").cps.extract i (i+1) == #[c])=true:=q;have e:=beq_iff_eq.mp q;have m:c∈((Str.ofString "0123456789").cps.extract i (i+1)).toList:=by rw[e];simp
   rw[Array.toList_extract]at m;have m:=List.mem_of_mem_drop (List.mem_of_mem_take m);have ec:(Str.ofString "0123456789").cps.toList=eN:=by lk
   rw[ec]at m;exact m
inductive xS (vs:List V)(H:Hp)(Q:VK)(E:XK):Prop
 |mk (z:Str) (cL:vs=[.str z]) (cM:z.length<=100000) (dA:Q (.int (iI z)) H):xS vs H Q E
theorem Gn (T:Txt K w mg t):aR P w K mg base d3 (0+1) t.zK t.zL ["_law_word_here"] xS:=by
 refine T.rN.ok wH ?_ ?_
 x_go
 obtain⟨z,rfl,hz,q⟩:=h;have big:z.length<=sizeLine:=Zf' hz (by decide);have hlen:z.cps.toList.length=z.length:=Array.length_toList;refine aH (ae (aI (bq (PW.pt (dj (aq (ba.or (aN (aF hr))) (pv 0) aA (aw _)) (dj (aq nG (aE (aB.or aC) rfl T.bg bf (aa (pv 0) af)) ai (aw _)) (cT (bq (PW.pt (cN (aq nG (aE (aB.or aC) rfl T.bg bf (aa (pv 0) af)) ai (aw _)) (dJ (aq (ba.or (aN (aF hr))) (bY (pv 0)) aA (aw _))))))))))) (ah (av (vR oz ai))) ax) (ae (dF PassesOwn.never rfl (uZ (pv 0)) (kj 1 wH.nd) (ah (aI (aq (cV.or cW) (pv 1) aA rfl) (ah (av (vR oz ai))) ax))) (ah (av (bP (fB.or cG) rfl T.j1 jF (aa (pv 0) af)))))) ?_;have bad:¬ okN 4 z.cps.toList=true->Q (.int (-1)) H:=fun h=>by rw[O1 h]at q;exact q
 refine dG (!(decide (1<=z.length)&&(decide (z.length<=4) && !(decide (1<z.length)&&decide (z.cps.toList[0]? = some 48))))) ?_ ?_
 ·tm_up;refine aG (fun h1=>bD ?_) (fun h1=>?_)
  ·have e:z=Str.ofString "":=V.str.inj (G' h1);have l0:z.length=0:=by rw[e];decide +kernel
   rw[V' (show ¬ 1<=z.length by omega)];rfl
  have l1:1<=z.length:=by
   rcases Nat.eq_zero_or_pos z.length with e|e
   ·exact j' (L' (Zn' V.str (show z=Str.ofString "" from Str.ext' (by rw[Array.size_eq_zero_iff.mp e];decide +kernel)))) h1
   ·exact e
  rw[L' l1,Bool.true_and];tm_up;refine .inr ⟨_,rfl,big,?_⟩;tm_up;refine aG (fun h2=>bD ?_) (fun h2=>?_)
  ·rw[V' (show ¬ z.length<=4 by have:=G' h2;omega)];rfl
  have l4:z.length<=4:=by
   have:¬(4:Int)<((z.length:Nat):Int):=fun e=>h2 (L' e);omega
  rw[L' l4,Bool.true_and,Bool.not_not];refine dG (decide (1<z.length)&&decide (z.cps.toList[0]? = some 48)) ?_ (bD rfl);tm_up;refine .inr ⟨_,rfl,big,?_⟩;tm_up;refine aG (fun h3=>?_) (fun h3=>bD ?_)
  rotate_left
  ·rw[V' (show ¬ 1<z.length from fun e=>h3 (L' (by omega)))];rfl
  have l2:1<z.length:=by have:=G' h3;omega
  rw[L' l2,Bool.true_and];obtain⟨c0,hc0⟩:∃ c0,z.cps.toList[0]? = some c0:=⟨_,R' (by rw[hlen];omega)⟩;refine⟨_,rfl,.inr (.inr ⟨_,_,c0,rfl,rfl,big,eQ (j:=0) hc0,.inl ⟨rfl,_,rfl,bD ?_⟩⟩)⟩;rw[hc0,oR];refine decide_eq_decide.mpr ⟨fun e=>?_,fun e=>?_⟩
  ·injection e with e
   have e:=G' ((yq c0 48).symm.trans (beq_iff_eq.mpr e));rw[e]
  ·rw[W' e];rfl
 refine aG (fun h1=>?_) (fun h1=>?_)
 ·refine⟨_,rfl,bad fun ok=>?_⟩;obtain⟨a,b,c,d⟩:=i3 ok;rw[hlen]at a b d;rw[L' a,L' b]at h1;cases e:decide (1<z.length)&&decide (z.cps.toList[0]? = some 48) with
  |false=>rw[e]at h1;cases h1
  |true =>
   rw[Bool.and_eq_true]at e;exact d ⟨G' e.1,G' e.2⟩
 have g1:1<=z.length/\z.length<=4/\¬(1<z.length/\z.cps.toList[0]? = some 48):=by
  have h1:¬(!(decide (1<=z.length)&&(decide (z.length<=4) && !(decide (1<z.length)&&decide (z.cps.toList[0]? = some 48)))))=true:=h1;refine⟨?_,?_,fun y=>?_⟩
  ·by_cases e:1<=z.length
   ·exact e
   ·rw[V' e]at h1;exact j' rfl h1
  ·by_cases e:z.length<=4
   ·exact e
   ·rw[V' e,Bool.false_and,Bool.and_false]at h1;exact j' rfl h1
  ·rw[L' y.1,L' y.2]at h1;simp at h1
 obtain⟨a,b,d⟩:=g1;tm_up;refine Dj (z:=z) (fun i σ H'=>∃ v,σ=[some (.str z),v]/\H'=H/\∀(j:Nat) x,j<i->z.cps[j]? = some x->x∈eN) ⟨none,rfl,rfl,fun j x hj=>by omega⟩ ?_ ?_
 ·rintro i x σ H1 hx ⟨v,rfl,eH,hin⟩;have eH:=eH.symm;subst eH;tm_up;refine aG (fun h2=>?_) (fun h2=>?_)
  ·have h2:(!vd ⟨#[x]⟩ "0123456789")=true:=h2;rw[uP]at h2;refine⟨_,rfl,bad fun ok=>?_⟩;have m:x∈z.cps.toList:=Zh' (i:=i) (by simpa using hx);rw[L' ((i3 ok).2.2.1 x m)]at h2;cases h2
  ·have h2:¬(!vd ⟨#[x]⟩ "0123456789")=true:=h2;rw[uP]at h2;refine⟨_,rfl,rfl,fun j y hj hy=>?_⟩;rcases Nat.lt_or_ge j i with u|u
   ·exact hin j y u hy
   ·have e:j=i:=by omega
    subst e;rw[hx]at hy;cases hy
    by_cases hf:x∈eN
    ·exact hf
    ·rw[V' hf]at h2;exact j' rfl h2
 ·rintro σ H1 ⟨v,rfl,eH,hin⟩;have eH:=eH.symm;subst eH;have ok:okN 4 z.cps.toList=true:=by
   refine Dl (by rw[hlen];exact a) (by rw[hlen];exact b) (fun x hx=>?_) (by rw[hlen];exact d);obtain⟨j,hj⟩:=getElem?_of_mem hx;have hj':z.cps[j]? = some x:=by simpa using hj
   exact hin j x (Array.getElem?_eq_some_iff.mp hj').1 hj'
  have hi:=p3 ok (by decide);unfold iI at q;rw[Zc' ok]at q;tm_up;exact .inr ⟨_,_,rfl,hi,by omega,q⟩
inductive kh (vs:List V)(H:Hp)(Q:VK)(E:XK):Prop
 |mk (d p:Addr) (vw:Vw) (x1 x2 x4 x5:V) (ld:Str) (lt sl:Int) (cL:vs=[.ref d,.ref p]) (cM:km H d vw) (dA:H p=some (.tup [x1,x2,.str ld,x4,x5,.int lt,.int sl])) (fA:Q (.str (MO (cR vw ld lt sl))) H):kh vs H Q E
theorem r6 (T:Txt K w mg t):aR P w K mg base d3 (0+1) t.lp t.lq ["_law_voices","_law_deed"] kh:=by
 refine T.lB.ok jU ?_ ?_
 x_go
 obtain⟨d,p,vw,x1,x2,x4,x5,ld,lt,sl,rfl,hd,hp,q⟩:=h;refine aH (ae (aI (Lh (J9 (lZ hr) (bY (pv 1)) (pv 0))) (ah (av aA)) ax) (ae (aI (cy (aT (aE cK rfl T.aV aU (aa (ku (lZ hr) (pv 0) (bY (pv 1)) (fun _ _=>rfl)) (aa (dS (v:=.ty "list") rfl T.fG fE rfl) af))))) (ah (av aA)) ax) (ae (cZ 2 jU.nd (bJ (eX (bB ko ai (bY (pv 1)) (aw _)) (eX (bB gK (bY (pv 1)) ai (aw _)) (eX (bB gK ai (bY (pv 1)) (aw _)) (gm (bB gK (bY (pv 1)) ai (aw _)))))))) (ah (av (bJ (cu (aT (pv 2)) aA aA))))))) ?_;unfold cR at q;refine⟨_,rfl,EM (i:=2) hp rfl ?_⟩;rcases hd.look ld with ⟨f1,g1⟩|⟨th,v1,f1,g1,t1⟩
 ·rw[f1]at q;exact⟨_,rfl,d,_,rfl,g1,_,rfl,cX q⟩
 rw[f1]at q;refine⟨_,rfl,d,_,rfl,g1,_,rfl,cf ?_⟩;refine⟨_,rfl,_,rfl,EM (i:=2) hp rfl ?_⟩;refine⟨d,_,rfl,g1,?_⟩;cases th with
 |cn X5 X6 sl2 X7 =>
  obtain⟨pt,rfl,Ru⟩:=t1;exact⟨_,_,_,_,rfl,eY.tup Ru,rfl,_,rfl,cX q⟩
 |pl ss =>
  obtain⟨l,ys,rfl,hl,_⟩:=t1;refine⟨_,_,_,_,rfl,eY.lst hl,rfl,_,rfl,cf ?_⟩;refine rb (.bl (decide (eE lt sl))) ?_ ?_
  ·refine⟨_,rfl,EM (i:=5) hp rfl ?_⟩;tm_up;refine aG (fun h1=>?_) (fun h1=>?_)
   rotate_left
   ·rw[V' (fun z:eE lt sl=>h1 (L' z.1))];exact⟨rfl,rfl⟩
   refine⟨_,rfl,EM (i:=5) hp rfl ?_⟩;tm_up;refine aG (fun h2=>?_) (fun h2=>?_)
   rotate_left
   ·rw[V' (fun z:eE lt sl=>h2 (L' (by have:=z.2.1;omega)))];exact⟨rfl,rfl⟩
   refine⟨_,rfl,EM (i:=6) hp rfl ?_⟩;tm_up;refine aG (fun h3=>?_) (fun h3=>?_)
   rotate_left
   ·rw[V' (fun z:eE lt sl=>h3 (L' (by have:=z.2.2.1;omega)))];exact⟨rfl,rfl⟩
   refine⟨_,rfl,EM (i:=6) hp rfl ?_⟩;tm_up;refine⟨Zn' V.bl (decide_eq_decide.mpr ⟨fun z=>⟨G' h1,?_,?_,?_⟩,fun z=>?_⟩),rfl⟩
   ·have:=G' h2;omega
   ·have:=G' h3;omega
   ·omega
   ·have:=z.2.2.2;omega
  ·refine rb (.str (MO (if eE lt sl then none else some .jm))) ?_ q;refine⟨_,rfl,_,rfl,?_⟩
   by_cases z:eE lt sl
   ·rw[L' z,Zc' z];exact cX ⟨rfl,rfl⟩
   ·rw[V' z,Za' z];exact cf ⟨rfl,rfl⟩
inductive lK (vs:List V)(H:Hp)(Q:VK)(E:XK):Prop
 |mk (d:Addr) (vw:Vw) (n:Str) (cL:vs=[.ref d,.str n]) (cM:km H d vw) (dA:n.length<=100000) (fA:vw.length<=12) (ki:Q (.str (MO (bU vw n))) H):lK vs H Q E
theorem uQ (T:Txt K w mg t):aR P w K mg base d3 (0+1) t.mH t.mI ["_law_voices","_law_name"] lK:=by
 refine T.mK.ok kQ ?_ ?_
 x_go
 obtain⟨d,vw,n,rfl,hd,hn,hw,q⟩:=h;refine aH (ae (aI (bq (PW.pt (dj (aq gK (aE (aB.or aC) rfl T.bg bf (aa (pv 1) af)) ai (aw _)) (cT (aq nG (aE (aB.or aC) rfl T.bg bf (aa (pv 1) af)) ai (aw _)))))) (ah (av aA)) ax) (ae (dF PassesOwn.never rfl (uZ (pv 1)) (kj 2 kQ.nd) (ah (aI (aq (cV.or cW) (pv 2) aA rfl) (ah (av aA)) ax))) (ae (aI (Lh (QH (lZ hr) (pv 1) (pv 0))) (ah (av aA)) ax) (ah (av (bJ (cu (aq (ba.or (aN (aF hr))) (aE Ka rfl T.bg bf (aa (pv 0) af)) ai (aw _)) aA aA))))))) ?_;have xb:n.length<=sizeLine:=Zf' hn (by decide);unfold bU at q;refine dG (!(decide (1<=n.length)&&decide (n.length<=8))) ?_ ?_
 ·refine⟨_,rfl,.inr ⟨_,rfl,xb,?_⟩⟩;tm_up;refine aG (fun h1=>?_) (fun h1=>?_)
  ·have h1:=G' h1;rw[V' (show ¬ 1<=n.length by omega)];exact⟨rfl,rfl⟩
  ·have h1:1<=n.length:=Nat.lt_of_not_le fun z=>h1 (L' (by omega));rw[L' h1];refine⟨_,rfl,.inr ⟨_,rfl,xb,?_⟩⟩;tm_up;refine⟨?_,rfl⟩;rw[Bool.true_and,<-decide_not];exact decide_eq_decide.mpr (by omega)
 refine aG (fun h1=>?_) (fun h1=>?_)
 ·have hb:nameB n=false:=by
   unfold nameB;cases e1:decide (1<=n.length) with
   |false=>rfl
   |true =>
    rw[e1]at h1;cases e2:decide (n.length<=8) with
    |false=>rfl
    |true=>rw[e2]at h1;cases h1
  rw[Zc' hb]at q;exact q
 have hb1:(decide (1<=n.length)&&decide (n.length<=8))=true:=by
  cases z:(decide (1<=n.length)&&decide (n.length<=8)) with
  |true=>rfl
  |false=>rw[z]at h1;exact j' rfl h1
 obtain⟨hb2,hb3⟩:=Bool.and_eq_true_iff.mp hb1;tm_up;refine Dj (z:=n) (fun i σ H'=>∃ v,σ=[some (.ref d),some (.str n),v]/\H'=H/\∀(j:Nat) c,j<i->n.cps[j]? = some c->vd ⟨#[c]⟩ "abcdefghijklmnopqrstuvwxyz"=true) ⟨none,rfl,rfl,fun j c hj=>by omega⟩ ?_ ?_
 ·rintro i c σ H1 hc ⟨v,rfl,eH,hin⟩;have eH:=eH.symm;subst eH;tm_up;refine aG (fun h2=>?_) (fun h2=>?_)
  ·have hb:nameB n=false:=by
    unfold nameB;rw[hb2,hb3,Bool.true_and,Bool.true_and];refine List.all_eq_false.mpr ⟨c,?_,?_⟩
    ·exact Zh' (i:=i) (by simpa using hc)
    ·show ¬(!(Builtin.Str.occurrences _ _ 0 _ 1).isEmpty)=true;intro z;rw[z]at h2;cases h2
   rw[Zc' hb]at q;exact q
  ·refine⟨_,rfl,rfl,fun j c' hj hc'=>?_⟩;rcases Nat.lt_or_ge j i with z|z
   ·exact hin j c' z hc'
   ·have e:j=i:=by omega
    subst e;rw[hc]at hc';cases hc';show(!(Builtin.Str.occurrences _ _ 0 _ 1).isEmpty)=true;cases z:(Builtin.Str.occurrences (Str.ofString "abcdefghijklmnopqrstuvwxyz") ⟨#[c]⟩ 0 (Str.ofString "abcdefghijklmnopqrstuvwxyz").length 1).isEmpty with
    |false=>rfl
    |true=>exact j' (show(!!(Builtin.Str.occurrences (Str.ofString "abcdefghijklmnopqrstuvwxyz") ⟨#[c]⟩ 0 (Str.ofString "abcdefghijklmnopqrstuvwxyz").length 1).isEmpty)=true by rw[z];rfl) h2
 ·rintro σ H1 ⟨v,rfl,eH,hin⟩;have eH:=eH.symm;subst eH;have hb:¬ nameB n=false:=by
   unfold nameB;rw[hb2,hb3,Bool.true_and,Bool.true_and];intro z;obtain⟨c,hc,hc2⟩:=List.all_eq_false.mp z;obtain⟨j,hj⟩:=getElem?_of_mem hc;have hj':n.cps[j]? = some c:=by simpa using hj
   exact hc2 (hin j c (Array.getElem?_eq_some_iff.mp hj').1 hj')
  rw[Za' hb]at q;tm_up;rcases hd.look n with ⟨f1,g1⟩|⟨th,v1,f1,g1,_⟩
  ·rw[f1,Za' (by simp)]at q;refine⟨d,_,rfl,g1,_,rfl,cf ?_⟩;obtain⟨kvs,hk,kl⟩:=hd.len;refine rb (.str (if 12<=vw.length then "Full" else "")) ?_ ?_
   ·tm_up;refine⟨d,kvs,rfl,hk,?_⟩;tm_up;refine aG (fun h2=>?_) (fun h2=>?_)
    ·have:=V.int.inj (G' h2);rw[Zc' (by omega)];exact⟨rfl,rfl⟩
    ·rw[Za' (fun z=>h2 (L' (Zn' V.int (by omega))))];exact⟨rfl,rfl⟩
   ·by_cases hl:12<=vw.length
    ·rw[Zc' hl]at q ⊢;exact q
    ·rw[Za' hl]at q ⊢;exact q
  ·rw[f1,Zc' (show(some th).isSome=true from rfl)]at q;exact⟨d,_,rfl,g1,_,rfl,cX q⟩
theorem NL {y:Str}{c:Nat}(h:c ∉ y.cps.toList):vd (chr c) y=false:=by
 unfold vd;rw[occ_nil_of_no (x:=y) (y:=chr c) 1 fun i hi=>?_]
 ·rfl
 ·refine Y'.mpr fun q=>h ?_;have q:(y.cps.extract i (i+1) == #[c])=true:=q;have e:=beq_iff_eq.mp q;have:c∈(y.cps.extract i (i+1)).toList:=by rw[e];simp
  rw[Array.toList_extract]at this;exact List.mem_of_mem_drop (List.mem_of_mem_take this)
theorem O2 (c:Nat):vd (chr c) "GDsd"=(EU c).isSome:=by
 by_cases h:c∈[71,68,115,100]
 ·have:[71,68,115,100].all (fun c=>decide (vd (chr c) "GDsd"=(EU c).isSome))=true:=by lk
  exact G' (all_eq_true.mp this c h)
 ·have e:(Str.ofString "GDsd").cps.toList=[71,68,115,100]:=by lk
  rw[NL (by rw[e];exact h)];cases ek:EU c with
  |none=>rfl
  |some k =>
   have k1:=(oS ek).1;have k2:=(oS ek).2;have:([Kd.G,Kd.D,Kd.s,Kd.d].all fun k=>decide (k.str.cps.toList[0]? ∈ [some 71,some 68,some 115,some 100]))=true:=by lk
   have m:k∈[Kd.G,Kd.D,Kd.s,Kd.d]:=by cases k <;> first|(cases k2;done)|simp
   have:=G' (all_eq_true.mp this k m);rw[k1]at this;have:some c∈[some 71,some 68,some 115,some 100]:=this;simp at this;exact j' (by simpa using this) h
theorem AF {z:Str}{c:Nat}{cs:List Nat}(hs:inV (.str z) cH=false)(h:z.cps.toList=c::cs):eo z=match EU c with|none=>none|some k=>(fY 2 ⟨cs.toArray⟩).map fun n=>(k,n):=by
 rw[Aq hs,h]
 try rfl
theorem r9 {z:Str}{c:Nat}{cs:List Nat}(hs:inV (.str z) cH=false)(h:z.cps.toList=c::cs)(n:EU c=none\/¬ okN 2 cs=true):eo z=none:=by
 rw[AF hs h];cases k:EU c with
 |none=>rfl
 |some kk =>
  have:fY 2 ⟨cs.toArray⟩=none:=yr (by
   cases e:okN 2 cs with
   |false=>first|rfl|exact e
   |true=>exact j' e (n.resolve_left fun z=>by rw[k]at z;cases z))
  show(fY 2 ⟨cs.toArray⟩).map _=none;rw[this];rfl
theorem DW (T:Txt K w mg t):aR P w K mg base d3 (0+1) t.xr t.xt ["_law_word_here"] rS:=by
 refine T.xC.ok tG ?_ ?_
 x_go
 obtain⟨z,rfl,hz,qn,qs⟩:=h;have big:z.length<=sizeLine:=Zf' hz (by decide);have hlen:z.cps.toList.length=z.length:=Array.length_toList;refine aH (ae (aI (aq (bX.or bW) (pv 0) (bC (Bn zy)) rfl) (ah (av (cU (aa (pv 0) (aa ai af))))) ax) (ae (aI (bq (PW.pt (dj (aq gK (aE (aB.or aC) rfl T.bg bf (aa (pv 0) af)) ai (aw _)) (dj (aq nG (aE (aB.or aC) rfl T.bg bf (aa (pv 0) af)) ai (aw _)) (cT (aq (cV.or cW) (bY (pv 0)) aA rfl)))))) (ah (av cS)) ax) (ae (dF PassesOwn.never rfl (uZ (dN (eR.or (gM.or gP)) (pv 0) (dW ai) eP)) (kj 1 tG.nd) (ah (aI (aq (cV.or cW) (pv 1) aA rfl) (ah (av cS)) ax))) (ae (aI (bq (PW.pt (cN (aq (ba.or (aN (aF hr))) (aE (aB.or aC) rfl T.bg bf (aa (pv 0) af)) ai (aw _)) (dJ (aq (ba.or (aN (aF hr))) (bY (pv 0)) aA (aw _)))))) (ah (av cS)) ax) (ah (av (cU (aa (bY (pv 0)) (aa (bP (fB.or cG) rfl T.j1 jF (aa (dN (eR.or (gM.or gP)) (pv 0) (dW ai) eP) af)) af))))))))) ?_;refine⟨_,rfl,by show 5<=sizeLine;decide,fun l hl=>?_⟩;refine .inl ⟨_,_,rfl,.inl (aL.of ag),rfl,rfl,_,rfl,?_⟩;have s0:=ao.upd (o:=.lst cH) hl;refine aG (fun h=>?_) (fun h=>?_)
 ·have h:inV (.str z) cH=true:=h;obtain⟨k,rfl,e⟩:=Cz h;refine⟨_,rfl,(by show 2<=sizeLine;decide),fun p hp=>?_⟩;exact qs (k,0) e p _ (s0.trans (ao.upd hp)) ag
 have hs:inV (.str z) cH=false:=Y'.mpr h
 change Ll _ _ _ _ (upd H l (.lst cH))
 generalize upd H l (.lst cH)=H0 at s0;cases hc:z.cps.toList with
 |nil =>
  have hl:z.length=0:=by rw[hc]at hlen;exact hlen.symm
  have e3:eo z=none:=by rw[Aq hs,hc]
  refine dG true ?_ (cX (qn e3 H0 s0));refine⟨_,rfl,.inr ⟨_,rfl,big,_,_,rfl,rfl,_,rfl,?_⟩⟩;exact aG (fun _=>bD rfl) (fun h=>j' (L' (by omega)) h)
 |cons c cs =>
  have hl:cs.length+1=z.length:=by rw[hc]at hlen;exact hlen
  have e0:z.cps.toList[0]? = some c:=by rw[hc];rfl
  have gd:∀ b:Bool,((EU c).isSome = !b)->(!vd (chr c) "GDsd")=b:=fun b e=>by rw[O2,e];cases b <;> rfl
  by_cases hB:1<=cs.length/\cs.length<=2/\(EU c).isSome=true
  ·obtain⟨b1,b2,b4⟩:=hB;refine dG false ?_ (cf ?_)
   ·refine⟨_,rfl,.inr ⟨_,rfl,big,_,_,rfl,rfl,_,rfl,?_⟩⟩;refine aG (fun h=>j' (G' h) (by omega)) (fun _=>?_);refine⟨_,rfl,.inr ⟨_,rfl,big,_,_,rfl,rfl,_,rfl,?_⟩⟩;refine aG (fun h=>j' (G' h) (by omega)) (fun _=>?_);refine⟨_,rfl,.inr (.inr ⟨_,_,c,rfl,rfl,big,eQ (j:=0) e0,.inr ⟨_,_,rfl,rfl,_,rfl,bD ?_⟩⟩)⟩;exact gd false b4
   ·refine⟨_,rfl,_,rfl,.inr (.inr ⟨_,rfl,big,?_⟩)⟩;rw[Dk hc];refine⟨_,rfl,Dj (z:=⟨cs.toArray⟩) (fun i σ H'=>∃ v,σ=[some (.str z),v]/\H'=H0/\∀(j:Nat) x,j<i->cs[j]? = some x->x∈eN) ⟨none,rfl,rfl,fun j x hj=>by omega⟩ ?_ ?_⟩
    ·rintro i x σ H1 hx ⟨v,rfl,eH,hin⟩;have eH:=eH.symm;subst eH;have hx:cs[i]? = some x:=by simpa using hx
     refine⟨_,rfl,.inr ⟨_,_,rfl,rfl,_,rfl,?_⟩⟩;refine aG (fun h2=>?_) (fun h2=>?_)
     ·have h2:(!vd (chr x) "0123456789")=true:=h2;rw[show vd (chr x) "0123456789"=decide (x∈eN) from uP x]at h2;refine qn (r9 hs hc (.inr fun ok=>?_)) H0 s0;rw[L' ((i3 ok).2.2.1 x (Zh' hx))]at h2;cases h2
     ·have h2:¬(!vd (chr x) "0123456789")=true:=h2;rw[show vd (chr x) "0123456789"=decide (x∈eN) from uP x]at h2;refine⟨_,rfl,rfl,fun j y hj hy=>?_⟩;rcases Nat.lt_or_ge j i with u|u
      ·exact hin j y u hy
      ·have e:j=i:=by omega
       subst e;rw[hx]at hy;cases hy
       by_cases hf:x∈eN
       ·exact hf
       ·rw[V' hf]at h2;exact j' rfl h2
    ·rintro σ H1 ⟨v,rfl,eH,hin⟩;have eH:=eH.symm;subst eH;have hall:∀ x∈cs,x∈eN:=fun x hx=>by
      obtain⟨j,hj⟩:=getElem?_of_mem hx;have:=(S'.mp hj).1;exact hin j x (by simpa using this) hj
     have e1:z.cps.toList[1]? = cs[0]?:=by rw[hc];rfl
     obtain⟨d0,hd0⟩:∃ d0,cs[0]? = some d0:=⟨_,R' (by omega)⟩;rw[hd0]at e1
     by_cases hz0:1<cs.length/\cs[0]? = some 48
     ·refine dG true ?_ (cX (qn (r9 hs hc (.inr fun ok=>(i3 ok).2.2.2 hz0)) H0 s0));have e48:d0=48:=W' (hd0.symm.trans hz0.2);refine⟨_,rfl,.inr ⟨_,rfl,big,.inl ⟨rfl,_,rfl,?_⟩⟩⟩;refine aG (fun _=>?_) (fun h=>j' (by rw[dq];exact L' (by omega)) h);refine⟨_,rfl,.inr (.inr ⟨_,_,d0,rfl,rfl,big,eQ (j:=1) e1,.inl ⟨rfl,_,rfl,bD ?_⟩⟩)⟩;rw[oR,e48];exact L' rfl
     ·refine dG false ?_ (cf ?_)
      ·refine⟨_,rfl,.inr ⟨_,rfl,big,.inl ⟨rfl,_,rfl,?_⟩⟩⟩;refine aG (fun h=>?_) (fun _=>bD rfl);rw[dq]at h;have h3:=G' h;refine⟨_,rfl,.inr (.inr ⟨_,_,d0,rfl,rfl,big,eQ (j:=1) e1,.inl ⟨rfl,_,rfl,bD ?_⟩⟩)⟩;refine V' fun e=>?_
       injection e with e
       rw[oR]at e;have e:=G' ((yq d0 48).symm.trans (beq_iff_eq.mpr e));exact hz0 ⟨by omega,by rw[hd0,e]⟩
      ·have ok:=Dl (m:=2) b1 b2 hall hz0;obtain⟨kk,hkk⟩:=Option.isSome_iff_exists.mp b4;have hn:=p3 (z:=⟨cs.toArray⟩) ok (by decide);refine⟨_,rfl,.inr (.inr ⟨_,_,c,rfl,rfl,big,eQ (j:=0) e0,_,rfl,_,rfl,.inr (.inr ⟨_,rfl,big,?_⟩)⟩)⟩;rw[Dk hc];refine .inr ⟨_,_,rfl,hn,?_,by show 2<=sizeLine;decide,fun p hp=>?_⟩
       ·show cs.toArray.size<=640;rw[Zm'];omega
       ·refine qs (kk,_) ?_ p _ (s0.trans (ao.upd hp)) (by rw[(oS hkk).1];exact ag);rw[AF hs hc,hkk];show(fY 2 ⟨cs.toArray⟩).map _=_;rw[Dm (m:=2) (z:=⟨cs.toArray⟩) ok,hn];rfl
  ·have e3:eo z=none:=r9 hs hc (by
    cases h4:EU c with
    |none=>exact .inl rfl
    |some kk=>exact .inr fun ok=>hB ⟨(i3 ok).1,(i3 ok).2.1,by rw[h4];rfl⟩)
   refine dG true ?_ (cX (qn e3 H0 s0));refine⟨_,rfl,.inr ⟨_,rfl,big,_,_,rfl,rfl,_,rfl,?_⟩⟩;refine aG (fun _=>bD rfl) (fun h1=>?_);refine⟨_,rfl,.inr ⟨_,rfl,big,_,_,rfl,rfl,_,rfl,?_⟩⟩;refine aG (fun _=>bD rfl) (fun h2=>?_);refine⟨_,rfl,.inr (.inr ⟨_,_,c,rfl,rfl,big,eQ (j:=0) e0,.inr ⟨_,_,rfl,rfl,_,rfl,bD ?_⟩⟩)⟩;have n1:¬((z.length:Nat):Int)<2:=fun h=>h1 (L' h);have n2:¬(3:Int)<((z.length:Nat):Int):=fun h=>h2 (L' h);refine gd true ?_;cases h4:(EU c).isSome with
   |false=>rfl
   |true=>exact j' ⟨by omega,by omega,h4⟩ hB
inductive PY (K:Frag)(x y:V)(H:Hp)(Q:VK):Prop
 |mk (p:Addr) (xs:List V) (h0:x=.non) (h1:y=.ref p) (h2:aL K H p xs) (h3:∀ v∈xs,v=.non\/∃ a ys,v=.ref a/\iQ K H a ys) (h4:Q (.bl (xs.any fun v=>decide (v=.non))) H):PY K x y H Q
def Xf (K:Frag):R2:=fun x y H Q=>PY K x y H Q
noncomputable def O3 (u:Value):Bool:=match u with
 |.none=>true
 |_=>false
theorem NM {xs:List V}{us:List Value}(r:Vals xs us)(h:∀ v∈xs,v=.non\/∃ a,v=.ref a):us.any O3=xs.any fun v=>decide (v=.non):=by
 induction r with
 |nil=>rfl
 | @cons y u xs us r t ih =>
  rw[List.any_cons,List.any_cons,ih fun v hv=>h v (mem_cons_of_mem _ hv)]
  congr 1
  rcases h y mem_cons_self with rfl|⟨a,rfl⟩
  ·cases r;rfl
  ·obtain rfl:u=.ref a:=r;rfl
theorem NN {xs:List V}{us:List Value}(r:Vals xs us):∀ u∈us,∃ v∈xs,RelV v u:=by
 induction r with
 |nil=>intro u hu;cases hu
 | @cons y u xs us r t ih =>
  intro u' hu;rcases List.mem_cons.mp hu with rfl|hu
  ·exact⟨y,mem_cons_self,r⟩
  ·obtain⟨v,hv,q⟩:=ih u' hu;exact⟨v,mem_cons_of_mem _ hv,q⟩
theorem RH {X:Cx}(hu:X.A.units+1<cLine):lW X (compareOp .In) (Xf X.K):=by
 intro pins s σ H x y v u Q I rx ry h;obtain⟨p,xs,rfl,rfl,hq,hall,q⟩:=h;cases ry;cases rx;obtain⟨its,r,pl,hz⟩:=I.list hq;refine SeqAt.in_listAt O3 pl.isList (fun w hw=>?_) ⟨.bl _,H,I,rfl,?_⟩
 ·obtain⟨z,hz,rz⟩:=NN r w (by simpa using hw);rcases hall z hz with rfl|⟨a,ys,rfl,ht⟩
  ·cases rz;exact SeqAt.EqAt.same _
  ·obtain rfl:w=.ref a:=rz;obtain⟨its2,r2,SR,hz2⟩:=I.tuple ht;exact SeqAt.EqAt.tuple_none SR hu
 ·rw[show its.toArray.any O3=its.any O3 by simp,NM r fun v hv=>(hall v hv).imp id fun⟨a,_,e,_⟩=>⟨a,e⟩];exact q
theorem Gp {vw:Vw}{h:Str}:mY vw [h]=none:=by
 rw[ju];split
 ·rfl
 ·split <;> rfl
theorem Gq {vw:Vw}{h n:Str}{r:List Str}(hn:bU vw n≠none):mY vw (h::n::r)=none:=by
 rw[ju];split
 ·rw[kD,Za' hn]
 ·split
  ·cases e:gu vw (h::n::r) with
   |none=>rfl
   |some q =>
    obtain⟨h',n',ld,lt,sl,tn,_,e2,e3,_⟩:=vp e;have:n=n':=(List.cons.inj (List.cons.inj e2).2).1;rw[this]at hn;exact j' e3 hn
  ·rfl
theorem JF (r:Rf):decide (V.str (MO (some r))=V.str (Str.ofString ""))=false:=by cases r <;> decide +kernel
def ot (H:Hp)(v:V)(w:Str):Prop:=match eo w with|none=>v=.non|some s=>EA H v s
theorem ot.same {H H':Hp}{v:V}{w:Str}(e:ao H H')(h:ot H v w):ot H' v w:=by
 unfold ot at *;split
 ·rename_i x;rw[x]at h;exact h
 ·rename_i x;rw[x]at h
  obtain⟨p,a,b⟩:=h;exact⟨p,a,e _ _ b⟩
theorem xV {w:Str}{ws:List Str}:br (w::ws)=match eo w with|none=>none|some s=>(br ws).map (s :: ·):=rfl
theorem RI {H:Hp}{ys:List V}{ws:List Str}(g:Paired (ot H) ys ws):(ys.any fun v=>decide (v=.non))=(br ws).isNone:=by
 induction g with
 |nil=>rfl
 | @cons y w ys ws r t ih =>
  rw[List.any_cons,ih,xV];unfold ot at r;split at r
  ·rename_i x
   try rw[x]
   rw[r];rfl
  ·rename_i s x
   try rw[x]
   obtain⟨p,a,_⟩:=r;rw[a];show(decide (V.ref p=V.non)||(br ws).isNone)=((br ws).map (s :: ·)).isNone;rw[V' (fun z=>nomatch z),Bool.false_or];cases br ws <;> rfl
theorem RJ {H:Hp}{ys:List V}{ws:List Str}{ss:List Sg}(g:Paired (ot H) ys ws)(h:br ws=some ss):ia H ys ss:=by
 induction g generalizing ss with
 |nil =>
  obtain rfl:=W' h;exact .nil
 | @cons y w ys ws r t ih =>
  unfold ot at r;rw[xV]at h;split at r
  ·rename_i x
   rw[x]at h;cases h
  ·rename_i s x
   rw[x]at h;cases e:br ws with
   |none=>rw[e]at h;cases h
   |some r2 =>
    rw[e]at h;obtain rfl:=W' h;exact .cons r (ih e)
theorem NO {K:Frag}{H:Hp}{ys:List V}{ws:List Str}(g:Paired (ot H) ys ws):∀ v∈ys,v=.non\/∃ a zs,v=.ref a/\iQ K H a zs:=by
 induction g with
 |nil=>intro v hv;cases hv
 | @cons y w ys ws r t ih =>
  intro v hv;rcases List.mem_cons.mp hv with rfl|hv
  ·unfold ot at r;split at r
   ·exact .inl r
   ·obtain⟨p,a,b⟩:=r;exact .inr ⟨p,_,a,iQ.of b⟩
  ·exact ih v hv
theorem ot.RK {H:Hp}{D:Addr}{o:HO}(hD:∀ zs,H D≠some (.tup zs)){v:V}{w:Str}(h:ot H v w):ot (upd H D o) v w:=by
 unfold ot at *;split
 ·rename_i x;rw[x]at h;exact h
 ·rename_i x;rw[x]at h
  obtain⟨p,a,b⟩:=h;refine⟨p,a,?_⟩;rw[ak (fun e=>by rw[e]at b;exact hD _ b)];exact b
theorem La {kvs:List (Key×V)}{k:Key}{v:V}(h:lN kvs k=none):lN (kvs++[(k,v)]) k=some v:=by
 unfold lN at *;rw[List.find?_append];cases e:kvs.find? (fun kv=>decide (kv.1=k)) with
 |some x=>rw[e]at h;cases h
 |none =>
  show(Option.map _ (List.find? (fun kv:Key×V=>decide (kv.1=k)) [(k,v)]))=_;rw[List.find?_cons_of_pos (p:=fun kv:Key×V=>decide (kv.1=k)) (L' rfl)];rfl
theorem HU {vw:Vw}{h n ld a b wy:Str}(e:qc wy=none):gu vw [h,n,ld,a,b,wy]=none:=by
 rw[rV,e];cases fY 3 a with
 |none=>rfl
 |some _=>cases fY 3 b <;> rfl
theorem qV {vw:Vw}{ld:Str}{lt sl:Int}(h:¬ eE lt sl):cR vw ld lt sl≠none:=by
 unfold cR;intro z;split at z
 ·cases z
 ·cases z
 ·rw[Za' h]at z;cases z
theorem HV {vw:Vw}{h n ld a b wy:Str}{tn:Bool}(hn:bU vw n=none)(e:qc wy=some tn):gu vw [h,n,ld,a,b,wy]=if cR vw ld (iI a) (iI b)=none then some (n,.cn ld (iI a) (iI b) tn) else none:=by
 rw[rV,e];rcases AE a with ⟨x,e1,e2⟩|⟨e1,e2⟩
 ·rcases AE b with ⟨y,e3,e4⟩|⟨e3,e4⟩
  ·rw[e1,e3,e2,e4];show(if bU vw n=none/\cR vw ld x y=none then _ else _)=_
   by_cases hc:cR vw ld x y=none
   ·rw[Zc' ⟨hn,hc⟩,Zc' hc]
   ·rw[Za' (fun z=>hc z.2),Za' hc]
  ·rw[e1,e3,Za' (qV fun z=>by have:=z.2.2.1;have:=z.2.2.2;omega)]
 ·rw[e1,Za' (qV fun z=>by have:=z.1;have:=z.2.1;omega)]
  try (cases fY 3 b <;> rfl)
theorem RL {wy:Str}{tn:Bool}(e:qc wy=some tn):decide (V.str wy=V.str (Str.ofString "turned"))=tn:=by
 rw[yt e];cases tn <;> decide +kernel
theorem RM (w:Str):inV (.str w) [V.str "straight",V.str "turned"]=(qc w).isSome:=by
 unfold qc;show((Str.ofString "straight" == w)||((Str.ofString "turned" == w)||false))=_
 by_cases h1:w = "straight"
 ·rw[Zc' h1,h1];simp
 ·rw[Za' h1,Y'.mpr fun z=>h1 (beq_iff_eq.mp z).symm]
  by_cases h2:w = "turned"
  ·rw[Zc' h2,h2];simp
  ·rw[Za' h2,Y'.mpr fun z=>h2 (beq_iff_eq.mp z).symm];rfl
inductive qW (vs:List V)(H:Hp)(Q:VK)(E:XK):Prop
 |mk (d:Addr) (vw:Vw) (row:Str) (cL:vs=[.ref d,.str row]) (cM:km H d vw) (dA:vw.length<=12) (fA:row.length<=90000) (ki:(kC vw row=none->∀ H',ao H H'->Q .non H')) (Bb:∀ q d' H',kC vw row=some q->ao H H'->km H' d' (vw++[q])->Q (.ref d') H'):qW vs H Q E
theorem A8 (T:Txt K w mg t):aR P w K mg base d3 (0+2) t.tZ t.t7 ["_law_voices","_law_row"] qW:=by
 have AG:=Gn P base T;have uR:=r6 P base T;have vP:=uQ P base T;have Gs:=DW P base T;refine T.ue.ok iN ?_ ?_
 x_go
 obtain⟨d,vw,row,rfl,hd,vl,rl,qn,qs⟩:=h;refine aH (ae (cZ 2 iN.nd (cQ plainAttrs_str slot_str_split type_str_split oF (pv 1) (aa aA af))) (ae (cZ 3 iN.nd (bP G0 rfl T.OP N7 (aa (pv 0) af))) (ae (aI (bq (PW.pt (dj (aq gK (aE (aB.or aC) rfl T.bg bf (aa (pv 2) af)) ai (aw _)) (cT (aq (iR.or (fb (aF hr))) (dg T.mK vP hr (aa (pv 0) (aa (bY (pv 2)) af))) aA (aw _)))))) (ah (av cS)) ax) (ae (aI (aq (ba.or (aN (aF hr))) (bY (pv 2)) aA (aw _)) (ae (IF (lZ hr) (pv 3) (bY (pv 2)) (eB (cn:=["_law_word_here"]) rfl (b8.of rfl) (dz (dN (eR.or (gM.or gP)) (pv 2) (dW ai) eP)) (fun _=>(bZ (i:=0) vC rfl (Or.inl rfl))) (fun _=>eZ) (fun _=>(dg T.xC Gs hr (aa (pv 0) af)))) rfl) (ah (av (bJ (cu (bq (PW.pt (dj (aq (RH (lZ hr)) cS (ku (lZ hr) (pv 3) (bY (pv 2)) (fun _ _=>rfl)) rfl) (cT (aq nG (aE (aB.or aC) rfl T.bg bf (aa (pv 2) af)) ai (aw _)))))) cS (pv 3)))))) ax) (ae (aI (bq (PW.pt (dj (aq (iR.or (fb (aF hr))) (bY (pv 2)) aA (aw _)) (dj (aq (iR.or (fb (aF hr))) (aE (aB.or aC) rfl T.bg bf (aa (pv 2) af)) ai (aw _)) (cT (aq (cV.or cW) (bY (pv 2)) (bC (aa aA (aa aA af))) rfl)))))) (ah (av cS)) ax) (ae (cZ 4 iN.nd (cU (aa (bY (pv 2)) (aa (dg T.rN AG hr (aa (bY (pv 2)) af)) (aa (dg T.rN AG hr (aa (bY (pv 2)) af)) (aa (bB (ba.or (aN (aF hr))) (bY (pv 2)) aA (aw _)) af)))))) (ae (aI (aq (iR.or (fb (aF hr))) (dg T.lB uR hr (aa (pv 0) (aa (cU (aa aA (aa (bY (pv 2)) (aa (bY (pv 2)) (aa ai (aa aA (aa (bY (pv 4)) (aa (bY (pv 4)) af)))))))) af))) aA (aw _)) (ah (av cS)) ax) (ae (IF (lZ hr) (pv 3) (bY (pv 2)) (pv 4) rfl) (ah (av (pv 3))))))))))) ?_;have sl:=PyProof.Rows.split_le row " ";have l0:100000<=sizeLine:=by decide
 obtain⟨hw,r,sp⟩:=Am row " ";have sm:∀ w∈hw::r,w.length<=100000:=fun w hw=>by
  rw[<-sp]at hw;have:=mL hw;omega
 unfold kC at qn qs;rw[sp]at qn qs sl;tm_up;refine⟨rfl,_,_,rfl,rfl,by lk,Zf' (by omega) l0,by rw[sp];exact Zf' (by omega) l0,fun k hk=>?_⟩;rw[sp];have s1:=ao.upd (o:=.lst ((hw::r).map V.str)) hk;have h1:=ag (H:=H) (a:=k) (o:=.lst ((hw::r).map V.str));generalize upd H k (.lst ((hw::r).map V.str))=H1 at s1 h1;have hd1:=hd.same s1;obtain⟨kvs,hk1,pk⟩:=id hd1;have kl:=cE pk;refine⟨_,rfl,d,kvs,rfl,.inl hk1,fun l hl=>?_⟩;have s2:=ao.upd (o:=.dK kvs) hl;have k2:=ag (H:=H1) (a:=l) (o:=.dK kvs);have s12:=s1.trans s2;generalize upd H1 l (.dK kvs)=H2 at s2 k2 s12;have h2:=s2 _ _ h1;have hd2:=hd1.same s2;have fz:∀{X:Hp} {o:HO},ao H X->ao H (upd X l o):=fun s=>cb s (s1.free hl);cases r with
 |nil =>
  refine dG true ?_ (cX (qn Gp H2 s12));tm_up;refine .inl ⟨k,_,rfl,.inl (aL.of h2),?_⟩;tm_up;exact cX (bD rfl)
 |cons n r =>
 have h2':H2 k=some (.lst (.str hw::.str n::r.map V.str)):=h2;cases hn:bU vw n with
 |some rf =>
  refine dG true ?_ (cX (qn (Gq (by rw[hn];intro z;cases z)) H2 s12));tm_up;refine .inl ⟨k,_,rfl,.inl (aL.of h2),?_⟩;refine⟨_,_,rfl,rfl,_,rfl,?_⟩;refine aG (fun h=>bD rfl) (fun _=>?_);tm_up;refine oM (aL.of h2') (n:=1) rfl rfl ?_;refine⟨d,vw,n,rfl,hd2,sm n (by simp),vl,?_⟩;rw[hn];tm_up;exact bD (by rw[JF];rfl)
 |none =>
 refine dG false ?_ (cf ?_)
 ·tm_up;refine .inl ⟨k,_,rfl,.inl (aL.of h2),?_⟩;refine⟨_,_,rfl,rfl,_,rfl,?_⟩;refine aG (fun h=>j' (G' h) (by simp only [map_cons,Zk'];omega)) (fun _=>?_);tm_up;refine oM (aL.of h2') (n:=1) rfl rfl ?_;refine⟨d,vw,n,rfl,hd2,sm n (by simp),vl,?_⟩;rw[hn];tm_up;exact bD (by lk)
 have nw:=fm hn;have hv:=MP (dC (fun _ _ z=>z.same s2) pk) nw.2.1;rw[ju]at qn qs;tm_up;refine oM (aL.of h2') (n:=0) rfl rfl ?_;tm_up
 by_cases e1:hw = "voice"
 ·rw[Zc' e1]at qn qs;refine aG (fun _=>?_) (fun z=>j' (L' (Zn' V.str e1)) z);have Rx:qY (V.str hw::V.str n::r.map V.str) (some (2:Int)) none=r.map V.str:=by
   have:=ym (V.str hw::V.str n::r.map V.str) 2 (by simp);rw[show(((2:Nat):Int))=2 from rfl]at this;rw[this];rfl
  tm_up;refine .inl ⟨k,_,rfl,aL.of h2',fun k3 hk3=>?_⟩;rw[Rx];have s3:=ao.upd (o:=.lst (r.map V.str)) hk3;have h3:=ag (H:=H2) (a:=k3) (o:=.lst (r.map V.str));generalize upd H2 k3 (.lst (r.map V.str))=H3 at s3 h3;have rml:(r.map V.str).length=r.length:=P' _;refine⟨k3,rfl,⟨_,aL.of h3⟩,fun D b hD=>?_⟩;have rl2:r.length<=100000:=by simp only [Zk']at sl;omega
  refine dH (K:=K) (xs:=r.map V.str) (fun i ys σ H'=>∃ v,σ=[v,some (.ref d),some (.str row),some (.ref k),some (.ref l),none]/\ao H3 H'/\H' D=some (.lst ys)/\Paired (ot H') ys (r.take i)) ⟨none,rfl,ao.upd hD,ag,.nil⟩ ?_ ?_ ?_
  ·rintro i ys σ H' ⟨v,rfl,s,_,_⟩;exact aL.of (s _ _ h3)
  ·rintro i ys y σ H' hy ⟨v,rfl,s,RN,g⟩ N hN;obtain⟨w,hw1,rfl⟩:∃ w,r[i]? = some w/\y=.str w:=by
    rw[Zl']at hy;cases e:r[i]? with
    |none=>rw[e]at hy;cases hy
    |some z=>rw[e]at hy;exact⟨z,rfl,(W' hy).symm⟩
   have yl:=cE g;have hi:i<r.length:=(S'.mp hw1).1;have Ym:ys.length<sizeLine:=Ze' (show ys.length<100001 by rw[yl,length_take];omega) (by decide);have tk:r.take (i+1)=r.take i++[w]:=by rw[take_succ,hw1];rfl
   refine bT ?_;refine⟨_,rfl,w,rfl,sm w (mem_cons_of_mem _ (mem_cons_of_mem _ (Zh' hw1))),fun e H4 s4=>?_,fun sg e p H4 s4 hp=>?_⟩
   ·refine⟨s4 _ _ RN,Ym,hN _ _ _ ⟨_,rfl,cb (s.trans s4) hD,ag,?_⟩⟩;rw[tk];refine iS (dC (fun _ _ z=>(z.same s4).RK (fun _ y=>by rw[s4 _ _ RN]at y;cases y)) g) ?_;unfold ot;rw[e]
   ·refine⟨s4 _ _ RN,Ym,hN _ _ _ ⟨_,rfl,cb (s.trans s4) hD,ag,?_⟩⟩;rw[tk];refine iS (dC (fun _ _ z=>(z.same s4).RK (fun _ y=>by rw[s4 _ _ RN]at y;cases y)) g) ?_;unfold ot;rw[e];exact⟨p,rfl,by rw[ak (fun x=>by rw[x,s4 _ _ RN]at hp;cases hp)];exact hp⟩
  ·rintro ys σ H4 ⟨v,rfl,s4,RN,g⟩;rw[rml,take_length]at g;have R8:=s3.trans s4;refine⟨_,rfl,_,rfl,oM (aL.of (R8 _ _ h2')) (n:=1) rfl rfl ?_⟩;have nl:D≠l:=Ne.symm (au (s3 _ _ k2) hD);refine⟨l,_,rfl,J6.k (k:=Sum.inr n) (R8 _ _ k2) (aJ (by omega)),?_⟩;rw[Eo _ hv];have k5:=ag (H:=H4) (a:=l) (o:=.dK (kvs++[(Sum.inr n,.ref D)]));have s5:ao H (upd H4 l (.dK (kvs++[(Sum.inr n,.ref D)]))):=fz (s12.trans R8);have U4:ao H1 (upd H4 l (.dK (kvs++[(Sum.inr n,.ref D)]))):=cb (s2.trans R8) hl;have nt:∀ zs,H4 l≠some (.tup zs):=fun _ y=>by rw[R8 _ _ k2]at y;cases y
   have g5:Paired (ot (upd H4 l (.dK (kvs++[(Sum.inr n,.ref D)])))) ys r:=dC (fun _ _ z=>z.RK nt) g;have d5:upd H4 l (.dK (kvs++[(Sum.inr n,.ref D)])) D=some (.lst ys):=by rw[ak nl];exact RN
   have w5:upd H4 l (.dK (kvs++[(Sum.inr n,.ref D)])) k=some (.lst (.str hw::.str n::r.map V.str)):=by rw[ak (qi h2' k2 (by intro z;cases z))];exact R8 _ _ h2'
   generalize upd H4 l (.dK (kvs++[(Sum.inr n,.ref D)]))=H5 at k5 s5 U4 g5 d5 w5;have Xg:mf H5 l (.str n) (some (.ref D)):=by
    have:=mf.k (k:=Sum.inr n) k5;rw[La hv]at this;exact this
   refine⟨fun v H'=>H'=H5/\v=(if((br r).isNone||decide (200<r.length))=true then .non else .ref l),?_,?_⟩
   ·refine dG ((br r).isNone||decide (200<r.length)) ?_ ?_
    ·tm_up;refine oM (aL.of w5) (n:=1) rfl rfl ?_;refine⟨l,_,rfl,Xg,?_⟩;refine⟨D,ys,rfl,rfl,aL.of d5,NO g5,?_⟩;rw[RI g5];refine⟨_,rfl,?_⟩;refine aG (fun h=>bD ?_) (fun h=>?_)
     ·rw[show(br r).isNone=true from h];rfl
     ·rw[show(br r).isNone=false from Y'.mpr h,Bool.false_or];tm_up;refine .inl ⟨k,_,rfl,.inl (aL.of w5),?_⟩;tm_up;refine bD (decide_eq_decide.mpr ?_);simp only [Zk',P'];omega
    ·refine aG (fun h=>?_) (fun h=>?_)
     ·exact⟨rfl,(Zc' h).symm⟩
     ·exact⟨_,rfl,rfl,(Za' h).symm⟩
   ·rintro v H' ⟨rfl,rfl⟩;rw[kD,Zc' hn]at qn qs;cases es:br r with
    |none =>
     rw[es]at qn;exact qn rfl _ s5
    |some ss =>
     rw[es]at qn qs;have sl2:=ze es
     by_cases Us:ss.length<=200
     ·have Yn:∀ q d' H',(if ss.length<=200 then some (n,Th.pl ss) else none)=some q->_:=qs;rw[Zc' Us]at Yn;rw[Za' (by show ¬(false||decide (200<r.length))=true;rw[Bool.false_or];intro z;have:=G' z;omega)];refine Yn _ l H' rfl s5 ⟨_,k5,?_⟩;refine iS (dC (fun _ _ z=>z.same U4) pk) ⟨rfl,D,ys,rfl,d5,RJ g5 es⟩
     ·have Yo:(if ss.length<=200 then some (n,Th.pl ss) else none)=none->_:=qn;rw[Za' Us]at Yo;rw[Zc' (by show(false||decide (200<r.length))=true;rw[Bool.false_or];exact L' (by omega))];exact Yo rfl _ s5
 rw[Za' e1]at qn qs;refine aG (fun z=>j' (V.str.inj (G' z)) e1) (fun _=>?_);have l6e:(hw::n::r).length=r.length+2:=rfl;refine⟨fun b H'=>ao H2 H'/\(b=true->(if hw = "canon" then gu vw (hw::n::r) else none)=none)/\(b=false->hw = "canon"/\∃ ld wa wb wy tn,r=[ld,wa,wb,wy]/\qc wy=some tn),?_,?_⟩
 ·tm_up;refine oM (aL.of h2') (n:=0) rfl rfl ?_;tm_up
  by_cases e2:hw = "canon"
  rotate_left
  ·refine aG (fun _=>⟨ao.refl _,fun _=>Za' e2,fun z=>nomatch z⟩) (fun z=>j' (show(!decide (V.str hw=V.str (Str.ofString "canon")))=true by rw[V' (fun y=>e2 (V.str.inj y))];rfl) z)
  refine aG (fun z=>?_) (fun _=>?_)
  ·have z:(!decide (V.str hw=V.str (Str.ofString "canon")))=true:=z;rw[L' (Zn' V.str e2)]at z;cases z
  rw[Zc' e2];tm_up;refine .inl ⟨k,_,rfl,.inl (aL.of h2'),?_⟩
  by_cases l6:r.length=4
  rotate_left
  ·refine .inl ⟨rfl,_,rfl,?_⟩;refine aG (fun _=>⟨ao.refl _,fun _=>Ar (by simp only [Zk'];omega),fun z=>nomatch z⟩) (fun z=>j' (show(!decide (_=V.int 6))=true from ?_) z);rw[V' (fun y=>l6 (by have:=V.int.inj y;simp only [Zk',P']at this;omega))];rfl
  obtain⟨ld,wa,wb,wy,rfl⟩:∃ a b c d,r=[a,b,c,d]:=by
   match r,l6 with
   |[a,b,c,d],_=>exact⟨a,b,c,d,rfl⟩
  refine .inl ⟨rfl,_,rfl,cf ?_⟩;tm_up;refine oM (aL.of h2') (n:=5) rfl rfl ?_;refine⟨by show 2<=sizeLine;decide,fun l3 hl3=>?_⟩;refine .inl ⟨_,_,rfl,.inl (aL.of ag),rfl,rfl,?_⟩;have s3:=ao.upd (o:=.lst [V.str (Str.ofString "straight"),V.str (Str.ofString "turned")]) hl3;rw[Zc' rfl,RM];cases ew:qc wy with
  |none=>exact⟨_,rfl,s3,fun _=>HU ew,fun z=>nomatch z⟩
  |some tn=>exact⟨_,rfl,s3,(fun z=>nomatch z),fun _=>⟨e2,ld,wa,wb,wy,tn,rfl,ew⟩⟩
 rintro b H3 ⟨s3,hb1,hb2⟩;have h3:=s3 _ _ h2';cases b with
 |true=>exact cX (qn (hb1 rfl) H3 (s12.trans s3))
 |false =>
 obtain⟨e2,ld,wa,wb,wy,tn,rfl,ew⟩:=hb2 rfl;refine cf ?_;rw[Zc' e2,HV hn ew]at qn qs;have h3:H3 k=some (.lst [.str hw,.str n,.str ld,.str wa,.str wb,.str wy]):=h3;tm_up;refine oM (aL.of h3) (n:=2) rfl rfl ?_;tm_up;refine oM (aL.of h3) (n:=3) rfl rfl ?_;refine⟨wa,rfl,sm wa (by simp),?_⟩;tm_up;refine oM (aL.of h3) (n:=4) rfl rfl ?_;refine⟨wb,rfl,sm wb (by simp),?_⟩;tm_up;refine oM (aL.of h3) (n:=5) rfl rfl ?_;tm_up;rw[RL ew];refine⟨by show 4<=sizeLine;decide,fun p4 WI=>?_⟩;have s4:=ao.upd (o:=.tup [V.str ld,V.int (iI wa),V.int (iI wb),V.bl tn]) WI;have t4:=ag (H:=H3) (a:=p4) (o:=.tup [V.str ld,V.int (iI wa),V.int (iI wb),V.bl tn]);generalize upd H3 p4 (.tup [V.str ld,V.int (iI wa),V.int (iI wb),V.bl tn])=H4 at s4 t4;have h4:=s4 _ _ h3;tm_up;refine oM (aL.of h4) (n:=1) rfl rfl ?_;tm_up;refine oM (aL.of h4) (n:=2) rfl rfl ?_;tm_up;refine EM (i:=1) t4 rfl ?_;tm_up;refine EM (i:=2) t4 rfl ?_;refine⟨by show 7<=sizeLine;decide,fun p5 hp5=>?_⟩;have s5:=ao.upd (o:=.tup [V.str (Str.ofString "canon"),V.str n,V.str ld,V.int 0,V.str (Str.ofString ""),V.int (iI wa),V.int (iI wb)]) hp5;have t5:=ag (H:=H4) (a:=p5) (o:=.tup [V.str (Str.ofString "canon"),V.str n,V.str ld,V.int 0,V.str (Str.ofString ""),V.int (iI wa),V.int (iI wb)]);generalize upd H4 p5 (.tup [V.str (Str.ofString "canon"),V.str n,V.str ld,V.int 0,V.str (Str.ofString ""),V.int (iI wa),V.int (iI wb)])=H5 at s5 t5;have Ut:=(s3.trans s4).trans s5;refine⟨d,p5,vw,_,_,_,_,ld,_,_,rfl,hd2.same Ut,t5,?_⟩;cases ho:cR vw ld (iI wa) (iI wb) with
 |some rf =>
  rw[ho,Za' (fun z=>nomatch z)]at qn;tm_up;refine aG (fun _=>qn rfl H5 (s12.trans Ut)) (fun z=>j' (show(!decide (V.str (MO (some rf))=V.str (Str.ofString "")))=true by rw[JF];rfl) z)
 |none =>
  rw[ho,Zc' rfl]at qs;tm_up;refine oM (aL.of (s5 _ _ h4)) (n:=1) rfl rfl ?_;have k6:=Ut _ _ k2;refine⟨l,_,rfl,J6.k (k:=Sum.inr n) k6 (aJ (by omega)),?_⟩;rw[Eo _ hv];have s26:ao H (upd H5 l (.dK (kvs++[(Sum.inr n,.ref p4)]))):=fz (s12.trans Ut);have U8:ao H1 (upd H5 l (.dK (kvs++[(Sum.inr n,.ref p4)]))):=cb (s2.trans Ut) hl;have t6:upd H5 l (.dK (kvs++[(Sum.inr n,.ref p4)])) p4=some (.tup [V.str ld,V.int (iI wa),V.int (iI wb),V.bl tn]):=by rw[ak (fun e=>by rw[e,s4 _ _ (s3 _ _ k2)]at t4;cases t4)];exact s5 _ _ t4
  refine⟨_,rfl,qs _ l _ rfl s26 ⟨_,ag,iS (dC (fun _ _ z=>z.same U8) pk) ⟨rfl,p4,rfl,t6⟩⟩⟩
theorem PZ {a b:TS}{D:Ends}{σ:St}{H:Hp}{rt:VK}{bk ct:St->Hp->Prop}(h:Ll a b D σ H):Ends.nx { nx:=Ll a b D,rt:=rt,bk:=bk,ct:=ct } σ H:=h
theorem HW {vw:Vw}(ek:MK vw){q:Str×Th}(hq:q∈vw):(mX q).length<=900:=by
 obtain⟨n,th⟩:=q;have n8:∀{m:Str},nameB m=true->m.length<=8:=fun {m} nb=>by
  unfold nameB at nb;rw[Bool.and_eq_true,Bool.and_eq_true]at nb;have z:decide (m.length<=8)=true:=nb.2.1;exact G' z
 have nl:n.length<=8:=n8 (ek.nm _ hq).1;have v5:(Str.ofString "voice").length=5:=by lk
 have c6:(Str.ofString "canon ").length=6:=by lk
 have e1:(Str.ofString " ").length=1:=by lk
 cases th with
 |pl ss =>
  have sh:=ek.sh n ss hq;have tl:=CF (ek.w.gd n ss hq).2;have v6:(Str.ofString "voice ").length=6:=by lk
  cases ss with
  |nil =>
   rw[IX,PySem.Str.length_append,v6];omega
  |cons s ss =>
   rw[EO,PySem.Str.length_append,PySem.Str.length_append,PySem.Str.length_append,v6,e1];omega
 |cn ld lt sl tn =>
  obtain⟨⟨ss,uU⟩,a1,a2,a3,a4⟩:=ek.w.ld n ld lt sl tn hq;have ll:ld.length<=8:=n8 (ek.nm _ uU).1;have f4:=EN a1 (show lt<1000 by omega);have f5:=EN (show 0<=sl by omega) (show sl<1000 by omega);have f7:(oQ tn).length<=8:=by cases tn <;> decide +kernel
  have:mX (n,.cn ld lt sl tn) = "canon " ++ n ++ " " ++ ld ++ " " ++ ow lt ++ " " ++ ow sl ++ " " ++ oQ tn:=rfl;rw[this];simp only [PySem.Str.length_append,c6,e1];omega
theorem xW:∀{rows:List Str} {vw v:Vw},bu vw rows=(v,none)->∃ nw,v=vw++nw/\rows=nw.map mX/\∀ q∈nw,nameB q.1=true
 |[],vw,v,h=>by
  obtain rfl:vw=v:=(Prod.mk.inj h).1;exact⟨[],by rw[append_nil],rfl,fun _ h=>by cases h⟩
 |r::rs,vw,v,h=>by
  unfold bu at h;cases e:kC vw r with
  |none=>rw[e]at h;cases h
  |some q =>
   rw[e]at h;have h':((bu (vw++[q]) rs).1,(bu (vw++[q]) rs).2.map (· + 1))=(v,none):=h;obtain⟨h1,h2⟩:=Prod.mk.inj h';have h3:(bu (vw++[q]) rs).2=none:=by
    cases z:(bu (vw++[q]) rs).2 with
    |none=>rfl
    |some _=>rw[z]at h2;cases h2
   obtain⟨nw,e1,e2,e3⟩:=xW (rows:=rs) (vw:=vw++[q]) (v:=v) (Prod.ext h1 h3);refine⟨q::nw,by rw[e1,List.append_assoc];rfl,by rw[MX e,e2];rfl,fun x hx=>?_⟩;rcases List.mem_cons.mp hx with rfl|hx
   ·exact(fm (vq e)).1
   ·exact e3 x hx
theorem HX {z:Str}{v:Vw}(h:bu [] (oi z)=(v,none)):MS v=z/\∀ q∈v,nameB q.1=true:=by
 obtain⟨nw,e1,e2,e3⟩:=xW h;obtain rfl:v=nw:=e1;refine⟨?_,e3⟩;unfold MS;rw[<-e2];unfold oi
 by_cases hz:z=Str.empty
 ·rw[Zc' hz,hz];rfl
 ·rw[Za' hz];exact StrLaws.join_split z "\n"
theorem Lb {n:Str}(nb:nameB n=true):n.length<=1000:=by
 unfold nameB at nb;rw[Bool.and_eq_true,Bool.and_eq_true]at nb;have z:decide (n.length<=8)=true:=nb.2.1;have:=G' z;omega
set_option maxHeartbeats 8000000 in
theorem RO (T:Txt K w mg t):aR P w K mg base d3 (0+9) t.M7 t.M8 ["_law_script"] (yS K):=by
 have Gu:=DG P base T;have Gv:=KJ P base T;have pT:=uF P base T;have aW:=nk P base T;have HY:=Gd P base T;have iD:=rP P base T;have HZ:=Gj P base T;have uS:=A4 P base T;have DX:=A6 P base T;have DY:=A8 P base T;refine T.Ng.ok fh (fun vs H Q E h=>?_) (fun cdv A outer s H vs Q E hr h=>?_)
 ·obtain⟨a,ns,rfl,_⟩:=h;rfl
 ·obtain⟨a,ns,rfl,hS,hl,q⟩:=h;refine aH (ae (cZ 1 fh.nd (aD bF (dg T.aY aW hr (aa (pv 0) (aa ai af))) ai)) (ae (cZ 2 fh.nd (dg T.xy Gu hr (aa (pv 0) af))) (ae (yH (i:=3) fh.nd rfl rfl (cn:=["_law_name","_law_thing"]) rfl (b8.of rfl) (dz (pv 2)) (fun _=>(fP rfl (aM (bZ (i:=0) BP rfl (Or.inl rfl)) (aM (bZ (i:=1) BP rfl (Or.inl rfl)) dU)))) (fun _=>eZ) (fun _=>(dg T.z8 HY hr (aa (pv 0) (aa (pv 1) af))))) (ae (cZ 3 fh.nd (dg T.zY Gv hr (aa (pv 3) (aa (aD bF (pv 1) ai) (aa (dg T.aY aW hr (aa (pv 0) (aa ai af))) (aa (dg T.jB iD hr (aa (dg T.aY aW hr (aa (pv 0) (aa ai af))) (aa ai af))) af)))))) (ae (gQ (aI (aq (ba.or (aN (aF hr))) (aD bF (dg T.aY aW hr (aa (pv 0) (aa ai af))) ai) ai (aw _)) (ae (cZ 1 fh.nd (aD bF (aD gf (dg T.aY aW hr (aa (pv 0) (aa ai af))) ai) ai)) (ah (cZ 3 fh.nd (dg T.zY Gv hr (aa (pv 3) (aa (pv 1) (aa (dg T.aY aW hr (aa (pv 0) (aa ai af))) (aa (dg T.jB iD hr (aa (dg T.aY aW hr (aa (pv 0) (aa ai af))) (aa ai af))) af)))))))) ax)) (ae (gQ (aI (aq (ba.or (aN (aF hr))) (aD bF (aD gf (dg T.aY aW hr (aa (pv 0) (aa ai af))) ai) ai) ai (aw _)) (ah (cZ 3 fh.nd (aD (aO.or (ay.or aP)) (eB (cn:=["_law_one"]) rfl (b8.of rfl) (uZ aA) (fun _=>(bZ (i:=0) Ku rfl (Or.inl rfl))) (fun _=>eZ) (fun _=>(aD (aO.or (ay.or aP)) aA (pv 0)))) (pv 3)))) ax)) (ae (cZ 4 fh.nd (cQ plainAttrs_str slot_str_join type_str_join pW aA (aa (pv 3) af))) (ae (cZ 5 fh.nd Mo) (ae (cZ 6 fh.nd (vR oz ai)) (ae (gQ (aI (aq (iR.or (fb (aF hr))) (pv 4) aA (aw _)) (ah (dF PassesOwn.never rfl (yk rfl T.gY (cQ plainAttrs_str slot_str_split type_str_split oF (pv 4) (aa aA af))) (fP rfl (aM (kj 7 fh.nd) (aM (kj 8 fh.nd) dU))) (ae (cZ 9 fh.nd (bJ (cu (aq gK (pv 6) ai (aw _)) (dg T.ue DY hr (aa (pv 5) (aa (pv 8) af))) (pv 5)))) (ah (aI (aq mR (pv 9) cS (aw _)) (ah (cZ 6 fh.nd (pv 7))) (ah (cZ 5 fh.nd (pv 9)))))))) ax)) (ae (aI (bq (PW.pt (dj (aq (iR.or (fb (aF hr))) (dg T.nc uS hr (aa (pv 4) af)) (pv 6) (aw _)) (cT (aq (iR.or (fb (aF hr))) (dg T.nc uS hr (aa (pv 4) af)) (pv 6) (aw _)))))) (ah (av di)) ax) (ae (aI (aq Lu (pv 6) ai (aw _)) (ah (av di)) ax) (ae (cZ 10 fh.nd (kq pT (iA hr) rfl T.fi.g T.fi.kp T.fi.b .nil Ts (aa (pv 4) af))) (ah (av (bJ (eX (dg T.Ab HZ hr (aa (pv 10) (aa (pv 5) af))) (gm (bB (ba.or (aN (aF hr))) (dg T.ud DX hr (aa (pv 10) af)) (pv 4) (aw _)))))))))))))))))))) ?_;have sz:∀{n:Nat},n<=100000->n<=sizeLine:=fun h=>Zf' h (by decide);tm_up;refine⟨a,ns,26,rfl,hS,hl,?_⟩;tm_up;refine⟨a,ns,rfl,hS,hl,fun tl vw H1 s1 nt Yp ek=>?_⟩;obtain⟨ys,ht,Xh⟩:=id Yp;have yl:=cE Xh;have wl:=ek.w.len;refine⟨_,rfl,tl,rfl,⟨_,aL.of ht⟩,fun D0 b0 OD=>?_⟩;refine dH (K:=K) (xs:=ys) (fun i zs σ H'=>∃(u v:Option V),σ=[u,v,some (.ref a),some (.int (eV ns 26 % 10)),some (.ref tl),none,none,none,none,none,none,none,none]/\ao H1 H'/\H' D0=some (.lst zs)/\zs=((vw.take i).map mX).map V.str) ⟨none,none,rfl,ao.upd OD,ag,rfl⟩ ?_ ?_ ?_
  ·rintro i zs σ H' ⟨u,v,rfl,s2,_⟩;exact aL.of (s2 _ _ ht)
  ·rintro i zs y σ H' hy ⟨u,v,rfl,s2,Hy,rfl⟩ N hN;obtain⟨⟨n,th⟩,hq,p,w0,rfl,hp,hv⟩:=oK Xh hy;have il2:i<vw.length:=(S'.mp hq).1;have hm:=Zh' hq;unfold Bp;refine⟨p,_,rfl,iQ.of (s2 _ _ hp),rfl,_,_,rfl,_,_,rfl,rfl,?_⟩;tm_up;refine⟨n,w0,th,rfl,hv.same s2,(ek.nm _ hm).2.2,?_,?_,fun H9 s9=>⟨s9 _ _ Hy,?_,?_⟩⟩
   ·rintro ss rfl;exact ek.w.gd n ss hm
   ·rintro ld lt sl tn rfl;obtain⟨⟨ss,uU⟩,r⟩:=ek.w.ld n ld lt sl tn hm;exact⟨(ek.nm _ uU).2.2,r⟩
   ·rw[P',P',length_take];exact aJ (by omega)
   ·refine hN _ _ _ ⟨_,_,rfl,cb (s2.trans s9) OD,ag,?_⟩;rw[take_succ,hq];simp
  rintro zs σ H2 ⟨u,v,rfl,s2,hD2,rfl⟩;rw[yl,take_length]at hD2;have Vb:=s1.trans s2;have rz:∀ r∈vw.map mX,r.length<=900:=fun r hr=>by
   obtain⟨x,hx,rfl⟩:=mem_map.mp hr;exact HW ek hx
  have rl:(vw.map mX).length<=12:=by rw[P'];exact wl
  generalize vw.map mX=rs at hD2 rz rl;clear Yp Xh ek;tm_up;refine⟨a,ns,27,rfl,Vb.seq hS,hl,?_⟩;tm_up;refine⟨a,ns,28,rfl,Vb.seq hS,hl,?_⟩;tm_up;refine⟨_,_,rfl,fun m1 m10 m11=>?_⟩;refine⟨D0,rs,_,_,m1,900,rfl,hD2,by omega,rz,by omega,by omega,m10,fun l3 US H3 s3 h3 n3 z3=>?_⟩;have RP:=Vb.trans s3;refine⟨fun σ' H'=>∃(v1:V)(l:Addr)(rs':List Str),σ'=[some (.ref a),some v1,some (.ref tl),some (.ref l),none,none,none,none,none,none,none]/\ao H H'/\H' l=some (.lst (rs'.map V.str))/\rs'.length<=14/\∀ r∈rs',r.length<=1000,?_,?_⟩
  ·tm_up;refine⟨a,ns,29,rfl,RP.seq hS,hl,?_⟩;tm_up;refine aG (fun _=>?_) (fun _=>⟨_,l3,US,rfl,RP,h3,by omega,fun r hr=>by have:=z3 r hr;omega⟩);tm_up;refine⟨a,ns,29,rfl,RP.seq hS,hl,?_⟩;tm_up;refine⟨a,ns,30,rfl,RP.seq hS,hl,?_⟩;tm_up;refine⟨a,ns,31,rfl,RP.seq hS,hl,?_⟩;tm_up;refine⟨_,_,rfl,fun m2 m20 m21=>?_⟩;exact⟨l3,US,_,_,m2,910,rfl,h3,by omega,z3,by omega,by omega,m20,fun l4 Uu H4 s4 h4 n4 z4=>⟨_,l4,Uu,rfl,RP.trans s4,h4,by omega,fun r hr=>by have:=z4 r hr;omega⟩⟩
  rintro _ H4 ⟨v1,l4,Uu,rfl,Xi,h4,n4,z4⟩;clear s3 RP h3 n3 z3 Vb s2 hD2 rz rl;refine⟨fun σ' H'=>∃(l:Addr)(rs':List Str),σ'=[some (.ref a),some v1,some (.ref tl),some (.ref l),none,none,none,none,none,none,none]/\ao H H'/\H' l=some (.lst (rs'.map V.str))/\rs'.length<=24/\∀ r∈rs',r.length<=1000,?_,?_⟩
  ·tm_up;refine⟨a,ns,26,rfl,Xi.seq hS,hl,?_⟩;tm_up;refine aG (fun _=>?_) (fun _=>⟨l4,Uu,rfl,Xi,h4,by omega,z4⟩);tm_up;intro D b hD;have R7:(Str.ofString "jihgfedcba").cps.size=10:=by lk
   have v7:(Str.ofString "voice x").length=7:=by lk
   refine yG (fun i ys σ H'=>∃(v:Option V)(us:List Str),σ=[v,some (.ref a),some v1,some (.ref tl),some (.ref l4),none,none,none,none,none,none,none]/\H'=upd H4 D (.lst ys)/\ys=us.map V.str/\us.length=i/\i<=10/\∀ u∈us,u.length<=8) ⟨none,[],rfl,rfl,rfl,rfl,by omega,fun _ h=>by cases h⟩ ?_ ?_
   ·rintro i ys c σ H' hc ⟨v,us,rfl,rfl,rfl,ul,i10,uz⟩ N hN;have hi2:i<10:=by rw[<-R7];exact(Array.getElem?_eq_some_iff.mp hc).1
    refine bT ?_;have cl:(Str.ofString "voice x" ++ ⟨#[c]⟩).length=8:=by rw[PySem.Str.length_append,v7];rfl
    tm_up;refine .inr (.inl ⟨_,_,rfl,rfl,sz (by rw[v7];show 7+1<=_;omega),ag,?_,?_⟩)
    ·rw[P',ul];exact aJ (by omega)
    ·refine hN _ _ _ ⟨_,us++[Str.ofString "voice x" ++ ⟨#[c]⟩],rfl,cq,by rw[map_append];rfl,by rw[Zd',ul];rfl,by omega,fun u hu=>?_⟩;rcases mem_append.mp hu with hu|hu
     ·exact uz u hu
     ·rw[mem_singleton.mp hu,cl];exact X' _
   ·rintro ys σ H' ⟨v,us,rfl,rfl,rfl,ul,i10,uz⟩;tm_up;have sD:=ao.upd (o:=.lst (us.map V.str)) hD;refine .inr (.inr (FV (xs:=us) (ys:=Uu) ag (sD _ _ h4) (by omega) fun c hc=>?_));exact⟨c,us++Uu,rfl,(Xi.trans sD).trans (ao.upd hc),ag,by rw[Zd'];omega,fun r hr=>by
     rcases mem_append.mp hr with hr|hr
     ·have:=uz r hr;omega
     ·exact z4 r hr⟩
  rintro _ H5 ⟨l5,Vc,rfl,s05,h5,n5,z5⟩;have e1:(Str.ofString "\n").length=1:=by lk
  have sm5:=DI 1000 z5;have jl:=AD "\n" Vc;rw[e1]at jl;refine PZ ?_;tm_up;refine⟨rfl,_,rfl,_,l5,Vc,rfl,rfl,aL.of h5,by rw[e1];omega,?_⟩;have tl9:(Str.join (Str.ofString "\n") Vc).length<=90000:=by omega
  generalize Str.join (Str.ofString "\n") Vc=tx at tl9;clear jl sm5 h5 n5 z5;intro dv hdv;have s6:=ao.upd (o:=.dK []) hdv;have k6:=ag (H:=H5) (a:=dv) (o:=.dK []);generalize upd H5 dv (.dK [])=H6 at s6 k6;have Yq:=s05.trans s6;have D6:km H6 dv []:=⟨[],k6,.nil⟩;refine⟨_,rfl,?_⟩;refine⟨fun σ' H'=>∃(d':Addr)(at_:Int)(v7 v8 v9:Option V),σ'=[some (.ref a),some v1,some (.ref tl),some (.ref l5),some (.str tx),some (.ref d'),some (.int at_),v7,v8,v9,none]/\ao H H'/\((at_ = -1/\∃ vv,bu [] (oi tx)=(vv,none)/\km H' d' vv)\/∃ k:Nat,at_=(k:Int)/\(bu [] (oi tx)).2=some k),?_,?_⟩
  ·tm_up;unfold oi
   by_cases e0:tx=Str.empty
   ·refine aG (fun z=>?_) (fun _=>⟨dv,-1,_,_,_,rfl,Yq,.inl ⟨rfl,[],by rw[Zc' e0];rfl,D6⟩⟩);have z:(!decide (V.str tx=V.str (Str.ofString "")))=true:=z;rw[L' (Zn' V.str (show tx=Str.ofString "" from e0))]at z;cases z
   rw[Za' e0];refine aG (fun _=>?_) (fun z=>j' (show(!decide (V.str tx=V.str (Str.ofString "")))=true by rw[V' (fun y:V.str tx=V.str (Str.ofString "")=>e0 (V.str.inj y))];rfl) z);have sl:=PyProof.Rows.split_le tx "\n";have sm:∀ w∈Txt.split tx "\n",w.length<=90000:=fun w hw=>by
    have:=mL hw;omega
   tm_up;refine⟨rfl,_,_,rfl,rfl,by lk,sz (by omega),sz (by omega),fun k hk=>?_⟩;generalize Txt.split tx "\n" = rows at sl sm;have sk:=ao.upd (o:=.lst (rows.map V.str)) hk;have hk2:=ag (H:=H6) (a:=k) (o:=.lst (rows.map V.str));generalize upd H6 k (.lst (rows.map V.str))=H8 at sk hk2;refine⟨k,rfl,⟨_,aL.of hk2⟩,sF (K:=K) (xs:=rows.map V.str) (fun j σ H'=>∃(d':Addr)(at_:Int)(v7 v8 v9:Option V),σ=[some (.ref a),some v1,some (.ref tl),some (.ref l5),some (.str tx),some (.ref d'),some (.int at_),v7,v8,v9,none]/\ao H8 H'/\((at_ = -1/\∃ vv,bu [] (rows.take j)=(vv,none)/\km H' d' vv/\vv.length<=12)\/∃ m:Nat,at_=(m:Int)/\(bu [] rows).2=some m))
    ⟨dv,-1,none,none,none,rfl,ao.refl _,.inl ⟨rfl,[],rfl,D6.same sk,by decide⟩⟩ ?_ ?_ ?_⟩
   ·rintro j σ H9 ⟨_,_,_,_,_,rfl,s9,_⟩;exact aL.of (s9 _ _ hk2)
   ·rintro j y τ σ H9 hy ⟨d9,Uv,_,_,_,rfl,s9,hR⟩ hτ;obtain⟨row,hq,rfl⟩:∃ row,rows[j]? = some row/\y=.str row:=by
     rw[Zl']at hy;cases e:rows[j]? with
     |none=>rw[e]at hy;cases hy
     |some z=>rw[e]at hy;exact⟨z,rfl,(W' hy).symm⟩
    have st:=ao.upd (o:=.tup [.int (j:Int),.str row]) hτ;have PX:=ag (H:=H9) (a:=τ) (o:=.tup [.int (j:Int),.str row]);generalize upd H9 τ (.tup [.int (j:Int),.str row])=HA at st PX;have s9A:=s9.trans st;refine⟨τ,_,rfl,iQ.of PX,rfl,_,_,rfl,_,_,rfl,rfl,?_⟩;refine⟨fun v H'=>ao HA H'/\((Uv = -1/\v=.non/\(bu [] rows).2=some j)\/(∃ d2 vv,Uv = -1/\v=.ref d2/\bu [] (rows.take (j+1))=(vv,none)/\km H' d2 vv/\vv.length<=12)\/(v=.ref d9/\∃ m:Nat,Uv=(m:Int)/\(bu [] rows).2=some m)),?_,?_⟩
    ·tm_up;rcases hR with ⟨rfl,vv,hr,hd,vl⟩|⟨m,rfl,hr⟩
     ·refine cX ?_;tm_up;refine⟨d9,vv,row,rfl,hd.same st,vl,sm row (Zh' hq),fun en HB sB=>⟨sB,.inl ⟨rfl,rfl,by rw[xJ hr hq en]⟩⟩,fun q2 d2 HB eq sB dB=>⟨sB,.inr (.inl ⟨d2,_,rfl,rfl,xK hr hq eq,dB,?_⟩)⟩⟩;have nw:=fm (vq eq);rw[Zd'];show vv.length+1<=12;omega
     ·refine aG (fun z=>j' (G' z) (by omega)) (fun _=>?_);exact⟨_,rfl,ao.refl _,.inr (.inr ⟨rfl,m,rfl,hr⟩)⟩
    rintro v HB ⟨sB,hv⟩;have Xj:=s9A.trans sB;tm_up;rcases hv with ⟨rfl,rfl,hr⟩|⟨d2,vv,rfl,rfl,hr,hd,vl⟩|⟨rfl,m,rfl,hr⟩
    ·refine⟨rfl,_,rfl,cX ?_⟩;exact⟨_,rfl,d9,(j:Int),_,_,_,rfl,Xj,.inr ⟨j,rfl,hr⟩⟩
    ·refine⟨rfl,_,rfl,cf ?_⟩;exact⟨_,rfl,d2,-1,_,_,_,rfl,Xj,.inl ⟨rfl,vv,hr,hd,vl⟩⟩
    ·refine⟨rfl,_,rfl,cf ?_⟩;exact⟨_,rfl,d9,(m:Int),_,_,_,rfl,Xj,.inr ⟨m,rfl,hr⟩⟩
   ·rintro σ H9 ⟨d9,Uv,_,_,_,rfl,s9,hR⟩;refine⟨d9,Uv,_,_,_,rfl,(Yq.trans sk).trans s9,?_⟩;rcases hR with ⟨e1,vv,hr,hd,vl⟩|h
    ·rw[P',take_length]at hr;exact .inl ⟨e1,vv,hr,hd⟩
    ·exact .inr h
  rintro _ H7 ⟨d',at_,v7,v8,v9,rfl,s07,hR⟩;refine PZ ?_;have no:∀{i:Int} {b:Bool},b=(!decide (V.int i=V.int i))->b=false:=fun {i b} e=>by rw[e,L' rfl];rfl
  rcases hR with ⟨rfl,vv,hr,hd⟩|⟨k,rfl,hr⟩
  rotate_left
  ·refine⟨fun b H'=>b=false,?_,?_⟩
   ·tm_up;refine⟨tx,rfl,tl9,fun k2 e2 H8=>?_,(fun e=>by rw[hr]at e;cases e)⟩;obtain rfl:k=k2:=W' (hr.symm.trans e2);tm_up;refine aG (fun z=>by rw[no rfl]at z;cases z) (fun _=>?_);tm_up;refine⟨tx,rfl,tl9,fun k2 e2 H9=>?_,(fun e=>by rw[hr]at e;cases e)⟩;obtain rfl:k=k2:=W' (hr.symm.trans e2);tm_up
    first|exact no rfl|(refine⟨_,rfl,?_⟩;exact no rfl)
   ·rintro b H8 rfl;refine cf ?_;tm_up;refine aG (fun _=>q _) (fun z=>j' (L' (by omega)) z)
  have hr2:(bu [] (oi tx)).2=none:=by rw[hr]
  refine⟨fun b H'=>b=false/\ao H7 H',?_,?_⟩
  ·tm_up;refine⟨tx,rfl,tl9,(fun k2 e2=>by rw[hr]at e2;cases e2),fun _ H8 s8=>?_⟩;tm_up;refine⟨tx,rfl,tl9,(fun k2 e2=>by rw[hr]at e2;cases e2),fun _ H9 s9=>?_⟩;tm_up
   first|exact⟨rfl,s8.trans s9⟩|exact⟨no rfl,s8.trans s9⟩
  rintro b H8 ⟨rfl,s8⟩;refine cf ?_;tm_up;refine Ju ⟨tx,rfl,tl9,(fun k2 e2=>by rw[hr]at e2;cases e2),fun _ x H9 B9=>?_⟩;rw[hr]at B9;obtain⟨F9,b9,_⟩:=B9.ex;obtain⟨ts,tn⟩:=HX hr;refine⟨fun v H'=>v=.bl true,?_,fun v H' e=>by rw[e];exact q _⟩;tm_up;refine⟨x,d',F9,vv,[],[],rfl,b9,(hd.same s8).same B9.sm,fun HA sA=>?_⟩;refine⟨_,rfl,cX ?_⟩;tm_up;refine⟨x,F9,vv,[],[],rfl,b9.same sA,fun q2 hq2=>Lb (tn q2 hq2),fun HB sB=>?_⟩;rw[ts];tm_up
  first|exact Zn' V.bl (L' rfl)
theorem qE {K:Frag}{T:Addr}{od:Option Addr}{osl:Array (Option Value)}{xs:List V}{its:Array Value}{n:Nat}(l:K.lookup T=some ⟨.type "tuple",od,.seq its n,osl⟩)(hz:decide (its.size<=1000)=true)(r:Vals xs its.toList):∀ H,iQ K H T xs:=fun H=>.inr ⟨_,_,_,l,rfl,rfl,Zf' (G' hz) (by decide),r⟩
theorem kE {K:Frag}{T:Addr}{w:World}{kvs:List (Str×V)}{es:Array DictEntry}{n:Nat}(l:K.lookup T=some ⟨.type "dict",none,.dict es n,#[]⟩)(e:El w es.toList kvs)(y:(T==sysModules)=false)(nd:(kvs.map (·.1)).Nodup):KD K w T kvs:=⟨y,_,_,l,e,nd⟩
set_option maxHeartbeats 0 in
theorem all_mk {l:OpenLaw}{w:World}{K:Frag}{mg:Str->Option Value}{fa:Addr}{t:Hj}(hfa:mg "law"=some (.ref fa))(T:Txt K w mg t) :
  ∃ fd:FuncData,(∀(s:Shared)(v:Value),BindsTo s fd ⟨[v],[]⟩ [("_law_script",v)])/\∀ base:Heap,K.In base->base.Ns mainGlobals mg->aR l.prog w K mg base d3 9 fa fd ["_law_script"] (yS K):=by
 have e:=hfa.symm.trans T.Ng.g;obtain rfl:fa=t.M7:=Value.ref.inj (W' e);obtain⟨_,_,_,_,_,_,_,_,_,hd,_⟩:=T.Ng.ex;exact⟨t.M8,fun s v=>hd ▸ .of_eq rfl,fun base _ _=>RO _ _ T⟩
theorem walk {l:OpenLaw}{q:Program}{loose:List Str}{XP:(Str->Option Value)->Heap->Prop}{YP:World->Heap->Prop}{d:DefRec}{K:Params->Frag}(hn:l.most=some 63)(hdf:d.params.defaults=[])
  (hY:∀(w:World)(h:Heap),YP w h->(K w.params).In h)
  (F:∀(w:World)(mg:Str->Option Value)(fa:Addr)(h:Heap),(K w.params).In h->h.Ns mainGlobals mg->mg d.name=some (.ref fa) ->
   ∃ fd:FuncData,(∀(s:Shared)(u:Value),BindsTo s fd ⟨[u],[]⟩ [("_law_script",u)])/\∀ base:Heap,(K w.params).In base->base.Ns mainGlobals mg->aR l.prog w (K w.params) mg base d3 9 fa fd ["_law_script"] (yS (K w.params))) :
  WalkO q loose XP YP l.row.toRowW d [] (fun f vs=>PySem.call f vs) :=
 L2.N6 (n:=63) (k:=9) (x:="_law_script") (CX:=fun _=>d3) (sp:=fun w=>yS (K w.params)) hn (by decide) hdf ⟨rfl,by decide,by decide⟩ hY F (fun _ H a ns hl hO hS=>Ki hl hO hS) fun _ _ _ _ _ z=>z
end bQ
namespace PySem.W.Fast
def tw10420421148262192626:=()
def tw3987794316622282780:=()
def tw9703618673245699568:=()
def tw13048081975794393821:=()
def tw14640548344093998286:=()
def tw5305428810901932566:=()
def tw10002195527097556731:=()
def tw13850255350419284105:=()
def tw6603783628119692179:=()
def tw7956867843309123540:=()
def tw5364546242314667952:=()
def tw15913576623891430159:=()
def tw14679198497237084808:=()
def tw15997775729530606087:=()
def tw17275437484898550345:=()
def tw2957490063811765826:=()
def tw7229539710814100999:=()
def tw11214200998486871883:=()
def tw14307325905737257181:=()
def tw4299646919009070709:=()
def tw16715841121959919460:=()
def tw677606234852097368:=()
def tw13553538390431559372:=()
def tw18407944023827064367:=()
def tw10178079036953359360:=()
def tw11575498307581747806:=()
def tw14102506654378019960:=()
def tw11298119029632342406:=()
def tw9247177039153189866:=()
def tw14416342555671056505:=()
def tw5364204741251724862:=()
def tw7399737840523417179:=()
def tw4261958329087386261:=()
def tw9296484932806358022:=()
def tw1845347028717845200:=()
def tw166262607016883681:=()
def tw46631085568834270:=()
def tw12890534575460313926:=()
def tw5737523402970242606:=()
def tw1728650248638404884:=()
def tw8728099456505841557:=()
def tw808698228336322266:=()
def tw13970604172147388367:=()
def tw7570542120270387132:=()
def tw15062749465561607111:=()
def tw11335800984336592364:=()
def tw18155879818773239729:=()
def tw855910477134844126:=()
def tw11220851326914609119:=()
def tw1124289019443488566:=()
def tw12386090736136059477:=()
def tw4105807584480035720:=()
def tw13588135446055477836:=()
def tw3466972587037490141:=()
def tw7113571003799887606:=()
def tw9286274511483245403:=()
def tw16177009624961951915:=()
def tw10875722154791352203:=()
def tw3748896331510116779:=()
def tw6706774204174713942:=()
def tw411628876730108095:=()
def tw15727323560446172626:=()
def tw5318096611142382215:=()
def tw16707029074794279449:=()
def tw4638006934912671039:=()
def tw1818593935380918797:=()
def tw17845729550174767700:=()
def tw16581994727553500651:=()
def tw11881433124949862110:=()
def tw17553686495690753741:=()
def tw15243430815335705395:=()
def tw10530661142961114443:=()
def tw5918578744110928798:=()
def tw15156674164427664685:=()
def tw10965370299862630641:=()
def tw12328332780129455002:=()
def tw7351176063667163978:=()
def tw16065721321161040268:=()
def tw9578505638185236083:=()
def tw8305471988111620904:=()
def tw15276963948229469453:=()
def tw5497514470552884299:=()
def tw11454843766946960800:=()
def tw1550614406852568893:=()
def tw1396873459334738984:=()
def tw7871001509346223661:=()
def tw5766918065168486143:=()
def tw16590570891159864404:=()
def tw14710092229968178590:=()
def tw11826743239099769080:=()
def tw7022628426217758368:=()
def tw1698853468777535086:=()
def tw4797540754571916238:=()
def tw526075088105004756:=()
def tw14063559769734007168:=()
def tw16025801575402845942:=()
def tw5546692446129626829:=()
def tw11458534219776445851:=()
def tw11926688574561748587:=()
def tw7180531861842814986:=()
def tw6138743280254734534:=()
def tw4106837918839389936:=()
def tw11188430586054993827:=()
def tw3735699589986649447:=()
def tw9666419724680336024:=()
def tw17435386834878499154:=()
def tw4145818899340182608:=()
def tw16409993968991947532:=()
def tw6682589435864044336:=()
def tw8125792362301410392:=()
def tw14118909936434733258:=()
def tw15617039527703349535:=()
def tw7349235104131719713:=()
def tw6533432287940033589:=()
def tw14811123067840642273:=()
def tw7865485488316350493:=()
def tw3082159570482980671:=()
def tw13283229777983551771:=()
def tw4820389783450984096:=()
def tw7124788924976277239:=()
def tw6981954405977434597:=()
def tw162858700082101640:=()
def tw12446524688871482241:=()
def tw14089621000130168509:=()
def tw12529877709319905581:=()
def tw78028131424505978:=()
def tw13478590678478359693:=()
def tw7152398916542528410:=()
def tw17180475852403909568:=()
def tw8597404227029303035:=()
def tw16254247109382238168:=()
def tw2214653218376279223:=()
def tw3032067039181131431:=()
def tw8430284290832213418:=()
def tw7764129815283042026:=()
def tw12364627383166398480:=()
def tw3280481220163437816:=()
def tw10077135388918212913:=()
def tw17448093533215540955:=()
def tw25823146887335173:=()
def tw4224163060743357238:=()
def tw14667500972489203042:=()
def tw1059715833650045463:=()
def tw749918451829521967:=()
def tw1115158138232542093:=()
def tw468142295264313362:=()
def tw6247351858388340391:=()
def tw14268092409747854506:=()
def tw6168803525767555795:=()
def tw6934642610557520106:=()
def tw767556852124992565:=()
def tw5151427854221240427:=()
def tw12375626450147485844:=()
def tw5641724485922075298:=()
def tw1566875529329659633:=()
def tw15390080302236324959:=()
def tw6417378726122761746:=()
def tw15113227898948760376:=()
def tw8306237535842314945:=()
def tw13854917780413858951:=()
def tw12108147266881015526:=()
def tw524099130880581967:=()
def tw17052337758464511819:=()
def tw15772068097728068739:=()
def tw10354728936592984935:=()
def tw10750375705860556460:=()
def tw14788856996876441008:=()
def tw16153558704241424327:=()
def tw5784711828207831625:=()
def tw2447732540110599690:=()
def tw17540705805200338640:=()
def tw17272285540926693507:=()
def tw1256236498864624616:=()
def tw12365404588595545738:=()
def tw10523202465822028405:=()
def tw8594263624784952781:=()
def tw9516074413650045111:=()
def tw1174021274468444182:=()
def tw12732394167851928776:=()
def tw12189806014932814573:=()
def tw17228296157348117438:=()
def tw10907642782843472622:=()
def tw9646311442897589234:=()
def tw8280485623371503648:=()
def tw17241405463126276567:=()
def tw11422949587864060640:=()
def tw17859109671829800586:=()
def tw3521285219160070866:=()
def tw10238519402601345676:=()
def tw3145543203795221410:=()
def tw2089286477023113203:=()
def tw12627532972452591117:=()
def tw10797686859914389863:=()
def tw15669054444928902674:=()
def tw17439722413939640882:=()
def tw8878423086353913651:=()
def tw13203804258698044986:=()
def tw4818049498478964802:=()
def tw11661800000143720337:=()
def tw8062835920903903993:=()
def tw7319555112710688061:=()
def tw2757581358777249172:=()
def tw205507346840789997:=()
def tw10740640375279020691:=()
def tw2775138843080330454:=()
def tw7925371572698712414:=()
def tw5825475959793902520:=()
def tw6037122869040026955:=()
def tw12863347530839714530:=()
def tw3023916165002116891:=()
def tw3030727735987969057:=()
def tw7649733337602890282:=()
def tw6063554646552391817:=()
def tw6738367012888726367:=()
def tw7153788453415118622:=()
def tw5993678699624412889:=()
def tw816311087998031264:=()
def tw15481966671981571661:=()
def tw5376926387008490987:=()
def tw12459854804013765143:=()
def tw15573500811842086970:=()
def tw18234484629952568930:=()
def tw15332927137897193589:=()
def tw17209780345700036467:=()
def tw9513888974882270135:=()
def tw75661909626579233:=()
def tw17951441753651297620:=()
def tw544561964705445605:=()
def tw5311274501435370797:=()
def tw16129893769550640592:=()
def tw10134195500631203098:=()
def tw12234375376818527337:=()
def tw7346688227258259101:=()
def tw25637872292960778:=()
def tw284536329806320383:=()
def tw17326142705702587680:=()
def tw13068168713765309695:=()
def tw10189950847507672088:=()
def tw11079205459936790058:=()
def tw623300748569747250:=()
def tw13944037225843243054:=()
def tw8466141927763328059:=()
def tw17033243111826695463:=()
def tw5178193922789660778:=()
def tw3348355737754586874:=()
def tw12127366666821551717:=()
def tw356123213759938094:=()
def tw11613993909586193093:=()
def tw3494161940717210987:=()
def tw13399229510827948026:=()
def tw7046501870765106921:=()
def tw1664392096146651277:=()
def tw11894732585211616351:=()
def tw4768635595350757063:=()
def tw2660561571427573188:=()
def tw15375269182455980374:=()
def tw16608576760841659539:=()
def tw471414627548481862:=()
def tw9033576075961430403:=()
def tw14174618301861319704:=()
def tw17856222878641166384:=()
def tw9294433086463954356:=()
def tw987345271366965816:=()
def tw15772733124264200781:=()
def tw15724969529384105923:=()
def tw11433306628625186338:=()
def tw6433323532475195736:=()
def tw4346584585230384389:=()
def tw15253994381406404596:=()
def tw2160069566763305797:=()
def tw6667354263193961929:=()
def tw13472329140349365359:=()
def tw1957763820001837284:=()
def tw18429026928441670821:=()
def tw11100493693056581011:=()
def tw13716011932380526575:=()
def tw7422263756303951345:=()
def tw12691504298969393838:=()
def tw4149288950154260982:=()
def tw1682582254035919510:=()
def tw4010319893607064177:=()
def tw7280372497366116329:=()
def tw12308296914090353745:=()
def tw6696832481835704600:=()
def tw15463406310747086447:=()
def tw12004255892572559095:=()
def tw18054838634430812377:=()
def tw5583444594636846641:=()
def tw15703449277843443276:=()
def tw816481276282640760:=()
def tw9247977229971602034:=()
def tw7650610392399736730:=()
def tw2646491186779593332:=()
def tw13451586030510130641:=()
def tw2920214365967434022:=()
def tw8054928485279886552:=()
def tw2899660557768203050:=()
def tw4401355618284084963:=()
def tw12632228192716021388:=()
def tw6465151533818091986:=()
def tw2826919458690232955:=()
def tw17382039390128786313:=()
def tw14414751667799185545:=()
def tw9932415808693697313:=()
def tw3884750849286678128:=()
def tw10971630010670239421:=()
def tw4176280731603251088:=()
def tw2539447734451339873:=()
def tw2693275359275364212:=()
def tw9974407725316967122:=()
def tw5135336924626642897:=()
def tw1396610920389353014:=()
def tw12737579169261990642:=()
def tw14873618453501705536:=()
def tw14658260493819582289:=()
def tw4545988440492913973:=()
def tw3431344218957247769:=()
def tw4630396657525333853:=()
def tw4717402994799242244:=()
def tw11960166206318590088:=()
def tw16794197362530915844:=()
def tw13613152105502178704:=()
def tw12335549961630902355:=()
def tw8438350963842415728:=()
def tw13637016960844356173:=()
def tw1582664667024307841:=()
def tw17404916765017875932:=()
def tw6239184814411168670:=()
def tw11223945685379007073:=()
def tw2936260755425636279:=()
def tw2844407632352837073:=()
def tw15855217013031176621:=()
def tw12741291328858437110:=()
def tw8445777973507546088:=()
def tw8396301715978827980:=()
def tw11726823060105177826:=()
def tw13175087311604016427:=()
def tw11165654147459809597:=()
def tw9615531325310890031:=()
def tw13072986357036119245:=()
def tw9526160103723621953:=()
def tw13594384388301670268:=()
def tw17529386886299356920:=()
def tw7875763420034193452:=()
def tw2961553473557590249:=()
def tw15755343066513385902:=()
def tw10625814745850668564:=()
def tw2243693829277975576:=()
def tw5838506932661074796:=()
def tw11671211892842119221:=()
def tw13974373936013126586:=()
def tw1498200664431351234:=()
def tw746219023540291628:=()
def tw1796597274105003394:=()
def tw2113039156739937716:=()
def tw2485214676214337261:=()
def tw1455842480568548202:=()
def tw13202343546031376688:=()
def tw9305003877693135499:=()
def tw2503606902877083926:=()
def tw5721262311731162162:=()
def tw14302256065232006966:=()
def tw16156524626901481639:=()
def tw6545370708610782836:=()
def tw11506189214069677482:=()
def tw12309620202110491032:=()
def tw18126315499814590715:=()
def tw16005868706943416937:=()
def tw14020910273420359736:=()
def tw7617167466183708598:=()
def tw8611764214777655992:=()
def tw685587348434792673:=()
def tw13313662375406121734:=()
def tw2038731476287140671:=()
def tw10284026173580190678:=()
def tw12560565341198133520:=()
def tw7328063981216987592:=()
def tw14252513285948727104:=()
def tw125928596274869020:=()
def tw6583517223436017031:=()
def tw2670299286815242936:=()
def tw13322708417374753830:=()
def tw8799142792005152118:=()
def tw16012284493770238391:=()
def tw9284449730509928321:=()
def tw15922755302769093622:=()
def tw9600299739372849924:=()
def tw6883693671880953395:=()
def tw6755138936529028678:=()
def tw6171874400680183299:=()
def tw5511071045457771349:=()
def tw3387124734492726185:=()
def tw4310642882599597285:=()
def tw16220712500686904025:=()
def tw6117247582062809281:=()
def tw14084625476078331463:=()
def tw3822712700440023499:=()
def tw17714017936382883000:=()
def tw10312323832266843243:=()
def tw10059682580697378978:=()
def tw5633496843759159615:=()
def tw4113924421572784063:=()
def tw17128428156440346261:=()
def tw6715716000709538696:=()
def tw959738987584614585:=()
def tw2965510152461679088:=()
def tw11404500996812218207:=()
def tw10180663369246499566:=()
def tw12391506715704599578:=()
def tw13670523011971591017:=()
def tw17449422741869889732:=()
def tw15048627728221775583:=()
def tw3057902045642309721:=()
def tw15632829438503922609:=()
def tw12581917001192956374:=()
def tw15942141602835961365:=()
def tw5340072887019943013:=()
def tw8327297304679779434:=()
def tw1648225110471470360:=()
def tw5735352871381137401:=()
def tw9781460238694595084:=()
def tw585459737247969373:=()
def tw8990104070668104813:=()
def tw16315184536146240238:=()
def tw3559538229241288873:=()
def tw9767519636265316599:=()
def tw17594260756077902633:=()
def tw15485236935559824447:=()
def tw13423247637065115462:=()
def tw6782518023229811266:=()
def tw4701774612277783343:=()
def tw6281611080759661852:=()
def tw11087933021928177895:=()
def tw8994802491535331102:=()
def tw2077666915352135779:=()
def tw404245196990098992:=()
def tw12673791199172957206:=()
def tw3368860736418698657:=()
def tw18119717444909167248:=()
def tw13812912461104441058:=()
def tw13798160775270626962:=()
def tw12656897047321353565:=()
def tw17640533673399314061:=()
def tw16947713771800850135:=()
def tw11875790032459922718:=()
def tw2749043439481665970:=()
def tw18291187126973411970:=()
def tw4374857382229869515:=()
def tw16665006920185932216:=()
def tw9166427768910633583:=()
def tw10596746343401559848:=()
def tw9648998163774051448:=()
def tw13390507222636914572:=()
def tw11727240270196671281:=()
def tw17494862365552153742:=()
def tw16219441328399559309:=()
def tw5224428643126443949:=()
def tw4164908132823369551:=()
def tw4973387952738593532:=()
def tw15224029892605848175:=()
def tw11691050806132919841:=()
def tw10623016312601358550:=()
def tw303608246165470478:=()
def tw6804261192171317297:=()
def tw12762113473992408885:=()
def tw6592463449399432324:=()
def tw12305611366991824069:=()
def tw7871996254866398831:=()
def tw9241626999471812504:=()
def tw17132184634130698385:=()
def tw9765431958881569201:=()
def tw13524896927019965497:=()
def tw9409814640283224614:=()
def tw15074471919835448940:=()
def tw15434621389048890126:=()
def tw2278936668516112639:=()
def tw14942962508999530174:=()
def tw11333257794111202953:=()
def tw54249344330623419:=()
def tw15298033753635887666:=()
def tw1873205782741933051:=()
def tw15649795027898247151:=()
def tw7139856505864344794:=()
def tw8719605668133821647:=()
def tw3600041196433309721:=()
def tw3956264100047990666:=()
def tw9014015937846560500:=()
def tw6932889109850258846:=()
def tw8627587423943217420:=()
def tw6711144203202196861:=()
def tw5782896054837680059:=()
def tw8229586153152871247:=()
def tw6557342160361230684:=()
def tw16047033107788108867:=()
def tw13973070988615113336:=()
def tw12981402093338161793:=()
def tw14085112053750323355:=()
def tw16839288237833807671:=()
def tw12613230982254517391:=()
def tw9243155003877271803:=()
def tw5522196785706627867:=()
def tw8035677676680912028:=()
def tw10818606085420893929:=()
def tw11159745698710908607:=()
def tw9587248993045549210:=()
def tw13797358013907888463:=()
def tw13173916991978443423:=()
def tw6219545422932240199:=()
def tw5536005449516521383:=()
def tw8318420858618978542:=()
def tw7314689925735868661:=()
def tw3926790846917337294:=()
def tw12712460394370871157:=()
def tw16138403101002752290:=()
def tw2101887011815294689:=()
def tw12894039908199180043:=()
def tw14232406503089275981:=()
def tw15516193838862834634:=()
def tw10016995011462123521:=()
def tw7073957617820842271:=()
def tw3052663915250906542:=()
def tw12114217701972478381:=()
def tw9822649905909850969:=()
def tw3526411189721001505:=()
def tw6048940595613779393:=()
def tw12835132684607402443:=()
def tw2302871068821392013:=()
def tw11025673269499976336:=()
def tw9272309484186624920:=()
def tw899911939279458197:=()
def tw10504003168874740348:=()
def tw8169781902790022836:=()
def tw7040404390268492365:=()
def tw5954243137450741239:=()
def tw14483957685000496116:=()
def tw4561967482399397675:=()
def tw6861141605111012627:=()
def tw14525072716628896525:=()
def tw5862636442504686863:=()
def tw1242198240327291224:=()
def tw4569171672014232746:=()
def tw8977876106703010488:=()
def tw13095979297325146218:=()
def tw10863324069626385560:=()
def tw10769518892626501144:=()
def tw8347192381125497592:=()
def tw813092740559557401:=()
def tw16200992052759122005:=()
def tw13016435776321805824:=()
def tw3546451676027126928:=()
def tw1160089951639338058:=()
def tw8772945019240969217:=()
def tw9440461966490466303:=()
end PySem.W.Fast
open PySem PySem.W PyProof.Rows
set_option maxRecDepth 100000 in
set_option maxHeartbeats 0 in
theorem PySem.Challenge.cw_noteworth_k47_first_bad_row_holds : PySem.Challenge.rw_noteworth_k47_first_bad_row.Holds := by
 w_on;o_law;k_head;(case hw=>w_witness2)
 k_fill
 refine bQ.walk (l:=PySem.Challenge.rw_noteworth_k47_first_bad_row) rfl rfl (fun w h Y=>PySem.W.kIn_of Y) ?F
 case F =>
  intro w mg fa h KX G hmg;refine bQ.all_mk (t:=?t) hmg ?T
  case' t=>apply bQ.Hj.mk
  case T =>
   constructor
   iterate 38 ((try dsimp only);refine' PySem.W.mg_of KX G ?_;k_is)
   iterate 15 (refine' PySem.W.mg_none_of KX G ?_;k_is)
   iterate 58 ((try dsimp only);apply bQ.gE KX G;(iterate 4 k_is);(intro us e;first|(obtain rfl:=bQ.FA e;rfl)|(obtain⟨_,rfl⟩:=bQ.FC e;rfl)|(obtain⟨_,_,rfl⟩:=bQ.Cj e;rfl)|(obtain⟨_,_,_,rfl⟩:=bQ.FD e;rfl)|(obtain⟨_,_,_,_,rfl⟩:=bQ.FE e;rfl)|(obtain⟨_,_,_,_,_,rfl⟩:=bQ.FF e;rfl)|(obtain⟨_,_,_,_,_,_,rfl⟩:=bQ.Ck e;rfl)|(obtain⟨_,_,_,_,_,_,_,rfl⟩:=bQ.FG e;rfl)|(obtain⟨_,_,_,_,_,_,_,_,rfl⟩:=bQ.Ji e;rfl)))
   iterate 3 ((try dsimp only);apply bQ.ZD KX G;(iterate 5 k_is))
   iterate 3 ((try dsimp only);apply bQ.iE;(iterate 7 k_is);(intro us e;first|(obtain rfl:=bQ.FA e;rfl)|(obtain⟨_,rfl⟩:=bQ.FC e;rfl)|(obtain⟨_,_,rfl⟩:=bQ.Cj e;rfl)|(obtain⟨_,_,_,rfl⟩:=bQ.FD e;rfl)|(obtain⟨_,_,_,_,rfl⟩:=bQ.FE e;rfl)|(obtain⟨_,_,_,_,_,rfl⟩:=bQ.FF e;rfl)|(obtain⟨_,_,_,_,_,_,rfl⟩:=bQ.Ck e;rfl)|(obtain⟨_,_,_,_,_,_,_,rfl⟩:=bQ.FG e;rfl)|(obtain⟨_,_,_,_,_,_,_,_,rfl⟩:=bQ.Ji e;rfl)))
   iterate 13 ((try dsimp only);apply bQ.mE;(iterate 5 k_is);(intro us e;first|(obtain rfl:=bQ.FA e;rfl)|(obtain⟨_,rfl⟩:=bQ.FC e;rfl)|(obtain⟨_,_,rfl⟩:=bQ.Cj e;rfl)|(obtain⟨_,_,_,rfl⟩:=bQ.FD e;rfl)|(obtain⟨_,_,_,_,rfl⟩:=bQ.FE e;rfl)|(obtain⟨_,_,_,_,_,rfl⟩:=bQ.FF e;rfl)|(obtain⟨_,_,_,_,_,_,rfl⟩:=bQ.Ck e;rfl)|(obtain⟨_,_,_,_,_,_,_,rfl⟩:=bQ.FG e;rfl)|(obtain⟨_,_,_,_,_,_,_,_,rfl⟩:=bQ.Ji e;rfl)))
   ((try dsimp only);apply bQ.ZE;(iterate 6 k_is))
   iterate 2 ((try dsimp only);apply bQ.xE;k_is;kernel_rfl;k_is;kernel_rfl;(iterate 2 k_is);(iterate 2 kernel_rfl);(iterate 8 k_is);(intro us e;first|(obtain rfl:=bQ.FA e;rfl)|(obtain⟨_,rfl⟩:=bQ.FC e;rfl)|(obtain⟨_,_,rfl⟩:=bQ.Cj e;rfl)|(obtain⟨_,_,_,rfl⟩:=bQ.FD e;rfl)|(obtain⟨_,_,_,_,rfl⟩:=bQ.FE e;rfl)|(obtain⟨_,_,_,_,_,rfl⟩:=bQ.FF e;rfl)|(obtain⟨_,_,_,_,_,_,rfl⟩:=bQ.Ck e;rfl)|(obtain⟨_,_,_,_,_,_,_,rfl⟩:=bQ.FG e;rfl)|(obtain⟨_,_,_,_,_,_,_,_,rfl⟩:=bQ.Ji e;rfl)))
   iterate 3 ((try dsimp only);apply bQ.qE;k_is;exact rfl;exact(.cons ⟨_,rfl⟩ (.cons ⟨_,rfl⟩ (.cons ⟨_,rfl⟩ .nil))))
   ((try dsimp only);apply bQ.qE;k_is;exact rfl;exact(.cons ⟨_,rfl⟩ (.cons ⟨_,rfl⟩ .nil)))
   ((try dsimp only);apply bQ.qE;k_is;exact rfl;exact(.cons ⟨_,rfl⟩ (.cons ⟨_,rfl⟩ (.cons ⟨_,rfl⟩ (.cons ⟨_,rfl⟩ .nil)))))
   ((try dsimp only);apply bQ.qE;k_is;exact rfl;exact(.cons ⟨_,rfl⟩ (.cons ⟨_,rfl⟩ (.cons ⟨_,rfl⟩ (.cons ⟨_,rfl⟩ (.cons ⟨_,rfl⟩ .nil))))))
   ((try dsimp only);apply bQ.kE;k_is;exact(.cons ⟨_,rfl⟩ (.cons ⟨_,rfl⟩ .nil));exact rfl;decide +kernel)
   ((try dsimp only);apply bQ.kE;k_is;exact(.cons ⟨_,rfl⟩ (.cons ⟨_,rfl⟩ (.cons ⟨_,rfl⟩ (.cons ⟨_,rfl⟩ (.cons ⟨_,rfl⟩ (.cons ⟨_,rfl⟩ (.cons ⟨_,rfl⟩ (.cons ⟨_,rfl⟩ (.cons ⟨_,rfl⟩ .nil)))))))));exact rfl;decide +kernel)
   ((try dsimp only);apply bQ.kE;k_is;exact(.cons ⟨_,rfl⟩ (.cons ⟨_,rfl⟩ .nil));exact rfl;decide +kernel)
   ((try dsimp only);apply bQ.qE;k_is;exact rfl;exact(.cons ⟨_,rfl⟩ (.cons ⟨_,rfl⟩ (.cons ⟨_,rfl⟩ (.cons ⟨_,rfl⟩ (.cons ⟨_,rfl⟩ (.cons ⟨_,rfl⟩ (.cons ⟨_,rfl⟩ (.cons ⟨_,rfl⟩ (.cons ⟨_,rfl⟩ (.cons ⟨_,rfl⟩ .nil)))))))))))
   ((try dsimp only);apply bQ.kE;k_is;exact(.cons rfl (.cons rfl .nil));exact rfl;decide +kernel)
   iterate 3 ((try dsimp only);constructor;(iterate 4 k_is))
   iterate 10 ((try dsimp only);show _=some none;k_is)
   iterate 8 ((try dsimp only);constructor;(show PySem.W.excIn _ _ _ _=true;k_exc);(iterate 3 k_is))
   iterate 2 ((try dsimp only);k_is)
   ((try dsimp only);constructor;(iterate 3 k_is))
   iterate 10 ((try dsimp only);kts_exm)
   iterate 20 ((try dsimp only);kit_is)
