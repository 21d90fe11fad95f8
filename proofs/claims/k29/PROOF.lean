import PyProof.Rows.All
import Wide.All
import OpenK.AllK
import Wide.FinOn
import Lean
import PyProof.EqAt
import PyProof.EqKinds
import PyProof.TupleCall
import PySem.Challenge.RW_noteworth_k29_papers_judged
set_option Elab.async false
set_option linter.all false
set_option maxRecDepth 100000
open PySem.W (Frag KatTups OpenLaw WalkO cellsFrom_some codeIn excIn findIn fnOf instObj isFn kat_cons kat_go kat_no kat_yes keepIn kia_one kitOne kitx_dict kitx_list lookIn methodObj mg_none_of mg_of mroIn nsIn plainGet specialIn)
open List (length_map length_append length_take length_drop mem_append mem_singleton mem_cons_self mem_cons_of_mem mem_append_right mem_of_getElem? size_toArray take_length getElem?_map map_append map_cons length_cons take_succ getElem?_eq_getElem getElem?_append_right mem_map all_eq_true mem_range append_nil nil_append)
open PySem.F (entry_dict_get plainAttrs_dict plainAttrs_list slot_dict_get slot_dict_items type_dict_get)
local macro_rules | `(tactic| lk) => `(tactic| decide +kernel)
local macro_rules | `(tactic| z_go) => `(tactic| first | (exact fun _ _ _ _ _ _ us hl => match us, hl with | [_], _ => rfl) | (exact fun _ _ _ _ _ _ us hl => match us, hl with | [_, _], _ => rfl) | (exact fun _ _ _ _ _ _ us hl => match us, hl with | [_, _, _], _ => rfl) | (exact fun _ _ _ _ _ _ us hl => match us, hl with | [_, _, _, _], _ => rfl) | (exact fun _ _ _ _ _ _ us hl => match us, hl with | [_, _, _, _, _], _ => rfl) | (exact fun _ _ _ _ _ _ us hl => match us, hl with | [_, _, _, _, _, _], _ => rfl))
def A' := @Nat.le_refl
def B' := @List.getElem?_eq_some_iff
def C' := @List.getElem?_eq_getElem
def G' := @PySem.Heap.get?_push_of_some
def J' := @of_decide_eq_true
def K' := @List.length_map
def L' := @PySem.wpAny_bind
def M' := @if_neg
def O' := @Bool.eq_false_iff
def P' := @PySem.Heap.lt_size
def S' := @if_pos
def T' := @List.getD_eq_getElem?_getD
def U' := @Nat.lt_of_lt_of_le
def V' := @List.mem_of_getElem?
def W' := @decide_eq_true
def X' := @Nat.zero_le
def Y' := @PySem.wpAny_pure
def Z' := @Bool.false_ne_true
def j' := @absurd
def Za' := @Nat.ne_of_lt
def Zb' := @decide_eq_false
def Zc' := @Option.some.inj
def Zd' := @PySem.Heap.get?_push_size
def Ze' := @List.size_toArray
def Zf' := @PySem.F.type_list_append
def Zg' := @PySem.F.slot_list_append
def Zh' := @PySem.F.plainAttrs_list
def Zi' := @List.getElem?_map
def Zj' := @List.length_append
def Zk' := @Nat.le_trans
def Zl' := @List.mem_cons_of_mem
def Zm' := @List.mem_append_right
def Zn' := @List.length_take
def Zo' := @List.mem_singleton
def Zp' := @List.length_cons
def Zq' := @List.mem_append
def Ya' := @congrArg
def Yb' := @Ne.symm
namespace L2
open PySem PySem.Spec PyProof.Rows
abbrev Key:=Sum Int Str
def Dh:Key->Value->Bool
 |.inl k,v=>Value.isInt k v
 |.inr x,v=>Value.isStrOf x v
def akM (w:World):Key->Int
 |.inl k=>hashInt k
 |.inr x=>hashStr w x
theorem c4:∀{k:Key} {v:Value},Dh k v=true->(∃ i t,k=Sum.inl i/\v=Value.int i t)\/(∃ x t,k=Sum.inr x/\v=Value.str x t)
 |.inl i,v,h=>by
  obtain⟨t,e⟩:=Value.isInt_shape (k:=i) (v:=v) h;exact .inl ⟨i,t,rfl,e⟩
 |.inr x,v,h=>by
  obtain⟨t,e⟩:=Value.isStrOf_shape (x:=x) (v:=v) h;exact .inr ⟨x,t,rfl,e⟩
theorem Vh (i:Int)(t:Tok):Dh (.inl i) (.int i t)=true:=by simp[Dh,Value.isInt]
theorem Vi (x:Str)(t:Tok):Dh (.inr x) (.str x t)=true:=by simp[Dh,Value.isStrOf]
theorem afr (a b:Int):decide ((Sum.inl a:Key)=Sum.inl b)=(a==b):=by
 by_cases e:a=b
 ·subst e;simp
 ·have h:¬(Sum.inl a:Key)=Sum.inl b:=fun q=>e (Sum.inl.inj q);rw[Zb' h];exact(beq_eq_false_iff_ne.mpr e).symm
theorem afs (a b:Str):decide ((Sum.inr a:Key)=Sum.inr b)=decide (a=b):=by
 by_cases e:a=b
 ·subst e;simp
 ·have h:¬(Sum.inr a:Key)=Sum.inr b:=fun q=>e (Sum.inr.inj q);rw[Zb' h,Zb' e]
theorem aft (a:Int)(b:Str):decide ((Sum.inl a:Key)=Sum.inr b)=false:=Zb' (fun q=>nomatch q)
theorem afu (a:Str)(b:Int):decide ((Sum.inr a:Key)=Sum.inl b)=false:=Zb' (fun q=>nomatch q)
def aS (prog:Program)(w:World):PySem.KeyKind prog w Key where
 is:=Dh
 hash:=akM w
 inj:=fun v a b ha hb=>by
  rcases c4 ha with ⟨i,t,rfl,rfl⟩|⟨x,t,rfl,rfl⟩
  ·rcases c4 hb with ⟨j,u,rfl,e⟩|⟨y,u,rfl,e⟩
   ·injection e with e1 _;rw[e1]
   ·exact nomatch e
  ·rcases c4 hb with ⟨j,u,rfl,e⟩|⟨y,u,rfl,e⟩
   ·exact nomatch e
   ·injection e with e1 _;rw[e1]
 byValue:=fun k v h=>by
  rcases c4 h with ⟨i,t,rfl,rfl⟩|⟨x,t,rfl,rfl⟩ <;> rfl
 pyHash:=fun hv h=>by
  rcases c4 hv with ⟨i,t,rfl,rfl⟩|⟨x,t,rfl,rfl⟩
  ·exact wpAny_pyHash_int h
  ·exact wpAny_pyHash_str h
 eqBool:=fun hu hv h=>by
  rcases c4 hu with ⟨i,t,rfl,rfl⟩|⟨x,t,rfl,rfl⟩
  ·rcases c4 hv with ⟨j,u,rfl,rfl⟩|⟨y,u,rfl,rfl⟩
   ·rw[afr]at h;exact wpAny_eqBool_int h
   ·rw[aft]at h;exact SeqAt.EqAt.int_str i t y u _ _ _ _ h
  ·rcases c4 hv with ⟨j,u,rfl,rfl⟩|⟨y,u,rfl,rfl⟩
   ·rw[afu]at h;exact SeqAt.EqAt.str_int x t j u _ _ _ _ h
   ·rw[afs]at h;exact wpAny_eqBool_str h
 «strs»:=fun k x t v h=>by
  rcases c4 h with ⟨i,u,rfl,e⟩|⟨y,u,rfl,e⟩
  ·exact nomatch e
  ·injection e with e1 _
   subst e1;cases v <;> rfl
theorem Ay (prog:Program)(w:World)(i:Int)(t:Tok):(aS prog w).is (.inl i) (.int i t)=true:=Vh i t
theorem jX (prog:Program)(w:World)(x:Str)(t:Tok):(aS prog w).is (.inr x) (.str x t)=true:=Vi x t
end L2
namespace L2
open PySem PySem.Spec PyProof.Rows
inductive V where
 |non|bl (b:Bool)|int (i:Int)|str (x:Str)|X4 (b:Array UInt8)|flt (b:UInt64)|ref (a:Addr)|ty (n:String)
 deriving DecidableEq
def RelV:V->Value->Prop
 |.non,u=>u=Value.none
 |.bl b,u=>u=Value.bool b
 |.int i,u=>∃ t,u=Value.int i t
 |.str x,u=>∃ t,u=Value.str x t
 |.X4 b,u=>∃ t,u=Value.bytes b t
 |.flt b,u=>∃ t,u=Value.float b t
 |.ref a,u=>u=Value.ref a
 |.ty n,u=>u=Value.type n
abbrev Vals:List V->List Value->Prop:=Paired RelV
theorem Vals.length {xs:List V}{us:List Value}(r:Vals xs us):xs.length=us.length:=Paired.length r
theorem Vals.get:∀{xs:List V} {us:List Value} {i:Nat} {x:V},Vals xs us->xs[i]? = some x->∃ u,us[i]? = some u/\RelV x u
 |_,_,_,_,.nil,e=>by simp at e
 |_,_,0,_,.cons r _,e=>by simp at e;subst e;exact⟨_,rfl,r⟩
 |_,_,i+1,x,.cons _ t,e=>by
  obtain⟨u,h1,h2⟩:=Vals.get (i:=i) (x:=x) t (by simpa using e);exact⟨u,by simpa using h1,h2⟩
theorem Vals.set {x:V}{u:Value}(r:RelV x u):∀{xs:List V} {us:List Value} (i:Nat),Vals xs us->Vals (xs.set i x) (us.set i u)
 |_,_,_,.nil=>.nil
 |_,_,0,.cons _ t=>.cons r t
 |_,_,i+1,.cons q t=>.cons q (Vals.set r i t)
theorem Vals.append:∀{xs ys:List V} {us ws:List Value},Vals xs us->Vals ys ws->Vals (xs++ys) (us++ws)
 |_,_,_,_,.nil,s=>s
 |_,_,_,_,.cons r t,s=>.cons r (Vals.append t s)
theorem Vals.take:∀{xs:List V} {us:List Value} (n:Nat),Vals xs us->Vals (xs.take n) (us.take n)
 |_,_,0,_=>.nil
 |_,_,_+1,.nil=>.nil
 |_,_,n+1,.cons r t=>.cons r (Vals.take n t)
theorem Vals.drop:∀{xs:List V} {us:List Value} (n:Nat),Vals xs us->Vals (xs.drop n) (us.drop n)
 |_,_,0,r=>r
 |_,_,_+1,.nil=>.nil
 |_,_,n+1,.cons _ t=>Vals.drop n t
def nO:Option V->Option Value->Prop
 |some v,some u=>RelV v u
 |none,none=>True
 |_,_=>False
def KV {κ:Type}:List (κ×V)->List (κ×Value)->Prop:=Paired fun(p:κ×V)(q:κ×Value)=>p.1=q.1/\RelV p.2 q.2
def kV:Key->V
 |.inl i=>.int i
 |.inr x=>.str x
inductive HO where
 /-- a list -/
 |lst (xs:List V)
 /-- a tuple (never changes) -/
 |tup (xs:List V)
 /-- a dict whose keys are ints and texts;one whose keys are tuples of ints and texts (the empty one is both) -/
 |dK (kvs:List (Key×V))|dT (kvs:List (List Key×V))
 /-- a set of ints: its members,its size -/
 |set (S:Int->Bool) (n:Nat)
 /-- an instance of the class at C,its dict at dx,its attributes -/
 |ins (C dx:Addr) (fs:List (Str×V))
 /-- the dict of the instance at x -/
 |own (x:Addr)
 /-- the dict of an exception -/
 |xd (fs:List (Str×V))
 /-- a bound method,f of x -/
 |met (f x:Addr)
 /-- a range object lo,lo+1,.. below hi -/
 |rng (lo hi:Int)
 /-- a thing that is known to the object (the script;a dict while a loop walks it): read,never written while it is so -/
 |ix (o:Obj) (u:HO)
 /-- a code object's table -/
 |tbl (ps:Array Value)
 /-- any other thing,by what is true of its one object (a def of one's own: aod a S n:=HO.ext fun h=>..) -/
 |ext (φ:Heap->Prop)
abbrev Hp:=Addr->Option HO
def upd (H:Hp)(a:Addr)(o:HO):Hp:=fun b=>if b=a then some o else H b
theorem ag {H:Hp}{a:Addr}{o:HO}:upd H a o a=some o:=by unfold upd;rw[S' rfl]
theorem aA {H:Hp}{a b:Addr}{o:HO}(h:b≠a):upd H a o b=H b:=by unfold upd;rw[M' h]
theorem iy {H:Hp}{a:Addr}{o u:HO}:upd (upd H a o) a u=upd H a u:=by
 funext b;unfold upd;split <;> rfl
theorem HF {H:Hp}{a b:Addr}{o u:HO}(h:H a=some o)(h':H b=some u)(d:o≠u):a≠b:=by
 intro e;subst e;rw[h]at h';exact d (Zc' h')
theorem aP {H:Hp}{a b:Addr}{o:HO}(h:H a=some o)(h':H b=none):a≠b:=by
 intro e;subst e;rw[h]at h';cases h'
section
variable (P:Program) (w:World)
def ck (H:Hp)(h:Heap)(a:Addr):HO->Prop
 |.lst xs=>xs.length<=sizeLine/\∃(its:List Value)(n:Nat),Vals xs its/\h.get? a=some { cls:=.type "list",data:=.seq its.toArray n }
 |.tup xs=>xs.length<=sizeLine/\∃ its:List Value,Vals xs its/\IsTup h a its.toArray
 |.dK kvs=>kvs.length<=sizeLine/\(a==sysModules)=false/\∃ vs,KV kvs vs/\h.DictOf (aS P w) a vs
 |.dT kvs=>kvs.length<=sizeLine/\(a==sysModules)=false/\∃ xs:List (List Key×Addr×Value),
   Paired (fun(p:List Key×V)(q:List Key×Addr×Value)=>p.1=q.1/\H q.2.1=some (.tup (p.1.map kV))/\RelV p.2 q.2.2) kvs xs /\
   ∃ o es ep,h.get? a=some o/\o.ExactDict/\o.data=.dict es ep/\es.toList=xs.map (entryOfKey (tupleKind (aS P w)))/\(xs.map (·.1)).Nodup
 |.set S n=>h.SetOf (intKind P w) a S n
 |.ins C dx fs=>H dx=some (.own a)/\fs.length<=1000/\dx≠a/\h.get? a=some (instObj C dx) /\
   ∃ mA,h.Ns1 dx mA/\(∀ f,nO (fs.lookup f) (mA f))/\PySem.Within mA (fs.map (·.1))
 |.own _=>∃ o,h.get? a=some o
 |.xd fs=>∃ mA,h.Ns1 a mA/\∀ f,nO (fs.lookup f) (mA f)
 |.rng lo hi=>∃ t u v,h.get? a=some { cls:=.type "range",data:=.fields #[.int lo t,.int hi u,.int 1 v] }
 |.ix o u=>h.get? a=some o/\ck H h a u
 |.tbl ps=>h.get? a=some { cls:=.none,data:=.fields ps }
 |.met f x=>h.get? a=some (methodObj (.ref f) (.ref x))
 |.ext φ=>φ h/\(∃ o,h.get? a=some o)/\∀ h1 h2:Heap,φ h1->(∀ o,h1.get? a=some o->h2.get? a=some o)->φ h2
def qN (H:Hp)(h:Heap):Prop:=∀ a o,H a=some o->ck P w H h a o
end
section
variable {P:Program} {w:World} {H H':Hp} {h h':Heap} {a:Addr} {o:HO}
theorem ck.lt (x:ck P w H h a o):a<h.objs.size:=by
 cases o with
 |lst xs=>obtain⟨_,_,_,_,e⟩:=x;exact P' e
 |tup xs=>obtain⟨_,_,_,p⟩:=x;exact p.lt
 |dK kvs=>obtain⟨_,_,_,_,o,_,_,e,_⟩:=x;exact P' e
 |dT kvs=>obtain⟨_,_,_,_,o,_,_,e,_⟩:=x;exact P' e
 |set S n=>obtain⟨o,_,_,_,e,_⟩:=x;exact P' e
 |ins C dx fs=>obtain⟨_,_,_,e,_⟩:=x;exact P' e
 |own y=>obtain⟨_,e⟩:=x;exact P' e
 |xd fs=>obtain⟨_,⟨_,_,_,e,_⟩,_⟩:=x;exact P' e
 |rng lo hi=>obtain⟨_,_,_,e⟩:=x;exact P' e
 |ix ob u=>obtain⟨e,_⟩:=x;exact P' e
 |tbl ps=>exact P' (show h.get? a=some _ from x)
 |met f y=>exact P' (show h.get? a=some _ from x)
 |ext φ=>obtain⟨_,⟨_,e⟩,_⟩:=x;exact P' e
theorem Paired.afv {α β:Type}{F G:α->β->Prop}:∀{l₁:List α} {l₂:List β},Paired F l₁ l₂->(∀ a b,F a b->G a b)->Paired G l₁ l₂
 |_,_,.nil,_=>.nil
 |_,_,.cons r t,f=>.cons (f _ _ r) (Paired.afv t f)
theorem ck.stay (x:ck P w H h a o)(k:∀ b u,(b=a\/H b=some (.own a))->h.get? b=some u->h'.get? b=some u)
  (ho:∀ b,H b=some (.own a)->H' b=some (.own a)) (ht:∀ b xs,H b=some (.tup xs)->H' b=some (.tup xs)):ck P w H' h' a o:=by
 induction o with
 |lst xs=>obtain⟨z,its,n,r,e⟩:=x;exact⟨z,its,n,r,k _ _ (.inl rfl) e⟩
 |tup xs=>obtain⟨z,its,r,ob,e,c⟩:=x;exact⟨z,its,r,ob,k _ _ (.inl rfl) e,c⟩
 |dK kvs=>obtain⟨z,y,vs,r,ob,es,ep,e,c⟩:=x;exact⟨z,y,vs,r,ob,es,ep,k _ _ (.inl rfl) e,c⟩
 |dT kvs =>
  obtain⟨z,y,xs,r,ob,es,ep,e,c⟩:=x;exact⟨z,y,xs,Paired.afv r fun p q z=>⟨z.1,ht _ _ z.2.1,z.2.2⟩,ob,es,ep,k _ _ (.inl rfl) e,c⟩
 |set S n=>obtain⟨ob,es,ep,t,e,c⟩:=x;exact⟨ob,es,ep,t,k _ _ (.inl rfl) e,c⟩
 |ins C dx fs =>
  obtain⟨d,z,ne,e,mA,⟨od,es,ep,e2,c⟩,r⟩:=x;exact⟨ho _ d,z,ne,k _ _ (.inl rfl) e,mA,⟨od,es,ep,k _ _ (.inr d) e2,c⟩,r⟩
 |own y=>obtain⟨ob,e⟩:=x;exact⟨ob,k _ _ (.inl rfl) e⟩
 |xd fs=>obtain⟨mA,⟨od,es,ep,e,c⟩,r⟩:=x;exact⟨mA,⟨od,es,ep,k _ _ (.inl rfl) e,c⟩,r⟩
 |rng lo hi=>obtain⟨t,u,v,e⟩:=x;exact⟨t,u,v,k _ _ (.inl rfl) e⟩
 |ix ob u ih=>obtain⟨e,q⟩:=x;exact⟨k _ _ (.inl rfl) e,ih q⟩
 |tbl ps =>
  have e:h.get? a=some { cls:=.none,data:=.fields ps }:=x;show h'.get? a=some { cls:=.none,data:=.fields ps };exact k a _ (.inl rfl) e
 |met f y =>
  have e:h.get? a=some (methodObj (.ref f) (.ref y)):=x;show h'.get? a=some (methodObj (.ref f) (.ref y));exact k a _ (.inl rfl) e
 |ext φ=>obtain⟨p,⟨o,e⟩,st⟩:=x;exact⟨st _ _ p fun o q=>k _ _ (.inl rfl) q,⟨o,k _ _ (.inl rfl) e⟩,st⟩
theorem qN.lt (x:qN P w H h)(e:H a=some o):a<h.objs.size:=(x a o e).lt
theorem qN.fresh (x:qN P w H h)(e:h.objs.size<=a):H a=none:=by
 cases q:H a with
 |none=>rfl
 |some u=>exact j' (U' (x.lt q) e) (Nat.lt_irrefl _)
theorem qN.kept (x:qN P w H h)(k:∀ b u,h.get? b=some u->h'.get? b=some u):qN P w H h':=fun a o e =>
 (x a o e).stay (fun b u _ q=>k b u q) (fun _ q=>q) fun _ _ q=>q
theorem qN.laid (x:qN P w H h)(k:∀ b u,h.get? b=some u->h'.get? b=some u)(hp:h.objs.size<=a)(new:ck P w (upd H a o) h' a o):qN P w (upd H a o) h':=fun b u e=>by
 have hn:=x.fresh hp
 by_cases hb:b=a
 ·subst hb;rw[ag]at e;cases e;exact new
 ·rw[aA hb]at e;exact(x b u e).stay (fun c v _ q=>k c v q) (fun c q=>by rw[aA (aP q hn)];exact q) fun c xs q=>by rw[aA (aP q hn)];exact q
end
def Rd (H:Hp)(a:Addr)(u:HO):Prop:=H a=some u\/∃ o,H a=some (.ix o u)
theorem Rd.ok {P:Program}{w:World}{H:Hp}{h:Heap}{a:Addr}{u:HO}(r:Rd H a u)(x:qN P w H h):ck P w H h a u:=by
 rcases r with r|⟨o,r⟩
 ·exact x a u r
 ·obtain⟨_,q⟩:=x a _ r;exact q
def Mut:Option HO->Prop
 |some (.lst _)=>True
 |some (.dK _)=>True
 |some (.dT _)=>True
 |some (.set _ _)=>True
 |some (.ins _ _ _)=>True
 |some (.ext _)=>True
 |_=>False
section
variable {P:Program} {w:World} {H:Hp} {h h':Heap} {x e:Addr} {o':HO}
theorem qN.write (ok:qN P w H h)(mu:Mut (H x))(he:e=x\/H e=some (.own x))(k:∀ b u,b≠e->h.get? b=some u->h'.get? b=some u)(heo:∃ u,h'.get? e=some u)
  (new:ck P w (upd H x o') h' x o'):qN P w (upd H x o') h':=fun b u q=>by
 have aht:∀ c y,H c=some (.own y)->c≠x:=fun c y r z=>by subst z;rw[r]at mu;exact mu
 have akN:∀ c xs,H c=some (.tup xs)->c≠x:=fun c xs r z=>by subst z;rw[r]at mu;exact mu
 by_cases hb:b=x
 ·subst hb;rw[ag]at q;cases q;exact new
 ·rw[aA hb]at q
  by_cases hbe:b=e
  ·have q':H b=some (.own x):=by
    rcases he with z|z
    ·exact j' (hbe.trans z) hb
    ·rw[hbe];exact z
   rw[q]at q';cases q';obtain⟨v,hv⟩:=heo;exact⟨v,by rw[hbe];exact hv⟩
  ·refine(ok b u q).stay (fun c v hc r=>k c v ?_ r) (fun c r=>by rw[aA (aht c b r)];exact r) fun c xs r=>by rw[aA (akN c xs r)];exact r
   rcases hc with rfl|hc
   ·exact hbe
   ·rintro rfl;rcases he with z|z
    ·exact aht c b hc z
    ·rw[hc]at z;cases z;exact hb rfl
end
structure Un (fs ex:List Addr)(H H':Hp)(h h':Heap):Prop where
 keep:∀ b o,h.get? b=some o->H b=none->b ∉ fs->b ∉ ex->h'.get? b=some o
 slot:∀ b o,h.get? b=some o->H b=none->b∈fs->b ∉ ex->∃ sl,h'.get? b=some { o with slots:=sl }
 free:∀ b o,h.get? b=some o->H b=none->b ∉ ex->H' b=none
 there:∀ b o,h.get? b=some o->b ∉ ex->∃ o',h'.get? b=some o'
 tups:∀ b xs,H b=some (.tup xs)->H' b=some (.tup xs)
 yt:∀ b o u,H b=some (.ix o u)->H' b=some (.ix o u)
 Di:∀ b ps,H b=some (.tbl ps)->∃ more,H' b=some (.tbl (ps++more))
section
variable {fs fs' ex ex':List Addr} {H H1 H2:Hp} {h h1 h2 h':Heap} {a x e:Addr} {o:HO}
theorem Un.any (u:Un fs ex H H1 h h1){b:Addr}{ob:Obj}(q:h.get? b=some ob)(n:H b=none)(hx:b ∉ ex):∃ sl,h1.get? b=some { ob with slots:=sl }:=by
 by_cases hb:b∈fs
 ·exact u.slot b ob q n hb hx
 ·exact⟨ob.slots,u.keep b ob q n hb hx⟩
theorem Un.kept (k:∀ b u,h.get? b=some u->h'.get? b=some u):Un fs ex H H h h' :=
 ⟨fun b ob q _ _ _=>k b ob q,fun b ob q _ _ _=>⟨ob.slots,k b ob q⟩,fun _ _ _ n _=>n,fun b ob q _=>⟨ob,k b ob q⟩,fun _ _ q=>q,fun _ _ _ q=>q,fun _ ps q=>⟨#[],by rw[q];simp⟩⟩
theorem Un.refl:Un fs ex H H h h:=Un.kept fun _ _ q=>q
theorem Un.laid (k:∀ b u,h.get? b=some u->h'.get? b=some u)(hp:h.objs.size<=a)(hn:H a=none):Un fs ex H (upd H a o) h h' where
 keep:=fun b u q _ _ _=>k b u q
 slot:=fun b u q _ _ _=>⟨u.slots,k b u q⟩
 free:=fun b u q n _=>by rw[aA (Za' (U' (P' q) hp))];exact n
 there:=fun b u q _=>⟨u,k b u q⟩
 tups:=fun b xs q=>by rw[aA (aP q hn)];exact q
 yt:=fun b u xs q=>by rw[aA (aP q hn)];exact q
 Di:=fun b ps q=>⟨#[],by rw[aA (aP q hn),q];simp⟩
theorem Un.write (mu:Mut (H x))(he:e=x\/H e=some (.own x))(k:∀ b u,b≠e->h.get? b=some u->h'.get? b=some u)(heo:∃ u,h'.get? e=some u):Un fs ex H (upd H x o) h h':=by
 have hx:∀ b,H b=none->b≠x:=fun b n z=>by subst z;rw[n]at mu;exact mu
 have hb:∀ b,H b=none->b≠e:=fun b n z=>by
  subst z;rcases he with r|r
  ·exact hx b n r
  ·rw[n]at r;cases r
 have hm:∀ b u,H b=some u->¬ Mut (some u)->b≠x:=fun b u q nm z=>by subst z;rw[q]at mu;exact nm mu
 refine⟨fun b u q n _ _=>k b u (hb b n) q,fun b u q n _ _=>⟨u.slots,k b u (hb b n) q⟩,fun b u q n _=>by rw[aA (hx b n)];exact n,fun b u q _=>?_,
  fun b xs q=>by rw[aA (hm b _ q fun z=>z)];exact q,fun b u xs q=>by rw[aA (hm b _ q fun z=>z)];exact q,fun b ps q=>⟨#[],by rw[aA (hm b _ q fun z=>z),q];simp⟩⟩
 by_cases hbe:b=e
 ·subst hbe;exact heo
 ·exact⟨u,k b u hbe q⟩
end
def trk (h:Heap)(H:Hp):List Addr:=(List.range h.objs.size).filter fun a=>(H a).isSome
def II (h:Heap)(H:Hp):Heap:=PySem.W.hideAll h (trk h H)
theorem Vj (h:Heap)(H:Hp):(II h H).objs.size=h.objs.size:=PySem.W.hideAll_size _ _
theorem X5 {h:Heap}{H:Hp}{b:Addr}{o:Obj}(e:h.get? b=some o)(n:H b=none):(II h H).get? b=some o :=
 PySem.W.hideAll_get _ e fun hm=>by
  have q:(H b).isSome=true:=(List.mem_filter.mp hm).2;rw[n]at q;simp at q
theorem acA {h:Heap}{H:Hp}{b:Addr}{o:Obj}(e:(II h H).get? b=some o):h.get? b=some o/\H b=none:=by
 have e':h.get? b=some o:=PySem.W.of_hideAll (trk h H) e;refine⟨e',?_⟩;cases q:H b with
 |none=>rfl
 |some x =>
  have hm:b∈trk h H:=List.mem_filter.mpr ⟨mem_range.mpr (P' e'),by simp[q]⟩;have z:(II h H).get? b=none:=PySem.W.hideAll_none (trk h H) hm;rw[z]at e;cases e
def acB (g h:Heap)(L:Addr):List (Addr×Obj):=(List.range h.objs.size).filterMap fun a=>if a=L\/(g.get? a).isSome=true then none else(h.get? a).map fun o=>(a,o)
def rest (g h:Heap)(L d:Addr):List (Addr×Obj):=(acB g h L).filter fun p=>decide (p.1≠d)
end L2
namespace L2
open PySem PySem.Spec PyProof.Rows
structure Mod (K:Frag)(mg:Str->Option Value)(base:Heap):Prop where
 kin:K.In base
 glob:base.Ns mainGlobals mg
 blt:∃ mb,base.Ns builtinsNs mb/\∀ x:Str,x ≠ "__name__"->mb x=bootBuiltins x
 nolimit:base.NoLimit
structure Cx where
 prog:Program
 w:World
 K:Frag
 mg:Str->Option Value
 base:Heap
 A:Around
 N:List Str
 s₀:Shared
 H₀:Hp
 env:Env
 outer:List Env
 stack:List Env
 ex:List Addr
 fn:Str->Bool
 calm:Bool
 pn:List (Addr×Obj)
 xe:Value->Shared->Prop
def frs (l:List Env):List Addr:=l.filterMap (·.frame)
abbrev Cx.fs (X:Cx):List Addr:=frs X.outer
def Vis (sc:Scope)(x:Str):Prop:=sc.names.lookup x=some .local\/sc.names.lookup x=some .cell\/sc.names.lookup x=some .free
def Loc (sc:Scope)(x:Str):Prop:=sc.names.lookup x=some .local\/sc.names.lookup x=some .cell
def Look (env:Env)(h:Heap)(m:Str->Option Value)(x:Str)(u:Value):Prop :=
 (env.kindOf x=some .local/\m x=some u)\/((env.kindOf x=some .cell\/env.kindOf x=some .free)/\∃ c,env.cells.lookup x=some c/\h.IsCell c (some u))
structure Cx.Ok (X:Cx):Prop where
 mod:Mod X.K X.mg X.base
 kind:X.env.scope.kind=.function
 glob:X.env.globals=mainGlobals
 blt:X.env.builtins=builtinsNs
 above:X.s₀.heap.objs.size<=X.env.locals
 inj:∀ x y c,X.env.cells.lookup x=some c->X.env.cells.lookup y=some c->x=y
 has:∀ x,(X.env.kindOf x=some .cell\/X.env.kindOf x=some .free)->∃ c,X.env.cells.lookup x=some c
 cab:∀ x c,X.fn x=true->X.env.cells.lookup x=some c->X.s₀.heap.objs.size<=c
 hd:X.calm=true->X.A.handled=none
 frames:X.A.frames=some X.stack
 stk:X.stack=X.outer\/(X.stack=X.env::X.outer/\X.env.frame=some X.env.locals)
 exf:∀ b∈X.ex,b≠X.env.locals/\∀ x c,X.env.cells.lookup x=some c->c≠b
 bs:∀ b o,X.base.get? b=some o->X.s₀.heap.get? b=some o/\X.H₀ b=none
 LJ:X.base.objs.size<=X.s₀.heap.objs.size
 IJ:∀ b o,X.base.get? b=some o->b ∉ X.ex
 IK:∀ b∈X.ex,b ∉ X.fs
 yu:X.s₀.heap.FunFrames X.base X.outer
 frf:∀ b∈X.fs,X.H₀ b=none
structure Inv (X:Cx)(pins:List (Addr×Obj))(σ:List (Option V))(H:Hp)(s:Shared):Prop where
 ok:X.Ok
 os:s.os=X.s₀.os
 bare:AllBare s.gens
 base:Un X.fs X.ex X.H₀ H X.s₀.heap s.heap
 loc:∃ m,s.heap.Ns X.env.locals m/\∀(i:Nat)(x:Str)(v:V),X.N[i]? = some x->σ[i]? = some (some v)->Vis X.env.scope x->∃ u,RelV v u/\Look X.env s.heap m x u
 cell:∀ x c,X.env.cells.lookup x=some c->∃ v,s.heap.IsCell c v
 free:H X.env.locals=none
 lu:∀ x c,X.env.cells.lookup x=some c->H c=none
 pin:∀ p∈X.pn++pins,s.heap.get? p.1=some p.2/\H p.1=none/\p.1≠X.env.locals/\p.1 ∉ X.fs/\∀ v,p.2.data≠.cell v
 hok:qN X.prog X.w H s.heap
 len:σ.length=X.N.length
section
variable {X:Cx} {pins:List (Addr×Obj)} {σ:List (Option V)} {H H':Hp} {s:Shared} {h':Heap}
theorem Cx.Ok.akP (ok:X.Ok){b:Addr}{o:Obj}(e:X.base.get? b=some o):b ∉ X.fs:=fun hb=>by
 have:=(ok.yu.mem hb).1;rw[e]at this;cases this
theorem Inv.bs (I:Inv X pins σ H s):∀ b o,X.base.get? b=some o->s.heap.get? b=some o/\H b=none:=fun b o e =>
 ⟨I.base.keep b o (I.ok.bs b o e).1 (I.ok.bs b o e).2 (I.ok.akP e) (I.ok.IJ b o e),I.base.free b o (I.ok.bs b o e).1 (I.ok.bs b o e).2 (I.ok.IJ b o e)⟩
theorem Inv.bk (I:Inv X pins σ H s):∀ b o,X.base.get? b=some o->s.heap.get? b=some o:=fun b o e=>(I.bs b o e).1
theorem Inv.mod (I:Inv X pins σ H s):Mod X.K X.mg X.base:=I.ok.mod
theorem Inv.FI (I:Inv X pins σ H s):X.K.In s.heap:=I.ok.mod.kin.keeps I.bk
theorem Inv.lt (I:Inv X pins σ H s):X.env.locals<s.heap.objs.size:=let ⟨_,hn,_⟩:=I.loc;hn.lt
theorem Inv.sz (I:Inv X pins σ H s):X.s₀.heap.objs.size<=s.heap.objs.size:=Zk' I.ok.above (Nat.le_of_lt I.lt)
theorem Inv.akQ (I:Inv X pins σ H s){a:Addr}(h:s.heap.objs.size<=a):a ∉ X.fs:=fun hb=>by
 obtain⟨_,o,ho,_⟩:=I.ok.yu.mem hb;exact j' (U' (P' ho) (Zk' I.sz h)) (Nat.lt_irrefl _)
theorem Inv.cne (I:Inv X pins σ H s):∀ x c,X.env.cells.lookup x=some c->c≠X.env.locals:=fun x c e z=>by
 obtain⟨v,o,ho,hd⟩:=I.cell x c e;obtain⟨m,⟨o',es,ep,ho',hd',_⟩,_⟩:=I.loc;rw[z,ho']at ho;cases ho;rw[hd']at hd;cases hd
theorem Inv.yu (I:Inv X pins σ H s):s.heap.FunFrames X.base X.outer:=by
 have all:∀(l:List Env),(∀ b∈frs l,b∈X.fs)->X.s₀.heap.FunFrames X.base l->s.heap.FunFrames X.base l:=by
  intro l
  induction l with
  |nil=>intro _ _;trivial
  |cons env r ih =>
   intro hs hl;obtain⟨hk,⟨L,o,hf,hn,ho,hd⟩,hr⟩:=hl;have hL:L∈X.fs:=hs L (by unfold frs;rw[List.filterMap_cons,hf];exact mem_cons_self);obtain⟨sl,e⟩:=I.base.slot L o ho (I.ok.frf L hL) hL fun z=>I.ok.IK L z hL;exact⟨hk,⟨L,_,hf,hn,e,hd⟩,ih (fun b hb=>hs b (by unfold frs;rw[List.filterMap_cons,hf];exact Zl' _ hb)) hr⟩
 exact all X.outer (fun _ hb=>hb) I.ok.yu
theorem Inv.stack (I:Inv X pins σ H s):s.heap.FunFrames X.base X.stack:=by
 rcases I.ok.stk with e|⟨e,hf⟩
 ·rw[e];exact I.yu
 ·rw[e];obtain⟨m,hn,_⟩:=I.loc;refine .cons (by rw[I.ok.kind];decide) hf hn ?_ I.yu;exact Heap.get?_none_of_le (Zk' I.ok.LJ I.ok.above)
theorem Inv.Dj (I:Inv X pins σ H s):∀ b∈frs X.stack,b∈X.env.locals::X.fs:=fun b hb=>by
 rcases I.ok.stk with e|⟨e,hf⟩
 ·rw[e]at hb;exact Zl' _ hb
 ·rw[e]at hb;unfold frs at hb;rw[List.filterMap_cons,hf]at hb;exact hb
theorem Inv.CY (I:Inv X pins σ H s):∀ b∈frs X.stack,H b=none:=fun b hb=>by
 rcases List.mem_cons.mp (I.Dj b hb) with e|hb
 ·rw[e];exact I.free
 ·obtain⟨_,o,ho,_⟩:=I.ok.yu.mem hb;exact I.base.free b o ho (I.ok.frf b hb) fun z=>I.ok.IK b z hb
theorem Inv.step {g':Array GenState}{t':Nat}{d':Drawn}{ch:List Addr}(I:Inv X pins σ H s)
  (hch:∀ b∈ch,(b∈X.ex\/X.s₀.heap.objs.size<=b)/\b≠X.env.locals/\(∀ x c,X.env.cells.lookup x=some c->c≠b)/\∀ p∈X.pn++pins,p.1≠b)
  (keep:∀ b o,b≠X.env.locals->b ∉ X.fs->b ∉ ch->s.heap.get? b=some o->H b=none->h'.get? b=some o)
  (slot:∀ b o,b≠X.env.locals->b∈X.fs->b ∉ ch->s.heap.get? b=some o->H b=none->∃ sl,h'.get? b=some { o with slots:=sl }) (free:∀ b o,b ∉ ch->s.heap.get? b=some o->H b=none->H' b=none)
  (there:∀ b o,b ∉ ch->s.heap.get? b=some o->∃ o',h'.get? b=some o')
  (tups:∀ b xs,H b=some (.tup xs)->H' b=some (.tup xs)) (yt:∀ b o u,H b=some (.ix o u)->H' b=some (.ix o u)) (Di:∀ b ps,H b=some (.tbl ps)->∃ more,H' b=some (.tbl (ps++more)))
  (ns:∀ m,s.heap.Ns X.env.locals m->h'.Ns X.env.locals m) (hok:qN X.prog X.w H' h') (hg:AllBare g') :
  Inv X pins σ H' { s with heap:=h',gens:=g',drawn:=d',toks:=t' }:=by
 have neL:∀ b o,X.s₀.heap.get? b=some o->b≠X.env.locals:=fun b o e=>Za' (U' (P' e) I.ok.above);have XZ:∀ b o,X.s₀.heap.get? b=some o->b ∉ X.ex->b ∉ ch:=fun b o e hx hb=>by
  rcases (hch b hb).1 with z|z
  ·exact hx z
  ·exact j' (U' (P' e) z) (Nat.lt_irrefl _)
 have cellK:∀ x c,X.env.cells.lookup x=some c->∀ v,s.heap.IsCell c v->h'.IsCell c v:=fun x c e v ⟨o,ho,hd⟩=>by
  have nch:c ∉ ch:=fun z=>(hch c z).2.2.1 x c e rfl
  by_cases hc:c∈X.fs
  ·obtain⟨sl,q⟩:=slot c o (I.cne x c e) hc nch ho (I.lu x c e);exact⟨_,q,hd⟩
  ·exact⟨o,keep c o (I.cne x c e) hc nch ho (I.lu x c e),hd⟩
 refine⟨I.ok,I.os,hg,⟨fun b o e n hb hx=>?_,fun b o e n hb hx=>?_,fun b o e n hx=>?_,fun b o e hx=>?_,fun b xs e=>tups b xs (I.base.tups b xs e),fun b o xs e=>yt b o xs (I.base.yt b o xs e),fun b ps e=>?_⟩,?_,fun x c e=>?_,?_,fun x c e=>?_,fun p hp=>?_,hok,I.len⟩
 ·exact keep b o (neL b o e) hb (XZ b o e hx) (I.base.keep b o e n hb hx) (I.base.free b o e n hx)
 ·obtain⟨sl,e1⟩:=I.base.slot b o e n hb hx;obtain⟨sl',e2⟩:=slot b _ (neL b o e) hb (XZ b o e hx) e1 (I.base.free b o e n hx);exact⟨sl',e2⟩
 ·obtain⟨o',e1⟩:=I.base.there b o e hx;exact free b o' (XZ b o e hx) e1 (I.base.free b o e n hx)
 ·obtain⟨o',e1⟩:=I.base.there b o e hx;exact there b o' (XZ b o e hx) e1
 ·obtain⟨m1,e1⟩:=I.base.Di b ps e;obtain⟨m2,e2⟩:=Di b _ e1;exact⟨m1++m2,by rw[e2,Array.append_assoc]⟩
 ·obtain⟨m,hn,hl⟩:=I.loc;refine⟨m,ns m hn,fun i x v e1 e2 e3=>?_⟩;obtain⟨u,r,l⟩:=hl i x v e1 e2 e3;refine⟨u,r,?_⟩;rcases l with l|⟨k,c,e,z⟩
  ·exact .inl l
  ·exact .inr ⟨k,c,e,cellK x c e _ z⟩
 ·obtain⟨v,z⟩:=I.cell x c e;exact⟨v,cellK x c e v z⟩
 ·obtain⟨m,⟨o,_,_,ho,_⟩,_⟩:=I.loc;exact free _ o (fun z=>(hch _ z).2.1 rfl) ho I.free
 ·obtain⟨v,o,ho,hd⟩:=I.cell x c e;exact free c o (fun z=>(hch c z).2.2.1 x c e rfl) ho (I.lu x c e)
 ·obtain⟨e,n,ne,nf,d⟩:=I.pin p hp;have nch:p.1 ∉ ch:=fun z=>(hch p.1 z).2.2.2 p hp rfl;exact⟨keep p.1 p.2 ne nf nch e n,free p.1 p.2 nch e n,ne,nf,d⟩
theorem Inv.un {t':Nat}(I:Inv X pins σ H s)(u:Un X.fs [] H H' s.heap h')(hok:qN X.prog X.w H' h'):Inv X pins σ H' { s with heap:=h',toks:=t' }:=by
 obtain⟨m,⟨o,es,ep,ho,r⟩,_⟩:=id I.loc;obtain⟨sl,hL⟩:=u.any ho I.free (by simp);exact I.step (g':=s.gens) (d':=s.drawn) (ch:=[]) (fun _ z=>nomatch z) (fun b o _ hb _ e n=>u.keep b o e n hb (by simp)) (fun b o _ hb _ e n=>u.slot b o e n hb (by simp)) (fun b o _ e n=>u.free b o e n (by simp)) (fun b o _ e=>u.there b o e (by simp)) u.tups u.yt u.Di (fun m' hm=>by
  obtain⟨o',es',ep',ho',r'⟩:=hm;rw[ho]at ho';cases ho';exact⟨_,es',ep',hL,r'⟩) hok I.bare
theorem Inv.call {g':Array GenState}{t':Nat}{d':Drawn}{ch:List Addr}(I:Inv X pins σ H s)(u:Un (frs X.stack) ch H H' s.heap h')(hok:qN X.prog X.w H' h')(hg:AllBare g')
  (hch:∀ b∈ch,(b∈X.ex\/X.s₀.heap.objs.size<=b)/\b≠X.env.locals/\(∀ x c,X.env.cells.lookup x=some c->c≠b)/\∀ p∈X.pn++pins,p.1≠b) :
  Inv X pins σ H' { s with heap:=h',gens:=g',drawn:=d',toks:=t' }:=by
 obtain⟨m,⟨o,es,ep,ho,r⟩,_⟩:=id I.loc;obtain⟨sl,hL⟩:=u.any ho I.free fun z=>(hch _ z).2.1 rfl;exact I.step (ch:=ch) hch (fun b o hL hb hc e n=>u.keep b o e n (fun z=>(List.mem_cons.mp (I.Dj b z)).elim hL hb) hc) (fun b o _ _ hc e n=>u.any e n hc) (fun b o hc e n=>u.free b o e n hc) (fun b o hc e=>u.there b o e hc) u.tups u.yt u.Di (fun m' hm=>by
  obtain⟨o',es',ep',ho',r'⟩:=hm;rw[ho]at ho';cases ho';exact⟨_,es',ep',hL,r'⟩) hok hg
theorem Inv.turned {t':Nat}{it:Addr}(I:Inv X pins σ H s)(k:∀ b o,b≠it->s.heap.get? b=some o->h'.get? b=some o)(hn:H it=none)(hL:it≠X.env.locals)
  (h1:it∈X.ex\/X.s₀.heap.objs.size<=it) (h2:∀ x c,X.env.cells.lookup x=some c->c≠it) (h3:∀ p∈X.pn++pins,p.1≠it):Inv X pins σ H { s with heap:=h',toks:=t' }:=by
 have nit:∀ b u,H b=some u->b≠it:=fun b u e z=>by rw[z,hn]at e;cases e
 refine I.step (g':=s.gens) (d':=s.drawn) (ch:=[it]) (fun b hb=>?_) (fun b o _ _ hc e _=>k b o (fun z=>hc (by simp[z])) e) (fun b o _ _ hc e _=>⟨o.slots,k b o (fun z=>hc (by simp[z])) e⟩) (fun _ _ _ _ n=>n)
  (fun b o hc e=>⟨o,k b o (fun z=>hc (by simp[z])) e⟩) (fun _ _ e=>e) (fun _ _ _ e=>e) (fun b ps e=>⟨#[],by rw[e];simp⟩) (fun m hm=>?_) (fun b u e=>?_) I.bare
 ·have e:b=it:=by simpa using hb
  subst e;exact⟨h1,hL,h2,h3⟩
 ·obtain⟨o,es,ep,ho,r⟩:=hm;exact⟨o,es,ep,k _ o (Yb' hL) ho,r⟩
 ·refine(I.hok b u e).stay (fun c v hc q=>k c v ?_ q) (fun _ q=>q) fun _ _ q=>q;rcases hc with z|z
  ·rw[z];exact nit b u e
  ·exact nit c _ z
theorem Inv.tok (I:Inv X pins σ H s)(t:Nat):Inv X pins σ H { s with toks:=t }:=I.un (h':=s.heap) (t':=t) Un.refl I.hok
theorem Inv.kept {t':Nat}(I:Inv X pins σ H s)(k:∀ b u,s.heap.get? b=some u->h'.get? b=some u):Inv X pins σ H { s with heap:=h',toks:=t' }:=I.un (Un.kept k) (I.hok.kept k)
theorem Inv.laid {a:Addr}{o:HO}{t':Nat}(I:Inv X pins σ H s)(k:∀ b u,s.heap.get? b=some u->h'.get? b=some u)(hp:s.heap.objs.size<=a)(new:ck X.prog X.w (upd H a o) h' a o) :
  Inv X pins σ (upd H a o) { s with heap:=h',toks:=t' }:=I.un (Un.laid k hp (I.hok.fresh hp)) (I.hok.laid k hp new)
theorem Inv.write {x e:Addr}{o:HO}{t':Nat}(I:Inv X pins σ H s)(mu:Mut (H x))(he:e=x\/H e=some (.own x))(k:∀ b u,b≠e->s.heap.get? b=some u->h'.get? b=some u)(heo:∃ u,h'.get? e=some u)
  (new:ck X.prog X.w (upd H x o) h' x o):Inv X pins σ (upd H x o) { s with heap:=h',toks:=t' }:=I.un (Un.write mu he k heo) (I.hok.write mu he k heo new)
theorem Inv.Uy {X6:List (Addr×Obj)}(I:Inv X pins σ H s)(h:∀ p∈X6,s.heap.get? p.1=some p.2/\H p.1=none/\p.1≠X.env.locals/\p.1 ∉ X.fs/\∀ v,p.2.data≠.cell v):Inv X X6 σ H s :=
 ⟨I.ok,I.os,I.bare,I.base,I.loc,I.cell,I.free,I.lu,fun p hp=>(Zq'.mp hp).elim (fun z=>I.pin p (List.mem_append_left _ z)) (h p),I.hok,I.len⟩
theorem LK {N:List Str}(hN:N.Nodup){i j:Nat}{x:Str}(a:N[i]? = some x)(b:N[j]? = some x):i=j:=by
 obtain⟨h1,e1⟩:=B'.mp a;obtain⟨h2,e2⟩:=B'.mp b;exact(List.getElem_inj hN).mp (e1.trans e2.symm)
theorem yv {M:Model}{A:Around}{E:Value->Shared->Prop}{i:Nat}{x:Str}{v:V}{u:Value}{Q:Unit->Shared->Prop}(I:Inv X pins σ H s)(hN:X.N.Nodup)(hi:X.N[i]? = some x)(hx:Loc X.env.scope x)(r:RelV v u)
  (h:∀ s',Inv X pins (σ.set i (some v)) H s'->(∃ a,Heap.SameBut a s.heap s'.heap/\(a=X.env.locals\/X.env.cells.lookup x=some a))->Q () s') (hf:X.fn x=true\/X.env.scope.names.lookup x=some .local:=by first|exact .inl rfl|exact .inr rfl|assumption):wpAny M A (storeName X.env x u) Q E s:=by
 obtain⟨m,hn,hl⟩:=id I.loc;have hcls:(X.env.scope.kind == .class||(X.env.scope.kind == .module&&X.env.locals != X.env.globals))=false:=by rw[I.ok.kind];rfl
 have am5:i<σ.length:=by rw[I.len];exact(B'.mp hi).1
 have cne:=I.cne;have tracked:∀{a:Addr} {h':Heap},(∃ o,s.heap.get? a=some o/\H a=none)->Heap.SameBut a s.heap h'->qN X.prog X.w H h':=fun {a h'} ha hs b ob e=>by
  obtain⟨_,_,hfree⟩:=ha;refine(I.hok b ob e).stay (fun c w' hc q=>(hs.2 c ?_).trans q) (fun _ q=>q) fun _ _ q=>q;rintro rfl;rcases hc with rfl|hc
  ·rw[hfree]at e;cases e
  ·rw[hfree]at hc;cases hc
 rcases hx with hk|hk
 ·refine wpAny_storeName_local hk hn (fun h' hn' hs=>?_) hcls;obtain⟨oL,_,_,hoL,_⟩:=id hn;refine h _ ⟨I.ok,I.os,I.bare,⟨fun b o e n hb hx=>?_,fun b o e n hb hx=>?_,I.base.free,fun b o e hx=>?_,I.base.tups,I.base.yt,I.base.Di⟩,⟨_,hn',fun j y v' e1 e2 e3=>?_⟩,fun y c e=>?_,I.free,I.lu,fun p hp=>?_,tracked ⟨oL,hoL,I.free⟩ hs,by simpa using I.len⟩ ⟨_,hs,.inl rfl⟩
  ·exact(hs.2 b (Za' (U' (P' e) I.ok.above))).trans (I.base.keep b o e n hb hx)
  ·obtain⟨sl,e1⟩:=I.base.slot b o e n hb hx;exact⟨sl,(hs.2 b (Za' (U' (P' e) I.ok.above))).trans e1⟩
  ·obtain⟨o',e1⟩:=I.base.there b o e hx;exact⟨o',(hs.2 b (Za' (U' (P' e) I.ok.above))).trans e1⟩
  ·by_cases hj:j=i
   ·subst hj;rw[hi]at e1;cases e1;rw[List.getElem?_set_self am5]at e2;cases e2;exact⟨u,r,.inl ⟨hk,by simp⟩⟩
   ·rw[List.getElem?_set_ne (Yb' hj)]at e2;obtain⟨u',r',q⟩:=hl j y v' e1 e2 e3;refine⟨u',r',?_⟩;rcases q with ⟨k,e⟩|⟨k,c,e,z⟩
    ·refine .inl ⟨k,?_⟩;have:y≠x:=fun e=>hj (LK hN e1 (e ▸ hi));simp[this,e]
    ·exact .inr ⟨k,c,e,z.sameBut hs (cne y c e)⟩
  ·obtain⟨w',z⟩:=I.cell y c e;exact⟨w',z.sameBut hs (cne y c e)⟩
  ·obtain⟨e,n,ne,nf,d⟩:=I.pin p hp;exact⟨(hs.2 p.1 ne).trans e,n,ne,nf,d⟩
 ·have hfn:X.fn x=true:=by
   rcases hf with z|z
   ·exact z
   ·rw[z]at hk;cases hk
  obtain⟨c,hc⟩:=I.ok.has x (.inl hk);obtain⟨w',z⟩:=I.cell x c hc;refine wpAny_storeName_cell I.ok.kind hk hc z (fun h' hc' hs=>?_);obtain⟨oc,hoc,akR⟩:=id z;refine h { s with heap:=h' } ⟨I.ok,I.os,I.bare,⟨fun b o e n hb hx=>?_,fun b o e n hb hx=>?_,I.base.free,fun b o e hx=>?_,I.base.tups,I.base.yt,I.base.Di⟩,⟨m,hn.sameBut hs (Yb' (cne x c hc)),fun j y v' e1 e2 e3=>?_⟩,fun y c' e=>?_,I.free,I.lu,fun p hp=>?_,tracked ⟨oc,hoc,I.lu x c hc⟩ hs,by simpa using I.len⟩ ⟨c,hs,.inr hc⟩
  ·exact(hs.2 b (Za' (U' (P' e) (I.ok.cab x c hfn hc)))).trans (I.base.keep b o e n hb hx)
  ·obtain⟨sl,e1⟩:=I.base.slot b o e n hb hx;exact⟨sl,(hs.2 b (Za' (U' (P' e) (I.ok.cab x c hfn hc)))).trans e1⟩
  ·obtain⟨o',e1⟩:=I.base.there b o e hx;exact⟨o',(hs.2 b (Za' (U' (P' e) (I.ok.cab x c hfn hc)))).trans e1⟩
  ·by_cases hj:j=i
   ·subst hj;rw[hi]at e1;cases e1;rw[List.getElem?_set_self am5]at e2;cases e2;exact⟨u,r,.inr ⟨.inl hk,c,hc,hc'⟩⟩
   ·rw[List.getElem?_set_ne (Yb' hj)]at e2;obtain⟨u',r',q⟩:=hl j y v' e1 e2 e3;refine⟨u',r',?_⟩;rcases q with q|⟨k,c',e,z'⟩
    ·exact .inl q
    ·refine .inr ⟨k,c',e,z'.sameBut hs ?_⟩;rintro rfl;exact hj (LK hN e1 (I.ok.inj _ _ _ e hc ▸ hi))
  ·by_cases hcc:c'=c
   ·subst hcc;exact⟨_,hc'⟩
   ·obtain⟨w2,z2⟩:=I.cell y c' e;exact⟨w2,z2.sameBut hs hcc⟩
  ·obtain⟨e,n,ne,nf,d⟩:=I.pin p hp;refine⟨(hs.2 p.1 ?_).trans e,n,ne,nf,d⟩;intro q;rw[q,hoc]at e;have q':oc=p.2:=Zc' e;exact d w' (by rw[<-q'];exact akR)
theorem vI {M:Model}{A:Around}{E:Value->Shared->Prop}{i:Nat}{x:Str}{v:V}{u:Value}{Q:Unit->Shared->Prop}(I:Inv X pins σ H s)(hN:X.N.Nodup)(hi:X.N[i]? = some x)(hx:Loc X.env.scope x)(r:RelV v u)
  (h:∀ s',Inv X pins (σ.set i (some v)) H s'->Q () s') (hf:X.fn x=true\/X.env.scope.names.lookup x=some .local:=by first|exact .inl rfl|exact .inr rfl|assumption):wpAny M A (storeName X.env x u) Q E s :=
 yv I hN hi hx r (fun s' I' _=>h s' I') hf
theorem Inv.call' {s':Shared}{ch:List Addr}(I:Inv X pins σ H s)(ho:s'.os=s.os)(u:Un (frs X.stack) ch H H' s.heap s'.heap)(hok:qN X.prog X.w H' s'.heap)(hg:AllBare s'.gens)
  (hch:∀ b∈ch,(b∈X.ex\/X.s₀.heap.objs.size<=b)/\b≠X.env.locals/\(∀ x c,X.env.cells.lookup x=some c->c≠b)/\∀ p∈X.pn++pins,p.1≠b):Inv X pins σ H' s':=by
 obtain⟨h',g',d',t',o'⟩:=s';have e:o'=s.os:=ho;subst e;exact I.call (g':=g') (t':=t') (d':=d') u hok hg hch
end
abbrev XK:=Value->Option Addr->Hp->Prop
abbrev St:=List (Option V)
abbrev VK:=V->Hp->Prop
abbrev TE:=St->Hp->VK->Prop
abbrev TT:=St->Hp->(Bool->Hp->Prop)->Prop
abbrev TA:=St->Hp->(List V->Hp->Prop)->Prop
structure Ends where
 nx:St->Hp->Prop
 rt:VK
 bk:St->Hp->Prop:=fun _ _=>False
 ct:St->Hp->Prop:=fun _ _=>False
abbrev TS:=Ends->St->Hp->Prop
def EP (X:Cx)(pins:List (Addr×Obj))(σ:St)(Q:VK)(u:Value)(s':Shared):Prop:=∃ v H',Inv X pins σ H' s'/\RelV v u/\Q v H'
def TP (X:Cx)(pins:List (Addr×Obj))(σ:St)(Q:Bool->Hp->Prop)(b:Bool)(s':Shared):Prop:=∃ H',Inv X pins σ H' s'/\Q b H'
def AP (X:Cx)(pins:List (Addr×Obj))(σ:St)(Q:List V->Hp->Prop)(us:List Value)(s':Shared):Prop:=∃ vs H',Inv X pins σ H' s'/\Vals vs us/\Q vs H'
def SP (X:Cx)(pins:List (Addr×Obj))(D:Ends)(f:Flow)(s':Shared):Prop :=
 match f with
 |.next=>∃ σ' H',Inv X pins σ' H' s'/\D.nx σ' H'
 |.brk=>∃ σ' H',Inv X pins σ' H' s'/\D.bk σ' H'
 |.cont=>∃ σ' H',Inv X pins σ' H' s'/\D.ct σ' H'
 |.ret u=>∃ v σ' H',Inv X pins σ' H' s'/\RelV v u/\D.rt v H'
def PE (X:Cx)(e:Expr)(t:TE):Prop :=
 ∀(pins:List (Addr×Obj)) (s:Shared) (σ:St) (H:Hp) (Q:VK),Inv X pins σ H s->t σ H Q->wpAny (model X.prog X.w) X.A (eval e X.env) (EP X pins σ Q) X.xe s
def PT (X:Cx)(e:Expr)(t:TT):Prop :=
 ∀(pins:List (Addr×Obj)) (s:Shared) (σ:St) (H:Hp) (Q:Bool->Hp->Prop),Inv X pins σ H s->t σ H Q->wpAny (model X.prog X.w) X.A (isTrue e X.env (eval e X.env)) (TP X pins σ Q) X.xe s
def PW (X:Cx)(e:Expr)(t:TT):Prop :=
 ∀(whole:Sem Value)(pins:List (Addr×Obj)) (s:Shared) (σ:St) (H:Hp) (Q:Bool->Hp->Prop),Inv X pins σ H s->t σ H Q->wpAny (model X.prog X.w) X.A (isTrue e X.env whole) (TP X pins σ Q) X.xe s
theorem PW.pt {X:Cx}{e:Expr}{t:TT}(h:PW X e t):PT X e t:=h _
def PA (X:Cx)(es:List Expr)(t:TA):Prop :=
 ∀(pos:Pos)(pins:List (Addr×Obj)) (s:Shared) (σ:St) (H:Hp) (Q:List V->Hp->Prop),Inv X pins σ H s->t σ H Q->wpAny (model X.prog X.w) X.A (spliced (backTo pos (starEach es X.env))) (AP X pins σ Q) X.xe s
def PS (X:Cx)(st:Stmt)(t:TS):Prop :=
 ∀(pins:List (Addr×Obj)) (s:Shared) (σ:St) (H:Hp) (D:Ends),Inv X pins σ H s->t D σ H->wpAny (model X.prog X.w) X.A (exec st X.env) (SP X pins D) X.xe s
def NT (X:Cx)(st:List Stmt)(t:TS):Prop :=
 ∀(pins:List (Addr×Obj)) (s:Shared) (σ:St) (H:Hp) (D:Ends),Inv X pins σ H s->t D σ H->wpAny (model X.prog X.w) X.A (execs st X.env) (SP X pins D) X.xe s
theorem cu {α:Type}{t:Sem α}{Q Q':α->Shared->Prop}{M:Model}{A:Around}{E:Value->Shared->Prop}{s:Shared}(h:wpAny M A t Q E s)(hQ:∀ a s,Q a s->Q' a s):wpAny M A t Q' E s:=wpAny_mono h hQ fun _ _ x=>x
end L2
namespace L2
open PySem PySem.Spec PyProof.Rows
section
variable {X:Cx}
inductive aei (i:Nat)(σ:St)(H:Hp)(Q:VK):Prop
 |mk (v:_) (tQ:σ[i]? = some (some v)) (tR:Q v H):aei i σ H Q
def FJ (i:Nat):TE:=fun σ H Q=>aei i σ H Q
def tC (v:V):TE:=fun _ H Q=>Q v H
theorem afx {i:Nat}{x:Str}{pos:Pos}(hN:X.N[i]? = some x)(hv:Vis X.env.scope x)(hd:(x==("__debug__":Str))=false:=by decide)(hcd:(x==("__classdict__":Str))=false:=by decide):PE X (.Name x pos) (FJ i):=by
 intro pins s σ H Q I h;obtain⟨v,e,h⟩:=h;obtain⟨m,hn,hl⟩:=I.loc;obtain⟨u,r,l⟩:=hl i x v hN e hv;have fin:EP X pins σ Q u s:=⟨v,H,I,r,h⟩;rcases l with ⟨hk,hm⟩|⟨hk,c,hc,hcell⟩
 ·exact wpAny_Name (wpAny_loadName_local I.ok.kind hk hn hm fin) hd
 ·rcases hk with hk|hk
  ·exact wpAny_Name (wpAny_loadName_cell I.ok.kind hk hc hcell fin) hd
  ·exact wpAny_Name (wpAny_loadName_free I.ok.kind hk hc hcell fin hcd) hd
theorem ah {i j pos}:PE X (.Constant (.int i) j pos) (tC (.int i)):=fun _ _ _ H _ I h=>wpAny_Constant_int ⟨.int i,H,I.tok _,⟨_,rfl⟩,h⟩
theorem jd {b j pos}:PE X (.Constant (.bool b) j pos) (tC (.bl b)):=fun _ _ _ H _ I h=>Constant_bool ⟨.bl b,H,I,rfl,h⟩
theorem bL {j pos}:PE X (.Constant .none j pos) (tC .non):=fun _ _ _ H _ I h=>Constant_none ⟨.non,H,I,rfl,h⟩
theorem aw {x j pos}:PE X (.Constant (.str x) j pos) (tC (.str x)):=fun _ _ _ H _ I h=>Calls.Constant_str ⟨.str x,H,I.tok _,⟨_,rfl⟩,h⟩
def Gl (X:Cx)(x:Str):Prop:=X.env.kindOf x=some .globalImplicit
theorem IL {E:Value->Shared->Prop}{pins:List (Addr×Obj)}{s:Shared}{σ:St}{H:Hp}{x:Str}{u:Value}{pos:Pos}{Q:Value->Shared->Prop}(I:Inv X pins σ H s)(hg:Gl X x)(hm:X.mg x=some u)(h:Q u s)
  (hd:(x==("__debug__":Str))=false:=by decide):wpAny (model X.prog X.w) X.A (eval (.Name x pos) X.env) Q E s :=
 Calls.Name_function_global I.ok.kind hg (Calls.loadGlobal_global (by rw[I.ok.glob];exact I.mod.glob.keeps I.bk) hm h) hd
theorem t7 {E:Value->Shared->Prop}{pins:List (Addr×Obj)}{s:Shared}{σ:St}{H:Hp}{x:Str}{u:Value}{pos:Pos}{Q:Value->Shared->Prop}(I:Inv X pins σ H s)(hg:Gl X x)(hm:X.mg x=none)(hv:bootBuiltins x=some u)(h:Q u s)
  (hn:x ≠ "__name__":=by decide) (hd:(x==("__debug__":Str))=false:=by decide):wpAny (model X.prog X.w) X.A (eval (.Name x pos) X.env) Q E s:=by
 obtain⟨mb,h1,h2⟩:=I.mod.blt;exact Calls.Name_function_global I.ok.kind hg (Calls.loadGlobal_builtin (by rw[I.ok.glob];exact I.mod.glob.keeps I.bk) hm (by rw[I.ok.blt];exact h1.keeps I.bk) ((h2 x hn).trans hv) h) hd
theorem bX {x:Str}{v:V}{u:Value}{pos:Pos}(hg:Gl X x)(hm:X.mg x=some u)(r:RelV v u)(hd:(x==("__debug__":Str))=false:=by decide):PE X (.Name x pos) (tC v) :=
 fun _ _ _ H _ I h=>IL I hg hm ⟨v,H,I,r,h⟩ hd
theorem acC {x:Str}{v:V}{u:Value}{pos:Pos}(hg:Gl X x)(hm:X.mg x=none)(hv:bootBuiltins x=some u)(r:RelV v u)(hn:x ≠ "__name__":=by decide)(hd:(x==("__debug__":Str))=false:=by decide):PE X (.Name x pos) (tC v) :=
 fun _ _ _ H _ I h=>t7 I hg hm hv ⟨v,H,I,r,h⟩ hn hd
variable {a b:Expr} {ta tb:TE} {pos:Pos}
def PC (X:Cx)(op:CmpOp)(a b:Expr)(t:TE):Prop :=
 ∀(pins:List (Addr×Obj)) (s:Shared) (σ:St) (H:Hp) (Q:VK),Inv X pins σ H s->t σ H Q ->
  wpAny (model X.prog X.w) X.A (eval a X.env) (fun v s₁=>wpAny (model X.prog X.w) X.A (eval b X.env) (fun u s₂=>wpAny (model X.prog X.w) X.A (compareOp op v u) (EP X pins σ Q) X.xe s₂) X.xe s₁) X.xe s
def tB (t:TE):TT:=fun σ H Q=>t σ H fun x H1=>∃ c,x=.bl c/\Q c H1
theorem afy {op:CmpOp}{t:TE}(h:PC X op a b t)(h1:behindInMarks op b=false:=by first|exact X7 _ (by decide) (by decide)|rfl):PE X (.Compare a [op] [b] pos) t:=fun pins s σ H Q I hw=>wpAny_Compare1 (h pins s σ H Q I hw) h1
theorem X8 {op:CmpOp}{t:TE}(h:PC X op a b t)(h1:behindInMarks op b=false:=by first|exact X7 _ (by decide) (by decide)|rfl):PT X (.Compare a [op] [b] pos) (tB t):=by
 intro pins s σ H Q I hw;refine wpAny_isTrue_Compare1 (cu (h pins s σ H _ I hw) fun v s1 h1=>cu h1 fun u s2 h2=>cu h2 fun c s3 ⟨x,H1,I1,r1,q1⟩=>?_) h1;obtain⟨d,rfl,q⟩:=q1;cases r1;exact wpAny_truthy_bool ⟨H1,I1,q⟩
theorem bZ {e:Expr}{t:TE}(h:PE X e t)(he:∀ whole,isTrue e X.env whole=(do let v <-whole;standAt e.pos;holding [v] (truthy v)):=by intro _;rfl):PT X e (tB t):=by
 intro pins s σ H Q I hw;refine isTrue_plain (cu (h pins s σ H _ I hw) fun v s1 ⟨x,H1,I1,r1,q1⟩=>?_) (he _);obtain⟨d,rfl,q⟩:=q1;cases r1;exact wpAny_truthy_bool ⟨H1,I1,q⟩
variable {tA tB':TT} {rest:List Expr}
def akS (t u:TT):TT:=fun σ H Q=>t σ H fun c H1=>if c=true then u σ H1 Q else Q false H1
def tOr (t u:TT):TT:=fun σ H Q=>t σ H fun c H1=>if c=true then Q true H1 else u σ H1 Q
def akT (t:TT):TT:=fun σ H Q=>t σ H fun c H1=>Q (!c) H1
theorem bH (ha:PT X a tA):PW X (.BoolOp .And [a] pos) tA:=by
 intro wh pins s σ H Q I h;refine isTrue_and (cu (ha pins s σ H Q I h) fun c s1 e=>?_);cases c with
 |true=>exact isTrue_and_nil e
 |false=>exact e
theorem eY (ha:PT X a tA):PW X (.BoolOp .Or [a] pos) tA:=by
 intro wh pins s σ H Q I h;refine isTrue_or (cu (ha pins s σ H Q I h) fun c s1 e=>?_);cases c with
 |false=>exact isTrue_or_nil e
 |true=>exact e
theorem bz (ha:PT X a tA)(hb:PW X (.BoolOp .And (b::rest) pos) tB'):PW X (.BoolOp .And (a::b::rest) pos) (akS tA tB'):=by
 intro wh pins s σ H Q I h;refine isTrue_and (cu (ha pins s σ H _ I h) fun c s1 ⟨H1,I1,q1⟩=>?_);cases c with
 |true=>exact hb wh pins s1 σ H1 Q I1 q1
 |false=>exact⟨H1,I1,q1⟩
theorem iz (ha:PT X a tA)(hb:PW X (.BoolOp .Or (b::rest) pos) tB'):PW X (.BoolOp .Or (a::b::rest) pos) (tOr tA tB'):=by
 intro wh pins s σ H Q I h;refine isTrue_or (cu (ha pins s σ H _ I h) fun c s1 ⟨H1,I1,q1⟩=>?_);cases c with
 |true=>exact⟨H1,I1,q1⟩
 |false=>exact hb wh pins s1 σ H1 Q I1 q1
theorem ke (ha:PT X a tA):PT X (.UnaryOp .Not a pos) (akT tA):=by
 intro pins s σ H Q I h;exact isTrue_not (ha pins s σ H (fun c H1=>Q (!c) H1) I h)
def ahv (ta tb:TE):TE:=fun σ H Q=>ta σ H fun x H1=>∃ c,x=.bl c/\if c=true then tb σ H1 Q else Q (.bl false) H1
def akU (ta tb:TE):TE:=fun σ H Q=>ta σ H fun x H1=>∃ c,x=.bl c/\if c=true then Q (.bl true) H1 else tb σ H1 Q
theorem jg {op}{t:TE}(h:PE X a t):PE X (.BoolOp op [a] pos) t:=fun pins s σ H Q I hw=>BoolOp_one (h pins s σ H Q I hw)
theorem kf (ha:PE X a ta)(hb:PE X (.BoolOp .And (b::rest) pos) tb):PE X (.BoolOp .And (a::b::rest) pos) (ahv ta tb):=by
 intro pins s σ H Q I h;refine BoolOp_and (cu (ha pins s σ H _ I h) fun v s1 ⟨x,H1,I1,r1,q1⟩=>?_);obtain⟨c,rfl,q1⟩:=q1;cases r1;refine wpAny_truthy_bool ?_;cases c with
 |true=>exact hb pins s1 σ H1 Q I1 q1
 |false=>exact⟨.bl false,H1,I1,rfl,q1⟩
theorem Uz (ha:PE X a ta)(hb:PE X (.BoolOp .Or (b::rest) pos) tb):PE X (.BoolOp .Or (a::b::rest) pos) (akU ta tb):=by
 intro pins s σ H Q I h;refine BoolOp_or (cu (ha pins s σ H _ I h) fun v s1 ⟨x,H1,I1,r1,q1⟩=>?_);obtain⟨c,rfl,q1⟩:=q1;cases r1;refine wpAny_truthy_bool ?_;cases c with
 |false=>exact hb pins s1 σ H1 Q I1 q1
 |true=>exact⟨.bl true,H1,I1,rfl,q1⟩
def tIf (t:TT)(ta tb:TE):TE:=fun σ H Q=>t σ H fun c H1=>if c=true then ta σ H1 Q else tb σ H1 Q
theorem bA {c:Expr}(hc:PT X c tA)(ha:PE X a ta)(hb:PE X b tb):PE X (.IfExp c a b pos) (tIf tA ta tb):=by
 intro pins s σ H Q I h;refine wpAny_IfExp (cu (hc pins s σ H _ I h) fun d s1 ⟨H1,I1,q1⟩=>?_);cases d with
 |true=>exact ha pins s1 σ H1 Q I1 q1
 |false=>exact hb pins s1 σ H1 Q I1 q1
end
end L2
namespace L2
open PySem PySem.Spec PyProof.Rows
def aR (K:Frag)(H:Hp)(a:Addr)(xs:List V):Prop :=
 Rd H a (.lst xs) \/
  ∃(o:Obj)(its:Array Value)(n:Nat),K.lookup a=some o/\o.cls=.type "list"/\o.dict=none/\o.data=.seq its n/\its.size<=sizeLine/\Vals xs its.toList
def dz (K:Frag)(H:Hp)(a:Addr)(xs:List V):Prop :=
 Rd H a (.tup xs) \/
  ∃(o:Obj)(its:Array Value)(n:Nat),K.lookup a=some o/\o.cls=.type "tuple"/\o.data=.seq its n/\its.size<=sizeLine/\Vals xs its.toList
def akV:Value->Option V
 |.none=>some .non
 |.bool b=>some (.bl b)
 |.int i _=>some (.int i)
 |.str x _=>some (.str x)
 |.bytes b _=>some (.X4 b)
 |.float b _=>some (.flt b)
 |.ref a=>some (.ref a)
 |.type n=>some (.ty n)
 |_=>none
theorem RelV.abs {x:V}{u:Value}(r:RelV x u):akV u=some x:=by
 cases x with
 |non=>cases r;rfl
 |bl _=>cases r;rfl
 |int _=>obtain⟨t,rfl⟩:=r;rfl
 |str _=>obtain⟨t,rfl⟩:=r;rfl
 |X4 _=>obtain⟨t,rfl⟩:=r;rfl
 |flt _=>obtain⟨t,rfl⟩:=r;rfl
 |ref _=>cases r;rfl
 |ty _=>cases r;rfl
theorem RelV.inj {x y:V}{u:Value}(r:RelV x u)(q:RelV y u):x=y:=Zc' (r.abs.symm.trans q.abs)
theorem Vals.inj:∀{xs ys:List V} {us:List Value},Vals xs us->Vals ys us->xs=ys
 |_,_,_,.nil,.nil=>rfl
 |_,_,_,.cons r t,.cons r' t'=>by rw[r.inj r',Vals.inj t t']
section
variable {X:Cx} {pins:List (Addr×Obj)} {σ:St} {H:Hp} {s:Shared} {a:Addr} {xs ys:List V}
theorem aR.of {K:Frag}(h:H a=some (.lst xs)):aR K H a xs:=.inl (.inl h)
theorem dz.of {K:Frag}(h:H a=some (.tup xs)):dz K H a xs:=.inl (.inl h)
theorem Inv.list (I:Inv X pins σ H s)(h:aR X.K H a xs):∃ its:List Value,Vals xs its/\PlainL s.heap a its.toArray/\xs.length<=sizeLine:=by
 rcases h with h|⟨o,its,n,hk,hc,hd,hs,hz,r⟩
 ·obtain⟨z,its,n,r,e⟩:=h.ok I.hok;exact⟨its,r,⟨_,n,e,rfl,rfl,rfl⟩,z⟩
 ·refine⟨its.toList,r,⟨o,n,I.FI a o hk,hc,hd,by simpa using hs⟩,?_⟩;have e:=r.length;simp only [Array.length_toList]at e;omega
theorem Inv.tuple (I:Inv X pins σ H s)(h:dz X.K H a xs):∃ its:List Value,Vals xs its/\IsTup s.heap a its.toArray/\xs.length<=sizeLine:=by
 rcases h with h|⟨o,its,n,hk,hc,hs,hz,r⟩
 ·obtain⟨z,its,r,p⟩:=h.ok I.hok;exact⟨its,r,p,z⟩
 ·refine⟨its.toList,r,⟨o,I.FI a o hk,hc,n,by simpa using hs⟩,?_⟩;have e:=r.length;simp only [Array.length_toList]at e;omega
theorem Inv.LL (I:Inv X pins σ H s)(h:aR X.K H a xs)(h':aR X.K H a ys):xs=ys:=by
 obtain⟨its,r,⟨o,n,e,_,_,d⟩,_⟩:=I.list h;obtain⟨its',r',⟨o',n',e',_,_,d'⟩,_⟩:=I.list h';rw[e]at e';cases e';rw[d]at d'
 injection d' with d1 _
 have:its=its':=by simpa using Ya' Array.toList d1
 subst this;exact r.inj r'
theorem Inv.Vl (I:Inv X pins σ H s)(h:dz X.K H a xs)(h':dz X.K H a ys):xs=ys:=by
 obtain⟨its,r,⟨o,e,_,n,d⟩,_⟩:=I.tuple h;obtain⟨its',r',⟨o',e',_,n',d'⟩,_⟩:=I.tuple h';rw[e]at e';cases e';rw[d]at d'
 injection d' with d1 _
 have:its=its':=by simpa using Ya' Array.toList d1
 subst this;exact r.inj r'
end
abbrev Cx.wish (X:Cx)(E:Value->Shared->Prop):Cx:={ X with xe:=E }
abbrev Cx.nox (X:Cx):Cx:=X.wish fun _ _=>False
theorem Cx.Ok.wish {X:Cx}(ok:X.Ok)(E:Value->Shared->Prop):(X.wish E).Ok :=
 ⟨ok.mod,ok.kind,ok.glob,ok.blt,ok.above,ok.inj,ok.has,ok.cab,ok.hd,ok.frames,ok.stk,ok.exf,ok.bs,ok.LJ,ok.IJ,ok.IK,ok.yu,ok.frf⟩
theorem Cx.Ok.qQ {X:Cx}{E:Value->Shared->Prop}(ok:(X.wish E).Ok):X.Ok :=
 ⟨ok.mod,ok.kind,ok.glob,ok.blt,ok.above,ok.inj,ok.has,ok.cab,ok.hd,ok.frames,ok.stk,ok.exf,ok.bs,ok.LJ,ok.IJ,ok.IK,ok.yu,ok.frf⟩
section
variable {X:Cx} {pins:List (Addr×Obj)} {σ:St} {H:Hp} {s:Shared} {E:Value->Shared->Prop}
theorem Inv.wish (I:Inv X pins σ H s)(E:Value->Shared->Prop):Inv (X.wish E) pins σ H s:=⟨I.ok.wish E,I.os,I.bare,I.base,I.loc,I.cell,I.free,I.lu,I.pin,I.hok,I.len⟩
theorem Inv.qQ (I:Inv (X.wish E) pins σ H s):Inv X pins σ H s:=⟨I.ok.qQ,I.os,I.bare,I.base,I.loc,I.cell,I.free,I.lu,I.pin,I.hok,I.len⟩
theorem SP.qQ {D:Ends}{f:Flow}{s':Shared}(h:SP (X.wish E) pins D f s'):SP X pins D f s':=by
 cases f with
 |next=>obtain⟨σ',H',I,q⟩:=h;exact⟨σ',H',I.qQ,q⟩
 |brk=>obtain⟨σ',H',I,q⟩:=h;exact⟨σ',H',I.qQ,q⟩
 |cont=>obtain⟨σ',H',I,q⟩:=h;exact⟨σ',H',I.qQ,q⟩
 |ret u=>obtain⟨v,σ',H',I,r,q⟩:=h;exact⟨v,σ',H',I.qQ,r,q⟩
theorem NT.nox {st:List Stmt}{t:TS}(h:NT X.nox st t):NT X st t:=fun pins s σ H D I hw =>
 wpAny_mono (h pins s σ H D (I.wish _) hw) (fun _ _ q=>q.qQ) fun _ _ z=>False.elim z
end
section
variable {X:Cx} {st:Stmt} {rest:List Stmt} {t u:TS} {e:Expr} {te:TE} {pos:Pos}
def ahw:TS:=fun D σ H=>D.nx σ H
def acD (t u:TS):TS:=fun D σ H=>t { D with nx:=u D } σ H
theorem az:NT X [] ahw:=fun _ _ σ H _ I h=>wpAny_execs_nil ⟨σ,H,I,h⟩
theorem af (h1:PS X st t)(h2:NT X rest u):NT X (st::rest) (acD t u):=by
 intro pins s σ H D I h;refine wpAny_execs_cons (cu (h1 pins s σ H { D with nx:=u D } I h) fun f s1 q=>?_);cases f with
 |next =>
  obtain⟨σ',H',I',q⟩:=q;exact h2 pins s1 σ' H' D I' q
 |ret v=>exact q
 |brk=>exact q
 |cont=>exact q
theorem ai (h1:PS X st t):NT X [st] t:=by
 intro pins s σ H D I h;refine wpAny_execs_cons (cu (h1 pins s σ H D I h) fun f s1 q=>?_);cases f with
 |next=>exact wpAny_execs_nil q
 |ret v=>exact q
 |brk=>exact q
 |cont=>exact q
theorem Inv.quiet {pins:List (Addr×Obj)}{σ:St}{H:Hp}{s:Shared}(I:Inv X pins σ H s):interactive X.env=false:=by simp[interactive,I.ok.kind]
def ahx (te:TE):TS:=fun D σ H=>te σ H fun _ H1=>D.nx σ H1
theorem bQ (he:PE X e te)(hs:swapsWith e none pos.line X.env=pure false:=by rfl):PS X (.Expr e pos) (ahx te):=by
 intro pins s σ H D I h;exact wpAny_Expr_any (cu (he pins s σ H _ I h) fun v s1 ⟨x,H1,I1,r1,q1⟩=>⟨σ,H1,I1,q1⟩) I.quiet hs
def akW (te:TE):TS:=fun D σ H=>te σ H D.rt
theorem ay (he:PE X e te):PS X (.Return (some e) pos) (akW te):=by
 intro pins s σ H D I h;exact wpAny_Return_some (cu (he pins s σ H _ I h) fun v s1 ⟨x,H1,I1,r1,q1⟩=>⟨x,σ,H1,I1,r1,q1⟩)
def ahy:TS:=fun D _ H=>D.rt .non H
theorem acE:PS X (.Return none pos) ahy:=fun _ _ σ H _ I h=>wpAny_Return_none ⟨.non,σ,H,I,rfl,h⟩
def akX (c:TT)(t u:TS):TS:=fun D σ H=>c σ H fun b H1=>if b=true then t D σ H1 else u D σ H1
theorem aM {c:Expr}{a b:List Stmt}{tc:TT}(hc:PT X c tc)(ha:NT X a t)(hb:NT X b u):PS X (.If c a b pos) (akX tc t u):=by
 intro pins s σ H D I h;refine wpAny_If (cu (hc pins s σ H _ I h) fun d s1 ⟨H1,I1,q1⟩=>?_);cases d with
 |true=>exact ha pins s1 σ H1 D I1 q1
 |false=>exact hb pins s1 σ H1 D I1 q1
end
abbrev TG:=V->St->Hp->(St->Hp->Prop)->Prop
abbrev TGs:=List V->St->Hp->(St->Hp->Prop)->Prop
def PG (X:Cx)(target:Expr)(t:TG):Prop :=
 ∀(pins:List (Addr×Obj)) (s:Shared) (σ:St) (H:Hp) (v:V) (u:Value) (Q:St->Hp->Prop),Inv X pins σ H s->RelV v u->t v σ H Q ->
  wpAny (model X.prog X.w) X.A (assign target X.env u) (fun _ s'=>∃ σ' H',Inv X pins σ' H' s'/\Q σ' H') X.xe s
def PGs (X:Cx)(ts:List Expr)(t:TGs):Prop :=
 ∀(pins:List (Addr×Obj)) (s:Shared) (σ:St) (H:Hp) (vs:List V) (us:List Value) (Q:St->Hp->Prop),Inv X pins σ H s->Vals vs us->t vs σ H Q ->
  wpAny (model X.prog X.w) X.A (assignInOrder ((assignEach ts X.env).map (·.2)) us) (fun _ s'=>∃ σ' H',Inv X pins σ' H' s'/\Q σ' H') X.xe s
abbrev afz:=V->V->V->Hp->(Hp->Prop)->Prop
def ahz (X:Cx)(t:afz):Prop :=
 ∀(pins:List (Addr×Obj)) (s:Shared) (σ:St) (H:Hp) (o i v:V) (ov iv u:Value) (Q:Hp->Prop),Inv X pins σ H s->RelV o ov->RelV i iv->RelV v u->t o i v H Q ->
  wpAny (model X.prog X.w) X.A (setItem ov iv u) (fun _ s'=>∃ H',Inv X pins σ H' s'/\Q H') X.xe s
section
variable {X:Cx} {pos:Pos}
def HG (i:Nat):TG:=fun v σ H Q=>Q (σ.set i (some v)) H
theorem aG {i:Nat}{x:Str}(hN:X.N.Nodup)(hi:X.N[i]? = some x)(hx:Loc X.env.scope x)(hf:X.fn x=true\/X.env.scope.names.lookup x=some .local:=by first|exact .inl rfl|exact .inr rfl|assumption):PG X (.Name x pos) (HG i):=by
 intro pins s σ H v u Q I r h;exact wpAny_assign_Name (vI I hN hi hx r (fun s' I'=>⟨_,H,I',h⟩) hf)
def akY:TGs:=fun vs σ H Q=>vs=[]/\Q σ H
inductive X9 (t:TG)(u:TGs)(vs:List V)(σ:St)(H:Hp)(Q:(St->Hp->Prop)):Prop
 |mk (v:_) (r:_) (tQ:vs=v::r) (tR:t v σ H fun σ' H'=>u r σ' H' Q):X9 t u vs σ H Q
def ahA (t:TG)(u:TGs):TGs:=fun vs σ H Q=>X9 t u vs σ H Q
theorem cK:PGs X [] akY:=by
 intro pins s σ H vs us Q I r h;obtain⟨e,h⟩:=h;subst e;cases r;exact assignInOrder_nil ⟨σ,H,I,h⟩
theorem aN {e:Expr}{es:List Expr}{t:TG}{u:TGs}(h1:PG X e t)(h2:PGs X es u)
  (hs:(assignEach (e::es) X.env).map (·.2)=assign e X.env::(assignEach es X.env).map (·.2):=by rfl):PGs X (e::es) (ahA t u):=by
 intro pins s σ H vs us Q I r h;obtain⟨v,vr,e1,h⟩:=h;subst e1;cases r with
 |cons r rr =>
  rw[hs];refine assignInOrder_cons (cu (h1 pins s σ H _ _ _ I r h) fun _ s1 ⟨σ1,H1,I1,q1⟩=>?_);exact h2 pins s1 σ1 H1 _ _ Q I1 rr q1
inductive aej (K:Frag)(n:Nat)(t:TGs)(v:V)(σ:St)(H:Hp)(Q:(St->Hp->Prop)):Prop
 |mk (a:_) (xs:_) (tQ:v=.ref a) (tR:dz K H a xs) (CZ:xs.length=n) (NU:t xs σ H Q):aej K n t v σ H Q
def akZ (K:Frag)(n:Nat)(t:TGs):TG:=fun v σ H Q=>aej K n t v σ H Q
theorem dC {es:List Expr}{k:Nat}{t:TGs}{n:Nat}(hc:X.calm=true)(h:PGs X es t)
  (hn:(assignEach es X.env).length=n:=by rfl) (hst:(assignEach es X.env).findIdx? (·.1)=none:=by rfl):PG X (.Tuple es k pos) (akZ X.K n t):=by
 intro pins s σ H v u Q I r hw;obtain⟨a,xs,e1,hq,hl,hw⟩:=hw;subst e1;cases r;obtain⟨its,rv,ht,hz⟩:=I.tuple hq;refine assign_Tuple_tuple (I.ok.hd hc) ht (by simp[hn,<-hl,rv.length]) hst fun h' hx=>?_;have I1:Inv X pins σ H { s with heap:=h' }:=I.kept (t':=s.toks) fun b o e=>hx b o (Za' (P' e)) e;exact h pins _ σ H xs _ Q I1 (by simpa using rv) hw
def Yb (to ti:TE)(t:afz):TG:=fun v σ H Q=>to σ H fun o H1=>ti σ H1 fun i H2=>t o i v H2 fun H3=>Q σ H3
theorem ua {o i:Expr}{to ti:TE}{t:afz}(ho:PE X o to)(hi:PE X i ti)(hs:ahz X t)
  (ha:∀ v,assign (.Subscript o i pos) X.env v=(do
   let ov <-holding [v] (eval o X.env)
   let iv <-holding [v,ov] (eval i X.env)
   standAt pos
   holding [v,ov,iv] (setItem ov iv v)
   release [v,ov,iv] []):=by intro _;rfl):PG X (.Subscript o i pos) (Yb to ti t):=by
 intro pins s σ H v u Q I r h;rw[ha];refine L' (wpAny_holding (cu (ho pins s σ H _ I h) fun ov s1 ⟨x,H1,I1,r1,q1⟩=>?_));refine L' (wpAny_holding (cu (hi pins s1 σ H1 _ I1 q1) fun iv s2 ⟨y,H2,I2,r2,q2⟩=>?_));refine L' (wpAny_standAt (L' (wpAny_holding (cu (hs pins s2 σ H2 x y v ov iv u _ I2 r1 r2 r q2) fun _ s3 ⟨H3,I3,q3⟩=>?_))));exact wpAny_release ⟨σ,H3,I3,q3⟩
def acG (te:TE)(g:TG):TS:=fun D σ H=>te σ H fun x H1=>g x σ H1 D.nx
theorem lx {tg e:Expr}{te:TE}{g:TG}(he:PE X e te)(hg:PG X tg g)(hs:swapsWithSole [tg] e pos.line X.env=pure false:=by rfl)(hw:swappedStores [tg] e X.env=pure none:=by rfl)
  (h1:(assignEach [tg] X.env).map (·.2)=[assign tg X.env]:=by rfl):PS X (.Assign [tg] e pos) (acG te g):=by
 intro pins s σ H D I h;refine wpAny_Assign_stores (cu (he pins s σ H _ I h) fun v s1 ⟨x,H1,I1,r1,q1⟩=>?_) hs hw;rw[h1];exact cu (hg pins s1 σ H1 x v _ I1 r1 q1) fun _ s2 q=>q
theorem aH {i:Nat}{x:Str}{e:Expr}{te:TE}{pos':Pos}(hN:X.N.Nodup)(hi:X.N[i]? = some x)(hx:Loc X.env.scope x)(he:PE X e te)(hs:swapsWith e (some (.Name x pos')) pos.line X.env=pure false:=by rfl)(hf:X.fn x=true\/X.env.scope.names.lookup x=some .local:=by first|exact .inl rfl|exact .inr rfl|assumption) :
  PS X (.Assign [.Name x pos'] e pos) (acG te (HG i)):=by
 intro pins s σ H D I h;refine wpAny_Assign_Name (cu (he pins s σ H _ I h) fun v s1 ⟨y,H1,I1,r1,q1⟩=>?_) hs;exact vI I1 hN hi hx r1 (fun s2 I2=>⟨_,H1,I2,q1⟩) hf
def ak0 (i j:Nat)(ta:TA):TS:=fun D σ H=>ta σ H fun vs H1=>∃ v w,vs=[v,w]/\D.nx ((σ.set i (some v)).set j (some w)) H1
theorem afA {i j:Nat}{x y:Str}{a b:Expr}{ta:TA}{px py pt:Pos}{kt k2 pt2}(hc:X.calm=true)(hN:X.N.Nodup)(hi:X.N[i]? = some x)(hj:X.N[j]? = some y)(hij:i≠j)
  (hx:X.env.scope.names.lookup x=some .local) (hy:X.env.scope.names.lookup y=some .local) (ha:PA X [a,b] ta)
  (hw:swappedStores [.Tuple [.Name x px,.Name y py] kt pt] (.Tuple [a,b] k2 pt2) X.env=pure (some [x,y]))
  (hs:swapsWithSole [.Tuple [.Name x px,.Name y py] kt pt] (.Tuple [a,b] k2 pt2) pos.line X.env=pure false:=by rfl) :
  PS X (.Assign [.Tuple [.Name x px,.Name y py] kt pt] (.Tuple [a,b] k2 pt2) pos) (ak0 i j ta):=by
 intro pins s σ H D I h;rw[exec_Assign_arm];refine L' (wpAny_standAt ?_);rw[hs];refine L' (Y' ?_);rw[M' (by decide)];refine L' (Tuple_ (cu (ha _ pins s σ H _ I h) fun us s1 ⟨vs,H1,I1,r1,q1⟩=>?_));obtain⟨v,w,e1,q1⟩:=q1;subst e1;obtain⟨u1,u2,rfl,rv,NY⟩:∃ u1 u2,us=[u1,u2]/\RelV v u1/\RelV w u2:=by
  cases r1 with
  |cons p q =>
   cases q with
   |cons p' q' =>
    cases q';exact⟨_,_,rfl,p,p'⟩
 refine wpAny_newObj_type ?_ (by show 2<=sizeLine;decide);have I2:Inv X pins σ H1 { s1 with heap:=s1.heap.push { cls:=.type "tuple",data:=.seq [u1,u2].toArray } }:=I1.kept (t':=s1.toks) fun b o e=>G' _ e;rw[hw];refine L' (Y' ?_);show wpAny (model X.prog X.w) X.A (do rule "assign.swapped-stores";let items <-unpackItems (.ref s1.heap.objs.size) 2 none;assignInOrder [fun v=>bindName X.env y v,fun v=>bindName X.env x v] items.reverse;pure Flow.next) _ _ _;refine L' (wpAny_rule (L' (unpackItems_tuple (items:=#[u1,u2]) (I.ok.hd hc) (IsTup.new s1.heap _) fun h' hx'=>?_)));have I3:=I2.kept (h':=h') (t':=s1.toks) fun b o e=>hx' b o (Za' (P' e)) e;show wpAny _ _ (assignInOrder [fun v=>bindName X.env y v,fun v=>bindName X.env x v] [u2,u1] >>= fun _=>pure Flow.next) _ _ _;refine L' (assignInOrder_cons (wpAny_bindName (vI I3 hN hj (.inl hy) NY (fun s2 I4=>?_) (.inr hy))));refine assignInOrder_cons (wpAny_bindName (vI I4 hN hi (.inl hx) rv (fun s3 I5=>assignInOrder_nil (Y' ?_)) (.inr hx)));rw[List.set_comm _ _ (Yb' hij)]at I5;exact⟨_,H1,I5,q1⟩
end
section
variable {X:Cx} {pos:Pos}
def afB (c:TT)(tb:TS):TS:=fun D σ H=>∃ W:Nat->St->Hp->Prop,(∃ m,W m σ H)/\∀ m σ H,W m σ H ->
 c σ H fun b H1=>if b=true then ∃ N:St->Hp->Prop,(∀ σ' H',N σ' H'->∃ m',m'<m/\W m' σ' H')/\tb { D with nx:=N,ct:=N,bk:=D.nx } σ H1 else D.nx σ H1
theorem Dk {c:Expr}{body:List Stmt}{tc:TT}{tb:TS}(hp:PassesOwn (model X.prog X.w) X.A X.env X.xe)(hc:PT X c tc)(hb:NT X body tb):PS X (.While c body [] pos) (afB tc tb):=by
 intro pins s σ H D I h;obtain⟨W,⟨m0,w0⟩,turn⟩:=h;refine wpAny_While (codeAny_whileLoop (fun n s'=>∃ σ' H',Inv X pins σ' H' s'/\W n σ' H') ?_ m0 ⟨σ,H,I,w0⟩);rintro n s1 ⟨σ1,H1,I1,w1⟩;refine wpAny_passesOwn hp (cu (hc pins s1 σ1 H1 _ I1 (turn n σ1 H1 w1)) fun b s2 ⟨H2,I2,q2⟩=>?_);cases b with
 |true =>
  obtain⟨N,hN,q2⟩:=q2;rw[S' rfl];refine wpAny_passesOwn hp (cu (hb pins s2 σ1 H2 _ I2 q2) fun f s3 q3=>?_);cases f with
  |next =>
   obtain⟨σ3,H3,I3,n3⟩:=q3;obtain⟨m',hm,w3⟩:=hN σ3 H3 n3;exact⟨m',hm,σ3,H3,I3,w3⟩
  |cont =>
   obtain⟨σ3,H3,I3,n3⟩:=q3;obtain⟨m',hm,w3⟩:=hN σ3 H3 n3;exact⟨m',hm,σ3,H3,I3,w3⟩
  |brk=>exact q3
  |ret v=>exact q3
 |false =>
  rw[M' Z'];exact wpAny_execs_nil ⟨σ1,H2,I2,q2⟩
end
structure It where
 go:Nat->Hp->Prop
 NV:Nat->Hp->V->Hp->Prop
 stop:Nat->Hp->Prop
def jh (X:Cx)(pins:List (Addr×Obj))(H:Hp)(b:Addr):Prop :=
 H b=none/\b≠X.env.locals/\b ∉ X.fs/\(b∈X.ex\/X.s₀.heap.objs.size<=b)/\(∀ x c,X.env.cells.lookup x=some c->c≠b)/\∀ p∈X.pn++pins,p.1≠b
theorem Inv.IM {X:Cx}{pins:List (Addr×Obj)}{σ:St}{H H':Hp}{s:Shared}{b:Addr}(I:Inv X pins σ H s)(hb:s.heap.objs.size<=b)(hn:H' b=none):jh X pins H' b:=by
 refine⟨hn,Nat.ne_of_gt (U' I.lt hb),I.akQ hb,.inr (Zk' I.sz hb),fun x c e z=>?_,fun p hp z=>?_⟩
 ·obtain⟨v,q⟩:=I.cell x c e;exact j' (U' q.lt (by rw[z];exact hb)) (Nat.lt_irrefl _)
 ·exact j' (U' (P' (I.pin p hp).1) (by rw[z];exact hb)) (Nat.lt_irrefl _)
structure Turn (P:Program)(w:World)(K:Frag)(tg:Expr)(J:It)(fp:List Addr)(it:Addr)(tn:Nat->Heap->Prop):Prop where
 mem:it∈fp
 obj:∀ i h,tn i h->∀ b∈fp,∃ o,h.get? b=some o/\∀ v,o.data≠.cell v
 keep:∀ i h h',tn i h->(∀ b∈fp,∀ o,h.get? b=some o->h'.get? b=some o)->tn i h'
 item:∀(X:Cx),X.prog=P->X.w=w->X.K=K->X.calm=true->∀(i:Nat)(pins:List (Addr×Obj)) (s:Shared) (σ:St) (H:Hp) (E:Value->Shared->Prop),Inv X pins σ H s->(∀ b∈fp,jh X pins H b)->tn i s.heap->J.go i H ->
  wpAny (model P w) X.A (pyNext (.ref it)) (fun r s1=>∃ u,r=some u /\
   wpAny (model P w) X.A (letOwnedTupleGo tg (.ref it) u) (fun _ s2=>∃ x H',Inv X pins σ H' s2/\RelV x u/\J.NV i H x H'/\tn (i+1) s2.heap/\∀ b∈fp,H' b=none) E s1) E s
 done:∀(X:Cx),X.prog=P->X.w=w->X.K=K->X.calm=true->∀(i:Nat)(pins:List (Addr×Obj)) (s:Shared) (σ:St) (H:Hp) (E:Value->Shared->Prop),Inv X pins σ H s->(∀ b∈fp,jh X pins H b)->tn i s.heap->J.stop i H ->
  wpAny (model P w) X.A (pyNext (.ref it)) (fun r s1=>r=none/\Inv X pins σ H s1) E s
 self:∀(A:Around)(i:Nat)(s:Shared)(Q:Value->Shared->Prop)(E:Value->Shared->Prop),tn i s.heap->Q (.ref it) s->wpAny (model P w) A (pyIter (.ref it)) Q E s
abbrev TI:=St->Hp->(It->Hp->Prop)->Prop
def PIE (X:Cx)(pins:List (Addr×Obj))(σ:St)(tg:Expr)(R:It->Hp->Prop)(itv:Value)(s2:Shared):Prop :=
 ∃(it:Addr)(fp:List Addr)(tn:Nat->Heap->Prop)(J:It)(H':Hp),itv=.ref it/\Inv X pins σ H' s2/\Turn X.prog X.w X.K tg J fp it tn/\tn 0 s2.heap/\(∀ b∈fp,jh X pins H' b)/\R J H'
def PI (X:Cx)(tg iter:Expr)(wi:TI):Prop :=
 ∀(pins:List (Addr×Obj)) (s:Shared) (σ:St) (H:Hp) (R:It->Hp->Prop),Inv X pins σ H s->wi σ H R ->
  wpAny (model X.prog X.w) X.A (eval iter X.env) (fun v s1=>wpAny (model X.prog X.w) X.A (pyIter v) (PIE X pins σ tg R) X.xe s1) X.xe s
theorem UA {M:Model}{A:Around}{E:Value->Shared->Prop}{s:Shared}{tg:Expr}{it:Addr}{u:Value}{o:Obj}{n:String}{vs:Array Value}{Q:Unit->Shared->Prop}(ho:s.heap.get? it=some o)(hc:o.cls=.type n)(hd:o.data=.fields vs)
  (hn:["enumerate","zip","dict_itemiterator","dict_reverseitemiterator","odict_iterator","itertools.zip_longest","itertools.pairwise"].contains n=false) (hQ:Q () s):wpAny M A (letOwnedTupleGo tg (.ref it) u) Q E s:=by
 unfold letOwnedTupleGo;cases tg <;> first
  |exact Y' hQ
  |(cases u <;> first
    |exact Y' hQ
    |(refine L' (wpAny_load ho ?_);rw[hc,hd];show wpAny M A (if(["enumerate","zip","dict_itemiterator","dict_reverseitemiterator","odict_iterator","itertools.zip_longest","itertools.pairwise"].contains n&&vs[0]? == some (rawInt _))=true then _ else _) Q E s;rw[M' (by intro h;rw[hn,Bool.false_and]at h;cases h)];exact Y' hQ))
def Itl (K:Frag)(a:Addr):It :=
 ⟨fun i H=>∃ xs x,aR K H a xs/\xs[i]? = some x,fun i H x H'=>H'=H/\∀ xs,aR K H a xs->xs[i]? = some x,fun i H=>∃ xs,aR K H a xs/\xs.length<=i⟩
def Itt (K:Frag)(a:Addr):It :=
 ⟨fun i H=>∃ xs x,dz K H a xs/\xs[i]? = some x,fun i H x H'=>H'=H/\∀ xs,dz K H a xs->xs[i]? = some x,fun i H=>∃ xs,dz K H a xs/\xs.length<=i⟩
def Itr (lo:Int)(n:Nat):It:=⟨fun i _=>i<n,fun i H x H'=>H'=H/\x=.int (lo+i),fun i _=>n<=i⟩
theorem Vm {P:Program}{w:World}{K:Frag}{tg:Expr}(a it:Addr):Turn P w K tg (Itl K a) [it] it (fun i h=>h.IsListIter it a i) where
 mem:=by simp
 obj:=fun i h st b hb=>by
  have e:b=it:=by simpa using hb
  subst e;obtain⟨o,e,c,d⟩:=st;exact⟨o,e,fun v z=>by rw[d]at z;cases z⟩
 keep:=fun i h h' st k=>st.at fun o e=>k it (by simp) o e
 item:=by
  intro X hP hw hK hc i pins s σ H E I hf st hg;subst hP hw hK;obtain⟨xs,x,hq,hx⟩:=hg;obtain⟨its,rv,p,hz⟩:=I.list hq;obtain⟨u,hu,ru⟩:=rv.get hx;obtain⟨f0,f1,f2,f3,f4,f5⟩:=hf it (by simp);refine wpAny_pyNext_list_item st p.isList (x:=u) (by simpa using hu) fun h' st' sb=>?_;have I1:Inv X pins σ H { s with heap:=h' }:=I.turned (t':=s.toks) (fun b o hb e=>(sb.2 b hb).trans e) f0 f1 f3 f4 f5;obtain⟨o,e,c,d⟩:=id st';exact⟨u,rfl,UA (s:={ s with heap:=h' }) e c d (by decide) ⟨x,H,I1,ru,⟨rfl,fun ys hy=>by rw[I.LL hy hq];exact hx⟩,st',fun b hb=>(hf b hb).1⟩⟩
 done:=by
  intro X hP hw hK hc i pins s σ H E I hf st hg;subst hP hw hK;obtain⟨xs,hq,hx⟩:=hg;obtain⟨its,rv,p,hz⟩:=I.list hq;obtain⟨f0,f1,f2,f3,f4,f5⟩:=hf it (by simp);have hl:=rv.length;exact wpAny_pyNext_list_end (I.ok.hd hc) st p.isList (by simp;omega) fun h' eb=>⟨rfl,I.turned (t':=s.toks) (fun b o hb e=>eb b o hb e) f0 f1 f3 f4 f5⟩
 self:=fun _ _ _ _ _ st h=>wpAny_pyIter_listiter st h
theorem NZ {P:Program}{w:World}{K:Frag}{tg:Expr}(a it:Addr):Turn P w K tg (Itt K a) [it] it (fun i h=>h.IsTupleIter it a i) where
 mem:=by simp
 obj:=fun i h st b hb=>by
  have e:b=it:=by simpa using hb
  subst e;obtain⟨o,e,c,d⟩:=st;exact⟨o,e,fun v z=>by rw[d]at z;cases z⟩
 keep:=fun i h h' st k=>st.at fun o e=>k it (by simp) o e
 item:=by
  intro X hP hw hK hc i pins s σ H E I hf st hg;subst hP hw hK;obtain⟨xs,x,hq,hx⟩:=hg;obtain⟨its,rv,p,hz⟩:=I.tuple hq;obtain⟨u,hu,ru⟩:=rv.get hx;obtain⟨f0,f1,f2,f3,f4,f5⟩:=hf it (by simp);refine wpAny_pyNext_tuple_item st (show s.heap.IsTuple a its.toArray from p) (x:=u) (by simpa using hu) fun h' st' sb=>?_;have I1:Inv X pins σ H { s with heap:=h' }:=I.turned (t':=s.toks) (fun b o hb e=>(sb.2 b hb).trans e) f0 f1 f3 f4 f5;obtain⟨o,e,c,d⟩:=id st';exact⟨u,rfl,UA (s:={ s with heap:=h' }) e c d (by decide) ⟨x,H,I1,ru,⟨rfl,fun ys hy=>by rw[I.Vl hy hq];exact hx⟩,st',fun b hb=>(hf b hb).1⟩⟩
 done:=by
  intro X hP hw hK hc i pins s σ H E I hf st hg;subst hP hw hK;obtain⟨xs,hq,hx⟩:=hg;obtain⟨its,rv,p,hz⟩:=I.tuple hq;obtain⟨f0,f1,f2,f3,f4,f5⟩:=hf it (by simp);have hl:=rv.length;exact wpAny_pyNext_tuple_end (I.ok.hd hc) st (show s.heap.IsTuple a its.toArray from p) (by simp;omega) fun h' eb=>⟨rfl,I.turned (t':=s.toks) (fun b o hb e=>eb b o hb e) f0 f1 f3 f4 f5⟩
 self:=fun _ _ _ _ _ st h=>wpAny_pyIter_tupleiter st h
theorem N1 {P:Program}{w:World}{K:Frag}{tg:Expr}(it:Addr)(lo:Int)(n:Nat):Turn P w K tg (Itr lo n) [it] it (fun i h=>IsRangeIter h it (lo+(i:Nat) * 1) ((n:Int)-(i:Nat)) 1) where
 mem:=by simp
 obj:=fun i h st b hb=>by
  have e:b=it:=by simpa using hb
  subst e;exact⟨_,st,fun v z=>by
   have z':Data.fields _=Data.cell v:=z;cases z'⟩
 keep:=fun i h h' st k=>k it (by simp) _ st
 item:=by
  intro X hP hw hK hc i pins s σ H E I hf st hg;subst hP hw hK;obtain⟨f0,f1,f2,f3,f4,f5⟩:=hf it (by simp);have W:=Walks.range (prog:=X.prog) (w:=X.w) (I.ok.hd hc) it lo 1 n;refine W.item i s _ _ hg st fun v h' tk hv st' kk=>?_;obtain⟨t,rfl⟩:=hv;have I1:Inv X pins σ H { s with heap:=h',toks:=tk }:=I.turned (fun b o hb e=>kk b o (by simpa using hb) e) f0 f1 f3 f4 f5;refine⟨_,rfl,UA (s:={ s with heap:=h',toks:=tk }) (n:="range_iterator") st' rfl rfl (by decide) ⟨.int (lo+i),H,I1,⟨t,?_⟩,⟨rfl,rfl⟩,st',fun b hb=>(hf b hb).1⟩⟩;rw[Int.mul_one]
 done:=by
  intro X hP hw hK hc i pins s σ H E I hf st hg;subst hP hw hK;obtain⟨f0,f1,f2,f3,f4,f5⟩:=hf it (by simp);exact wpAny_pyNext_range_end (I.ok.hd hc) st (by have:n<=i:=hg;omega) fun h' eb=>⟨rfl,I.turned (t':=s.toks) (fun b o hb e=>eb b o hb e) f0 f1 f3 f4 f5⟩
 self:=fun _ _ _ _ _ st h=>wpAny_pyIter_rangeiter st h
end L2
namespace L2
open PySem PySem.Spec PyProof.Rows
section
variable {X:Cx} {tg:Expr}
inductive Yc (K:Frag)(R:(It->Hp->Prop))(x:V)(H1:Hp):Prop
 |mk (a:_) (tQ:x=.ref a) (tR:(∃ xs,aR K H1 a xs)/\R (Itl K a) H1):Yc K R x H1
def ahB (K:Frag)(tl:TE):TI:=fun σ H R=>tl σ H fun x H1=>Yc K R x H1
inductive ael (K:Frag)(R:(It->Hp->Prop))(x:V)(H1:Hp):Prop
 |mk (a:_) (tQ:x=.ref a) (tR:(∃ xs,dz K H1 a xs)/\R (Itt K a) H1):ael K R x H1
def ak2 (K:Frag)(tl:TE):TI:=fun σ H R=>tl σ H fun x H1=>ael K R x H1
theorem bR {l:Expr}{tl:TE}(hl:PE X l tl):PI X tg l (ahB X.K tl):=by
 intro pins s σ H R I h;refine cu (hl pins s σ H _ I h) fun v s1 ⟨x,H1,I1,r1,q1⟩=>?_;obtain⟨a,e,⟨xs,hq⟩,q⟩:=q1;subst e;cases r1;obtain⟨its,rv,p,hz⟩:=I1.list hq;refine wpAny_pyIter_list p.isList ?_;refine⟨s1.heap.objs.size,[s1.heap.objs.size],_,_,H1,rfl,I1.kept (t':=s1.toks) fun b o e=>G' _ e,Vm a _,⟨_,Zd' _ rfl,rfl,rfl⟩,fun b hb=>?_,q⟩;have e:b=s1.heap.objs.size:=by simpa using hb
 subst e;exact I1.IM (A' _) (I1.hok.fresh (A' _))
theorem IP {l:Expr}{tl:TE}(hl:PE X l tl):PI X tg l (ak2 X.K tl):=by
 intro pins s σ H R I h;refine cu (hl pins s σ H _ I h) fun v s1 ⟨x,H1,I1,r1,q1⟩=>?_;obtain⟨a,e,⟨xs,hq⟩,q⟩:=q1;subst e;cases r1;obtain⟨its,rv,p,hz⟩:=I1.tuple hq;refine wpAny_pyIter_tuple (show s1.heap.IsTuple a its.toArray from p) ?_;refine⟨s1.heap.objs.size,[s1.heap.objs.size],_,_,H1,rfl,I1.kept (t':=s1.toks) fun b o e=>G' _ e,NZ a _,⟨_,Zd' _ rfl,rfl,rfl⟩,fun b hb=>?_,q⟩;have e:b=s1.heap.objs.size:=by simpa using hb
 subst e;exact I1.IM (A' _) (I1.hok.fresh (A' _))
theorem Yd {pins:List (Addr×Obj)}{σ:St}{H:Hp}{s:Shared}{R:It->Hp->Prop}{E:Value->Shared->Prop}{lo hi:Int}{t u v:Tok}{tk:Nat}(I:Inv X pins σ H s)(h1:-(2 ^ 62)<=lo)(h2:lo<2 ^ 62)(h3:-(2 ^ 62)<=hi)(h4:hi<2 ^ 62)
  (q:R (Itr lo (hi-lo).toNat) H):wpAny (model X.prog X.w) X.A (pyIter (.ref s.heap.objs.size)) (PIE X pins σ tg R) E { s with heap:=s.heap.push { cls:=.type "range",data:=.fields #[.int lo t,.int hi u,.int 1 v] },toks:=tk }:=by
 refine wpAny_pyIter_range (IsRange.new ..) (small_one h1 h2 h3 h4) ?_;have I1:Inv X pins σ H { s with heap:=s.heap.push { cls:=.type "range",data:=.fields #[.int lo t,.int hi u,.int 1 v] },toks:=tk }:=I.kept fun b o e=>G' _ e;refine⟨(s.heap.push { cls:=.type "range",data:=.fields #[.int lo t,.int hi u,.int 1 v] }).objs.size,[(s.heap.push { cls:=.type "range",data:=.fields #[.int lo t,.int hi u,.int 1 v] }).objs.size],_,_,H,rfl,
  I1.kept (t':=tk) fun b o e=>G' _ e,N1 _ lo (hi-lo).toNat,?_,fun b hb=>?_,q⟩
 ·have e1:lo+((0:Nat):Int) * 1=lo:=by simp
  have e2:(((hi-lo).toNat:Nat):Int)-((0:Nat):Int)=Builtin.Range.rangeSize lo hi 1:=by rw[rangeSize_one];split <;> omega
  show IsRangeIter _ _ (lo+((0:Nat):Int) * 1) ((((hi-lo).toNat:Nat):Int)-((0:Nat):Int)) 1;rw[e1,e2];exact Zd' _ rfl
 ·have e:b=(s.heap.push { cls:=.type "range",data:=.fields #[.int lo t,.int hi u,.int 1 v] }).objs.size:=by simpa using hb
  subst e;exact I1.IM (A' _) (I1.hok.fresh (A' _))
inductive Ye (R:(It->Hp->Prop))(vs:List V)(H1:Hp):Prop
 |mk (j:Int) (tQ:vs=[.int j]) (tR:-(2 ^ 62)<=j/\j<2 ^ 62/\R (Itr 0 j.toNat) H1):Ye R vs H1
def ahC (ta:TA):TI:=fun σ H R=>ta σ H fun vs H1=>Ye R vs H1
theorem g9 {a:Expr}{ta:TA}{p pos:Pos}(hg:Gl X "range")(hm:X.mg "range"=none)(ha:PA X [a] ta)(hs:starEach [a] X.env=[(false,eval a X.env)]:=by rfl):PI X tg (.Call (.Name "range" p) [a] [] pos) (ahC ta):=by
 intro pins s σ H R I h;refine Call_ (t7 I hg hm boot_range (PyProof.Rows.callWith_type1 (cu (ha pos pins s σ H _ I h) fun us s1 ⟨vs,H1,I1,r1,q1⟩=>?_) hs rfl));obtain⟨j,e,q1,q2,q⟩:=q1;subst e;cases r1 with
 |cons r rr =>
  cases rr;obtain⟨t,rfl⟩:=r;exact call_range_1 (Yd I1 (by omega) (by omega) q1 q2 (by simpa using q))
def ak3 (wi:TI)(g:TG)(tb:TS):TS:=fun D σ H=>wi σ H fun J H1=>∃ W:Nat->Nat->St->Hp->Prop,(∃ m,W 0 m σ H1)/\∀ i m σ H,W i m σ H ->
 (J.stop i H/\D.nx σ H)\/(J.go i H/\∃ N:St->Hp->Prop,(∀ σ' H',N σ' H'->∃ m',m'<m/\W (i+1) m' σ' H')/\∀ x H',J.NV i H x H'->g x σ H' fun σ2 H2=>tb { D with nx:=N,ct:=N,bk:=D.nx } σ2 H2)
def ub (fp:List Addr)(h:Heap):List (Addr×Obj):=fp.filterMap fun b=>(h.get? b).map fun o=>(b,o)
theorem eZ {fp:List Addr}{h:Heap}{b:Addr}{o:Obj}(hb:b∈fp)(e:h.get? b=some o):(b,o)∈ub fp h:=List.mem_filterMap.mpr ⟨b,hb,by rw[e];rfl⟩
theorem Vn {fp:List Addr}{h:Heap}{p:Addr×Obj}(hp:p∈ub fp h):p.1∈fp/\h.get? p.1=some p.2:=by
 obtain⟨b,hb,e⟩:=List.mem_filterMap.mp hp;cases q:h.get? b with
 |none=>rw[q]at e;cases e
 |some o =>
  rw[q]at e;have e':(b,o)=p:=Zc' e;subst e';exact⟨hb,q⟩
theorem Inv.pinned {pins:List (Addr×Obj)}{σ:St}{H:Hp}{s:Shared}{fp:List Addr}(I:Inv X pins σ H s)(hf:∀ b∈fp,jh X pins H b)(ho:∀ b∈fp,∃ o,s.heap.get? b=some o/\∀ v,o.data≠.cell v):Inv X (pins++ub fp s.heap) σ H s :=
 I.Uy fun p hp=>(Zq'.mp hp).elim (fun z=>I.pin p (Zm' _ z)) fun z=>by
  obtain⟨hb,e⟩:=Vn z;obtain⟨f0,f1,f2,_⟩:=hf p.1 hb;obtain⟨o,e',d⟩:=ho p.1 hb;rw[e]at e';cases e';exact⟨e,f0,f1,f2,d⟩
theorem Inv.iA {pins pl:List (Addr×Obj)}{σ:St}{H:Hp}{s:Shared}(I:Inv X (pins++pl) σ H s):Inv X pins σ H s:=I.Uy fun p hp=>I.pin p (Zm' _ (List.mem_append_left _ hp))
theorem cj {iter:Expr}{body:List Stmt}{wi:TI}{g:TG}{tb:TS}{pos:Pos}(hp:PassesOwn (model X.prog X.w) X.A X.env X.xe)(hc:X.calm=true)(hi:PI X tg iter wi)(hg:PG X tg g)(hb:NT X body tb)
  (hs:∀ x,foldedSetIterable iter X.env x=pure x:=by intro _;rfl):PS X (.For tg iter body [] pos) (ak3 wi g tb):=by
 intro pins s σ H D I h;refine wpAny_For (cu (hi pins s σ H _ I h) fun v s1 h1=>cu h1 fun itv s2 h2=>?_) hs;obtain⟨it,fp,tn,J,H2,e,I2,T,st2,f2,W,⟨m0,w0⟩,turn⟩:=h2;subst e;have stat:∀{H':Hp},(∀ b∈fp,H' b=none)->∀ b∈fp,jh X pins H' b:=fun hn b hb=>⟨hn b hb,(f2 b hb).2⟩;refine codeAny_forLoop_any (fun n s'=>∃ i σ' H',Inv X pins σ' H' s'/\tn i s'.heap/\(∀ b∈fp,H' b=none)/\W i n σ' H') ?_ m0 ⟨0,σ,H2,I2,st2,fun b hb=>(f2 b hb).1,w0⟩;rintro n s3 ⟨i,σ3,H3,I3,st3,fr3,w3⟩;rcases turn i n σ3 H3 w3 with ⟨stop,qn⟩|⟨go,N,hN,step⟩
 ·refine wpAny_passesOwn hp (cu (T.done X rfl rfl rfl hc i pins s3 σ3 H3 X.xe I3 (stat fr3) st3 stop) fun r s4 ⟨hr,I4⟩=>?_);subst hr;exact wpAny_execs_nil ⟨σ3,H3,I4,qn⟩
 ·refine wpAny_passesOwn hp (cu (T.item X rfl rfl rfl hc i pins s3 σ3 H3 X.xe I3 (stat fr3) st3 go) fun r s4 ⟨u,hr,h4⟩=>?_);subst hr;refine wpAny_passesOwn hp (cu h4 fun _ s5 ⟨x,H5,I5,r5,y5,LM,fr5⟩=>?_);have I5':=I5.pinned (stat fr5) (T.obj _ _ LM);refine wpAny_passesOwn hp (cu (hg _ s5 σ3 H5 x u _ I5' r5 (step x H5 y5)) fun _ s6 ⟨σ6,H6,I6,q6⟩=>?_);refine wpAny_passesOwn hp (cu (hb _ s6 σ6 H6 _ I6 q6) fun f s7 q7=>?_);have again:∀{σ7:St} {H7:Hp},Inv X (pins++ub fp s5.heap) σ7 H7 s7->N σ7 H7->∃ m,m<n/\∃ i σ' H',Inv X pins σ' H' s7/\tn i s7.heap/\(∀ b∈fp,H' b=none)/\W i m σ' H':=fun {σ7 H7} I7 n7=>by
   obtain⟨m',hm,w7⟩:=hN σ7 H7 n7;refine⟨m',hm,i+1,σ7,H7,I7.iA,T.keep _ _ _ LM fun b hb o e=>(I7.pin (b,o) (Zm' _ (Zm' _ (eZ hb e)))).1,fun b hb=>?_,w7⟩;obtain⟨o,e,d⟩:=T.obj _ _ LM b hb;exact(I7.pin (b,o) (Zm' _ (Zm' _ (eZ hb e)))).2.1
  cases f with
  |next=>obtain⟨σ7,H7,I7,n7⟩:=q7;exact again I7 n7
  |cont=>obtain⟨σ7,H7,I7,n7⟩:=q7;exact again I7 n7
  |brk=>obtain⟨σ7,H7,I7,q7⟩:=q7;exact⟨σ7,H7,I7.iA,q7⟩
  |ret v=>obtain⟨x7,σ7,H7,I7,r7,q7⟩:=q7;exact⟨x7,σ7,H7,I7.iA,r7,q7⟩
end
theorem dE {K:Frag}{a:Addr}{xs:List V}{g:TG}{tb:TS}{D:Ends}{σ:St}{H:Hp}(Pv:Nat->St->Hp->Prop)(h0:Pv 0 σ H)(hl:∀ i σ H,i<=xs.length->Pv i σ H->aR K H a xs)
  (hs:∀ i x σ H,xs[i]? = some x->Pv i σ H->g x σ H fun σ2 H2=>tb { D with nx:=Pv (i+1),ct:=Pv (i+1),bk:=D.nx } σ2 H2) (hd:∀ σ H,Pv xs.length σ H->D.nx σ H) :
  ∃ W:Nat->Nat->St->Hp->Prop,(∃ m,W 0 m σ H)/\∀ i m σ H,W i m σ H ->
   ((Itl K a).stop i H/\D.nx σ H)\/((Itl K a).go i H/\∃ N:St->Hp->Prop,(∀ σ' H',N σ' H'->∃ m',m'<m/\W (i+1) m' σ' H')/\∀ x H',(Itl K a).NV i H x H'->g x σ H' fun σ2 H2=>tb { D with nx:=N,ct:=N,bk:=D.nx } σ2 H2):=by
 refine⟨fun i m σ H=>m=xs.length-i/\i<=xs.length/\Pv i σ H,⟨xs.length,by simp,X' _,h0⟩,?_⟩;rintro i m σ H ⟨rfl,hi,p⟩;have q:=hl i σ H hi p
 by_cases hlt:i<xs.length
 ·refine .inr ⟨⟨xs,xs[i],q,by simp[hlt]⟩,Pv (i+1),fun σ' H' p'=>⟨xs.length-(i+1),by omega,rfl,hlt,p'⟩,fun x H' y=>?_⟩;obtain⟨e,y⟩:=y;subst e;exact hs i x σ _ (y xs q) p
 ·have e:i=xs.length:=by omega
  subst e;exact .inl ⟨⟨xs,q,A' _⟩,hd σ H p⟩
theorem IQ {K:Frag}{a:Addr}{xs:List V}{g:TG}{tb:TS}{D:Ends}{σ:St}{H:Hp}(Pv:Nat->St->Hp->Prop)(h0:Pv 0 σ H)(hl:∀ i σ H,i<=xs.length->Pv i σ H->dz K H a xs)
  (hs:∀ i x σ H,xs[i]? = some x->Pv i σ H->g x σ H fun σ2 H2=>tb { D with nx:=Pv (i+1),ct:=Pv (i+1),bk:=D.nx } σ2 H2) (hd:∀ σ H,Pv xs.length σ H->D.nx σ H) :
  ∃ W:Nat->Nat->St->Hp->Prop,(∃ m,W 0 m σ H)/\∀ i m σ H,W i m σ H ->
   ((Itt K a).stop i H/\D.nx σ H)\/((Itt K a).go i H/\∃ N:St->Hp->Prop,(∀ σ' H',N σ' H'->∃ m',m'<m/\W (i+1) m' σ' H')/\∀ x H',(Itt K a).NV i H x H'->g x σ H' fun σ2 H2=>tb { D with nx:=N,ct:=N,bk:=D.nx } σ2 H2):=by
 refine⟨fun i m σ H=>m=xs.length-i/\i<=xs.length/\Pv i σ H,⟨xs.length,by simp,X' _,h0⟩,?_⟩;rintro i m σ H ⟨rfl,hi,p⟩;have q:=hl i σ H hi p
 by_cases hlt:i<xs.length
 ·refine .inr ⟨⟨xs,xs[i],q,by simp[hlt]⟩,Pv (i+1),fun σ' H' p'=>⟨xs.length-(i+1),by omega,rfl,hlt,p'⟩,fun x H' y=>?_⟩;obtain⟨e,y⟩:=y;subst e;exact hs i x σ _ (y xs q) p
 ·have e:i=xs.length:=by omega
  subst e;exact .inl ⟨⟨xs,q,A' _⟩,hd σ H p⟩
theorem kU {lo:Int}{n:Nat}{g:TG}{tb:TS}{D:Ends}{σ:St}{H:Hp}(Pv:Nat->St->Hp->Prop)(h0:Pv 0 σ H)
  (hs:∀ i σ H,i<n->Pv i σ H->g (.int (lo+i)) σ H fun σ2 H2=>tb { D with nx:=Pv (i+1),ct:=Pv (i+1),bk:=D.nx } σ2 H2) (hd:∀ σ H,Pv n σ H->D.nx σ H) :
  ∃ W:Nat->Nat->St->Hp->Prop,(∃ m,W 0 m σ H)/\∀ i m σ H,W i m σ H ->
   ((Itr lo n).stop i H/\D.nx σ H)\/((Itr lo n).go i H/\∃ N:St->Hp->Prop,(∀ σ' H',N σ' H'->∃ m',m'<m/\W (i+1) m' σ' H')/\∀ x H',(Itr lo n).NV i H x H'->g x σ H' fun σ2 H2=>tb { D with nx:=N,ct:=N,bk:=D.nx } σ2 H2):=by
 refine⟨fun i m σ H=>m=n-i/\i<=n/\Pv i σ H,⟨n,by simp,X' _,h0⟩,?_⟩;rintro i m σ H ⟨rfl,hi,p⟩
 by_cases hlt:i<n
 ·refine .inr ⟨hlt,Pv (i+1),fun σ' H' p'=>⟨n-(i+1),by omega,rfl,hlt,p'⟩,fun x H' y=>?_⟩;obtain⟨e,y⟩:=y;subst e y;exact hs i σ _ hlt p
 ·have e:i=n:=by omega
  subst e;exact .inl ⟨A' _,hd σ H p⟩
end L2
namespace L2
open PySem PySem.Spec PyProof.Rows
abbrev R2:=V->V->Hp->VK->Prop
def qO (X:Cx)(f:Value->Value->Sem Value)(r:R2):Prop :=
 ∀(pins:List (Addr×Obj)) (s:Shared) (σ:St) (H:Hp) (x y:V) (v u:Value) (Q:VK),Inv X pins σ H s->RelV x v->RelV y u->r x y H Q ->
  wpAny (model X.prog X.w) X.A (f v u) (EP X pins σ Q) X.xe s
def UnR (X:Cx)(f:Value->Sem Value)(r:V->Hp->VK->Prop):Prop :=
 ∀(pins:List (Addr×Obj)) (s:Shared) (σ:St) (H:Hp) (x:V) (v:Value) (Q:VK),Inv X pins σ H s->RelV x v->r x H Q ->
  wpAny (model X.prog X.w) X.A (f v) (EP X pins σ Q) X.xe s
def eS (X:Cx)(f:Value)(r:List V->Hp->VK->Prop):Prop :=
 ∀(pins:List (Addr×Obj)) (s:Shared) (σ:St) (H:Hp) (xs:List V) (us:List Value) (Q:VK),Inv X pins σ H s->Vals xs us->r xs H Q ->
  wpAny (model X.prog X.w) X.A (call f us) (EP X pins σ Q) X.xe s
def tOp (r:R2)(ta tb:TE):TE:=fun σ H Q=>ta σ H fun x H1=>tb σ H1 fun y H2=>r x y H2 Q
def tUn (r:V->Hp->VK->Prop)(ta:TE):TE:=fun σ H Q=>ta σ H fun x H1=>r x H1 Q
inductive rII (C:Int->Int->Prop)(g:Int->Int->V)(x:V)(y:V)(H:Hp)(Q:VK):Prop
 |mk (i:_) (j:_) (tQ:x=.int i) (tR:y=.int j) (CZ:C i j/\Q (g i j) H):rII C g x y H Q
def rI (C:Int->Int->Prop)(g:Int->Int->V):R2:=fun x y H Q=>rII C g x y H Q
inductive ahD (g:Int->Int->V)(x:V)(y:V)(H:Hp)(Q:VK):Prop
 |mk (i:_) (j:_) (tQ:x=.int i) (tR:y=.int j) (CZ:Q (g i j) H):ahD g x y H Q
def rI0 (g:Int->Int->V):R2:=fun x y H Q=>ahD g x y H Q
def rU (g:Int->V):V->Hp->VK->Prop:=fun x H Q=>∃ i,x=.int i/\Q (g i) H
section
variable {X:Cx} {a b c:Expr} {ta tb tc:TE} {pos:Pos}
theorem afG (ha:PE X a ta)(hb:PE X b tb){pins:List (Addr×Obj)}{s:Shared}{σ:St}{H:Hp}{R:V->V->Hp->Prop}(I:Inv X pins σ H s)
  (h:ta σ H fun x H1=>tb σ H1 fun y H2=>R x y H2) {Q:Value->Shared->Prop} {f:Value->Value->Sem Value}
  (hf:∀ v u s2 x y H2,Inv X pins σ H2 s2->RelV x v->RelV y u->R x y H2->wpAny (model X.prog X.w) X.A (f v u) Q X.xe s2) :
  wpAny (model X.prog X.w) X.A (eval a X.env) (fun v s₁=>wpAny (model X.prog X.w) X.A (eval b X.env) (fun u s₂=>wpAny (model X.prog X.w) X.A (f v u) Q X.xe s₂) X.xe s₁) X.xe s:=by
 refine cu (ha pins s σ H _ I h) fun v s1 ⟨x,H1,I1,r1,q1⟩=>?_;refine cu (hb pins s1 σ H1 _ I1 q1) fun u s2 ⟨y,H2,I2,r2,q2⟩=>?_;exact hf v u s2 x y H2 I2 r1 r2 q2
theorem aF {op:Operator}{r:R2}(ho:qO X (binaryOp op) r)(ha:PE X a ta)(hb:PE X b tb):PE X (.BinOp a op b pos) (tOp r ta tb):=by
 intro pins s σ H Q I h;exact wpAny_BinOp (afG ha hb I h fun v u s2 x y H2 I2 rx ry q=>ho pins s2 σ H2 x y v u Q I2 rx ry q)
theorem Az {op:UnaryOp}{r:V->Hp->VK->Prop}(ho:UnR X (unaryOp op) r)(ha:PE X a ta):PE X (.UnaryOp op a pos) (tUn r ta):=by
 intro pins s σ H Q I h;exact UnaryOp_ (cu (ha pins s σ H _ I h) fun v s1 ⟨x,H1,I1,r1,q1⟩=>ho pins s1 σ H1 x v Q I1 r1 q1)
theorem opI {f:Value->Value->Sem Value}{C:Int->Int->Prop}{g:Int->Int->Int}
  (rule:∀(i j:Int)(t u:Tok)(s:Shared)(Q:Value->Shared->Prop)(E:Value->Shared->Prop),C i j->Q (.int (g i j) s.toks) { s with toks:=s.toks+1 }->wpAny (model X.prog X.w) X.A (f (.int i t) (.int j u)) Q E s) :
  qO X f (rI C fun i j=>.int (g i j)):=by
 intro pins s σ H x y v u Q I rx ry h;obtain⟨i,j,rfl,rfl,hc,q⟩:=h;obtain⟨t,rfl⟩:=rx;obtain⟨t',rfl⟩:=ry;exact rule i j t t' s _ _ hc ⟨.int (g i j),H,I.tok _,⟨_,rfl⟩,q⟩
theorem ahE {f:Value->Value->Sem Value}{g:Int->Int->Int}
  (rule:∀(i j:Int)(t u:Tok)(s:Shared)(Q:Value->Shared->Prop)(E:Value->Shared->Prop),Q (.int (g i j) s.toks) { s with toks:=s.toks+1 }->wpAny (model X.prog X.w) X.A (f (.int i t) (.int j u)) Q E s) :
  qO X f (rI0 fun i j=>.int (g i j)):=by
 intro pins s σ H x y v u Q I rx ry h;obtain⟨i,j,rfl,rfl,q⟩:=h;obtain⟨t,rfl⟩:=rx;obtain⟨t',rfl⟩:=ry;exact rule i j t t' s _ _ ⟨.int (g i j),H,I.tok _,⟨_,rfl⟩,q⟩
theorem acH {f:Value->Value->Sem Value}{g:Int->Int->Bool}
  (rule:∀(i j:Int)(t u:Tok)(s:Shared)(Q:Value->Shared->Prop)(E:Value->Shared->Prop),Q (.bool (g i j)) s->wpAny (model X.prog X.w) X.A (f (.int i t) (.int j u)) Q E s) :
  qO X f (rI0 fun i j=>.bl (g i j)):=by
 intro pins s σ H x y v u Q I rx ry h;obtain⟨i,j,rfl,rfl,q⟩:=h;obtain⟨t,rfl⟩:=rx;obtain⟨t',rfl⟩:=ry;exact rule i j t t' s _ _ ⟨.bl (g i j),H,I,rfl,q⟩
def ak5 (i j:Int):Prop:=0<j/\j<1073741824
def ak6 (i j:Int):Prop:=0<=j/\j<=1000000/\i.natAbs<2 ^ 64
def afH (i j:Int):Prop:=(-(2 ^ 64)<i/\i<2 ^ 64)\/(-(2 ^ 64)<j/\j<2 ^ 64)
theorem afH.ok {i j:Int}(h:afH i j):IntMulOk i j:=by
 rcases h with ⟨h1,h2⟩|⟨h1,h2⟩
 ·exact .of_left (intBits_le_64 h1 h2)
 ·exact .of_right (intBits_le_64 h1 h2)
theorem aX:qO X (binaryOp .Add) (rI0 fun i j=>.int (i+j)):=ahE fun _ _ _ _ _ _ _ q=>add_int q
theorem iB:qO X (binaryOp .Sub) (rI0 fun i j=>.int (i-j)):=ahE fun _ _ _ _ _ _ _ q=>sub_int q
theorem uc:qO X (binaryOp .Mult) (rI afH fun i j=>.int (i * j)):=opI fun _ _ _ _ _ _ _ hc q=>mul_int q hc.ok
theorem fH:qO X (binaryOp .FloorDiv) (rI ak5 fun i j=>.int (i / j)):=opI fun i j _ _ _ _ _ hc q=>by
 have h1:(0:Int)<j:=hc.1;have h2:j<1073741824:=hc.2;exact floordiv_int (by omega) (by rw[Int.fdiv_eq_ediv_of_nonneg i (by omega)];exact q) (.inl (PyProof.noPylong_small (by omega)))
theorem bF:qO X (binaryOp .Mod) (rI (fun _ j=>0<j) fun i j=>.int (i % j)):=opI fun i j _ _ _ _ _ hc q=>by
 have h1:(0:Int)<j:=hc;exact mod_int' (by omega) (by rw[Int.fmod_eq_emod_of_nonneg i (by omega)];exact q)
theorem Yg:qO X (binaryOp .Pow) (rI ak6 fun i j=>.int (i ^ j.toNat)):=opI fun _ _ _ _ _ _ _ hc q=>pow_int_small hc.1 hc.2.1 hc.2.2 q
theorem unI {f:Value->Sem Value}{g:Int->Int}
  (rule:∀(i:Int)(t:Tok)(s:Shared)(Q:Value->Shared->Prop)(E:Value->Shared->Prop),Q (.int (g i) s.toks) { s with toks:=s.toks+1 }->wpAny (model X.prog X.w) X.A (f (.int i t)) Q E s) :
  UnR X f (rU fun i=>.int (g i)):=by
 intro pins s σ H x v Q I rx h;obtain⟨i,rfl,q⟩:=h;obtain⟨t,rfl⟩:=rx;exact rule i t s _ _ ⟨.int (g i),H,I.tok _,⟨_,rfl⟩,q⟩
theorem qR:UnR X (unaryOp .USub) (rU fun i=>.int (-i)):=unI fun _ _ _ _ _ q=>neg_int q
end
def ahF:V->V->Bool
 |.non,.non=>true|.non,.int _=>true|.int _,.non=>true|.non,.bl _=>true|.bl _,.non=>true|.non,.str _=>true|.str _,.non=>true
 |.int _,.int _=>true|.bl _,.bl _=>true|.str _,.str _=>true|.X4 _,.X4 _=>true
 |.int _,.str _=>true|.str _,.int _=>true|.bl _,.str _=>true|.str _,.bl _=>true
 |_,_=>false
def rEq:R2:=fun x y H Q=>ahF x y=true/\Q (.bl (decide (x=y))) H
def rNe:R2:=fun x y H Q=>ahF x y=true/\Q (.bl (!decide (x=y))) H
theorem UB {i j:Int}:decide (V.int i=V.int j)=(i==j):=by
 rw[Bool.eq_iff_iff];simp
theorem Yh {i j:Bool}:decide (V.bl i=V.bl j)=(i==j):=by
 rw[Bool.eq_iff_iff];simp
theorem UC {i j:Str}:decide (V.str i=V.str j)=(i==j):=by
 rw[Bool.eq_iff_iff];simp
theorem UD {i j:Array UInt8}:decide (V.X4 i=V.X4 j)=(i.toList==j.toList):=by
 rw[Bool.eq_iff_iff];cases i;cases j;simp
section
variable {X:Cx} {a b c:Expr} {ta tb tc:TE} {pos:Pos}
theorem bM {pins:List (Addr×Obj)}{σ:St}{H:Hp}{s:Shared}{Q:VK}{k k':Bool}(I:Inv X pins σ H s)(q:Q (.bl k) H)(e:k=k'):EP X pins σ Q (.bool k') s:=by
 subst e;exact⟨.bl k,H,I,rfl,q⟩
theorem aI:qO X (compareOp .Eq) rEq:=by
 intro pins s σ H x y v u Q I rx ry h;obtain⟨hs,q⟩:=h;cases x with
 |non =>
  cases rx;cases y with
  |non=>cases ry;exact PySem.EqNone.eq_none_none (bM I q (by simp))
  |bl j=>cases ry;exact PySem.EqNone.eq_none_bool (bM I q (by simp))
  |int j=>obtain⟨t',rfl⟩:=ry;exact PySem.EqNone.eq_none_int (bM I q (by simp))
  |str j=>obtain⟨t',rfl⟩:=ry;exact PySem.EqNone.eq_none_str (bM I q (by simp))
  |_=>exact j' (show false=true from hs) Z'
 |bl i =>
  cases rx;cases y with
  |non=>cases ry;exact PySem.EqNone.eq_bool_none (bM I q (by simp))
  |bl j=>cases ry;exact eq_bool (bM I q Yh)
  |str j=>obtain⟨t',rfl⟩:=ry;exact PySem.EqMixed.eq_bool_str (bM I q (by simp))
  |_=>exact j' (show false=true from hs) Z'
 |int i =>
  obtain⟨t,rfl⟩:=rx;cases y with
  |non=>cases ry;exact PySem.EqNone.eq_int_none (bM I q (by simp))
  |int j=>obtain⟨t',rfl⟩:=ry;exact eq_int (bM I q UB)
  |str j=>obtain⟨t',rfl⟩:=ry;exact PySem.EqMixed.eq_int_str (bM I q (by simp))
  |_=>exact j' (show false=true from hs) Z'
 |str i =>
  obtain⟨t,rfl⟩:=rx;cases y with
  |non=>cases ry;exact PySem.EqNone.eq_str_none (bM I q (by simp))
  |bl j=>cases ry;exact PySem.EqMixed.eq_str_bool (bM I q (by simp))
  |int j=>obtain⟨t',rfl⟩:=ry;exact PySem.EqMixed.eq_str_int (bM I q (by simp))
  |str j=>obtain⟨t',rfl⟩:=ry;exact eq_str (bM I q UC)
  |_=>exact j' (show false=true from hs) Z'
 |X4 i =>
  obtain⟨t,rfl⟩:=rx;cases y with
  |X4 j=>obtain⟨t',rfl⟩:=ry;exact PySem.W.eq_bytes (bM I q UD)
  |_=>exact j' (show false=true from hs) Z'
 |_=>cases y <;> exact j' (show false=true from hs) Z'
theorem jY:qO X (compareOp .NotEq) rNe:=by
 intro pins s σ H x y v u Q I rx ry h;obtain⟨hs,q⟩:=h;cases x with
 |non =>
  cases rx;cases y with
  |non=>cases ry;exact PySem.EqNone.ne_none_none (bM I q (by simp))
  |bl j=>cases ry;exact PySem.EqNone.ne_none_bool (bM I q (by simp))
  |int j=>obtain⟨t',rfl⟩:=ry;exact PySem.EqNone.ne_none_int (bM I q (by simp))
  |str j=>obtain⟨t',rfl⟩:=ry;exact PySem.EqNone.ne_none_str (bM I q (by simp))
  |_=>exact j' (show false=true from hs) Z'
 |bl i =>
  cases rx;cases y with
  |non=>cases ry;exact PySem.EqNone.ne_bool_none (bM I q (by simp))
  |bl j=>cases ry;exact ne_bool (bM I q (Ya' not Yh))
  |str j=>obtain⟨t',rfl⟩:=ry;exact PySem.EqMixed.ne_bool_str (bM I q (by simp))
  |_=>exact j' (show false=true from hs) Z'
 |int i =>
  obtain⟨t,rfl⟩:=rx;cases y with
  |non=>cases ry;exact PySem.EqNone.ne_int_none (bM I q (by simp))
  |int j=>obtain⟨t',rfl⟩:=ry;exact ne_int (bM I q (Ya' not UB))
  |str j=>obtain⟨t',rfl⟩:=ry;exact PySem.EqMixed.ne_int_str (bM I q (by simp))
  |_=>exact j' (show false=true from hs) Z'
 |str i =>
  obtain⟨t,rfl⟩:=rx;cases y with
  |non=>cases ry;exact PySem.EqNone.ne_str_none (bM I q (by simp))
  |bl j=>cases ry;exact PySem.EqMixed.ne_str_bool (bM I q (by simp))
  |int j=>obtain⟨t',rfl⟩:=ry;exact PySem.EqMixed.ne_str_int (bM I q (by simp))
  |str j=>obtain⟨t',rfl⟩:=ry;exact ne_str (bM I q (Ya' not UC))
  |_=>exact j' (show false=true from hs) Z'
 |X4 i =>
  obtain⟨t,rfl⟩:=rx;cases y with
  |X4 j=>obtain⟨t',rfl⟩:=ry;exact PySem.W.ne_bytes (bM I q (Ya' not UD))
  |_=>exact j' (show false=true from hs) Z'
 |_=>cases y <;> exact j' (show false=true from hs) Z'
theorem qS:qO X (compareOp .Lt) (rI0 fun i j=>.bl (decide (i<j))):=acH fun _ _ _ _ _ _ _ q=>lt_int q
theorem ahG:qO X (compareOp .LtE) (rI0 fun i j=>.bl (decide (i<=j))):=acH fun _ _ _ _ _ _ _ q=>le_int q
theorem HH:qO X (compareOp .Gt) (rI0 fun i j=>.bl (decide (j<i))):=acH fun _ _ _ _ _ _ _ q=>gt_int q
theorem aen:qO X (compareOp .GtE) (rI0 fun i j=>.bl (decide (j<=i))):=acH fun _ _ _ _ _ _ _ q=>ge_int q
theorem bp:qO X (compareOp .In) (fun x y H Q=>∃ i j,x=.str i/\y=.str j/\Q (.bl (!(Builtin.Str.occurrences j i 0 j.length 1).isEmpty)) H):=by
 intro pins s σ H x y v u Q I rx ry h;obtain⟨i,j,rfl,rfl,q⟩:=h;obtain⟨t,rfl⟩:=rx;obtain⟨t',rfl⟩:=ry;exact in_str (bM I q rfl)
theorem IS:qO X (compareOp .Is) (fun x y H Q=>y=.non/\Q (.bl (decide (x=.non))) H):=by
 intro pins s σ H x y v u Q I rx ry h;obtain⟨rfl,q⟩:=h;cases ry;refine is_none_gen (bM I q ?_);cases x <;> first
  |(cases rx;rfl)
  |(obtain⟨t,rfl⟩:=rx;rfl)
theorem tj:qO X (compareOp .IsNot) (fun x y H Q=>y=.non/\Q (.bl (!decide (x=.non))) H):=by
 intro pins s σ H x y v u Q I rx ry h;obtain⟨rfl,q⟩:=h;cases ry;refine isnot_none_gen (bM I q ?_);cases x <;> first
  |(cases rx;rfl)
  |(obtain⟨t,rfl⟩:=rx;rfl)
theorem qO.or {f:Value->Value->Sem Value}{r r':R2}(h:qO X f r)(h':qO X f r'):qO X f (fun x y H Q=>r x y H Q\/r' x y H Q):=by
 intro pins s σ H x y v u Q I rx ry q;rcases q with q|q
 ·exact h pins s σ H x y v u Q I rx ry q
 ·exact h' pins s σ H x y v u Q I rx ry q
theorem av (b:Expr){op:CmpOp}(h:op≠.In:=by decide)(h2:op≠.NotIn:=by decide):behindInMarks op b=false:=by
 have e1:(op==CmpOp.In)=false:=by cases op <;> first|rfl|exact j' rfl h
 have e2:(op==CmpOp.NotIn)=false:=by cases op <;> first|rfl|exact j' rfl h2
 cases b <;> simp[behindInMarks,e1,e2]
theorem bj {op:CmpOp}{r:R2}(ho:qO X (compareOp op) r)(ha:PE X a ta)(hb:PE X b tb)(hm:behindInMarks op b=false):PE X (.Compare a [op] [b] pos) (tOp r ta tb):=by
 intro pins s σ H Q I h;exact wpAny_Compare1 (afG ha hb I h fun v u s2 x y H2 I2 rx ry q=>ho pins s2 σ H2 x y v u Q I2 rx ry q) hm
inductive Yi (Q:(Bool->Hp->Prop))(x:V)(H':Hp):Prop
 |mk (k:_) (tQ:x=.bl k) (tR:Q k H'):Yi Q x H'
def ahH (t:TE):TT:=fun σ H Q=>t σ H fun x H'=>Yi Q x H'
theorem ar {op:CmpOp}{r:R2}(ho:qO X (compareOp op) r)(ha:PE X a ta)(hb:PE X b tb)(hm:behindInMarks op b=false):PT X (.Compare a [op] [b] pos) (ahH (tOp r ta tb)):=by
 intro pins s σ H Q I h;refine wpAny_isTrue_Compare1 (cu (ha pins s σ H _ I h) fun v s1 ⟨x,H1,I1,r1,q1⟩=>cu (hb pins s1 σ H1 _ I1 q1) fun u s2 ⟨y,H2,I2,r2,q2⟩ =>
  cu (ho pins s2 σ H2 x y v u _ I2 r1 r2 q2) fun c s3 ⟨z,H3,I3,r3,k,e,q3⟩=>?_) hm
 subst e;cases r3;exact wpAny_truthy_bool ⟨H3,I3,q3⟩
theorem yw:(sizeLine:Nat)<2 ^ 63:=by rw[sizeLine_eq];decide
theorem aD:qO X (binaryOp .Add) (fun x y H Q=>∃ i j,x=.str i/\y=.str j/\i.length+j.length<=sizeLine/\Q (.str (i++j)) H):=by
 intro pins s σ H x y v u Q I rx ry h;obtain⟨i,j,rfl,rfl,hz,q⟩:=h;obtain⟨t,rfl⟩:=rx;obtain⟨t',rfl⟩:=ry;exact add_str (fun t' tk=>⟨.str (i++j),H,I.tok _,⟨_,rfl⟩,q⟩) hz
theorem vals1 {x:V}{us:List Value}(r:Vals [x] us):∃ u,us=[u]/\RelV x u:=by
 cases r with
 |cons r1 r2=>cases r2;exact⟨_,rfl,r1⟩
theorem vals2 {x y:V}{us:List Value}(r:Vals [x,y] us):∃ u w',us=[u,w']/\RelV x u/\RelV y w':=by
 cases r with
 |cons r1 r2 =>
  cases r2 with
  |cons r3 r4=>cases r4;exact⟨_,_,rfl,r1,r3⟩
theorem Vo (hc:X.calm=true):eS X (.builtin "max") (fun xs H Q=>∃ i j,xs=[.int i,.int j]/\Q (.int (if j > i then j else i)) H):=by
 intro pins s σ H xs us Q I r h;obtain⟨i,j,rfl,q⟩:=h;obtain⟨u,w',rfl,⟨t,rfl⟩,⟨t',rfl⟩⟩:=vals2 r;refine max_two_ints (I.ok.hd hc) fun h' tk k=>⟨_,H,I.kept k,?_,q⟩
 by_cases hj:j > i
 ·rw[S' hj,S' hj];exact⟨_,rfl⟩
 ·rw[M' hj,M' hj];exact⟨_,rfl⟩
theorem yx (hc:X.calm=true):eS X (.builtin "min") (fun xs H Q=>∃ i j,xs=[.int i,.int j]/\Q (.int (if j<i then j else i)) H):=by
 intro pins s σ H xs us Q I r h;obtain⟨i,j,rfl,q⟩:=h;obtain⟨u,w',rfl,⟨t,rfl⟩,⟨t',rfl⟩⟩:=vals2 r;refine min_two_ints (I.ok.hd hc) fun h' tk k=>⟨_,H,I.kept k,?_,q⟩
 by_cases hj:j<i
 ·rw[S' hj,S' hj];exact⟨_,rfl⟩
 ·rw[M' hj,M' hj];exact⟨_,rfl⟩
theorem kW:eS X (.type "int") (fun xs H Q=>(∃ i,xs=[.int i]/\Q (.int i) H)\/∃ k,xs=[.bl k]/\Q (.int (if k then 1 else 0)) H):=by
 intro pins s σ H xs us Q I r h;rcases h with ⟨i,rfl,q⟩|⟨k,rfl,q⟩
 ·obtain⟨u,rfl,t,rfl⟩:=vals1 r;exact call_int_int ⟨.int i,H,I,⟨_,rfl⟩,q⟩
 ·obtain⟨u,rfl,r1⟩:=vals1 r;cases r1;exact call_int_bool ⟨.int (if k then 1 else 0),H,I.tok _,⟨_,rfl⟩,q⟩
theorem IT:eS X (.type "str") (fun xs H Q=>∃ i,xs=[.int i]/\i.natAbs.log2<1920/\Q (.str (toString i)) H):=by
 intro pins s σ H xs us Q I r h;obtain⟨i,rfl,hz,q⟩:=h;obtain⟨u,rfl,t,rfl⟩:=vals1 r;exact PySem.P.str_of_int hz ⟨.str _,H,I.tok _,⟨_,rfl⟩,q⟩
end
end L2
namespace L2
open PySem PySem.Spec PyProof.Rows
structure afI (h:Heap)(x dx C:Addr)(mA:Str->Option Value):Prop where
 obj:h.get? x=some (instObj C dx)
 ns:h.Ns1 dx mA
 ne:dx≠x
theorem Vp {h:Heap}{dx:Addr}{mA:Str->Option Value}(n:h.Ns1 dx mA):∃ od,h.get? dx=some od/\∀ name,lookIn name od=some (mA name):=by
 obtain⟨o,es,ep,ho,hd,hk,_,hm⟩:=n;refine⟨o,ho,fun name=>?_⟩;have e:=hm name;unfold nsFind findBy at e;rw[<-Array.find?_toList]at e;unfold lookIn;rw[hd];dsimp only;split
 ·rename_i y q
  rw[q]at e;exact Ya' some e
 ·rename_i q
  rw[q]at e;have a:es.toList.any (·.refKey)=false:=by
   rw[List.any_eq_false];intro y hy;obtain⟨z,t,hkey⟩:=hk y (Array.mem_toList_iff.mp hy);simp[DictEntry.refKey,hkey]
  have a':¬ es.toList.any (·.refKey)=true:=by rw[a];exact Z'
  rw[M' a'];exact Ya' some e
theorem afI.look {h:Heap}{x dx C:Addr}{mA:Str->Option Value}(I:afI h x dx C mA):∃ od,PySem.W.InstAt h x (instObj C dx) C (some od)/\∀ name,lookIn name od=some (mA name) :=
 let ⟨od,ho,hl⟩:=Vp I.ns
 ⟨od,⟨I.obj,rfl,rfl,ho⟩,hl⟩
section
variable {prog:Program} {w:World} {A:Around} {E:Value->Shared->Prop} {s:Shared} {K:Frag} {x dx C f:Addr} {mA:Str->Option Value} {name:Str} {v:Value}
end
theorem nO.some_of {v:V}{o:Option Value}(r:nO (some v) o):∃ u,o=some u/\RelV v u:=by
 cases o with
 |none=>exact(show False from r).elim
 |some u=>exact⟨u,rfl,r⟩
section
variable {P:Program} {w:World} {H H':Hp} {h h':Heap} {a C dx:Addr} {fs fs':List (Str×V)}
theorem acI (hok:qN P w H h)(e:H a=some (.ins C dx fs)):∃ mA,afI h a dx C mA/\(∀ f,nO (fs.lookup f) (mA f))/\PySem.Within mA (fs.map (·.1))/\fs.length<=1000/\H dx=some (.own a):=by
 obtain⟨d,z,ne,ob,mA,n,r,q⟩:=(show ck P w H h a (.ins C dx fs) from hok a _ e);exact⟨mA,⟨ob,n,ne⟩,r,q,z,d⟩
end
structure Cls (K:Frag)(C:Addr):Prop where
 pg:plainGet K C Str.empty=true
 hd:PySem.W.hasDictIn K C=true
 po:PySem.W.plainOver K C=true
 sa:findIn K (.ref C) "__setattr__"=some (some (.builtin "object.__setattr__"))
theorem Cls.get {K:Frag}{C:Addr}(c:Cls K C)(f:Str):plainGet K C f=true:=c.pg
section
variable {X:Cx} {pins:List (Addr×Obj)} {σ:St} {H:Hp} {s:Shared} {a C dx:Addr} {fs:List (Str×V)} {f:Str} {v:V} {A:Around} {E:Value->Shared->Prop}
end
section
variable {X:Cx} {o e value:Expr} {f:Str} {pos pos' tpos:Pos} {ta tv:TE}
end
section
variable {X:Cx} {pins:List (Addr×Obj)} {σ:St} {H:Hp} {s:Shared} {A:Around} {E:Value->Shared->Prop} {Q:Value->Shared->Prop} {c:Value} {b:Bool}
inductive vJ (K:Frag)(H:Hp):V->Value->Prop where
 |non:vJ K H .non (.type "NoneType")
 |bl (x:Bool):vJ K H (.bl x) (.type "bool")
 |int (i:Int):vJ K H (.int i) (.type "int")
 |str (x:Str):vJ K H (.str x) (.type "str")
 |flt (x:UInt64):vJ K H (.flt x) (.type "float")
 |lst {a:Addr} {xs:List V} (e:H a=some (.lst xs)):vJ K H (.ref a) (.type "list")
 |ix {a:Addr} {o:Obj} {xs:List V} (e:H a=some (.ix o (.lst xs))):vJ K H (.ref a) (.type "list")
 |tup {a:Addr} {xs:List V} (e:H a=some (.tup xs)):vJ K H (.ref a) (.type "tuple")
 |dK {a:Addr} {kvs:List (Key×V)} (e:H a=some (.dK kvs)):vJ K H (.ref a) (.type "dict")
 |dT {a:Addr} {kvs:List (List Key×V)} (e:H a=some (.dT kvs)):vJ K H (.ref a) (.type "dict")
 |ins {a C dx:Addr} {fs:List (Str×V)} (e:H a=some (.ins C dx fs)) (cl:Cls K C) (ha:findIn K (.ref C) "__class__"=some (some (.builtin "object.__class__")))
   (hn:specialIn K (.builtin "object.__class__") "__get__"=some (some (.builtin "getset_descriptor.__get__"))) (htk:PySem.W.takesIn K (.builtin "object.__class__")=some true)
   (hm:mroIn K C (.type "object")=some true):vJ K H (.ref a) (.ref C)
theorem Vq {x:V}{u t:Value}(I:Inv X pins σ H s)(rx:RelV x u)(ty:vJ X.K H x t)(e:kitOne X.K t c=some b)(h:∀ tk,Q (.bool b) { s with toks:=tk }) :
  wpAny (model X.prog X.w) A (call (.builtin "isinstance") [u,c]) Q E s:=by
 cases ty with
 |non=>cases (show u=Value.none from rx);exact kia_one PySem.W.kitx_none I.FI True.intro e (fun z=>nomatch z) h
 |bl y=>cases (show u=Value.bool y from rx);exact kia_one PySem.W.kitx_bool I.FI True.intro e (fun z=>nomatch z) h
 |int i=>obtain⟨t,q⟩:=(show ∃ t,u=Value.int i t from rx);cases q;exact kia_one PySem.W.kitx_int I.FI True.intro e (fun z=>nomatch z) h
 |str y=>obtain⟨t,q⟩:=(show ∃ t,u=Value.str y t from rx);cases q;exact kia_one PySem.W.kitx_str I.FI True.intro e (fun z=>nomatch z) h
 |flt y=>obtain⟨t,q⟩:=(show ∃ t,u=Value.float y t from rx);cases q;exact kia_one PySem.W.kitx_float I.FI True.intro e (fun z=>nomatch z) h
 | @lst a xs ea =>
  cases (show u=Value.ref a from rx);obtain⟨_,_,n,_,h1⟩:=(show ck X.prog X.w H s.heap a (.lst xs) from I.hok a _ ea);exact kia_one kitx_list I.FI ⟨_,h1,rfl⟩ e (fun z=>nomatch z) h
 | @ix a ob xs ea =>
  cases (show u=Value.ref a from rx);obtain⟨_,_,_,n,_,h1⟩:=(show ck X.prog X.w H s.heap a (.ix ob (.lst xs)) from I.hok a _ ea);exact kia_one kitx_list I.FI ⟨_,h1,rfl⟩ e (fun z=>nomatch z) h
 | @tup a xs ea =>
  cases (show u=Value.ref a from rx);obtain⟨_,_,_,p⟩:=(show ck X.prog X.w H s.heap a (.tup xs) from I.hok a _ ea);obtain⟨o,h1,h2,_⟩:=p;exact kia_one PySem.W.kitx_tuple I.FI ⟨o,h1,h2⟩ e (fun z=>nomatch z) h
 | @dK a kvs ea =>
  cases (show u=Value.ref a from rx);obtain⟨_,_,vs,_,p⟩:=(show ck X.prog X.w H s.heap a (.dK kvs) from I.hok a _ ea);obtain⟨o,es,ep,h1,h2,_⟩:=p;exact kia_one kitx_dict I.FI ⟨o,h1,h2.1⟩ e (fun z=>nomatch z) h
 | @dT a kvs ea =>
  cases (show u=Value.ref a from rx);obtain⟨_,_,xs,_,o,es,ep,h1,h2,_⟩:=(show ck X.prog X.w H s.heap a (.dT kvs) from I.hok a _ ea);exact kia_one kitx_dict I.FI ⟨o,h1,h2.1⟩ e (fun z=>nomatch z) h
 | @ins a C dx fs ea cl ha hn htk hm =>
  cases (show u=Value.ref a from rx);obtain⟨mA,O,_⟩:=acI I.hok ea;obtain⟨od,J,_⟩:=O.look;exact kia_one (PySem.W.kitx_own (cl.get _) cl.hd ha hn htk hm) I.FI J e (fun z=>nomatch z) h
end
end L2
namespace L2
open PySem PySem.Spec PyProof.Rows
structure nk (k:Nat)(A:Around):Prop where
 hd:A.handled=none
 dp:A.depth+3 * k+5<recursionLimit
 un:A.units+16 * k+200<cLine
theorem nk.mono {j k:Nat}{A:Around}(r:nk k A)(h:j<=k):nk j A:=⟨r.hd,by have:=r.dp;omega,by have:=r.un;omega⟩
theorem nk.deeper {k:Nat}{A:Around}(r:nk (k+1) A)(env:Env):nk k (A.deeper env) :=
 ⟨r.hd,by have:=r.dp;show A.depth+1+3 * k+5<_;omega,by have:=r.un;show A.units+3+16 * k+200<_;omega⟩
theorem nk.depth {k:Nat}{A:Around}(r:nk k A):A.depth<recursionLimit:=by have:=r.dp;omega
theorem nk.units {k:Nat}{A:Around}(r:nk k A):A.units+64<cLine:=by have:=r.un;omega
def Yk:TA:=fun _ H Q=>Q [] H
def Dl (ta:TE)(tr:TA):TA:=fun σ H Q=>ta σ H fun x H1=>tr σ H1 fun xs H2=>Q (x::xs) H2
section
variable {X:Cx} {e:Expr} {es:List Expr} {te:TE} {t:TA} {pos:Pos}
theorem aj:PA X [] Yk:=fun _ _ _ _ H Q I h=>Calls.spliced_nil ⟨[],H,I,.nil,h⟩
theorem aa (ha:PE X e te)(hr:PA X es t)(hs:starEach (e::es) X.env=(false,eval e X.env)::starEach es X.env:=by rfl):PA X (e::es) (Dl te t):=by
 intro pos pins s σ H Q I h;rw[hs];show wpAny _ _ (spliced ((false,eval e X.env)::backTo pos (starEach es X.env))) _ _ s;refine Calls.spliced_cons (cu (ha pins s σ H _ I h) fun u s1 ⟨x,H1,I1,r1,q1⟩=>?_);exact cu (hr pos pins s1 σ H1 _ I1 q1) fun us s2 ⟨xs,H2,I2,r2,q2⟩=>⟨x::xs,H2,I2,.cons r1 r2,q2⟩
def ak7 (t:TA):TE:=fun σ H Q=>t σ H fun xs H1=>xs.length<=sizeLine/\∀ p,H1 p=none->Q (.ref p) (upd H1 p (.tup xs))
def ak8 (t:TA):TE:=fun σ H Q=>t σ H fun xs H1=>xs.length<=sizeLine/\∀ p,H1 p=none->Q (.ref p) (upd H1 p (.lst xs))
theorem bT {x1}(h:PA X es t):PE X (.Tuple es x1 pos) (ak7 t):=by
 intro pins s σ H Q I hq;refine wpAny_Tuple_spliced (cu (h pos pins s σ H _ I hq) fun us s1 ⟨xs,H1,I1,r,z,q⟩=>⟨by rw[<-r.length];exact z,?_⟩);have hf:H1 s1.heap.objs.size=none:=I1.hok.fresh (A' _);refine⟨.ref s1.heap.objs.size,upd H1 s1.heap.objs.size (.tup xs),I1.laid (t':=s1.toks) (fun b u e=>G' _ e) (A' _) ?_,rfl,q _ hf⟩;exact⟨z,us,r,⟨_,Zd' _ rfl,rfl,_,rfl⟩⟩
theorem cm (h:PA X es t):PE X (.List es pos) (ak8 t):=by
 intro pins s σ H Q I hq;refine wpAny_List_spliced (cu (h pos pins s σ H _ I hq) fun us s1 ⟨xs,H1,I1,r,z,q⟩=>⟨by rw[<-r.length];exact z,?_⟩);have hf:H1 s1.heap.objs.size=none:=I1.hok.fresh (A' _);refine⟨.ref s1.heap.objs.size,upd H1 s1.heap.objs.size (.lst xs),I1.laid (t':=s1.toks) (fun b u e=>G' _ e) (A' _) ?_,rfl,q _ hf⟩;exact⟨z,us,0,r,Zd' _ rfl⟩
end
abbrev Sp:=List V->Hp->VK->XK->Prop
abbrev Yl:=List Env->Hp->Shared->XK->Value->Shared->Prop
structure acJ (P:Program)(w:World)(K:Frag)(mg:Str->Option Value)(base:Heap)(A:Around)(outer:List Env)(s:Shared)(H:Hp):Prop where
 frames:A.frames=some outer
 mod:Mod K mg base
 bs:∀ b o,base.get? b=some o->s.heap.get? b=some o/\H b=none
 LJ:base.objs.size<=s.heap.objs.size
 yu:s.heap.FunFrames base outer
 frf:∀ b∈frs outer,H b=none
 hok:qN P w H s.heap
 bare:AllBare s.gens
def CE (outer:List Env)(P:Program)(w:World)(H:Hp)(s:Shared)(Q:VK)(u:Value)(s':Shared):Prop :=
 ∃ v H',s'.os=s.os/\AllBare s'.gens/\Un (frs outer) [] H H' s.heap s'.heap/\qN P w H' s'.heap/\RelV v u/\Q v H'
def CR (CX:Yl)(outer:List Env)(P:Program)(w:World)(H:Hp)(s:Shared)(Q:VK)(E:XK)(r:Result)(s':Shared):Prop :=
 match r with
 |.ok (.ret u)=>CE outer P w H s Q u s'
 |.ok _=>False
 |.error e=>CX outer H s E e s'
structure bV (P:Program)(w:World)(K:Frag)(mg:Str->Option Value)(base:Heap)(CX:Yl)(k:Nat)(f:Addr)(fd:FuncData)(ps:List Str)(sp:Sp):Prop where
 len:∀ vs H Q E,sp vs H Q E->vs.length=ps.length
 run:∀(A:Around)(outer:List Env)(s:Shared)(H:Hp)(args:Args)(us:List Value)(vs:List V)(Q:VK)(E:XK),nk k A->acJ P w K mg base A outer s H->BindsTo s fd args (ps.zip us)->Vals vs us->sp vs H Q E ->
  codeAny (model P w) A (.call (.ref f) args) (CR CX outer P w H s Q E) s
section
variable {X:Cx} {pins:List (Addr×Obj)} {σ:St} {H:Hp} {s s':Shared}
theorem Inv.env0 (I:Inv X pins σ H s):acJ X.prog X.w X.K X.mg X.base X.A X.stack s H :=
 ⟨I.ok.frames,I.ok.mod,I.bs,Zk' I.ok.LJ I.sz,I.stack,I.CY,I.hok,I.bare⟩
theorem Inv.after {Q:VK}{u:Value}(I:Inv X pins σ H s)(h:CE X.stack X.prog X.w H s Q u s'):EP X pins σ Q u s':=by
 obtain⟨v,H',os,bare,un,hok,r,q⟩:=h;obtain⟨hh,g,d,t,os'⟩:=s';obtain rfl:os'=s.os:=os;exact⟨v,H',I.call (h':=hh) (g':=g) (d':=d) (t':=t) (ch:=[]) un hok bare (fun b z=>j' z (by simp)),r,q⟩
end
def aeo (sp:Sp)(LH:List V)(E:XK)(t:TA):TE:=fun σ H Q=>t σ H fun vs H1=>sp (vs++LH) H1 Q E
def Binds (K:Frag)(fd:FuncData)(ps:List Str)(ds:List Value):Prop :=
 ∀(s:Shared)(us:List Value),K.In s.heap->(us++ds).length=ps.length->BindsTo s fd ⟨us,[]⟩ (ps.zip (us++ds))
theorem Binds.all {K:Frag}{fd:FuncData}{ps:List Str}(h:∀ us:List Value,us.length=ps.length->bindArgs fd ⟨us,[]⟩=pure (ps.zip us)):Binds K fd ps []:=fun s us _ hl=>by
 rw[append_nil]at hl ⊢;exact .of_eq (h us hl)
def Passes (CX:Yl)(X:Cx)(E:XK):Prop:=∀(pins:List (Addr×Obj)) (σ:St) (H:Hp) (s:Shared) (e:Value) (s':Shared),Inv X pins σ H s->CX X.stack H s E e s'->X.xe e s'
section
variable {X:Cx} {CX:Yl} {k:Nat} {f C:Addr} {fd:FuncData} {ps:List Str} {sp:Sp} {LH:List V} {ds:List Value} {E:XK} {x m:Str} {p pos apos:Pos} {e o:Expr} {es:List Expr} {ta:TE} {t:TA}
theorem Ym {pins:List (Addr×Obj)}{σ:St}{H:Hp}{s:Shared}{Q:VK}{us:List Value}{vs:List V}(F:bV X.prog X.w X.K X.mg X.base CX k f fd ps sp)(hr:nk k X.A)(hb:Binds X.K fd ps ds)(hd:Vals LH ds)(hx:Passes CX X E)
  (I:Inv X pins σ H s) (r:Vals vs us) (h:sp (vs++LH) H Q E):wpAny (model X.prog X.w) X.A (call (.ref f) us) (EP X pins σ Q) X.xe s:=by
 have r2:Vals (vs++LH) (us++ds):=r.append hd;have hl:(us++ds).length=ps.length:=by rw[<-r2.length];exact F.len _ _ _ _ h
 refine wpAny_call (codeAny_mono (F.run X.A X.stack s H ⟨us,[]⟩ (us++ds) (vs++LH) Q E hr I.env0 (hb s us I.FI hl) r2 h) fun r s' hq=>?_);cases r with
 |error e=>exact hx pins σ H s e s' I hq
 |ok fl =>
  cases fl with
  |ret u=>exact I.after hq
  |next=>exact False.elim hq
  |brk=>exact False.elim hq
  |cont=>exact False.elim hq
theorem aC (F:bV X.prog X.w X.K X.mg X.base CX k f fd ps sp)(hr:nk k X.A)(hg:Gl X x)(hm:X.mg x=some (.ref f))(hk:keepIn X.K (.ref f)=true)(hb:Binds X.K fd ps ds)(hd:Vals LH ds)(hx:Passes CX X E)
  (ha:PA X (e::es) t) (hdb:(x==("__debug__":Str))=false:=by decide) (he:starEach (e::es) X.env=(false,eval e X.env)::starEach es X.env:=by rfl) (hpl:(backTo pos (starEach es X.env)).any (·.1)=false:=by rfl) :
  PE X (.Call (.Name x p) (e::es) [] pos) (aeo sp LH E t):=by
 intro pins s σ H Q I h;refine wpAny_Call_Name_kw (IL I hg hm ?_ hdb);refine PySem.W.callWith_K (h₀:=X.base) I.ok.mod.kin hk (cu (ha pos pins s σ H _ I h) fun us s1 ⟨vs,H1,I1,r,q⟩=>⟨I1.FI,?_⟩) he hpl;exact Ym F hr hb hd hx I1 r q
theorem vK (F:bV X.prog X.w X.K X.mg X.base CX k f fd ps sp)(hr:nk k X.A)(hg:Gl X x)(hm:X.mg x=some (.ref f))(hk:keepIn X.K (.ref f)=true)(hb:Binds X.K fd ps ds)(hd:Vals LH ds)(hx:Passes CX X E)
  (hdb:(x==("__debug__":Str))=false:=by decide):PE X (.Call (.Name x p) [] [] pos) (aeo sp LH E Yk):=by
 intro pins s σ H Q I h;refine wpAny_Call_Name_kw (IL I hg hm ?_ hdb);exact PySem.W.callWith_K0 I.FI hk (Ym (us:=[]) F hr hb hd hx I .nil h)
end
section
variable {X:Cx} {CX:Yl} {k:Nat} {f C:Addr} {fd:FuncData} {ps ks:List Str} {sp:Sp} {E:XK} {x m:Str} {p pos apos aon:Pos} {e o:Expr} {es:List Expr} {kws:List Keyword} {te ta:TE} {t tk:TA} {nm:Option Str}
variable {g:List Value->List Value->List Value} {gV:List V->List V->List V}
end
structure aL (N P:List Str)(sc:Scope):Prop where
 kind:sc.kind=.function
 co:sc.isCoroutine=false
 gen:sc.isGenerator=false
 nd:N.Nodup
 pre:N.take P.length=P
 par:∀ x∈P,sc.names.lookup x=some .local\/sc.names.lookup x=some .cell
 afK:∀ y∈sc.names,y.2≠.free
theorem HI {kindOf:Str->Option NameKind}{x:Str}:∀{binds:List (Str×Value)} {m:Str->Option Value},(∀ v,(x,v) ∉ binds)->bindL kindOf binds m x=m x
 |[],_,_=>rfl
 |(n,v)::r,m,h=>by
  unfold bindL;rw[HI fun w hw=>h w (Zl' _ hw)];split
  ·have:x≠n:=by rintro rfl;exact h v mem_cons_self
   simp[this]
  ·rfl
theorem HJ {kindOf:Str->Option NameKind}{x:Str}:∀{binds:List (Str×Value)} {m:Str->Option Value},(∀ v,(x,v) ∉ binds)->bindC kindOf binds m x=m x
 |[],_,_=>rfl
 |(n,v)::r,m,h=>by
  unfold bindC;rw[HJ fun w hw=>h w (Zl' _ hw)];split
  ·rfl
  ·have:x≠n:=by rintro rfl;exact h v mem_cons_self
   simp[this]
theorem HK {kindOf:Str->Option NameKind}{x:Str}{v:Value}:∀{P:List Str} {vs:List Value} {i:Nat} {m:Str->Option Value},P.Nodup->P[i]? = some x->vs[i]? = some v->kindOf x=some .local ->
  bindL kindOf (P.zip vs) m x=some v
 |[],_,_,_,_,h,_,_=>by simp at h
 |_::_,[],_,_,_,_,h,_=>by simp at h
 |p::P,w::vs,0,m,nd,h1,h2,hk=>by
  simp at h1 h2;subst h1;subst h2;show bindL kindOf ((p,w)::P.zip vs) m p=_;unfold bindL;rw[HI fun v hv=>(List.nodup_cons.mp nd).1 (List.of_mem_zip hv).1,S' hk];simp
 |p::P,w::vs,i+1,m,nd,h1,h2,hk=>by
  show bindL kindOf ((p,w)::P.zip vs) m x=_;unfold bindL;exact HK (i:=i) (List.nodup_cons.mp nd).2 (by simpa using h1) (by simpa using h2) hk
theorem HL {kindOf:Str->Option NameKind}{x:Str}{v:Value}:∀{P:List Str} {vs:List Value} {i:Nat} {m:Str->Option Value},P.Nodup->P[i]? = some x->vs[i]? = some v->kindOf x≠some .local ->
  bindC kindOf (P.zip vs) m x=some v
 |[],_,_,_,_,h,_,_=>by simp at h
 |_::_,[],_,_,_,_,h,_=>by simp at h
 |p::P,w::vs,0,m,nd,h1,h2,hk=>by
  simp at h1 h2;subst h1;subst h2;show bindC kindOf ((p,w)::P.zip vs) m p=_;unfold bindC;rw[HJ fun v hv=>(List.nodup_cons.mp nd).1 (List.of_mem_zip hv).1,M' hk];simp
 |p::P,w::vs,i+1,m,nd,h1,h2,hk=>by
  show bindC kindOf ((p,w)::P.zip vs) m x=_;unfold bindC;exact HL (i:=i) (List.nodup_cons.mp nd).2 (by simpa using h1) (by simpa using h2) hk
def start (N:List Str)(vs:List V):St:=vs.map some++List.replicate (N.length-vs.length) none
def N3 (CX:Yl)(P:Program)(w:World)(K:Frag)(mg:Str->Option Value)(base:Heap)(N:List Str)(qual:Str)(scope:Scope)(f:Addr)(cd:Value)(A:Around)(outer:List Env)(s:Shared)(H:Hp)(E:XK):Cx where
 prog:=P
 w:=w
 K:=K
 mg:=mg
 base:=base
 A:=A.deeper (envOfC qual scope s.heap.objs.size f cd)
 N:=N
 s₀:=s
 H₀:=H
 env:=envOfC qual scope s.heap.objs.size f cd
 outer:=outer
 stack:=envOfC qual scope s.heap.objs.size f cd::outer
 ex:=[]
 calm:=true
 fn:=fun _=>true
 pn:=[]
 xe:=fun e s'=>wpAny (model P w) (A.deeper (envOfC qual scope s.heap.objs.size f cd)) (leaving (envOfC qual scope s.heap.objs.size f cd) e) (fun _ s''=>CX outer H s E e s'') (fun e' s''=>CX outer H s E e' s'') s'
theorem LN {sc:Scope}{n:Nat}{x:Str}(h:sc.names.lookup x=some .cell):∃ c,(cellsFrom n sc.names []).lookup x=some c:=by
 have q:=cellsFrom_some sc.names n [] (.inl h);exact Option.isSome_iff_exists.mp q
theorem Vr {CX:Yl}{P:Program}{w:World}{K:Frag}{mg:Str->Option Value}{base:Heap}{N ps:List Str}{qual:Str}{scope:Scope}{f:Addr}{cd:Value}{A:Around}{outer:List Env}{s s1:Shared}{H:Hp}{E:XK}{us:List Value}{vs:List V}
  (S:aL N ps scope) (hd:A.handled=none) (e0:acJ P w K mg base A outer s H) (hl:vs.length=ps.length) (r:Vals vs us)
  (x:InCallC s s.heap.objs.size (bindL (envOfC qual scope s.heap.objs.size f cd).kindOf (ps.zip us) fun _=>none) (cellsFrom (s.heap.objs.size+1) scope.names []) (bindC (envOfC qual scope s.heap.objs.size f cd).kindOf (ps.zip us) fun _=>none) s1) :
  Inv (N3 CX P w K mg base N qual scope f cd A outer s H E) [] (start N vs) H s1:=by
 have hpl:ps.length<=N.length:=by have:=Ya' List.length S.pre;rw[Zn']at this;omega
 obtain⟨h1,tk,rfl,hk⟩:=x.done;have noA:∀ b:Addr,b ∉ (N3 CX P w K mg base N qual scope f cd A outer s H E).ex:=fun b z=>j' (show b∈([]:List Addr) from z) (by simp);refine⟨⟨e0.mod,S.kind,rfl,rfl,A' _,fun y z c h1 h2=>?_,fun y hy=>?_,fun y c _ h=>?_,fun _=>hd,Around.frames_deeper e0.frames,.inr ⟨rfl,rfl⟩,fun b z=>j' z (noA b),e0.bs,e0.LJ,fun b _ _=>noA b,fun b z=>j' z (noA b),e0.yu,e0.frf⟩,
  rfl,e0.bare,Un.kept hk,⟨_,x.toInCall.ns,fun i y v h1 h2 h3=>?_⟩,fun y c h=>⟨_,x.cell y c h⟩,e0.hok.fresh (A' _),fun y c h=>?_,fun p hp=>j' (show p∈([]:List (Addr×Obj)) from hp) (by simp),e0.hok.kept hk,?_⟩
 ·exact name_of_addr x.apart (PySem.mem_of_lookup h1) (PySem.mem_of_lookup h2)
 ·have hy:scope.names.lookup y=some .cell\/scope.names.lookup y=some .free:=hy;rcases hy with hy|hy
  ·exact LN hy
  ·exact j' rfl (S.afK _ (PySem.mem_of_lookup hy))
 ·exact Nat.le_of_lt (x.above y c (PySem.mem_of_lookup h))
 ·have hi:i<vs.length:=by
   unfold start at h2
   by_cases hi:i<vs.length
   ·exact hi
   ·rw[getElem?_append_right (by simpa using hi)]at h2;rw[List.getElem?_replicate]at h2;split at h2 <;> cases h2
  have ha:vs[i]? = some v:=by
   unfold start at h2;rw[List.getElem?_append_left (by simpa using hi),Zi']at h2;cases e:vs[i]? with
   |none=>rw[e]at h2;cases h2
   |some a=>rw[e]at h2;cases h2;rfl
  obtain⟨u,hu,rv⟩:=r.get ha;have hp:ps[i]? = some y:=by
   rw[<-S.pre,List.getElem?_take_of_lt (by omega)];exact h1
  have ndP:ps.Nodup:=by rw[<-S.pre];exact S.nd.sublist (List.take_sublist _ _)
  refine⟨u,rv,?_⟩;rcases S.par y (V' hp) with k|k
  ·exact .inl ⟨k,HK ndP hp hu k⟩
  ·obtain⟨c,e⟩:=LN (n:=s.heap.objs.size+1) k;refine .inr ⟨.inl k,c,e,?_⟩;have q:=x.cell y c e;rw[HL ndP hp hu (by show scope.names.lookup y≠_;rw[k];decide)]at q;exact q
 ·exact e0.hok.fresh (Nat.le_of_lt (x.above y c (PySem.mem_of_lookup h)))
 ·unfold start;show _=N.length;rw[Zj',K',List.length_replicate];omega
theorem aep {CX:Yl}{P:Program}{w:World}{K:Frag}{mg:Str->Option Value}{base:Heap}{k:Nat}{f:Addr}{name qual:Str}{params:Arguments}{body:List Stmt}{scope:Scope}{dV kV doc pm cdv ct oc:Value}{an od:Option Addr}
  {osl:Array (Option Value)} {N ps:List Str} {sp:Sp} (lk:K.lookup f=some ⟨oc,od,.func (fnOf name qual params body scope dV kV doc pm an cdv ct),osl⟩) (hcd:codeIn K cdv qual=true) (S:aL N ps scope)
  (len:∀ vs H Q E,sp vs H Q E->vs.length=ps.length)
  (hbody:∀(A:Around)(outer:List Env)(s:Shared)(H:Hp)(vs:List V)(Q:VK)(E:XK),nk k (A.deeper (envOfC qual scope s.heap.objs.size f cdv))->sp vs H Q E ->
   ∃ t,NT (N3 CX P w K mg base N qual scope f cdv A outer s H E) body t/\t { nx:=fun _ H'=>Q .non H',rt:=Q } (start N vs) H) :
  bV P w K mg base CX (k+1) f (fnOf name qual params body scope dV kV doc pm an cdv ct) ps sp:=by
 refine⟨len,fun A outer s H args us vs Q E hr e0 hb r hsp=>?_⟩;have hl:=len _ _ _ _ hsp;have KX:K.In s.heap:=e0.mod.kin.keeps fun b o e=>(e0.bs b o e).1;have lim:s.heap.NoLimit:=e0.mod.nolimit.keeps fun b o e=>(e0.bs b o e).1;have hkind:∀ y∈ps.zip us,scope.names.lookup y.1=some .local\/(scope.names.lookup y.1=some .cell/\((cellsFrom (s.heap.objs.size+1) scope.names []).lookup y.1).isSome=true):=fun⟨n,v⟩ hy=>by
  rcases S.par n (List.of_mem_zip hy).1 with q|q
  ·exact .inl q
  ·exact .inr ⟨q,cellsFrom_some _ _ _ (.inl q)⟩
 refine codeAny_call_function hr.depth (KX _ _ lk) rfl S.co S.gen rfl (PySem.W.codeRec_of KX hcd) (hb _ _ _ _ ?_);refine wpAny_newFunctionEnv_cells S.kind hkind fun env he s1 x=>?_;subst he;refine⟨lim.keeps x.toInCall.keep,codeAny_func ?_⟩;obtain⟨t,ht,hq⟩:=hbody A outer s H vs Q E (hr.deeper _) hsp;have I:Inv (N3 CX P w K mg base N qual scope f cdv A outer s H E) [] (start N vs) H s1:=Vr S hr.hd e0 hl r x;refine wpAny_mono (ht [] s1 (start N vs) H _ I hq) (fun fl s' hs=>?_) fun e s' hs=>hs;have fin:∀{σ':St} {H':Hp} {v:V} {u:Value},Inv (N3 CX P w K mg base N qual scope f cdv A outer s H E) [] σ' H' s'->RelV v u->Q v H'->CE outer P w H s Q u s' :=
  fun {σ' H' v u} J rv q=>⟨v,H',J.os,J.bare,J.base,J.hok,rv,q⟩
 cases fl with
 |ret u =>
  obtain⟨v,σ',H',J,rv,q⟩:=hs;exact fin J rv q
 |next =>
  obtain⟨σ',H',J,q⟩:=hs;exact fin (v:=V.non) (u:=Value.none) J rfl q
 |brk =>
  obtain⟨_,_,_,q⟩:=hs;exact False.elim q
 |cont =>
  obtain⟨_,_,_,q⟩:=hs;exact False.elim q
end L2
namespace L2
open PySem PySem.Spec PyProof.Rows
section
variable {X:Cx} {x:Str} {p pos:Pos} {e:Expr} {es:List Expr} {t:TA} {id T:String} {r:List V->Hp->VK->Prop}
def tCB (r:List V->Hp->VK->Prop)(t:TA):TE:=fun σ H Q=>t σ H fun vs H1=>r vs H1 Q
theorem aU (hc:eS X (.builtin id) r)(hg:Gl X x)(hm:X.mg x=none)(hv:bootBuiltins x=some (.builtin id))(ha:PA X (e::es) t)(hn:x ≠ "__name__":=by decide)(hdb:(x==("__debug__":Str))=false:=by decide)
  (he:starEach (e::es) X.env=(false,eval e X.env)::starEach es X.env:=by rfl) (hpl:(backTo pos (starEach es X.env)).any (·.1)=false:=by rfl):PE X (.Call (.Name x p) (e::es) [] pos) (tCB r t):=by
 intro pins s σ H Q I h;refine wpAny_Call_Name_kw (t7 I hg hm hv ?_ hn hdb);exact PyProof.Rows.callWith_builtin1 (cu (ha pos pins s σ H _ I h) fun us s1 ⟨vs,H1,I1,r1,q1⟩=>hc pins s1 σ H1 vs us Q I1 r1 q1) he hpl
theorem b8 (hc:eS X (.type T) r)(hg:Gl X x)(hm:X.mg x=none)(hv:bootBuiltins x=some (.type T))(ha:PA X (e::es) t)(hn:x ≠ "__name__":=by decide)(hdb:(x==("__debug__":Str))=false:=by decide)
  (he:starEach (e::es) X.env=(false,eval e X.env)::starEach es X.env:=by rfl) (hpl:(backTo pos (starEach es X.env)).any (·.1)=false:=by rfl):PE X (.Call (.Name x p) (e::es) [] pos) (tCB r t):=by
 intro pins s σ H Q I h;refine wpAny_Call_Name_kw (t7 I hg hm hv ?_ hn hdb);exact PyProof.Rows.callWith_type1 (cu (ha pos pins s σ H _ I h) fun us s1 ⟨vs,H1,I1,r1,q1⟩=>hc pins s1 σ H1 vs us Q I1 r1 q1) he hpl
end
end L2
namespace HT
open PySem PyProof.Rows
section
open PySem.SeqAt
open PySem.AutoSeq1 (wpAny_loadPart')
open PySem.MeetsSeq PySem.MeetsSeq2 PySem.MeetsSeq3
end
section
variable {prog:Program} {w:World} {A:Around} {E:Value->Shared->Prop} {s:Shared}
def ji (n d:Nat):Option Int->Nat
 |none=>d
 |some v=>if v<0 then(v+(n:Int)).toNat else min v.toNat n
theorem Dm (n d:Nat):ji n d none=d:=rfl
theorem UE (n d k:Nat):ji n d (some (k:Int))=min k n:=by
 show(if(k:Int)<0 then((k:Int)+(n:Int)).toNat else min (k:Int).toNat n)=min k n;rw[M' (by omega),Int.toNat_natCast]
theorem afL (n d:Nat)(hd:d<=n)(o:Option Int):ji n d o<=n:=by
 cases o with
 |none=>exact hd
 |some v =>
  show(if v<0 then(v+(n:Int)).toNat else min v.toNat n)<=n
  by_cases hv:v<0
  ·rw[S' hv];omega
  ·rw[M' hv];exact Nat.min_le_right _ _
theorem UG (v:Int)(n d:Nat):(if v<0 then max (v+(n:Int)) 0 else min v (n:Int))=((ji n d (some v):Nat):Int):=by
 show(if v<0 then max (v+(n:Int)) 0 else min v (n:Int))=(((if v<0 then(v+(n:Int)).toNat else min v.toNat n):Nat):Int)
 by_cases hv:v<0
 ·simp only [S' hv];omega
 ·simp only [M' hv];omega
theorem N4 (lo hi:Option Int)(n:Nat):Builtin.Slice.sliceAdjust lo hi 1 (n:Int)=(((ji n 0 lo:Nat):Int),((ji n n hi:Nat):Int)):=by
 have h1:¬((1:Int)<0):=by omega
 unfold Builtin.Slice.sliceAdjust;simp only [h1,if_false];refine Prod.ext ?_ ?_
 ·cases lo with
  |none=>rfl
  |some v=>exact UG v n 0
 ·cases hi with
  |none=>rfl
  |some v=>exact UG v n n
theorem N5 (i j:Nat):Builtin.Slice.slicePlaces (i:Int) (j:Int) 1=j-i:=by
 unfold Builtin.Slice.slicePlaces;have h1:(1:Int) > 0:=by omega
 simp only [h1,if_true,Int.ediv_one];split <;> omega
theorem Dn {v:Value}{o:Option Int}{Q:Option Int->Shared->Prop}(p:IsPart v o)(h:Q o s):wpAny (model prog w) A (Builtin.Slice.slicePartIndex v) Q E s:=by
 cases p with
 |none=>exact slicePart_none h
 |int i t=>exact slicePart_int h
theorem yy {sl:Addr}{vl vu:Value}{lo hi:Option Int}{n:Nat}{Q:Int×Int×Nat->Shared->Prop}(hs:s.heap.IsSliceOf sl vl vu .none)(pl:IsPart vl lo)(pu:IsPart vu hi)
  (h:Q (((ji n 0 lo:Nat):Int),1,ji n n hi-ji n 0 lo) s):wpAny (model prog w) A (Builtin.Slice.sliceApplied (.ref sl) (pure (n:Int))) Q E s:=by
 obtain⟨os,hos,hcs,hds⟩:=id hs;unfold Builtin.Slice.sliceApplied Builtin.Slice.sliceFields;refine L' (L' (wpAny_field hos hds (x:=vl) rfl (L' (wpAny_field hos hds (x:=vu) rfl (L' (wpAny_field hos hds (x:=.none) rfl (Y' ?_)))))));refine L' (slicePart_none ?_);show wpAny _ _ (if((1:Int)==0)=true then _ else _) _ _ s;rw[M' (by decide)];refine L' (Dn pl (L' (Dn pu (L' (Y' ?_)))));show wpAny _ _ (match Builtin.Slice.sliceAdjust lo hi 1 (n:Int) with|(lo,hi)=>pure (lo,(1:Int),Builtin.Slice.slicePlaces lo hi 1)) _ _ s;rw[N4 lo hi n];show wpAny _ _ (pure (((ji n 0 lo:Nat):Int),(1:Int),Builtin.Slice.slicePlaces ((ji n 0 lo:Nat):Int) ((ji n n hi:Nat):Int) 1)) _ _ s;rw[N5];exact Y' h
theorem Yn (xs:Array Value)(i k:Nat):((List.range k).filterMap fun(m:Nat)=>xs[((i:Int)+(m:Int) * 1).toNat]?).toArray=((xs.toList.drop i).take k).toArray:=by
 have e:(fun(m:Nat)=>xs[((i:Int)+(m:Int) * 1).toNat]?)=fun m=>xs[i+m]?:=by
  funext m
  have:((i:Int)+(m:Int) * 1).toNat=i+m:=by omega
  rw[this]
 rw[e];have:=pick_run xs i k;rw[List.filterMap_map]at this;have e2:((fun x=>xs[x]?) ∘ fun x=>i+x)=fun m=>xs[i+m]?:=rfl;rw[e2]at this;rw[this]
theorem vL {t sl:Addr}{items:Array Value}{vl vu:Value}{lo hi:Option Int}{Q:Value->Shared->Prop}(ht:IsTup s.heap t items)(hs:s.heap.IsSliceOf sl vl vu .none)(pl:IsPart vl lo)(pu:IsPart vu hi)
  (hw:¬(ji items.size 0 lo=0/\ji items.size items.size hi=items.size))
  (h:Q (.ref s.heap.objs.size) { s with heap:=s.heap.push { cls:=.type "tuple",data:=.seq ((items.toList.drop (ji items.size 0 lo)).take (ji items.size items.size hi-ji items.size 0 lo)).toArray } })
  (hsz:items.size<=sizeLine):wpAny (model prog w) A (getItem (.ref t) (.ref sl)) Q E s:=by
 have UH:sizeOk (.seq ((items.toList.drop (ji items.size 0 lo)).take (ji items.size items.size hi-ji items.size 0 lo)).toArray):=by
  show((items.toList.drop (ji items.size 0 lo)).take (ji items.size items.size hi-ji items.size 0 lo)).toArray.size<=sizeLine;rw[Ze',Zn',length_drop,Array.length_toList];omega
 have hj:ji items.size items.size hi<=items.size:=afL _ _ (A' _) hi;obtain⟨os,hos,hcs,hds⟩:=id hs;have hTs:s.TypeIs (.ref sl) "slice":=⟨os,hos,hcs⟩;unfold getItem
 try with_reducible refine wpAny_holding ?_
 first|refine L' (Y' ?_)|skip
 refine L' (wpAny_sequenceKey ht.typeIs (by decide) ?_);refine L' (wpAny_callSpecial?_slot (name:=Str.ofString "__getitem__") ht.typeIs PyProof.Rows.slot_tuple_getitem
  (wpAny_call_entry PyProof.Rows.slot_tuple_getitem ht.typeIs entry_tuple_getitem ?_ (args_tuple_getitem _ _)))
 show wpAny _ _ (Builtin.Tuple.tupleItemsOf (.ref t) >>= _) _ _ s;refine L' (tupleItemsOf_ ht ?_);refine L' (wpAny_typeOf hTs ?_);rw[S' (by decide)];refine L' (yy hs pl pu ?_);have hno:¬((((ji items.size 0 lo:Nat):Int)==0&&(1:Int)==1&&(ji items.size items.size hi-ji items.size 0 lo)==items.size)=true):=by
  intro q;rw[Bool.and_eq_true,Bool.and_eq_true]at q;have q1:((ji items.size 0 lo:Nat):Int)=0:=eq_of_beq q.1.1;have q2:ji items.size items.size hi-ji items.size 0 lo=items.size:=eq_of_beq q.2;exact hw ⟨by omega,by omega⟩
 show wpAny _ _ (if(((ji items.size 0 lo:Nat):Int)==0&&(1:Int)==1&&(ji items.size items.size hi-ji items.size 0 lo)==items.size)=true then _ else _) _ _ s;rw[M' hno,Yn]
 first
  |exact L' (m:=Builtin.Tuple.tupleExact _) (wpAny_newObj_type (Y' ⟨_,rfl,Y' h⟩) UH)
  |exact L' (m:=Builtin.Tuple.tupleExact _) (wpAny_newObj_type (L' (Y' (Y' ⟨_,rfl,Y' h⟩))) UH)
  |exact L' (L' (m:=Builtin.Tuple.tupleExact _) (wpAny_newObj_type (Y' (Y' ⟨_,rfl,Y' h⟩)) UH))
  |exact L' (L' (m:=Builtin.Tuple.tupleExact _) (wpAny_newObj_type (Y' ⟨_,rfl,Y' h⟩) UH))
end
end HT
namespace L2
open PySem PySem.Spec PyProof.Rows
abbrev TO:=St->Hp->(Option Int->Hp->Prop)->Prop
def PO (X:Cx)(e:Option Expr)(t:TO):Prop :=
 ∀(pins:List (Addr×Obj)) (s:Shared) (σ:St) (H:Hp) (Q:Option Int->Hp->Prop),Inv X pins σ H s->t σ H Q ->
  wpAny (model X.prog X.w) X.A (evalPart e X.env) (fun u s'=>∃ o H',Inv X pins σ H' s'/\IsPart u o/\Q o H') X.xe s
def acK:TO:=fun _ H Q=>Q none H
inductive Yo (Q:(Option Int->Hp->Prop))(x:V)(H1:Hp):Prop
 |mk (i:_) (tQ:x=.int i) (tR:Q (some i) H1):Yo Q x H1
def ahN (t:TE):TO:=fun σ H Q=>t σ H fun x H1=>Yo Q x H1
section
variable {X:Cx} {e:Expr} {te:TE} {lo hi:Option Expr} {tl th:TO} {pos p2:Pos}
theorem C0:PO X none acK:=by
 intro pins s σ H Q I h;rw[evalPart_none];exact Y' ⟨none,H,I,.none,h⟩
theorem C1 (h:PE X e te):PO X (some e) (ahN te):=by
 intro pins s σ H Q I hw;rw[evalPart_some];refine cu (h pins s σ H _ I hw) fun u s1 ⟨x,H1,I1,r1,q1⟩=>?_;obtain⟨i,rfl,q⟩:=q1;obtain⟨t,rfl⟩:=r1;exact⟨some i,H1,I1,.int i t,q⟩
def SlR (X:Cx)(r:V->Option Int->Option Int->Hp->VK->Prop):Prop :=
 ∀(pins:List (Addr×Obj)) (s:Shared) (σ:St) (H:Hp) (x:V) (v vl vu:Value) (lo hi:Option Int) (sl:Addr) (Q:VK),Inv X pins σ H s->RelV x v->s.heap.IsSliceOf sl vl vu .none->IsPart vl lo->IsPart vu hi->r x lo hi H Q ->
  ∃ T id,typeLookup (.type T) "__getitem__"=pure (some (.builtin id))/\s.TypeIs v T/\wpAny (model X.prog X.w) X.A (getItem v (.ref sl)) (EP X pins σ Q) X.xe s
theorem SlR.or {r r':V->Option Int->Option Int->Hp->VK->Prop}(h:SlR X r)(h':SlR X r'):SlR X (fun x lo hi H Q=>r x lo hi H Q\/r' x lo hi H Q):=by
 intro pins s σ H x v vl vu lo hi sl Q I rx hs pl pu q;rcases q with q|q
 ·exact h pins s σ H x v vl vu lo hi sl Q I rx hs pl pu q
 ·exact h' pins s σ H x v vl vu lo hi sl Q I rx hs pl pu q
def tSl (r:V->Option Int->Option Int->Hp->VK->Prop)(te:TE)(tl th:TO):TE:=fun σ H Q=>te σ H fun x H1=>tl σ H1 fun l H2=>th σ H2 fun u H3=>r x l u H3 Q
theorem vM {r:V->Option Int->Option Int->Hp->VK->Prop}(hr:SlR X r)(he:PE X e te)(hl:PO X lo tl)(hu:PO X hi th):PE X (.Subscript e (.Slice lo hi none p2) pos) (tSl r te tl th):=by
 intro pins s σ H Q I h;refine Subscript_ (cu (he pins s σ H _ I h) fun v s1 ⟨x,H1,I1,r1,q1⟩=>?_);refine wpAny_Slice (cu (hl pins s1 σ H1 _ I1 q1) fun vl s2 ⟨l,H2,I2,pl,q2⟩=>cu (hu pins s2 σ H2 _ I2 q2) fun vu s3 ⟨u,H3,I3,pu,q3⟩=>?_);rw[evalPart_none];refine Y' ?_;have I4:Inv X pins σ H3 { s3 with heap:=s3.heap.push { cls:=.type "slice",data:=.fields #[vl,vu,.none] } }:=I3.kept (t':=s3.toks) fun b ob q=>G' _ q;obtain⟨T,id,hT,ht,hg⟩:=hr pins { s3 with heap:=s3.heap.push { cls:=.type "slice",data:=.fields #[vl,vu,.none] } } σ H3 x v vl vu l u s3.heap.objs.size Q I4 r1 (Heap.IsSliceOf.new ..) pl pu q3;show wpAny (model X.prog X.w) X.A (subscriptTail e (.Slice lo hi none p2) v (.ref s3.heap.objs.size)) (EP X pins σ Q) X.xe { s3 with heap:=s3.heap.push { cls:=.type "slice",data:=.fields #[vl,vu,.none] } };exact tail_any (ops:=[.ref s3.heap.objs.size,v]) ht hT hg (by with_unfolding_all rfl)
def yz (xs:List V)(lo hi:Option Int):List V:=(xs.drop (HT.ji xs.length 0 lo)).take (HT.ji xs.length xs.length hi-HT.ji xs.length 0 lo)
theorem AA (xs:List V)(lo hi:Option Int):(yz xs lo hi).length<=xs.length:=by
 unfold yz;rw[Zn',length_drop];omega
inductive aer (K:Frag)(x:V)(lo:Option Int)(hi:Option Int)(H:Hp)(Q:VK):Prop
 |mk (a:_) (xs:_) (tQ:x=.ref a) (tR:dz K H a xs) (CZ:¬(HT.ji xs.length 0 lo=0/\HT.ji xs.length xs.length hi=xs.length)) (NU:∀ p,H p=none->Q (.ref p) (upd H p (.tup (yz xs lo hi)))):aer K x lo hi H Q
def ala (K:Frag):V->Option Int->Option Int->Hp->VK->Prop:=fun x lo hi H Q=>aer K x lo hi H Q
theorem IU:SlR X (ala X.K):=by
 intro pins s σ H x v vl vu lo hi sl Q I rx hs pl pu h;obtain⟨a,xs,rfl,hx,hw,q⟩:=h;cases rx;obtain⟨its,r,ht,hz⟩:=I.tuple hx;have hlen:its.toArray.size=xs.length:=by rw[Ze'];exact r.length.symm
 refine⟨"tuple",_,PyProof.Rows.slot_tuple_getitem.lookup,ht.typeIs,?_⟩;refine HT.vL ht hs pl pu (by rw[hlen];exact hw) ?_ (by rw[hlen];exact hz);rw[hlen];refine⟨.ref s.heap.objs.size,_,I.laid (t':=s.toks) (o:=.tup (yz xs lo hi)) (fun b ob q=>G' _ q) (A' _) ?_,rfl,q _ (I.hok.fresh (A' _))⟩;exact⟨Zk' (AA xs lo hi) hz,_,(r.drop (HT.ji xs.length 0 lo)).take (HT.ji xs.length xs.length hi-HT.ji xs.length 0 lo),IsTup.new _ _⟩
end
end L2
namespace L2
open PySem PySem.Spec PyProof.Rows
def UI (n:Nat)(i:Int):Option Nat:=if 0<=i then(if i<n then some i.toNat else none) else if -(n:Int)<=i then some (i+n).toNat else none
def atI {α:Type}(xs:List α)(i:Int):Option α:=(UI xs.length i).bind fun j=>xs[j]?
theorem IV {n:Nat}{i:Int}{j:Nat}(h:UI n i=some j):seqIndex? i n=some j/\j<n/\-(n:Int)<=i/\i<n:=by
 unfold UI at h
 by_cases h0:0<=i
 ·rw[S' h0]at h
  by_cases h1:i<n
  ·rw[S' h1]at h;have e:i.toNat=j:=Zc' h;exact⟨by rw[seqIndex_of h0 h1,e],by omega,by omega,h1⟩
  ·rw[M' h1]at h;cases h
 ·rw[M' h0]at h
  by_cases h1:-(n:Int)<=i
  ·rw[S' h1]at h;have e:(i+n).toNat=j:=Zc' h;exact⟨by rw[seqIndex_neg (by omega) h1,e],by omega,h1,by omega⟩
  ·rw[M' h1]at h;cases h
theorem IW {α:Type}{xs:List α}{i:Int}{v:α}(h:atI xs i=some v):∃ j,seqIndex? i xs.length=some j/\xs[j]? = some v/\j<xs.length/\-(xs.length:Int)<=i/\i<xs.length:=by
 unfold atI at h;cases e:UI xs.length i with
 |none=>rw[e]at h;cases h
 |some j =>
  rw[e]at h;obtain⟨h1,h2,h3,h4⟩:=IV e;exact⟨j,h1,h,h2,h3,h4⟩
theorem vN {α:Type}{xs:List α}{j:Nat}{v:α}(h:xs[j]? = some v):atI xs (j:Int)=some v:=by
 have hj:j<xs.length:=(B'.mp h).1;have e:UI xs.length (j:Int)=some j:=by
  unfold UI;rw[S' (by omega),S' (by omega)];simp
 unfold atI;rw[e];exact h
def acL (b:Expr):Prop:=∀ o i,subscripted b false o i=operate [o,i] (getItem o i)
def IxR (X:Cx)(r:R2):Prop :=
 ∀(value slice:Expr)(pins:List (Addr×Obj)) (s:Shared) (σ:St) (H:Hp) (x y:V) (v u:Value) (Q:VK),Inv X pins σ H s->RelV x v->RelV y u->r x y H Q ->
  subscripted slice false v u=operate [v,u] (getItem v u)->wpAny (model X.prog X.w) X.A (subscriptTail value slice v u) (EP X pins σ Q) X.xe s
def MtR (X:Cx)(id:String)(r:V->List V->Hp->VK->Prop):Prop :=
 ∀(pins:List (Addr×Obj)) (s:Shared) (σ:St) (H:Hp) (x:V) (xs:List V) (v:Value) (us:List Value) (Q:VK),Inv X pins σ H s->RelV x v->Vals xs us->r x xs H Q ->
  wpAny (model X.prog X.w) X.A (call (.builtin id) (v::us)) (EP X pins σ Q) X.xe s
section
variable {X:Cx} {a b:Expr} {ta tb:TE} {pos:Pos}
theorem IxR.or {r r':R2}(h:IxR X r)(h':IxR X r'):IxR X (fun x y H Q=>r x y H Q\/r' x y H Q):=by
 intro value slice pins s σ H x y v u Q I rx ry q hs;rcases q with q|q
 ·exact h value slice pins s σ H x y v u Q I rx ry q hs
 ·exact h' value slice pins s σ H x y v u Q I rx ry q hs
theorem aK {r:R2}(hr:IxR X r)(ha:PE X a ta)(hb:PE X b tb)(hs:acL b):PE X (.Subscript a b pos) (tOp r ta tb):=by
 intro pins s σ H Q I h;exact Subscript_ (afG ha hb I h fun v u s2 x y H2 I2 rx ry q=>hr a b pins s2 σ H2 x y v u Q I2 rx ry q (hs _ _))
inductive aes (K:Frag)(x:V)(y:V)(H:Hp)(Q:VK):Prop
 |mk (p:_) (xs:_) (i:_) (v:_) (tQ:x=.ref p) (tR:y=.int i) (CZ:aR K H p xs) (NU:atI xs i=some v) (h4_:Q v H):aes K x y H Q
def FK (K:Frag):R2:=fun x y H Q=>aes K x y H Q
inductive aet (K:Frag)(x:V)(y:V)(H:Hp)(Q:VK):Prop
 |mk (p:_) (xs:_) (i:_) (v:_) (tQ:x=.ref p) (tR:y=.int i) (CZ:dz K H p xs) (NU:atI xs i=some v) (h4_:Q v H):aet K x y H Q
def FL (K:Frag):R2:=fun x y H Q=>aet K x y H Q
inductive aeu (x:V)(y:V)(H:Hp)(Q:VK):Prop
 |mk (z:_) (i:_) (c:_) (tQ:x=.str z) (tR:y=.int i) (CZ:z.length<=sizeLine) (NU:atI z.cps.toList i=some c) (h4_:Q (.str ⟨#[c]⟩) H):aeu x y H Q
def FN :R2:=fun x y H Q=>aeu x y H Q
theorem acM:IxR X (FK X.K):=by
 intro value slice pins s σ H x y v u Q I rx ry h hs;obtain⟨p,xs,i,z,rfl,rfl,hq,he,q⟩:=h;cases rx;obtain⟨t,rfl⟩:=ry;obtain⟨its,r,pl,hz⟩:=I.list hq;obtain⟨j,h1,h2,h3,h4,h5⟩:=IW he;obtain⟨w,ew,NY⟩:=r.get h2;have hl:=r.length;have hn:=yw;have fin:EP X pins σ Q w s:=⟨z,H,I,NY,q⟩
 by_cases h0:0<=i
 ·have hj:i.toNat=j:=by
   rw[seqIndex_of h0 h5]at h1;exact Zc' h1
  exact item_listR pl.isList h0 (by omega) (by rw[hj];simpa using ew) fin hs
 ·have hj:(i+(its.toArray.size:Int)).toNat=j:=by
   rw[seqIndex_neg (by omega) h4]at h1;rw[Ze',<-hl];exact Zc' h1
  exact subscriptTail_builtinR (x:=w) pl.isList.typeIs slot_list_getitem.lookup
   (wpAny_getItem_list_neg (Q:=fun r s'=>r=w/\EP X pins σ Q r s') pl.isList (by omega) (by rw[Ze'] <;> omega) (by omega) (by rw[hj];simpa using ew) ⟨rfl,fin⟩) hs
theorem afM:IxR X (FL X.K):=by
 intro value slice pins s σ H x y v u Q I rx ry h hs;obtain⟨p,xs,i,z,rfl,rfl,hq,he,q⟩:=h;cases rx;obtain⟨t,rfl⟩:=ry;obtain⟨its,r,pl,hz⟩:=I.tuple hq;obtain⟨j,h1,h2,h3,h4,h5⟩:=IW he;obtain⟨w,ew,NY⟩:=r.get h2;have hl:=r.length;have hn:=yw;have fin:EP X pins σ Q w s:=⟨z,H,I,NY,q⟩;exact subscriptTail_builtinR (x:=w) pl.typeIs slot_tuple_getitem.lookup
  (getItem_tuple (j:=j) (Q:=fun r s'=>r=w/\EP X pins σ Q r s') pl (by omega) (by omega) (by rw[Ze',<-hl];exact h1) (by simpa using ew) ⟨rfl,fin⟩) hs
theorem afN:IxR X FN:=by
 intro value slice pins s σ H x y v u Q I rx ry h hs;obtain⟨z,i,c,rfl,rfl,hz,he,q⟩:=h;obtain⟨t,rfl⟩:=rx;obtain⟨t',rfl⟩:=ry;obtain⟨j,h1,h2,h3,h4,h5⟩:=IW he;have hl:z.cps.toList.length=z.length:=by simp[Str.length]
 rw[hl]at h1 h4 h5;have hn:=yw;exact tail_any (typeIs_str s z t) slot_str_getitem.lookup (getItem_str (c:=c) (by
  have e1:decide (i < -(2 ^ 63:Int))=false:=Zb' (by omega);have e2:decide (i ≥ 2 ^ 63)=false:=Zb' (by omega);rw[e1,e2,Bool.or_false]) (by rw[h1];simpa using h2) ⟨.str ⟨#[c]⟩,H,I.tok _,⟨_,rfl⟩,q⟩) hs
def rIx (K:Frag):R2:=fun x y H Q=>FK K x y H Q\/FL K x y H Q\/FN x y H Q
theorem aE:IxR X (rIx X.K):=acM.or (afM.or afN)
theorem N6 (its:List Value)(n j:Nat)(u:Value):Obj.mapSeq (·.setIfInBounds j u) { cls:=.type "list",data:=.seq its.toArray n } = { cls:=.type "list",data:=.seq (its.set j u).toArray n }:=by
 simp[Obj.mapSeq]
theorem Inv.lst {pins:List (Addr×Obj)}{σ:St}{H:Hp}{s:Shared}{p:Addr}{xs:List V}(I:Inv X pins σ H s)(h:H p=some (.lst xs)) :
  ∃(its:List Value)(n:Nat),Vals xs its/\s.heap.get? p=some { cls:=.type "list",data:=.seq its.toArray n }/\xs.length<=sizeLine:=by
 obtain⟨z,its,n,r,e⟩:=I.hok p _ h;exact⟨its,n,r,e,z⟩
theorem Inv.afO {pins:List (Addr×Obj)}{σ:St}{H:Hp}{s:Shared}{p:Addr}{xs ys:List V}{its its':List Value}{n n':Nat}{f:Obj->Obj}(I:Inv X pins σ H s)(h:H p=some (.lst xs))
  (ho:s.heap.get? p=some { cls:=.type "list",data:=.seq its.toArray n }) (hf:f { cls:=.type "list",data:=.seq its.toArray n } = { cls:=.type "list",data:=.seq its'.toArray n' }) (r:Vals ys its') (hz:ys.length<=sizeLine) (t:Nat) :
  Inv X pins σ (upd H p (.lst ys)) { s with heap:=s.heap.update p f,toks:=t }:=by
 have e:(s.heap.update p f).get? p=some { cls:=.type "list",data:=.seq its'.toArray n' }:=by
  rw[Heap.get?_update_self f ho (by rw[hf] <;> rfl),hf]
 refine I.write (x:=p) (e:=p) (by rw[h];trivial) (.inl rfl) (fun b u hb q=>(Heap.get?_update_other _ _ (Yb' hb)).trans q) ⟨_,e⟩ ?_;exact⟨hz,its',n',r,e⟩
inductive Yp (o:V)(i:V)(v:V)(H:Hp)(Q:(Hp->Prop)):Prop
 |mk (p:_) (xs:_) (k:_) (j:_) (tQ:o=.ref p) (tR:i=.int k) (CZ:H p=some (.lst xs)) (NU:UI xs.length k=some j) (h4_:Q (upd H p (.lst (xs.set j v)))):Yp o i v H Q
def LO :V->V->V->Hp->(Hp->Prop)->Prop:=fun o i v H Q=>Yp o i v H Q
theorem set_list:ahz X LO:=by
 intro pins s σ H o i v ov iv u Q I ro ri rv h;obtain⟨p,xs,k,j,rfl,rfl,hp,hj,q⟩:=h;cases ro;obtain⟨t,rfl⟩:=ri;obtain⟨its,n,r,ho,hz⟩:=I.lst hp;obtain⟨h1,h2,h3,h4⟩:=IV hj;have hl:=r.length;have hn:=yw;have I':Inv X pins σ (upd H p (.lst (xs.set j v))) { s with heap:=s.heap.update p (Obj.mapSeq (·.setIfInBounds j u)) } :=
  I.afO hp ho (N6 its n j u) (r.set rv j) (by rw[List.length_set];exact hz) s.toks
 by_cases h0:0<=k
 ·have hk:k.toNat=j:=by
   rw[seqIndex_of h0 h4]at h1;exact Zc' h1
  exact PySem.W.ki_setAt ho h0 (by omega) (by rw[Ze',<-hl];exact h4) (by rw[hk];exact⟨_,I',q⟩)
 ·have hk:(k+(its.toArray.size:Int)).toNat=j:=by
   rw[seqIndex_neg (by omega) h3]at h1;rw[Ze',<-hl];exact Zc' h1
  exact PySem.W.ki_setBack ho (by omega) (by rw[Ze',<-hl];exact h3) (by omega) (by rw[hk];exact⟨_,I',q⟩)
theorem IX (lo hi:Option Int)(n:Nat):(sliceBounds lo hi none n).1=((HT.ji n 0 lo:Nat):Int)/\(sliceBounds lo hi none n).2.1=((HT.ji n n hi:Nat):Int)/\(sliceBounds lo hi none n).2.2=1:=by
 refine⟨?_,?_,rfl⟩
 ·cases lo with
  |none=>simp[sliceBounds,HT.ji]
  |some i =>
   simp only [sliceBounds,HT.ji,Option.getD_none,show(1:Int) > 0 by decide,if_true]
   by_cases h:i<0
   ·simp only [h,if_true] <;> omega
   ·simp only [h,if_false] <;> omega
 ·cases hi with
  |none=>simp[sliceBounds,HT.ji]
  |some i =>
   simp only [sliceBounds,HT.ji,Option.getD_none,show(1:Int) > 0 by decide,if_true]
   by_cases h:i<0
   ·simp only [h,if_true] <;> omega
   ·simp only [h,if_false] <;> omega
theorem FO (its:List Value)(lo hi:Option Int):slicePick its.toArray lo hi none=((its.drop (HT.ji its.length 0 lo)).take (HT.ji its.length its.length hi-HT.ji its.length 0 lo)).toArray:=by
 obtain⟨h1,h2,h3⟩:=IX lo hi its.toArray.size;unfold slicePick;rw[h1,h2,h3];simp only [sliceRange_one,pick_run,Ze'] <;> rfl
inductive aev (K:Frag)(x:V)(lo:Option Int)(hi:Option Int)(H:Hp)(Q:VK):Prop
 |mk (a:_) (xs:_) (tQ:x=.ref a) (tR:aR K H a xs) (CZ:∀ p,H p=none->Q (.ref p) (upd H p (.lst (yz xs lo hi)))):aev K x lo hi H Q
def alc (K:Frag):V->Option Int->Option Int->Hp->VK->Prop:=fun x lo hi H Q=>aev K x lo hi H Q
theorem C2:SlR X (alc X.K):=by
 intro pins s σ H x v vl vu lo hi sl Q I rx hs pl pu h;obtain⟨a,xs,rfl,hx,q⟩:=h;cases rx;obtain⟨its,r,ht,hz⟩:=I.list hx;have hlen:=r.length;refine⟨"list",_,slot_list_getitem.lookup,ht.isList.typeIs,?_⟩;refine wpAny_getItem_list_slice ht.isList hs pl pu .none (by simp) ?_ (by rw[Ze'] <;> omega);rw[FO,<-hlen];refine⟨.ref s.heap.objs.size,_,I.laid (t':=s.toks) (o:=.lst (yz xs lo hi)) (fun b ob q=>G' _ q) (A' _) ?_,rfl,q _ (I.hok.fresh (A' _))⟩;exact⟨Zk' (AA xs lo hi) hz,_,0,(r.drop (HT.ji xs.length 0 lo)).take (HT.ji xs.length xs.length hi-HT.ji xs.length 0 lo),Zd' _ rfl⟩
def tS:V->Bool
 |.non=>true
 |.bl _=>true
 |.int _=>true
 |.str _=>true
 |_=>false
def Vs:V->V->Bool
 |.non,.non=>true
 |.bl a,.bl b=>a==b
 |.bl a,.int b=>(if a then 1 else 0)==b
 |.int a,.bl b=>a==(if b then 1 else 0)
 |.int a,.int b=>a==b
 |.str a,.str b=>a==b
 |_,_=>false
theorem Yq {A:Around}{s:Shared}{y x:V}{u v:Value}(ry:RelV y u)(rx:RelV x v)(fy:tS y=true)(fx:tS x=true):SeqAt.EqAt A s u v (Vs y x):=by
 cases y with
 |non =>
  cases ry;cases x with
  |non=>cases rx;exact SeqAt.EqAt.same _
  |bl b=>cases rx;exact SeqAt.EqAt.none_bool b
  |int b=>obtain⟨t,rfl⟩:=rx;exact SeqAt.EqAt.none_int b t
  |str b=>obtain⟨t,rfl⟩:=rx;exact SeqAt.EqAt.none_str b t
  |_=>exact j' (show false=true from fx) Z'
 |bl a =>
  cases ry;cases x with
  |non=>cases rx;exact SeqAt.EqAt.bool_none a
  |bl b=>cases rx;exact SeqAt.EqAt.bool_bool a b
  |int b=>obtain⟨t,rfl⟩:=rx;exact SeqAt.EqAt.bool_int a b t
  |str b=>obtain⟨t,rfl⟩:=rx;exact SeqAt.EqAt.bool_str a b t
  |_=>exact j' (show false=true from fx) Z'
 |int a =>
  obtain⟨t',rfl⟩:=ry;cases x with
  |non=>cases rx;exact SeqAt.EqAt.int_none a t'
  |bl b=>cases rx;exact SeqAt.EqAt.int_bool a t' b
  |int b=>obtain⟨t,rfl⟩:=rx;exact SeqAt.EqAt.int_int a t' b t
  |str b=>obtain⟨t,rfl⟩:=rx;exact SeqAt.EqAt.int_str a t' b t
  |_=>exact j' (show false=true from fx) Z'
 |str a =>
  obtain⟨t',rfl⟩:=ry;cases x with
  |non=>cases rx;exact SeqAt.EqAt.str_none a t'
  |bl b=>cases rx;exact SeqAt.EqAt.str_bool a t' b
  |int b=>obtain⟨t,rfl⟩:=rx;exact SeqAt.EqAt.str_int a t' b t
  |str b=>obtain⟨t,rfl⟩:=rx;exact SeqAt.EqAt.str_str a t' b t
  |_=>exact j' (show false=true from fx) Z'
 |_=>exact j' (show false=true from fy) Z'
def N7 (x:V)(u:Value):Bool:=match u with
 |.none=>Vs .non x
 |.bool b=>Vs (.bl b) x
 |.int i _=>Vs (.int i) x
 |.str z _=>Vs (.str z) x
 |_=>false
theorem Yr {x y:V}{u:Value}(r:RelV y u)(f:tS y=true):N7 x u=Vs y x:=by
 cases y with
 |non=>cases r;rfl
 |bl b=>cases r;rfl
 |int i=>obtain⟨t,rfl⟩:=r;rfl
 |str z=>obtain⟨t,rfl⟩:=r;rfl
 |_=>exact j' (show false=true from f) Z'
theorem vO {x:V}:∀{xs:List V} {us:List Value},Vals xs us->xs.all tS=true->us.any (N7 x)=xs.any fun y=>Vs y x
 |_,_,.nil,_=>rfl
 |y::xs,u::us,.cons r t,f=>by
  rw[List.all_cons,Bool.and_eq_true]at f;rw[List.any_cons,List.any_cons,Yr r f.1,vO t f.2]
theorem qT {A:Around}{s:Shared}{x:V}{v:Value}(rx:RelV x v)(fx:tS x=true):∀{xs:List V} {us:List Value},Vals xs us->xs.all tS=true->∀ u∈us,SeqAt.EqAt A s u v (N7 x u)
 |_,_,.nil,_=>fun u hu=>by cases hu
 |y::xs,u::us,.cons r t,f=>fun u' hu=>by
  rw[List.all_cons,Bool.and_eq_true]at f;rcases List.mem_cons.mp hu with rfl|hu
  ·rw[Yr r f.1];exact Yq r rx f.1 fx
  ·exact qT rx fx t f.2 u' hu
def inV (x:V)(xs:List V):Bool:=xs.any fun y=>Vs y x
inductive ahO (K:Frag)(neg:Bool)(x:V)(y:V)(H:Hp)(Q:VK):Prop
 |mk (p:_) (xs:_) (tQ:y=.ref p) (tR:(aR K H p xs\/dz K H p xs)) (CZ:tS x=true) (NU:xs.all tS=true) (h4_:Q (.bl (if neg then !inV x xs else inV x xs)) H):ahO K neg x y H Q
def rIn (K:Frag)(neg:Bool):R2:=fun x y H Q=>ahO K neg x y H Q
theorem bq:qO X (compareOp .In) (rIn X.K false):=by
 intro pins s σ H x y v u Q I rx ry h;obtain⟨p,xs,rfl,hq,fx,fs,q⟩:=h;cases ry;rcases hq with hq|hq
 ·obtain⟨its,r,pl,hz⟩:=I.list hq;refine SeqAt.in_listAt (N7 x) pl.isList (fun w hw=>qT rx fx r fs w (by simpa using hw)) ⟨.bl _,H,I,rfl,?_⟩;rw[show its.toArray.any (N7 x)=its.any (N7 x) by simp,vO r fs];exact q
 ·obtain⟨its,r,pl,hz⟩:=I.tuple hq;refine SeqAt.in_tupleAt (N7 x) pl (fun w hw=>qT rx fx r fs w (by simpa using hw)) ⟨.bl _,H,I,rfl,?_⟩;rw[show its.toArray.any (N7 x)=its.any (N7 x) by simp,vO r fs];exact q
theorem vP:qO X (compareOp .NotIn) (rIn X.K true):=by
 intro pins s σ H x y v u Q I rx ry h;obtain⟨p,xs,rfl,hq,fx,fs,q⟩:=h;cases ry;rcases hq with hq|hq
 ·obtain⟨its,r,pl,hz⟩:=I.list hq;refine SeqAt.notIn_listAt (N7 x) pl.isList (fun w hw=>qT rx fx r fs w (by simpa using hw)) ⟨.bl _,H,I,rfl,?_⟩;rw[show its.toArray.any (N7 x)=its.any (N7 x) by simp,vO r fs];exact q
 ·obtain⟨its,r,pl,hz⟩:=I.tuple hq;refine SeqAt.notIn_tupleAt (N7 x) pl (fun w hw=>qT rx fx r fs w (by simpa using hw)) ⟨.bl _,H,I,rfl,?_⟩;rw[show its.toArray.any (N7 x)=its.any (N7 x) by simp,vO r fs];exact q
theorem vQ:qO X (compareOp .NotIn) (fun x y H Q=>∃ i j,x=.str i/\y=.str j/\Q (.bl (!(!(Builtin.Str.occurrences j i 0 j.length 1).isEmpty))) H):=by
 intro pins s σ H x y v u Q I rx ry h;obtain⟨i,j,rfl,rfl,q⟩:=h;obtain⟨t,rfl⟩:=rx;obtain⟨t',rfl⟩:=ry;exact notIn_str ⟨.bl _,H,I,rfl,q⟩
theorem aY:eS X (.builtin "len") (fun xs H Q=>∃ p ys,xs=[.ref p]/\(aR X.K H p ys\/dz X.K H p ys)/\Q (.int ys.length) H):=by
 intro pins s σ H xs us Q I r h;obtain⟨p,ys,rfl,hq,q⟩:=h;obtain⟨u,rfl,rx⟩:=vals1 r;cases rx;have hn:=yw;rcases hq with hq|hq
 ·obtain⟨its,r',pl,hz⟩:=I.list hq;have hlen:=r'.length;exact Calls.call_len_list pl.isList (by simp only [Ze'] <;> omega) ⟨.int ys.length,H,I.tok _,⟨s.toks+1,by rw[Ze',hlen]⟩,q⟩
 ·obtain⟨its,r',pl,hz⟩:=I.tuple hq;have hlen:=r'.length;exact len_tuple pl (by simp only [Ze'] <;> omega) ⟨.int ys.length,H,I.tok _,⟨s.toks+1,by rw[Ze',hlen]⟩,q⟩
theorem aZ:eS X (.builtin "len") (fun xs H Q=>∃ z,xs=[.str z]/\z.length<=sizeLine/\Q (.int z.length) H):=by
 intro pins s σ H xs us Q I r h;obtain⟨z,rfl,hz,q⟩:=h;obtain⟨u,rfl,t,rfl⟩:=vals1 r;have hn:=yw;exact len_str (by omega) ⟨.int z.length,H,I.tok _,⟨_,rfl⟩,q⟩
theorem eS.or {f:Value}{r r':List V->Hp->VK->Prop}(h:eS X f r)(h':eS X f r'):eS X f (fun xs H Q=>r xs H Q\/r' xs H Q):=by
 intro pins s σ H xs us Q I rs q;rcases q with q|q
 ·exact h pins s σ H xs us Q I rs q
 ·exact h' pins s σ H xs us Q I rs q
theorem kN:eS X (.type "list") (fun xs H Q=>∃ p ys,xs=[.ref p]/\(aR X.K H p ys\/dz X.K H p ys)/\∀ l,H l=none->Q (.ref l) (upd H l (.lst ys))):=by
 intro pins s σ H xs us Q I r h;obtain⟨p,ys,rfl,hq,q⟩:=h;obtain⟨u,rfl,rx⟩:=vals1 r;cases rx;have fin:∀(its:List Value),Vals ys its->ys.length<=sizeLine->∀(h':Heap)(c':Nat),(∀ b o',s.heap.get? b=some o'->h'.get? b=some o') ->
   h'.get? s.heap.objs.size=some { cls:=.type "list",dict:=none,data:=.seq its.toArray c',slots:=#[] }->EP X pins σ Q (.ref s.heap.objs.size) { s with heap:=h' }:=fun its r' hz h' c' kp e =>
  ⟨.ref s.heap.objs.size,_,I.laid (t':=s.toks) kp (A' _) (show ck X.prog X.w _ h' _ (.lst ys) from⟨hz,its,c',r',e⟩),rfl,q _ (I.hok.fresh (A' _))⟩
 rcases hq with hq|hq
 ·obtain⟨its,r',pl,hz⟩:=I.list hq;have hlen:=r'.length;obtain⟨o,ho,hc,n,hd⟩:=pl.isList;exact call_list_seq p (.inl rfl) ho hc hd (fun h' c' kp e=>fin its r' hz h' c' kp e) (by simp only [Ze'] <;> omega)
 ·obtain⟨its,r',pl,hz⟩:=I.tuple hq;have hlen:=r'.length;obtain⟨o,ho,hc,n,hd⟩:=pl;exact call_list_seq p (.inr rfl) ho hc hd (fun h' c' kp e=>fin its r' hz h' c' kp e) (by simp only [Ze'] <;> omega)
theorem FP:eS X (.type "tuple") (fun xs H Q=>∃ p ys,xs=[.ref p]/\((aR X.K H p ys/\∀ l,H l=none->Q (.ref l) (upd H l (.tup ys)))\/(dz X.K H p ys/\Q (.ref p) H))):=by
 intro pins s σ H xs us Q I r h;obtain⟨p,ys,rfl,h⟩:=h;obtain⟨u,rfl,rx⟩:=vals1 r;cases rx;rcases h with ⟨hq,q⟩|⟨hq,q⟩
 ·obtain⟨its,r',pl,hz⟩:=I.list hq;have hlen:=r'.length;refine call_tuple_list pl.isList (fun h' kp=>?_) (by simp only [Ze'] <;> omega);have I1:Inv X pins σ H { s with heap:=h' }:=I.kept (t':=s.toks) kp;have I2:Inv X pins σ (upd H h'.objs.size (.tup ys)) { s with heap:=h'.push { cls:=.type "tuple",data:=.seq its.toArray } } :=
   I1.laid (t':=s.toks) (fun b o e=>G' _ e) (A' _) (show ck X.prog X.w _ _ _ (.tup ys) from⟨hz,its,r',IsTup.new _ _⟩)
  exact⟨.ref h'.objs.size,_,I2,rfl,q _ (I1.hok.fresh (A' _))⟩
 ·obtain⟨its,r',pl,hz⟩:=I.tuple hq;exact call_tuple_same pl ⟨.ref p,H,I,rfl,q⟩
def tyV (K:Frag)(T:String)(x:V)(H:Hp):Prop:=match x with
 |.str _=>T = "str"
 |.int _=>T = "int"
 |.ref p=>(T = "list"/\∃ xs,aR K H p xs)\/(T = "tuple"/\∃ o,K.lookup p=some o/\o.cls=.type "tuple"/\o.dict=none) \/
   (T = "dict"/\((∃ kvs,H p=some (.dK kvs))\/∃ kvs,H p=some (.dT kvs)))\/(T = "set"/\∃ S n,H p=some (.set S n))
 |_=>False
theorem afP {pins:List (Addr×Obj)}{σ:St}{H:Hp}{s:Shared}{T:String}{x:V}{v:Value}(I:Inv X pins σ H s)(r:RelV x v)(ty:tyV X.K T x H) :
  s.TypeIs v T/\∀ a,v=.ref a->∃ ob,s.heap.get? a=some ob/\ob.dict=none:=by
 cases x with
 |str z =>
  obtain⟨t,rfl⟩:=r;cases (show T = "str" from ty);exact⟨typeIs_str s z t,fun _ e=>nomatch e⟩
 |int i =>
  obtain⟨t,rfl⟩:=r;cases (show T = "int" from ty);exact⟨typeIs_int s i t,fun _ e=>nomatch e⟩
 |ref p =>
  cases r;rcases ty with ⟨rfl,xs,hq⟩|⟨rfl,o,hk,hc,hd⟩|⟨rfl,hk⟩|⟨rfl,S,n,hk⟩
  ·obtain⟨its,_,pl,_⟩:=I.list hq;refine⟨pl.isList.typeIs,fun a e=>?_⟩;cases e;obtain⟨o,n,e,c,hd,_⟩:=pl;exact⟨o,e,hd⟩
  ·refine⟨⟨o,I.FI p o hk,hc⟩,fun a e=>?_⟩;cases e;exact⟨o,I.FI _ o hk,hd⟩
  ·have z:∃ o,s.heap.get? p=some o/\o.ExactDict:=by
    rcases hk with ⟨kvs,hk⟩|⟨kvs,hk⟩
    ·obtain⟨_,_,_,_,o,_,_,e,ex,_⟩:=I.hok p _ hk;exact⟨o,e,ex⟩
    ·obtain⟨_,_,_,_,o,_,_,e,ex,_⟩:=I.hok p _ hk;exact⟨o,e,ex⟩
   obtain⟨o,e,ex⟩:=z;refine⟨⟨o,e,ex.1⟩,fun a e2=>?_⟩;cases e2;exact⟨o,e,ex.2.1⟩
  ·obtain⟨o,_,_,_,e,ex,_⟩:=I.hok p _ hk;refine⟨⟨o,e,ex.1⟩,fun a e2=>?_⟩;cases e2;exact⟨o,e,ex.2.1⟩
 |_=>exact False.elim ty
def tBM (K:Frag)(T:String)(r:V->List V->Hp->VK->Prop)(to:TE)(t:TA):TE:=fun σ H Q=>to σ H fun x H1=>tyV K T x H1/\t σ H1 fun xs H2=>r x xs H2 Q
variable {o e:Expr} {es:List Expr} {to:TE} {t:TA} {name:Str} {apos cpos:Pos} {T id:String} {r:V->List V->Hp->VK->Prop}
theorem e8 (pa:PlainAttrs T)(slot:Slot T name id)(hty:typeOf (.builtin id)=pure (.type "method_descriptor"))(hm:MtR X id r)(ho:PE X o to)(ha:PA X (e::es) t)
  (hbase:attributeBase o name X.env (eval o X.env)=eval o X.env:=by rfl)
  (hfew:((backTo cpos (starEach (e::es) X.env)).all (fun x=>!x.1)&&(backToKw cpos (keywordEach [] X.env)).all (fun x=>x.1.isSome)
   && decide ((e::es).length+([]:List Keyword).length+(if([]:List Keyword).isEmpty then 0 else 1)<30))=true:=by rfl)
  (hline:(apos.endLine==cpos.line)=true:=by rfl) (hs:starEach (e::es) X.env=(false,eval e X.env)::starEach es X.env:=by rfl) (hplain:(backTo cpos (starEach es X.env)).any (·.1)=false:=by rfl) :
  PE X (.Call (.Attribute o name apos) (e::es) [] cpos) (tBM X.K T r to t):=by
 intro pins s σ H Q I h;refine wpAny_Call_method_late hbase hfew hline rfl (cu (ho pins s σ H _ I h) fun v s1 ⟨x,H1,I1,r1,ty,q1⟩=>?_);obtain⟨h1,h2⟩:=afP I1 r1 ty;refine⟨T,id,pa,slot,hty,h1,h2,?_⟩;have hA:=ha cpos pins s1 σ H1 _ I1 q1;rw[hs]at hA ⊢;refine Calls.callWith_builtin (by show(false||(backTo cpos (starEach es X.env)).any (·.1))=false;rw[hplain] <;> rfl) (Calls.evalArgs_plain ?_);exact cu hA fun us s2 ⟨vs,H2,I2,r2,q2⟩=>hm pins s2 σ H2 x vs v us Q I2 r1 r2 q2
end
end L2
namespace L2
open PySem PySem.Spec PyProof.Rows
def MtM (X:Cx)(id:String)(r:V->List V->Hp->VK->Prop):Prop :=
 ∀(pins:List (Addr×Obj)) (s:Shared) (σ:St) (H:Hp) (x:V) (xs:List V) (v:Value) (us:List Value) (Q:VK),Inv X pins σ H s->RelV x v->Vals xs us->r x xs H Q ->
  wpAny (model X.prog X.w) X.A (call (.builtin id) (v::us)) (EP X pins σ Q) X.xe s
theorem Vals.one:∀{x:V} {us:List Value},Vals [x] us->∃ u,us=[u]/\RelV x u
 |_,_,.cons r .nil=>⟨_,rfl,r⟩
theorem Vals.two:∀{x y:V} {us:List Value},Vals [x,y] us->∃ u v,us=[u,v]/\RelV x u/\RelV y v
 |_,_,_,.cons r (.cons q .nil)=>⟨_,_,rfl,r,q⟩
theorem Vals.eraseIdx:∀{xs:List V} {us:List Value} (i:Nat),Vals xs us->Vals (xs.eraseIdx i) (us.eraseIdx i)
 |_,_,_,.nil=>.nil
 |_,_,0,.cons _ t=>t
 |_,_,i+1,.cons r t=>.cons r (Vals.eraseIdx i t)
theorem Vals.rep {xs:List V}{us:List Value}(h:Vals xs us):∀ k:Nat,Vals (List.replicate k xs).flatten (List.replicate k us).flatten
 |0=>.nil
 |k+1=>by
  rw[List.replicate_succ,List.replicate_succ,List.flatten_cons,List.flatten_cons];exact Vals.append h (Vals.rep h k)
theorem HM {α:Type}:∀(l:List α)(i:Nat),(l.eraseIdx i).length<=l.length
 |[],_=>A' _
 |_::_,0=>Nat.le_succ _
 |_::r,i+1=>Nat.succ_le_succ (HM r i)
theorem foldl_rep (its:List Value):∀(k:Nat)(acc:List Value),
  List.foldl (fun x1 x2=>x1++x2) acc.toArray (List.replicate k its.toArray)=(acc++(List.replicate k its).flatten).toArray
 |0,acc=>by simp
 |k+1,acc=>by
  have e:acc.toArray++its.toArray=(acc++its).toArray:=by simp
  have e2:(acc++its)++(List.replicate k its).flatten=acc++(List.replicate (k+1) its).flatten:=by
   rw[List.replicate_succ,List.flatten_cons,List.append_assoc]
  rw[<-e2,<-foldl_rep its k (acc++its),<-e,List.replicate_succ,List.foldl_cons]
section
variable {X:Cx} {pins:List (Addr×Obj)} {σ:St} {H:Hp} {s:Shared} {l b:Addr} {xs ys zs:List V}
theorem Inv.ahP {its its':List Value}{n:Nat}{f:Array Value->Array Value}{t':Nat}(I:Inv X pins σ H s)(hH:H l=some (.lst xs))
  (e:s.heap.get? l=some { cls:=.type "list",data:=.seq its.toArray n }) (hf:f its.toArray=its'.toArray) (hv:Vals ys its') (hz:ys.length<=sizeLine) :
  Inv X pins σ (upd H l (.lst ys)) { s with heap:=s.heap.update l (Obj.mapSeq f),toks:=t' }:=by
 have q:=PySem.IsL.update e f;rw[hf]at q;refine I.write (x:=l) (e:=l) (by rw[hH];exact trivial) (.inl rfl) (fun b' u hb hu=>(Heap.get?_update_other s.heap (Obj.mapSeq f) (Yb' hb)).trans hu) ⟨_,q⟩ ?_;exact⟨hz,its',_,hv,q⟩
theorem Inv.ahQ {its:List Value}{t':Nat}(I:Inv X pins σ H s)(hv:Vals ys its)(hz:ys.length<=sizeLine) :
  Inv X pins σ (upd H s.heap.objs.size (.lst ys)) { s with heap:=s.heap.push { cls:=.type "list",data:=.seq its.toArray },toks:=t' } :=
 I.laid (fun _ _ q=>G' _ q) (A' _) ⟨hz,its,0,hv,Zd' _ rfl⟩
theorem Inv.fresh (I:Inv X pins σ H s):H s.heap.objs.size=none:=I.hok.fresh (A' _)
theorem Inv.Ys (I:Inv X pins σ H s)(hH:H l=some (.lst xs)):xs.length<=sizeLine/\∃(its:List Value)(n:Nat),Vals xs its/\xs.length=its.length/\s.heap.get? l=some { cls:=.type "list",data:=.seq its.toArray n }:=by
 obtain⟨z,its,n,r,e⟩:=I.hok l _ hH;exact⟨z,its,n,r,r.length,e⟩
theorem Yt {n:Nat}(h:n<=sizeLine):Builtin.List.listTooLong n=false:=by
 unfold Builtin.List.listTooLong;exact Zb' (by omega)
end
section
variable {X:Cx}
inductive LP (x:V)(vs:List V)(H:Hp)(Q:VK):Prop
 |mk (l:_) (xs:_) (y:_) (tQ:x=.ref l) (tR:vs=[y]) (CZ:H l=some (.lst xs)) (NU:xs.length<sizeLine) (h4_:Q .non (upd H l (.lst (xs++[y])))):LP x vs H Q
def acN :V->List V->Hp->VK->Prop:=fun x vs H Q=>LP x vs H Q
theorem bf:MtM X "list.append" acN:=by
 intro pins s σ H x vs v us Q I rx rv h;obtain⟨l,xs,y,rfl,rfl,hH,hz,q⟩:=h;cases rx;obtain⟨u,rfl,ru⟩:=rv.one;obtain⟨z,its,n,r,hl,e⟩:=I.Ys hH;refine call_meets F.slot_list_append ⟨_,e,rfl⟩ F.entry_list_append (F.args_list_append_2 _ _) (PySem.list_append l its.toArray n u (by rw[Ze'];omega)) ⟨e,?_⟩;refine⟨.non,_,I.ahP (its':=its++[u]) hH e (by simp) (r.append (.cons ru .nil)) ?_,rfl,q⟩;rw[Zj',List.length_singleton];omega
def afQ:V->List V->Hp->VK->Prop:=fun x vs H Q=>∃ l xs i k y,x=.ref l/\vs=[.int i]/\H l=some (.lst xs)/\-(2 ^ 63)<=i/\i<2 ^ 63/\seqIndex? i xs.length=some k/\xs[k]? = some y/\Q y (upd H l (.lst (xs.eraseIdx k)))
theorem Yu:MtM X "list.pop" afQ:=by
 intro pins s σ H x vs v us Q I rx rv h;obtain⟨l,xs,i,k,y,rfl,rfl,hH,h1,h2,hk,hy,q⟩:=h;cases rx;obtain⟨u,rfl,ru⟩:=rv.one;obtain⟨t,rfl⟩:=ru;obtain⟨z,its,n,r,hl,e⟩:=I.Ys hH;obtain⟨w,hw,NY⟩:=r.get hy;refine call_meets F.slot_list_pop ⟨_,e,rfl⟩ F.entry_list_pop (F.args_list_pop_2 _ _)
  (MeetsSeq.list_pop_at l its.toArray n i t k w (fitsIndex_both h1 h2) (by rw[Ze',<-hl];exact hk) (by rw[<-Array.getElem?_toList];exact hw) (by rw[Ze'];omega)) ⟨e,?_⟩
 refine⟨y,_,I.ahP (its':=its.eraseIdx k) hH e ?_ (r.eraseIdx k) ?_,NY,q⟩
 ·show its.toArray.eraseIdxIfInBounds k=(its.eraseIdx k).toArray;rw[List.eraseIdxIfInBounds_toArray]
 ·have:=HM xs k;omega
inductive aew (x:V)(y:V)(H:Hp)(Q:VK):Prop
 |mk (l:_) (b:_) (xs:_) (zs:_) (tQ:x=.ref l) (tR:y=.ref b) (CZ:H l=some (.lst xs)) (NU:H b=some (.lst zs)) (h4_:xs.length+zs.length<=sizeLine) (h5_:∀ p,H p=none->Q (.ref p) (upd H p (.lst (xs++zs)))):aew x y H Q
def ald :R2:=fun x y H Q=>aew x y H Q
theorem a5:qO X (binaryOp .Add) ald:=by
 intro pins s σ H x y v u Q I rx ry h;obtain⟨l,b,xs,zs,rfl,rfl,hH,hB,hz,q⟩:=h;cases rx;cases ry;obtain⟨z,its,n,r,hl,e⟩:=I.Ys hH;obtain⟨z2,its2,n2,r2,hl2,e2⟩:=I.Ys hB;refine PySem.P.add_list e e2 ?_ (by rw[Ze',Ze'];omega);have ea:its.toArray++its2.toArray=(its++its2).toArray:=by simp
 rw[ea];exact⟨.ref _,_,I.ahQ (t':=s.toks) (r.append r2) (by rw[Zj'];omega),rfl,q _ I.fresh⟩
def ale:R2:=fun x y H Q=>∃ l k xs,x=.ref l/\y=.int k/\H l=some (.lst xs)/\-(2 ^ 63)<=k/\k<2 ^ 63/\xs.length * k.toNat<=sizeLine /\
 ∀ p,H p=none->Q (.ref p) (upd H p (.lst (List.replicate k.toNat xs).flatten))
theorem len_rep {α:Type}(xs:List α)(k:Nat):(List.replicate k xs).flatten.length=k * xs.length:=by
 induction k with
 |zero=>simp
 |succ k ih=>rw[List.replicate_succ,List.flatten_cons,Zj',ih,Nat.succ_mul,Nat.add_comm]
theorem ud:qO X (binaryOp .Mult) ale:=by
 intro pins s σ H x y v u Q I rx ry h;obtain⟨l,k,xs,rfl,rfl,hH,h1,h2,hz,q⟩:=h;cases rx;obtain⟨t,rfl⟩:=ry;obtain⟨z,its,n,r,hl,e⟩:=I.Ys hH;have hlen:its.toArray.size * k.toNat<=sizeLine:=by rw[Ze',<-hl];exact hz
 have alf:¬ its.toArray.size * k.toNat > (2 ^ 63-1) / 8:=by
  have:(sizeLine:Nat)<=(2 ^ 63-1) / 8:=by decide
  omega
 have hfit:¬(!Builtin.List.listFitsIndex k)=true:=by
  rw[fitsIndex_both h1 h2];exact Z'
 have ahS:¬ Builtin.List.listTooLong (its.toArray.size * k.toNat)=true:=by
  rw[Yt hlen];exact Z'
 have hnew:List.foldl (fun x1 x2=>x1++x2) #[] (List.replicate (if its.toArray.isEmpty=true then 0 else k.toNat) its.toArray)=(List.replicate k.toNat its).flatten.toArray:=by
  have f0:∀ m:Nat,List.foldl (fun x1 x2=>x1++x2) #[] (List.replicate m its.toArray)=(List.replicate m its).flatten.toArray:=fun m=>by
   have:=foldl_rep its m [];rw[nil_append]at this;exact this
  rw[f0];cases its with
  |nil=>simp
  |cons a r'=>rw[M' (by simp)]
 refine wpAny_binaryOp_repeat_ref (T:="list") (U:="int") (by decide) ⟨_,e,rfl⟩ (fun s'=>typeIs_int s' k t) noFill_list_mul F.fills_int_mul F.slot_int_rmul repeat_list F.slot_int_index.lookup
  (call_meets F.slot_int_rmul (typeIs_int s k t) F.entry_int_rmul (F.args_int_rmul_2 _ _) (int___rmul___int_list k t l its.toArray n)
   ⟨e,rfl,⟨_,e,rfl⟩,call_meets F.slot_list_mul ⟨_,e,rfl⟩ F.entry_list_mul (F.args_list_mul_2 _ _) (AutoListH.list___mul___list_int_3 l its.toArray n k t hfit alf ahS) ⟨e,?_⟩⟩)
 rw[hnew];exact⟨.ref _,_,I.ahQ (t':=s.toks) (r.rep k.toNat) (by rw[len_rep,Nat.mul_comm];exact hz),rfl,q _ I.fresh⟩
end
section
variable {prog:Program} {w:World} {A:Around} {E:Value->Shared->Prop} {s:Shared}
set_option maxRecDepth 100000 in
end
section
variable {X:Cx}
end
end L2
namespace Att
open PySem PySem.W PySem.Calls PyProof.Rows
theorem AO {P:Params}{h:Heap}:∀(ns:List Int)(vs:List Value),WellAll P h vs (ns.map WData.int)->IntsAre vs ns:=by
 intro ns
 induction ns with
 |nil =>
  intro vs w;rw[List.map_nil]at w;cases w;exact .nil
 |cons n ns ih =>
  intro vs w;rw[map_cons]at w;cases w with
  |cons a b =>
   cases a;exact .cons _ _ (ih _ b)
theorem Vu {l:OpenLaw}{n:Nat}(hn:l.most=some n){P:Params}{h:Heap}{args:List WData}{vals:List Value}
  (hpre:l.row.toRowW.claim.pre args=true) (hwl:WellAll P h vals args) :
  ∃ a vs ns,vals=[Value.ref a]/\args=[WData.list (ns.map WData.int)]/\h.get? a=some { cls:=.type "list",data:=.seq vs.toArray }/\IntsAre vs ns/\ns.length<=n:=by
 have hsh:WShape.hasAll [] args [.list .int]=true:=(pre_splitW hpre).1;have hc:l.pre.holds [] { args:=args } = true:=(pre_splitW hpre).2;obtain⟨d,r,rfl,h1,h2⟩:=hasAllW_cons hsh;obtain rfl:=hasAllW_nil h2;obtain⟨xs,rfl,h3⟩:=hasW_list h1;obtain⟨ns,rfl⟩:=items_int h3;have hlen:ns.length<=n:=by
  unfold OpenLaw.pre at hc;have h4:(WTm.not (.lt (.lit (.int (n:Int))) (.len (.arg 0)))).holds [] { args:=[.list (ns.map .int)] } = true:=by
   have h4:=(holds_andW hc).1;rw[hn]at h4;exact h4
  have h5:=condW_of h4 (w_not (w_lt w_lit (w_len_list (w_arg rfl))));rw[K']at h5;refine Nat.le_of_not_lt fun q=>?_;have q':(n:Int)<((ns.length:Nat):Int):=by omega
  first
   |(rw[W' q']at h5;exact j' h5 (by decide))
   |(simp at h5;omega)
 cases hwl with
 |cons w1 w2 =>
  cases w2;cases w1 with
  |list ho hall=>exact⟨_,_,ns,rfl,rfl,ho,AO ns _ hall,hlen⟩
theorem Vv (l:OpenLaw)(args:List WData):l.row.toRowW.claim.post args (.bool true) args=true :=
 postW_of (r:=l.row.toRowW) (X:=(true==true))
  (show WShape.has [] (.bool true) .bool=true by first|rfl|decide|simp[WShape.has,WShape.arms,WShape.armsAll])
  (show(WTm.eq .res (.lit (.bool true))).value [] { args:=args,res:=some (.bool true),after:=args } = some (.bool (true==true)) from w_eq_bool (w_res rfl) w_lit) rfl
theorem LQ {l:OpenLaw}{n:Nat}{q:Program}{loose:List Str}{XP:(Str->Option Value)->Heap->Prop}{YP:World->Heap->Prop}{d:DefRec}
  (hn:l.most=some n) (hdf:d.params.defaults=[])
  (call:∀(w:World)(s₀ s₁:Shared)(mg mb:Str->Option Value)(fa:Addr)(o:Obj)(pm cd doc:Value)(a:Addr)(vs:List Value)(ns:List Int),
   Ground q loose [] XP w s₀ mg mb s₁.heap->YP w s₁.heap ->
   s₁.heap.get? fa=some o->o.data=.func (docDef d.name d.params d.body d.scope pm cd doc)->s₁.heap.CodeRec cd d.name->mg d.name=some (.ref fa) ->
   s₁.heap.get? a=some { cls:=.type "list",data:=.seq vs.toArray }->IntsAre vs ns->ns.length<=n->s₁.gens = #[] ->
   codeAny (model l.prog w) callerA (.call (.ref fa) ⟨[.ref a],[]⟩) (fun r s'=>r=.ok (.ret (.bool true))/\OldK s₁.heap s'.heap/\s'.os=s₁.os/\AllBare s'.gens) s₁) :
  WalkO q loose XP YP l.row.toRowW d [] (fun f vs=>PySem.call f vs):=by
 intro w s₀ s₁ mg mb G Y fa o pm cd doc dV kV ho hd hcd hD hmg hg args vals as hpre hlay hrd hwl hlo;obtain rfl:dV=.none:=Dflts.none hD hdf;obtain rfl:kV=.none:=Dflts.noKw hD;obtain⟨a,vs,ns,rfl,rfl,hobj,hints,hlen⟩:=Vu hn hpre hwl;refine enter_call (codeAny_mono (call w s₀ s₁ mg mb fa o pm cd doc a vs ns G Y ho (fd_plain hd) hcd hmg hobj hints hlen hg) fun r s' hq=>?_);obtain⟨rfl,h2,h3,h4⟩:=hq;exact⟨.inl ⟨.bool true,.bool true,[],rfl,fun _=>rfl,.bool true,Vv l _,fun _=>⟨List.Pairwise.nil,fun _ hm=>(nomatch hm)⟩⟩,h2,h3,h4⟩
section
variable {prog:Program} {w:World} {A:Around} {E:Value->Shared->Prop} {s:Shared} {K:Frag}
def IY (h:Heap):Heap:={ h with objs:=#[] }
theorem Dp (h:Heap)(b:Addr):(IY h).get? b=none:=by
 cases e:(IY h).get? b with
 |none=>rfl
 |some o=>exact j' (P' e) (Nat.not_lt_zero _)
def ledger (h:Heap)(L d:Addr):List (Addr×Obj):=(List.range h.objs.size).filterMap fun a=>if a=L\/a=d then none else(h.get? a).map fun o=>(a,o)
theorem pA {h:Heap}{L d a:Addr}{o:Obj}:(a,o)∈ledger h L d ↔ a≠L/\a≠d/\h.get? a=some o:=by
 unfold ledger;rw[List.mem_filterMap];constructor
 ·rintro⟨b,_,e⟩;split at e
  ·cases e
  ·rename_i hb
   obtain⟨o',ho,e'⟩:=Option.map_eq_some_iff.mp e;cases e';exact⟨fun q=>hb (.inl q),fun q=>hb (.inr q),ho⟩
 ·rintro⟨n1,n2,ho⟩;refine⟨a,mem_range.mpr (P' ho),?_⟩;rw[M' (show ¬(a=L\/a=d) from fun q=>q.elim n1 n2),ho] <;> rfl
theorem afR {h:Heap}{L:Addr}{m:Str->Option Value}(n:h.Ns L m):Fr (IY h) L h m :=
 ⟨n,fun b o e=>(by rw[Dp]at e;cases e),X' _⟩
end
end Att
namespace L2
open PySem PySem.Spec PyProof.Rows
theorem HN:∀{vs:List Value} {ns:List Int},IntsAre vs ns->Vals (ns.map V.int) vs
 |_,_,.nil=>.nil
 |_,_,.cons n t h=>.cons ⟨t,rfl⟩ (HN h)
def Only (H:Hp):Prop:=∀ b,H b=none\/∃ o xs,H b=some (.ix o (.lst xs))
theorem Yv {P:Program}{w:World}{K:Frag}{mg mb:Str->Option Value}{CX:Yl}{k:Nat}{fa a:Addr}{fd:FuncData}{x:Str}{sp:Sp}{s₁:Shared}{vs:List Value}{ns:List Int}
  (KX:K.In s₁.heap) (hns:s₁.heap.Ns mainGlobals mg) (hb:s₁.heap.Ns builtinsNs mb) (hbb:∀ x:Str,x ≠ "__name__"->mb x=bootBuiltins x) (hlim:s₁.heap.NoLimit) (hg:s₁.gens = #[])
  (ha:s₁.heap.get? a=some { cls:=.type "list",data:=.seq vs.toArray }) (hi:IntsAre vs ns) (hl:ns.length<=sizeLine) (hr:nk k callerA)
  (F:∀ base:Heap,K.In base->base.Ns mainGlobals mg->bV P w K mg base CX k fa fd [x] sp) (hbind:∀(s:Shared)(u:Value),BindsTo s fd ⟨[u],[]⟩ [(x,u)])
  (hsp:∀ H:Hp,Only H->aR K H a (ns.map V.int)->sp [.ref a] H (fun v _=>v=.bl true) fun _ _ _=>False)
  (hCX:∀ H e s',CX [] H s₁ (fun _ _ _=>False) e s'->False) :
  codeAny (model P w) callerA (.call (.ref fa) ⟨[.ref a],[]⟩) (fun r s'=>r=.ok (.ret (.bool true))/\OldK s₁.heap s'.heap/\s'.os=s₁.os/\AllBare s'.gens) s₁:=by
 have rv:=HN hi;have lenV:=hi.length;have core:∀ H:Hp,Only H->aR K H a (ns.map V.int)->qN P w H s₁.heap->(∀ b,H b≠none->b=a)->(H a≠none->K.lookup a=none) ->
   codeAny (model P w) callerA (.call (.ref fa) ⟨[.ref a],[]⟩) (fun r s'=>r=.ok (.ret (.bool true))/\OldK s₁.heap s'.heap/\s'.os=s₁.os/\AllBare s'.gens) s₁:=by
  intro H hO hS hok hA hK;have UJ:∀{b:Addr} {o:Obj},s₁.heap.get? b=some o->H b=none->(II s₁.heap H).get? b=some o:=fun e n=>X5 e n;have noA:∀{b:Addr} {o:Obj} {es:Array DictEntry} {ep:Nat},s₁.heap.get? b=some o->o.data=.dict es ep->H b=none:=fun {b o es ep} e d=>by
   cases q:H b with
   |none=>rfl
   |some u =>
    have e':b=a:=hA b (by rw[q];simp);subst e';rw[ha]at e;cases e;have d':Data.seq vs.toArray _=Data.dict es ep:=d;cases d'
  have nsK:∀{b:Addr} {m:Str->Option Value},s₁.heap.Ns b m->(II s₁.heap H).Ns b m:=fun {b m} ⟨o,es,ep,e,d,r⟩=>⟨o,es,ep,UJ e (noA e d),d,r⟩;have hKb:K.In (II s₁.heap H):=fun b o e=>UJ (KX b o e) (by
   cases q:H b with
   |none=>rfl
   |some u =>
    have e':b=a:=hA b (by rw[q];simp);subst e';rw[hK (by rw[q];simp)]at e;cases e)
  have hM:Mod K mg (II s₁.heap H):=⟨hKb,nsK hns,⟨mb,nsK hb,hbb⟩,let ⟨mc,h1,h2⟩:=hlim;⟨mc,nsK h1,h2⟩⟩;have e0:acJ P w K mg (II s₁.heap H) callerA [] s₁ H:=⟨rfl,hM,fun b o e=>acA e,Nat.le_of_eq (Vj _ _),trivial,fun b hb=>j' (show b∈([]:List Addr) from hb) (by simp),hok,.of_eq hg⟩;refine codeAny_mono ((F _ hKb (nsK hns)).run callerA [] s₁ H ⟨[.ref a],[]⟩ [.ref a] [.ref a] _ _ hr e0 (hbind s₁ (.ref a)) (.cons rfl .nil) (hsp H hO hS)) fun r s' h=>?_;cases r with
  |error e=>exact(hCX H e s' h).elim
  |ok fl =>
   cases fl with
   |next=>exact False.elim h
   |brk=>exact False.elim h
   |cont=>exact False.elim h
   |ret u =>
    obtain⟨v,H',os,bare,un,hok',r',q⟩:=h;have q':v=.bl true:=q;subst q';obtain rfl:u=Value.bool true:=r';refine⟨rfl,OldK.of_keep fun b o e=>?_,os,bare⟩;cases q:H b with
    |none=>exact un.keep b o e q (by intro z;exact j' (show b∈([]:List Addr) from z) (by simp)) (by simp)
    |some u =>
     rcases hO b with z|⟨ob,xs,z⟩
     ·rw[q]at z;cases z
     ·have z2:=un.yt b ob _ z;obtain⟨e1,_⟩:=hok b _ z;obtain⟨e2,_⟩:=hok' b _ z2;rw[e]at e1;cases e1;exact e2
 cases hk:K.lookup a with
 |some o =>
  have e:=KX a o hk;rw[ha]at e;cases e;refine core (fun _=>none) (fun _=>.inl rfl) (.inr ⟨_,vs.toArray,_,hk,rfl,rfl,rfl,by rw[Ze',lenV];exact hl,by simpa using rv⟩) (fun b u z=>by have z':(none:Option HO)=some u:=z;cases z') (fun b z=>j' rfl z) fun z=>j' rfl z
 |none =>
  refine core (fun b=>if b=a then some (.ix { cls:=.type "list",data:=.seq vs.toArray } (.lst (ns.map V.int))) else none) (fun b=>?_) (.inl (.inr ⟨{ cls:=.type "list",data:=.seq vs.toArray },S' rfl⟩)) (fun b u z=>?_) (fun b z=>?_) fun _=>hk
  ·by_cases hb:b=a
   ·exact .inr ⟨_,_,S' hb⟩
   ·exact .inl (M' hb)
  ·by_cases hb:b=a
   ·have z':=(S' hb).symm.trans z;cases z';subst hb;exact⟨ha,by rw[K'];exact hl,vs,_,rv,ha⟩
   ·have z':=(M' hb).symm.trans z;cases z'
  ·by_cases hb:b=a
   ·exact hb
   ·exact j' (M' hb) z
end L2
namespace L2
open PySem PySem.Spec PyProof.Rows
theorem acP {l:OpenLaw}{n k:Nat}{q:Program}{loose:List Str}{XP:(Str->Option Value)->Heap->Prop}{YP:World->Heap->Prop}{d:DefRec}{K:Params->Frag}{CX:World->Yl}{sp:World->Sp}{x:Str}
  (hn:l.most=some n) (hn2:n<=sizeLine) (hdf:d.params.defaults=[]) (hr:nk k callerA)
  (hY:∀(w:World)(h:Heap),YP w h->(K w.params).In h)
  (F:∀(w:World)(mg:Str->Option Value)(fa:Addr)(h:Heap),(K w.params).In h->h.Ns mainGlobals mg->mg d.name=some (.ref fa) ->
   ∃ fd:FuncData,(∀(s:Shared)(u:Value),BindsTo s fd ⟨[u],[]⟩ [(x,u)]) /\
    ∀ base:Heap,(K w.params).In base->base.Ns mainGlobals mg->bV l.prog w (K w.params) mg base (CX w) k fa fd [x] (sp w))
  (hsp:∀(w:World)(H:Hp)(a:Addr)(ns:List Int),ns.length<=n->Only H->aR (K w.params) H a (ns.map V.int)->sp w [.ref a] H (fun v _=>v=.bl true) fun _ _ _=>False)
  (hCX:∀(w:World)(H:Hp)(s:Shared)(e:Value)(s':Shared),CX w [] H s (fun _ _ _=>False) e s'->False) :
  WalkO q loose XP YP l.row.toRowW d [] (fun f vs=>PySem.call f vs):=by
 refine Att.LQ hn hdf fun w s₀ s₁ mg mb fa o pm cd doc a vs ns G Y ho hd hcd hmg hobj hints hlen hg=>?_;have KX:=hY w _ Y;obtain⟨fd,hb,hF⟩:=F w mg fa _ KX G.T.g hmg;exact Yv KX G.T.g G.T.b G.T.builtins G.T.nolimit hg hobj hints (Zk' hlen hn2) hr hF hb (fun H hO hS=>hsp w H a ns hlen hO hS) fun H e s'=>hCX w H s₁ e s'
end L2
namespace L2
open PySem PySem.Spec PyProof.Rows
def ao (s:Stmt):Arguments:=match s with
 |.FunctionDef _ a _ _ _ _ _ _ _ _=>a
 |_=>{ posonlyargs:=[],args:=[],vararg:=none,kwonlyargs:=[],kw_defaults:=[],kwarg:=none,defaults:=[] }
def ak (s:Stmt):List Stmt:=match s with
 |.FunctionDef _ _ b _ _ _ _ _ _ _=>b
 |_=>[]
def ae (s:Stmt):Scope:=match s with
 |.FunctionDef _ _ _ _ _ _ sc _ _ _=>sc
 |_=>{ kind:=.function,names:=[],isGenerator:=false,isCoroutine:=false }
abbrev iw:Yl:=fun _ _ _ _ _ _=>False
abbrev E0:XK:=fun _ _ _=>False
theorem aO {X:Cx}:Passes iw X E0:=fun _ _ _ _ _ _ _ h=>h.elim
structure jj (K:Frag)(x qual:Str)(st:Stmt)(f:Addr)(fd:FuncData):Prop where
 ex:∃(oc:Value)(od:Option Addr)(kV doc pm:Value)(an:Option Addr)(cdv ct:Value)(osl:Array (Option Value)),
  fd=fnOf x qual (ao st) (ak st) (ae st) .none kV doc pm an cdv ct/\K.lookup f=some ⟨oc,od,.func fd,osl⟩/\codeIn K cdv qual=true
 kp:keepIn K (.ref f)=true
section
variable {P:Program} {w:World} {K:Frag} {mg:Str->Option Value} {base:Heap}
theorem jj.ok {x qual:Str}{st:Stmt}{f:Addr}{fd:FuncData}{N ps:List Str}{k:Nat}{sp:Sp}(F:jj K x qual st f fd)(S:aL N ps (ae st))(len:∀ vs H Q E,sp vs H Q E->vs.length=ps.length)
  (hbody:∀(cdv:Value)(A:Around)(outer:List Env)(s:Shared)(H:Hp)(vs:List V)(Q:VK)(E:XK),nk k (A.deeper (envOfC qual (ae st) s.heap.objs.size f cdv))->sp vs H Q E ->
   ∃ t,NT (N3 iw P w K mg base N qual (ae st) f cdv A outer s H E).nox (ak st) t/\t { nx:=fun _ H'=>Q .non H',rt:=Q } (start N vs) H):bV P w K mg base iw (k+1) f fd ps sp:=by
 obtain⟨oc,od,kV,doc,pm,an,cdv,ct,osl,rfl,lk,hcd⟩:=F.ex;refine aep lk hcd S len fun A outer s H vs Q E hr hsp=>?_;obtain⟨t,h,q⟩:=hbody cdv A outer s H vs Q E hr hsp;exact⟨t,h.nox,q⟩
theorem jj.binds {x qual:Str}{st:Stmt}{f:Addr}{fd:FuncData}{ps:List Str}(F:jj K x qual st f fd)
  (h:∀(kV doc pm:Value)(an:Option Addr)(cdv ct:Value)(us:List Value),us.length=ps.length->bindArgs (fnOf x qual (ao st) (ak st) (ae st) .none kV doc pm an cdv ct) ⟨us,[]⟩=pure (ps.zip us)):Binds K fd ps []:=by
 obtain⟨oc,od,kV,doc,pm,an,cdv,ct,osl,rfl,lk,hcd⟩:=F.ex;exact .all (h kV doc pm an cdv ct)
theorem aW {x qual:Str}{st:Stmt}{f:Addr}{oc:Value}{od an:Option Addr}{osl:Array (Option Value)}{kV doc pm cdv ct:Value}(l:K.lookup f=some ⟨oc,od,.func (fnOf x qual (ao st) (ak st) (ae st) .none kV doc pm an cdv ct),osl⟩)
  (c:codeIn K cdv qual=true) (k:keepIn K (.ref f)=true):jj K x qual st f (fnOf x qual (ao st) (ak st) (ae st) .none kV doc pm an cdv ct):=⟨⟨oc,od,kV,doc,pm,an,cdv,ct,osl,rfl,l,c⟩,k⟩
end
theorem je {A:Around}{k:Nat}(hr:nk k A):A.units+1<cLine:=Nat.lt_of_le_of_lt (Nat.add_le_add_left (by decide:1<=64) _) hr.units
theorem aQ {n:Nat}(h:n<=1000):n<sizeLine:=Nat.lt_of_le_of_lt h (by decide)
section
variable {X:Cx}
theorem pv (i:Nat){x:Str}{pos:Pos}(hN:X.N[i]? = some x:=by rfl)(hv:Vis X.env.scope x:=by first|exact Or.inl rfl|exact Or.inr (Or.inl rfl)|exact Or.inr (Or.inr rfl))(hd:(x==("__debug__":Str))=false:=by decide)
  (hcd:(x==("__classdict__":Str))=false:=by decide):PE X (.Name x pos) (FJ i):=afx hN hv hd hcd
end
theorem dA {A B:Prop}(h:B):if false=true then A else B:=by
 rw[M' Z'];exact h
theorem dj {A B:Prop}(h:A):if true=true then A else B:=by
 rw[S' rfl];exact h
theorem aJ {c A B:Prop}[Decidable c](h1:c->A)(h2:¬ c->B):if c then A else B:=by
 by_cases h:c
 ·rw[S' h];exact h1 h
 ·rw[M' h];exact h2 h
def ax (H H':Hp):Prop:=∀ b o,H b=some o->H' b=some o
theorem ax.refl (H:Hp):ax H H:=fun _ _ h=>h
theorem ax.trans {H H1 H2:Hp}(a:ax H H1)(b:ax H1 H2):ax H H2:=fun c o h=>b c o (a c o h)
theorem ax.free {H H':Hp}(e:ax H H'){l:Addr}(h:H' l=Option.none):H l=Option.none:=by
 cases q:H l with
 |none=>rfl
 |some o =>
  rw[e l o q]at h;cases h
theorem ax.seq {K:Frag}{H H':Hp}{a:Addr}{xs:List V}(e:ax H H')(h:aR K H a xs):aR K H' a xs:=by
 rcases h with (h|⟨o,h⟩)|h
 ·exact .inl (.inl (e _ _ h))
 ·exact .inl (.inr ⟨o,e _ _ h⟩)
 ·exact .inr h
end L2
set_option maxHeartbeats 4000000
namespace L2
open PySem PySem.Spec PyProof.Rows
def bc (env:Env):List (Str×NameKind)->List (Str×Addr)->List (Str×Addr)
 |[],acc=>acc
 |p::l,acc=>bc env l (if p.2 == .free then(p.1,(env.cells.lookup p.1).getD 0)::acc else acc)
theorem C3 {env:Env}{scope:Scope}(h:∀ p∈scope.names,p.2=.free->∃ c,env.cells.lookup p.1=some c):closureFor scope env=pure (bc env scope.names []):=by
 have go:∀(l:List (Str×NameKind)) (acc:List (Str×Addr)),(∀ p∈l,p.2=.free->∃ c,env.cells.lookup p.1=some c) ->
   (forIn l acc fun(p:Str×NameKind) cs=>if(p.2==NameKind.free)=true then(cellOf env p.1 >>= fun a=>pure (ForInStep.yield ((p.1,a)::cs))) else pure (ForInStep.yield cs))=(pure (bc env l acc):Sem (List (Str×Addr))):=by
  intro l
  induction l with
  |nil=>intro acc _;rfl
  |cons p l ih =>
   intro acc hl;rw[List.forIn_cons];have hr:=fun q hq=>hl q (Zl' _ hq)
   by_cases hk:p.2=.free
   ·obtain⟨c,hc⟩:=hl p mem_cons_self hk;have e1:(p.2==NameKind.free)=true:=by rw[hk];rfl
    rw[S' e1];have e2:cellOf env p.1=pure c:=by unfold cellOf;rw[hc]
    rw[e2,pure_bind,pure_bind];show forIn l ((p.1,c)::acc) _=_;rw[ih _ hr];show _=pure (bc env l (if p.2 == .free then(p.1,(env.cells.lookup p.1).getD 0)::acc else acc));rw[S' e1,hc];rfl
   ·have e1:¬(p.2==NameKind.free)=true:=by intro z;exact hk (by simpa using z)
    rw[M' e1,pure_bind];show forIn l acc _=_;rw[ih _ hr];show _=pure (bc env l (if p.2 == .free then(p.1,(env.cells.lookup p.1).getD 0)::acc else acc));rw[M' e1]
 have e:=go scope.names [] h;unfold closureFor;show(forIn scope.names ([]:List (Str×Addr)) _ >>= fun r=>pure r)=_;rw[bind_pure];exact e
theorem tq {env:Env}{x:Str}:∀(l:List (Str×NameKind)) (acc:List (Str×Addr)) {c:Addr},(bc env l acc).lookup x=some c->acc.lookup x=some c\/((x,NameKind.free)∈l/\c=(env.cells.lookup x).getD 0)
 |[],acc,c,h=>.inl h
 |p::l,acc,c,h=>by
  rcases tq l _ h with z|⟨z,e⟩
  ·by_cases hk:(p.2==NameKind.free)=true
   ·rw[S' hk,List.lookup_cons]at z
    by_cases hx:(x==p.1)=true
    ·rw[hx]at z;have e:x=p.1:=by simpa using hx
     have e2:p.2=.free:=by simpa using hk
     refine .inr ⟨?_,?_⟩
     ·rw[e,<-e2];exact mem_cons_self
     ·rw[e];exact(Zc' z).symm
    ·have hx':(x==p.1)=false:=by simpa using hx
     rw[hx']at z;exact .inl z
   ·rw[M' hk]at z;exact .inl z
  ·exact .inr ⟨Zl' _ z,e⟩
theorem ly {env:Env}{x:Str}:∀(l:List (Str×NameKind)) (acc:List (Str×Addr)),((acc.lookup x).isSome=true\/(x,NameKind.free)∈l)->((bc env l acc).lookup x).isSome=true
 |[],acc,h=>by
  rcases h with h|h
  ·exact h
  ·cases h
 |p::l,acc,h=>by
  refine ly l _ ?_;rcases h with h|h
  ·left
   by_cases hk:(p.2==NameKind.free)=true
   ·rw[S' hk,List.lookup_cons];cases (x==p.1) with
    |true=>rfl
    |false=>exact h
   ·rw[M' hk];exact h
  ·rcases List.mem_cons.mp h with e|h
   ·left
    have e1:p.1=x:=by rw[<-e]
    have e2:(p.2==NameKind.free)=true:=by rw[<-e];rfl
    rw[S' e2,List.lookup_cons,e1];simp
   ·exact .inr h
theorem bU {env:Env}{x:Str}{k:NameKind}:∀(l:List (Str×NameKind)),
  (l.map fun(n,k)=>if(k==NameKind.free&&env.scope.kind == .function&&env.kindOf n==some .cell) then(n,NameKind.cell) else(n,k)).lookup x=some k ->
   l.lookup x=some k\/(k=.cell/\l.lookup x=some .free)
 |[],h=>by cases h
 |(n,q)::l,h=>by
  rw[map_cons]at h;cases hx:(x==n) with
  |true =>
   rw[List.lookup_cons,hx]
   by_cases hc:(q==NameKind.free&&env.scope.kind == .function&&env.kindOf n==some .cell)=true
   ·simp only [hc,if_true,List.lookup_cons,hx]at h;have e:q=.free:=by
     have:=(Bool.and_eq_true_iff.mp (Bool.and_eq_true_iff.mp hc).1).1
     simpa using this
    right
    exact⟨(Zc' h).symm,by rw[e]⟩
   ·have hc':(q==NameKind.free&&env.scope.kind == .function&&env.kindOf n==some .cell)=false:=by simpa using hc
    simp only [hc',Bool.false_eq_true,if_false,List.lookup_cons,hx]at h;exact .inl h
  |false =>
   rw[List.lookup_cons,hx];refine bU (env:=env) l ?_
   by_cases hc:(q==NameKind.free&&env.scope.kind == .function&&env.kindOf n==some .cell)=true
   ·simp only [hc,if_true,List.lookup_cons,hx]at h;exact h
   ·have hc':(q==NameKind.free&&env.scope.kind == .function&&env.kindOf n==some .cell)=false:=by simpa using hc
    simp only [hc',Bool.false_eq_true,if_false,List.lookup_cons,hx]at h;exact h
structure Bk where
 C:Addr
 s₂:Shared
 aqo:Hp
 fp:List Addr
 xe:Value->Shared->Prop
def a6 (X:Cx)(cn:List Str)(scope:Scope)(b:Bk):Cx where
 prog:=X.prog
 w:=X.w
 K:=X.K
 mg:=X.mg
 base:=X.base
 A:=X.A
 N:=cn++X.N
 s₀:=b.s₂
 H₀:=b.aqo
 env:=compEnvC scope (bc X.env scope.names []) b.C X.env
 outer:=X.stack
 stack:=X.stack
 ex:=b.fp
 fn:=fun _=>false
 calm:=X.calm
 pn:=[]
 xe:=b.xe
def Yw (sc:Scope)(N:List Str)(scope:Scope):Bool :=
 (scope.kind == .function) &&
 (scope.names.all fun p=>(p.2 != .cell)&&((p.2 != .free)||(sc.names.lookup p.1==some .cell)||(sc.names.lookup p.1==some .free))&&((p.2 != .local)||(scope.names.lookup p.1==some .local))) &&
 (N.all fun x=>scope.names.lookup x != some .local)
structure bS (sc:Scope)(N:List Str)(scope:Scope):Prop where
 kind:scope.kind=.function
 IZ:∀ p∈scope.names,p.2≠.cell
 free:∀ p∈scope.names,p.2=.free->sc.names.lookup p.1=some .cell\/sc.names.lookup p.1=some .free
 loc:∀ p∈scope.names,p.2=.local->scope.names.lookup p.1=some .local
 apart:∀ x∈N,scope.names.lookup x≠some .local
theorem bS.of {sc:Scope}{N:List Str}{scope:Scope}(h:Yw sc N scope=true):bS sc N scope:=by
 unfold Yw at h;rw[Bool.and_eq_true,Bool.and_eq_true]at h;obtain⟨⟨h1,h2⟩,h3⟩:=h;rw[all_eq_true]at h2 h3;refine⟨by simpa using h1,fun p hp=>?_,fun p hp e=>?_,fun p hp e=>?_,fun x hx=>?_⟩
 ·have:=h2 p hp;rw[Bool.and_eq_true,Bool.and_eq_true]at this
  simpa using this.1.1
 ·have:=h2 p hp;rw[Bool.and_eq_true,Bool.and_eq_true]at this;have q:=this.1.2;rw[e]at q;rw[Bool.or_eq_true,Bool.or_eq_true]at q;rcases q with (q|q)|q
  ·exact j' q (by decide)
  ·exact .inl (by simpa using q)
  ·exact .inr (by simpa using q)
 ·have:=h2 p hp;rw[Bool.and_eq_true,Bool.and_eq_true]at this;have q:=this.2;rw[e]at q;rw[Bool.or_eq_true]at q;rcases q with q|q
  ·exact j' q (by decide)
  ·simpa using q
 ·have:=h3 x hx
  simpa using this
section
variable {X:Cx} {pins:List (Addr×Obj)} {σ:St} {H:Hp}
theorem cf {l:List (Str×NameKind)}{x:Str}{k:NameKind}(h:l.lookup x=some k):(x,k)∈l:=PySem.mem_of_lookup h
theorem Inv.block {s₂:Shared}{h₁:Heap}{tk:Nat}{cn:List Str}{scope:Scope}{fp:List Addr}{xe:Value->Shared->Prop}{C D:Addr}{m:Str->Option Value}
  (I:Inv X pins σ H s₂) (F:bS X.env.scope X.N scope) (hc:X.calm=true) (hf:∀ b∈fp,jh X pins H b) (hfl:∀ b∈fp,b<s₂.heap.objs.size)
  (hC:s₂.heap.objs.size<=C) (hD:s₂.heap.objs.size<=D) (hDC:D≠C) (hn:h₁.Ns C m) (old:∀ b o,s₂.heap.get? b=some o->h₁.get? b=some o)
  (hacc:h₁.get? D=some { cls:=.type "list",data:=.seq ([]:List Value).toArray 0 }) :
  Inv (a6 X cn scope ⟨C,s₂,H,fp,xe⟩) [] (List.replicate cn.length none++σ) (upd H D (.lst [])) { s₂ with heap:=h₁,toks:=tk }:=by
 have pB:∀ x,((a6 X cn scope ⟨C,s₂,H,fp,xe⟩).env.kindOf x=some .cell\/(a6 X cn scope ⟨C,s₂,H,fp,xe⟩).env.kindOf x=some .free)->(x,NameKind.free)∈scope.names:=by
  intro x hx;have hx':(relabel scope X.env).names.lookup x=some .cell\/(relabel scope X.env).names.lookup x=some .free:=hx;rcases hx' with z|z
  ·rcases bU scope.names z with z|⟨_,z⟩
   ·exact j' rfl (F.IZ _ (cf z))
   ·exact cf z
  ·rcases bU scope.names z with z|⟨e,_⟩
   ·exact cf z
   ·cases e
 have mV:∀ x,(x,NameKind.free)∈scope.names->X.env.kindOf x=some .cell\/X.env.kindOf x=some .free:=fun x hx=>F.free _ hx rfl;have cY:∀ x c,(bc X.env scope.names []).lookup x=some c->X.env.cells.lookup x=some c:=by
  intro x c e;rcases tq _ _ e with z|⟨z,e2⟩
  ·cases z
  ·obtain⟨c',hc'⟩:=I.ok.has x (mV x z);rw[hc']at e2 ⊢;rw[e2];rfl
 have ahT:(a6 X cn scope ⟨C,s₂,H,fp,xe⟩).fs=frs X.stack:=rfl;have Yx:∀ b∈fp,b ∉ frs X.stack:=by
  intro b hb z;obtain⟨_,f1,f2,_⟩:=hf b hb;rcases List.mem_cons.mp (I.Dj b z) with e|e
  ·exact f1 e
  ·exact f2 e
 have yA:∀ x c,X.env.cells.lookup x=some c->c<s₂.heap.objs.size:=by
  intro x c e;obtain⟨v,o,ho,_⟩:=I.cell x c e;exact P' ho
 have ok:(a6 X cn scope ⟨C,s₂,H,fp,xe⟩).Ok:=by
  refine⟨I.ok.mod,?_,I.ok.glob,I.ok.blt,hC,fun x y c h1 h2=>I.ok.inj x y c (cY x c h1) (cY y c h2),fun x hx=>?_,fun x c z=>?_,fun _=>I.ok.hd hc,I.ok.frames,.inl rfl,fun b hb=>⟨?_,fun x c e=>?_⟩,
   fun b o e=>I.bs b o e,Zk' I.ok.LJ I.sz,fun b o e hb=>?_,fun b hb=>?_,I.stack,I.CY⟩
  ·show(relabel scope X.env).kind=.function;exact F.kind
  ·have:=ly (env:=X.env) (x:=x) scope.names [] (.inr (pB x hx));exact Option.isSome_iff_exists.mp this
  ·cases z
  ·exact Za' (U' (hfl b hb) hC)
  ·exact(hf b hb).2.2.2.2.1 x c (cY x c e)
  ·have:X.base.objs.size<=X.s₀.heap.objs.size:=I.ok.LJ;rcases (hf b hb).2.2.2.1 with z|z
   ·exact I.ok.IJ b o e z
   ·exact j' (U' (P' e) (Zk' I.ok.LJ z)) (Nat.lt_irrefl _)
  ·exact Yx b hb
 have hDn:H D=none:=I.hok.fresh hD;have Yy:qN X.prog X.w (upd H D (.lst [])) h₁:=I.hok.laid old hD ⟨X' _,[],0,.nil,hacc⟩;refine⟨ok,rfl,I.bare,Un.laid old hD hDn,⟨m,hn,fun i x v e1 e2 e3=>?_⟩,fun x c e=>?_,?_,fun x c e=>?_,fun p hp=>j' (show p∈([]:List (Addr×Obj)) from hp) (by simp),Yy,?_⟩
 ·have hi:¬ i<cn.length:=by
   intro hi;rw[List.getElem?_append_left (by simpa using hi),List.getElem?_replicate]at e2;split at e2 <;> cases e2
  rw[getElem?_append_right (by simpa using hi),List.length_replicate]at e2;have e1':(cn++X.N)[i]? = some x:=e1;rw[getElem?_append_right (by omega)]at e1';obtain⟨m0,hm0,hl⟩:=I.loc;have hxN:x∈X.N:=V' e1';have hfr:(x,NameKind.free)∈scope.names:=by
   have e3':(relabel scope X.env).names.lookup x=some .local\/(relabel scope X.env).names.lookup x=some .cell\/(relabel scope X.env).names.lookup x=some .free:=e3;rcases e3' with z|z|z
   ·rcases bU scope.names z with z|⟨e,_⟩
    ·exact j' z (F.apart x hxN)
    ·cases e
   ·exact pB x (.inl z)
   ·exact pB x (.inr z)
  have hk:=mV x hfr;have vis:Vis X.env.scope x:=by
   rcases hk with z|z
   ·exact .inr (.inl z)
   ·exact .inr (.inr z)
  obtain⟨u,r,lk⟩:=hl (i-cn.length) x v e1' e2 vis;refine⟨u,r,?_⟩;rcases lk with ⟨z,_⟩|⟨_,c,ec,z⟩
  ·rcases hk with q|q
   ·rw[z]at q;cases q
   ·rw[z]at q;cases q
  ·have hcl:(bc X.env scope.names []).lookup x=some c:=by
    obtain⟨c',e'⟩:=Option.isSome_iff_exists.mp (ly (env:=X.env) (x:=x) scope.names [] (.inr hfr));rw[e'];have:=cY x c' e';rw[ec]at this;exact this.symm
   refine .inr ⟨?_,c,hcl,?_⟩
   ·have e3':(relabel scope X.env).names.lookup x=some .local\/(relabel scope X.env).names.lookup x=some .cell\/(relabel scope X.env).names.lookup x=some .free:=e3;rcases e3' with y|y|y
    ·rcases bU scope.names y with y|⟨e,_⟩
     ·exact j' y (F.apart x hxN)
     ·cases e
    ·exact .inl y
    ·exact .inr y
   ·obtain⟨o,ho,hd⟩:=z;exact⟨o,old c o ho,hd⟩
 ·obtain⟨v,o,ho,hd⟩:=I.cell x c (cY x c e);exact⟨v,o,old c o ho,hd⟩
 ·show upd H D (.lst []) C=none;rw[aA (Yb' hDC)];exact I.hok.fresh hC
 ·rw[aA (Za' (U' (yA x c (cY x c e)) hD))];exact I.lu x c (cY x c e)
 ·show(List.replicate cn.length none++σ).length=(cn++X.N).length;rw[Zj',List.length_replicate,Zj',I.len]
theorem Inv.Ja {s₂ s':Shared}{h':Heap}{cn:List Str}{scope:Scope}{fp:List Addr}{xe:Value->Shared->Prop}{C:Addr}{H':Hp}{σ':St}{pl:List (Addr×Obj)}
  (I:Inv X pins σ H s₂) (hf:∀ b∈fp,jh X pins H b) (hC:s₂.heap.objs.size<=C) (J:Inv (a6 X cn scope ⟨C,s₂,H,fp,xe⟩) pl σ' H' s') (sb:Heap.SameBut C s'.heap h') :
  Inv X pins σ H' { s' with heap:=h' }:=by
 have XZ:∀ b o,s₂.heap.get? b=some o->b≠C:=fun b o e=>Za' (U' (P' e) hC);have u:Un (frs X.stack) fp H H' s₂.heap s'.heap:=J.base;have un:Un (frs X.stack) fp H H' s₂.heap h' :=
  ⟨fun b o e n hb hx=>(sb.2 b (XZ b o e)).trans (u.keep b o e n hb hx),
   fun b o e n hb hx=>by
   obtain⟨sl,q⟩:=u.slot b o e n hb hx;exact⟨sl,(sb.2 b (XZ b o e)).trans q⟩,
   u.free,fun b o e hx=>by
   obtain⟨o',q⟩:=u.there b o e hx;exact⟨o',(sb.2 b (XZ b o e)).trans q⟩,u.tups,u.yt,u.Di⟩
 have fC:H' C=none:=J.free;have hok:qN X.prog X.w H' h':=fun b o e=>by
  refine(J.hok b o e).stay (fun c v hc q=>(sb.2 c ?_).trans q) (fun _ q=>q) fun _ _ q=>q;rintro rfl;rcases hc with z|z
  ·rw[<-z,fC]at e;cases e
  ·rw[fC]at z;cases z
 have os:s'.os=s₂.os:=J.os;refine I.call' (s':={ s' with heap:=h' }) os un hok J.bare fun b hb=>?_;obtain⟨_,f1,_,f3,f4,f5⟩:=hf b hb;exact⟨f3,f1,f4,f5⟩
end
end L2
namespace L2
open PySem PySem.Spec PyProof.Rows
theorem HP {prog:Program}{w:World}{A:Around}{R:Result->Shared->Prop}{s:Shared}{elt tg iter:Expr}{ifs:List Expr}{scope:Scope}{pos:Pos}{it acc:Value}{env:Env}(J:Nat->Shared->Prop)
  (turn:∀ n s,J n s->wpAny (model prog w) A (pyNext it) (fun r s₁=>(r=none/\R (.ok .next) s₁)\/∃ v,r=some v /\
   wpAny (model prog w) A (letOwnedTupleGo tg it v) (fun _ s₂=>wpAny (model prog w) A (assign tg env v) (fun _ s₃ =>
    wpAny (model prog w) A (forIn ifs true fun c r=>if r=true then do let ok <-isTrue c env (eval c env);pure (ForInStep.yield ok) else pure (ForInStep.yield r)) (fun ok s₄ =>
     if ok=true then wpAny (model prog w) A (eval elt env) (fun x s₅=>wpAny (model prog w) A (call (.builtin "list.append") [acc,x]) (fun _ s₆=>∃ m,m<n/\J m s₆) (notedBy (model prog w) A env fun e s'=>R (.error e) s') s₅)
      (notedBy (model prog w) A env fun e s'=>R (.error e) s') s₄
     else ∃ m,m<n/\J m s₄) (notedBy (model prog w) A env fun e s'=>R (.error e) s') s₃) (notedBy (model prog w) A env fun e s'=>R (.error e) s') s₂) (notedBy (model prog w) A env fun e s'=>R (.error e) s') s₁)
   (notedBy (model prog w) A env fun e s'=>R (.error e) s') s)
  (n:Nat) (h:J n s):codeAny (model prog w) A (.compLoop (.ListComp elt [⟨tg,iter,ifs,0⟩] scope pos) 0 it acc env) R s:=by
 refine codeAny_loop rfl J (fun n s hJ=>?_) n h;refine wpAny_noted (A:=A) (m:=compTurn (.ListComp elt [⟨tg,iter,ifs,0⟩] scope pos) 0 it acc env) (env:=env) ?_;rw[compTurn_list];refine L' (wpAny_standAt (L' (cu (turn n s hJ) fun r s₁ h₁=>?_)));rcases h₁ with ⟨e,h₁⟩|⟨v,e,h₁⟩
 ·subst e;exact Y' h₁
 ·subst e;refine L' (cu h₁ fun _ s₂ h₂=>L' (cu h₂ fun _ s₃ h₃=>L' (cu h₃ fun ok s₄ h₄=>?_)));cases ok with
  |false=>exact Y' ⟨rfl,h₄⟩
  |true=>exact L' (L' (cu h₄ fun x s₅ h₅=>L' (cu h₅ fun _ s₆ h₆=>Y' (Y' ⟨rfl,h₆⟩))))
def PF (X:Cx)(ifs:List Expr)(t:TT):Prop :=
 ∀(pins:List (Addr×Obj)) (s:Shared) (σ:St) (H:Hp) (Q:Bool->Hp->Prop),Inv X pins σ H s->t σ H Q ->
  wpAny (model X.prog X.w) X.A (forIn ifs true fun c r=>if r=true then do let ok <-isTrue c X.env (eval c X.env);pure (ForInStep.yield ok) else pure (ForInStep.yield r)) (TP X pins σ Q) X.xe s
def afS:TT:=fun _ H Q=>Q true H
theorem iC {X:Cx}:PF X [] afS:=by
 intro pins s σ H Q I h;rw[List.forIn_nil];exact Y' ⟨H,I,h⟩
theorem Yz {X:Cx}{c:Expr}{t:TT}(hc:PT X c t):PF X [c] t:=by
 intro pins s σ H Q I h;rw[List.forIn_cons];refine L' ?_;rw[S' rfl];refine L' (cu (hc pins s σ H Q I h) fun ok s1 q=>Y' ?_);show wpAny _ _ (forIn [] ok _) _ _ _;rw[List.forIn_nil];exact Y' q
def qU (X:Cx)(C:Addr)(e:Value)(s':Shared):Prop :=
 ∃ m,s'.heap.Ns C m/\∀ h',Heap.SameBut C s'.heap h'->∀ cenv:Env,cenv.locals=C->wpAny (model X.prog X.w) X.A (passOn "comprehension.variables-let-go" e cenv:Sem Value) (fun _ _=>False) X.xe { s' with heap:=h' }
def eT (X:Cx)(scope:Scope)(C:Addr):Value->Shared->Prop :=
 notedBy (model X.prog X.w) X.A (compEnvC scope (bc X.env scope.names []) C X.env) (qU X C)
def UK (n:Nat)(wi:TI)(g:Bk->TG)(tc:Bk->TT)(te:Bk->TE):TE:=fun σ H Q=>wi σ H fun J H1=>∀(D:Addr)(b:Bk),H1 D=none->∃ W:Nat->Nat->List V->St->Hp->Prop,
 (∃ m,W 0 m [] (List.replicate n none++σ) (upd H1 D (.lst [])))/\∀ i m ys σ H,W i m ys σ H ->
  (J.stop i H/\Q (.ref D) H)\/(J.go i H/\∀ x H',J.NV i H x H'->g b x σ H' fun σ2 H2=>tc b σ2 H2 fun ok H3 =>
   if ok=true then te b σ2 H3 fun y H4=>H4 D=some (.lst ys)/\ys.length<sizeLine/\∃ m',m'<m/\W (i+1) m' (ys++[y]) σ2 (upd H4 D (.lst (ys++[y])))
   else ∃ m',m'<m/\W (i+1) m' ys σ2 H3)
section
variable {X:Cx} {tg iter elt:Expr} {ifs:List Expr} {scope:Scope} {pos:Pos} {cn:List Str} {wi:TI} {g:Bk->TG} {tc:Bk->TT} {te:Bk->TE} {TH:Bk->Prop}
theorem LR {pins:List (Addr×Obj)}{σ:St}{H:Hp}{s₂:Shared}{it:Addr}{fp:List Addr}{tn:Nat->Heap->Prop}{J:It}{RR:Value->Addr->Result->Shared->Prop}{QQ:Addr->Hp->Prop}{EE:Value->Shared->Prop}
  (hcalm:X.calm=true) (F:bS X.env.scope X.N scope) (hg:∀ b,TH b->PG (a6 X cn scope b) tg (g b)) (ht:∀ b,TH b->PF (a6 X cn scope b) ifs (tc b)) (he:∀ b,TH b->PE (a6 X cn scope b) elt (te b))
  (hTH:∀ C,s₂.heap.objs.size<=C->TH ⟨C,s₂,H,fp,eT X scope C⟩)
  (I:Inv X pins σ H s₂) (T:Turn X.prog X.w X.K tg J fp it tn) (st:tn 0 s₂.heap) (hf:∀ b∈fp,jh X pins H b)
  (h:∀(D:Addr)(b:Bk),H D=none->∃ W:Nat->Nat->List V->St->Hp->Prop,(∃ m,W 0 m [] (List.replicate cn.length none++σ) (upd H D (.lst [])))/\∀ i m ys σ H,W i m ys σ H ->
   (J.stop i H/\QQ D H)\/(J.go i H/\∀ x H',J.NV i H x H'->g b x σ H' fun σ2 H2=>tc b σ2 H2 fun ok H3 =>
    if ok=true then te b σ2 H3 fun y H4=>H4 D=some (.lst ys)/\ys.length<sizeLine/\∃ m',m'<m/\W (i+1) m' (ys++[y]) σ2 (upd H4 D (.lst (ys++[y])))
    else ∃ m',m'<m/\W (i+1) m' ys σ2 H3))
  (hR:∀ C D σ' H' s',s₂.heap.objs.size<=C->Inv (a6 X cn scope ⟨C,s₂,H,fp,eT X scope C⟩) [] σ' H' s'->QQ D H'->RR (.ref D) C (.ok .next) s')
  (hE:∀ C D e s',qU X C e s'->RR (.ref D) C (.error e) s') :
  wpAny (model X.prog X.w) X.A (newList []) (fun acc s₃=>wpAny (model X.prog X.w) X.A (newFunctionEnv scope X.env.globals (bc X.env scope.names []) [] X.env.qual none .none (some X.env)) (fun cenv s₄ =>
   codeAny (model X.prog X.w) X.A (.compStart (.ListComp elt [⟨tg,iter,ifs,0⟩] scope pos) 0 (.ref it) acc { cenv with scope:=relabel scope X.env }) (RR acc cenv.locals) s₄) EE s₃) EE s₂:=by
 refine wpAny_newObj_type (wpAny_newFunctionEnv F.IZ (by intro y hy;simp at hy) (fun h₁ hns₁ hsb₁=>?_) F.kind);dsimp only at hns₁ hsb₁ ⊢;generalize hH2:s₂.heap.push { cls:=.type "list",dict:=none,data:=.seq ([]:List Value).toArray } = H2 at hns₁ hsb₁ ⊢;have hC:H2.objs.size=s₂.heap.objs.size+1:=by rw[<-hH2,Heap.size_push]
 have hDC:s₂.heap.objs.size≠H2.objs.size:=by omega
 have hCle:s₂.heap.objs.size<=H2.objs.size:=by omega
 have hfl:∀ b∈fp,b<s₂.heap.objs.size:=fun b hb=>by
  obtain⟨o,e,_⟩:=T.obj 0 _ st b hb;exact P' e
 have Vw:∀ b o,s₂.heap.get? b=some o->H2.get? b=some o:=fun b o e=>hH2 ▸ G' _ e;have old:∀ b o,s₂.heap.get? b=some o->h₁.get? b=some o:=fun b o e=>by
  have hb:=P' e;refine hsb₁.extBut b o (Za' (U' hb hCle)) (G' _ (Vw b o e))
 have hacc:h₁.get? s₂.heap.objs.size=some { cls:=.type "list",data:=.seq ([]:List Value).toArray 0 } :=
  hsb₁.extBut _ _ hDC (G' _ (hH2 ▸ Zd' _ rfl))
 have I0:=Inv.block (cn:=cn) (xe:=eT X scope H2.objs.size) (tk:=s₂.toks+([]:List (Str×Value)).length) I F hcalm hf hfl hCle (A' _) hDC hns₁ old hacc;have th:=hTH _ hCle;obtain⟨W,⟨m0,w0⟩,turn⟩:=h s₂.heap.objs.size ⟨H2.objs.size,s₂,H,fp,eT X scope H2.objs.size⟩ (I.hok.fresh (A' _));have YA:∀{H':Hp},(∀ b∈fp,H' b=none)->∀ b∈fp,jh (a6 X cn scope ⟨H2.objs.size,s₂,H,fp,eT X scope H2.objs.size⟩) [] H' b:=fun {H'} hn b hb=>by
  refine⟨hn b hb,(I0.ok.exf b hb).1,I0.ok.IK b hb,.inl hb,(I0.ok.exf b hb).2,fun p hp=>j' (show p∈([]:List (Addr×Obj)) from hp) (by simp)⟩
 have AB:(a6 X cn scope ⟨H2.objs.size,s₂,H,fp,eT X scope H2.objs.size⟩).calm=true:=hcalm;have loop:∀ s₃:Shared,s₃ = { s₂ with heap:=h₁,toks:=s₂.toks+([]:List (Str×Value)).length } ->
   codeAny (model X.prog X.w) X.A (.compLoop (.ListComp elt [⟨tg,iter,ifs,0⟩] scope pos) 0 (.ref it) (.ref s₂.heap.objs.size) (compEnvC scope (bc X.env scope.names []) H2.objs.size X.env))
    (RR (.ref s₂.heap.objs.size) H2.objs.size) s₃:=by
  rintro s₃ rfl;have UL:∀ e s',(a6 X cn scope ⟨H2.objs.size,s₂,H,fp,eT X scope H2.objs.size⟩).xe e s' ->
    notedBy (model X.prog X.w) X.A (compEnvC scope (bc X.env scope.names []) H2.objs.size X.env) (fun e s'=>RR (.ref s₂.heap.objs.size) H2.objs.size (.error e) s') e s':=fun e s' z =>
   wpAny_mono (show notedBy (model X.prog X.w) X.A (compEnvC scope (bc X.env scope.names []) H2.objs.size X.env) (qU X H2.objs.size) e s' from z) (fun _ _ q=>hE _ _ _ _ q) fun _ _ q=>hE _ _ _ _ q
  refine HP (env:=compEnvC scope (bc X.env scope.names []) H2.objs.size X.env)
   (fun n s'=>∃ i ys σ' H',Inv (a6 X cn scope ⟨H2.objs.size,s₂,H,fp,eT X scope H2.objs.size⟩) [] σ' H' s'/\tn i s'.heap/\(∀ b∈fp,H' b=none)/\W i n ys σ' H') ?_ m0
   ⟨0,[],_,_,I0,T.keep _ _ _ st fun b _ o e=>old b o e,fun b hb=>?_,w0⟩
  ·rintro n s' ⟨i,ys,σ',H',I',st',fr',w'⟩;rcases turn i n ys σ' H' w' with ⟨stop,qn⟩|⟨go,step⟩
   ·refine wpAny_mono (T.done (a6 X cn scope ⟨H2.objs.size,s₂,H,fp,eT X scope H2.objs.size⟩) rfl rfl rfl AB i [] s' σ' H' (fun _ _=>False) I' (YA fr') st' stop) (fun r s4 ⟨hr,I4⟩=>?_) fun _ _ z=>z.elim;exact .inl ⟨hr,hR _ _ _ _ _ hCle I4 qn⟩
   ·refine wpAny_mono (T.item (a6 X cn scope ⟨H2.objs.size,s₂,H,fp,eT X scope H2.objs.size⟩) rfl rfl rfl AB i [] s' σ' H' (fun _ _=>False) I' (YA fr') st' go) (fun r s4 ⟨u,hr,h4⟩=>?_) fun _ _ z=>z.elim;refine .inr ⟨u,hr,wpAny_mono h4 (fun _ s5 ⟨x,H5,I5,r5,y5,LM,fr5⟩=>?_) fun _ _ z=>z.elim⟩;have I5':=I5.pinned (YA fr5) (T.obj _ _ LM);refine wpAny_mono (hg _ th _ s5 σ' H5 x u _ I5' r5 (step x H5 y5)) (fun _ s6 ⟨σ6,H6,I6,q6⟩=>?_) UL;refine wpAny_mono (ht _ th _ s6 σ6 H6 _ I6 q6) (fun ok s7 ⟨H7,I7,q7⟩=>?_) UL;have back:∀{σ8:St} {H8:Hp} {s8:Shared},Inv (a6 X cn scope ⟨H2.objs.size,s₂,H,fp,eT X scope H2.objs.size⟩) ([]++ub fp s5.heap) σ8 H8 s8->tn (i+1) s8.heap/\∀ b∈fp,H8 b=none:=fun {σ8 H8 s8} I8=>by
     refine⟨T.keep _ _ _ LM fun b hb o e=>(I8.pin (b,o) (Zm' _ (Zm' _ (eZ hb e)))).1,fun b hb=>?_⟩;obtain⟨o,e,d⟩:=T.obj _ _ LM b hb;exact(I8.pin (b,o) (Zm' _ (Zm' _ (eZ hb e)))).2.1
    cases ok with
    |false =>
     rw[M' Z']at q7 ⊢;obtain⟨m',hm,w7⟩:=q7;obtain⟨t8,f8⟩:=back I7;exact⟨m',hm,i+1,ys,σ6,H7,I7.iA,t8,f8,w7⟩
    |true =>
     rw[S' rfl]at q7 ⊢;refine wpAny_mono (he _ th _ s7 σ6 H7 _ I7 q7) (fun v s8 ⟨y,H8,I8,r8,hl,hz,m',hm,w8⟩=>?_) UL;refine wpAny_mono (bf (X:=a6 X cn scope ⟨H2.objs.size,s₂,H,fp,eT X scope H2.objs.size⟩) _ s8 σ6 H8 (.ref s₂.heap.objs.size) [y] (.ref s₂.heap.objs.size) [v] (fun _ H9=>W (i+1) m' (ys++[y]) σ6 H9) I8 rfl (.cons r8 .nil) ⟨_,ys,y,rfl,rfl,hl,hz,w8⟩)
      (fun _ s9 ⟨_,H9,I9,_,w9⟩=>?_) UL
     obtain⟨t9,f9⟩:=back I9;exact⟨m',hm,i+1,_,σ6,H9,I9.iA,t9,f9,w9⟩
  ·rw[aA (Za' (hfl b hb))];exact(hf b hb).1
 exact codeAny_compStart_list (loop _ rfl) (T.self _ 0 _ _ _ (T.keep _ _ _ st fun b _ o e=>old b o e) (loop _ rfl))
theorem YB (hcalm:X.calm=true)(F:bS X.env.scope X.N scope)(hi:PI X tg iter wi)(hg:∀ b,TH b->PG (a6 X cn scope b) tg (g b))(ht:∀ b,TH b->PF (a6 X cn scope b) ifs (tc b))
  (he:∀ b,TH b->PE (a6 X cn scope b) elt (te b))
  (hTH:∀ pins σ H s₂ fp C,Inv X pins σ H s₂->(∀ b∈fp,jh X pins H b)->s₂.heap.objs.size<=C->TH ⟨C,s₂,H,fp,eT X scope C⟩)
  (hs:∀ x,foldedSetIterable iter X.env x=pure x:=by intro _;rfl):PE X (.ListComp elt [⟨tg,iter,ifs,0⟩] scope pos) (UK cn.length wi g tc te):=by
 intro pins s σ H Q I h;rw[eval_ListComp];have hcl:closureFor scope X.env=pure (bc X.env scope.names []):=C3 fun p hp e=>I.ok.has p.1 (F.free p hp e);refine wpAny_comprehension_free (use:=none) rfl hs hcl F.kind F.loc (cu (hi pins s σ H _ I h) fun xv s₁ h₁=>cu h₁ fun itv s₂ h₂=>?_);obtain⟨it,fp,tn,J,H2,rfl,I2,T,st,f2,R⟩:=h₂;refine LR (QQ:=fun D H'=>Q (.ref D) H') (RR:=fun acc C=>compPost (model X.prog X.w) X.A X.xe none (EP X pins σ Q) acc C) hcalm F hg ht he (fun C hC=>hTH pins σ H2 s₂ fp C I2 f2 hC) I2 T st f2 R ?_ ?_
 ·intro C D σ' H' s' hC I' q;obtain⟨m,hm,_⟩:=I'.loc;exact⟨m,hm,fun h' sb=>⟨.ref D,H',I2.Ja f2 hC I' sb,rfl,q⟩⟩
 ·intro C D e s' z;exact z
theorem mW (hcalm:X.calm=true)(F:bS X.env.scope X.N scope)(hi:PI X tg iter wi)(hg:∀ b,PG (a6 X cn scope b) tg (g b))(ht:∀ b,PF (a6 X cn scope b) ifs (tc b))(he:∀ b,PE (a6 X cn scope b) elt (te b))
  (hs:∀ x,foldedSetIterable iter X.env x=pure x:=by intro _;rfl):PE X (.ListComp elt [⟨tg,iter,ifs,0⟩] scope pos) (UK cn.length wi g tc te) :=
 YB (TH:=fun _=>True) hcalm F hi (fun b _=>hg b) (fun b _=>ht b) (fun b _=>he b) (fun _ _ _ _ _ _ _ _ _=>trivial) hs
end
end L2
namespace L2
open PySem PySem.Spec PyProof.Rows
section
variable {X:Cx} {e:Expr} {es:List Expr} {te:TE} {pos:Pos}
abbrev TP1:=St->Hp->(Str->Hp->Prop)->Prop
abbrev TPs:=Str->St->Hp->(Str->Hp->Prop)->Prop
def alh (X:Cx)(pins:List (Addr×Obj))(σ:St)(Q:Str->Hp->Prop)(u:Value)(s':Shared):Prop:=∃ y t H',u=.str y t/\Inv X pins σ H' s'/\Q y H'
def PP (X:Cx)(e:Expr)(t:TP1):Prop :=
 ∀(pins:List (Addr×Obj)) (s:Shared) (σ:St) (H:Hp) (Q:Str->Hp->Prop),Inv X pins σ H s->t σ H Q->wpAny (model X.prog X.w) X.A (eval e X.env) (alh X pins σ Q) X.xe s
def PPs (X:Cx)(es:List Expr)(t:TPs):Prop :=
 ∀(pins:List (Addr×Obj)) (s:Shared) (σ:St) (H:Hp) (acc:Str) (Q:Str->Hp->Prop),Inv X pins σ H s->t acc σ H Q ->
  Joins (model X.prog X.w) X.A X.xe (evalEach es X.env) acc (fun out s₁=>∃ H',Inv X pins σ H' s₁/\Q out H') s
def tPC (x:Str):TP1:=fun _ H Q=>Q x H
def tPV (te:TE):TP1:=fun σ H Q=>te σ H fun v H1=>(∃ z,v=.str z/\z.length<=sizeLine/\Q z H1)\/∃ i:Int,v=.int i/\i.natAbs.log2<1920/\Q (toString i) H1
theorem Dq {x j}:PP X (.Constant (.str x) j pos) (tPC x):=fun _ _ _ H _ I h=>Calls.Constant_str ⟨x,_,H,rfl,I.tok _,h⟩
theorem ue (he:PE X e te):PP X (.FormattedValue e (-1) none pos) (tPV te):=by
 intro pins s σ H Q I h;refine FormattedValue_plain (cu (he pins s σ H _ I h) fun v s1 ⟨x,H1,I1,r1,q1⟩=>?_);rcases q1 with ⟨z,rfl,hz,q⟩|⟨i,rfl,hi,q⟩
 ·obtain⟨t,rfl⟩:=r1;exact formatField_str (fun t' tk=>⟨z,t',H1,rfl,I1.tok _,q⟩) hz
 ·obtain⟨t,rfl⟩:=r1;exact formatField_int_small hi ⟨_,_,H1,rfl,I1.tok _,q⟩
def tJ0:TPs:=fun acc _ H Q=>Q acc H
def tJ (t:TP1)(u:TPs):TPs:=fun acc σ H Q=>t σ H fun y H1=>(acc++y).length<=sizeLine/\u (acc++y) σ H1 Q
theorem Jb:PPs X [] tJ0:=fun _ _ _ H _ _ I h=>⟨H,I,h⟩
theorem gB {t:TP1}{u:TPs}(h1:PP X e t)(h2:PPs X es u):PPs X (e::es) (tJ t u):=by
 intro pins s σ H acc Q I h;refine wpAny_mono (h1 pins s σ H _ I h) (fun v s1 q=>?_) fun _ _ z=>z;obtain⟨y,tk,H1,rfl,I1,hz,q⟩:=q;exact⟨y,tk,rfl,hz,h2 pins s1 σ H1 _ Q I1 q⟩
def tF (u:TPs):TE:=fun σ H Q=>u Str.empty σ H fun out H1=>out.length<=sizeLine/\Q (.str out) H1
theorem Jc {e2:Expr}{u:TPs}(h:PPs X (e::e2::es) u):PE X (.JoinedStr (e::e2::es) pos) (tF u):=by
 intro pins s σ H Q I hw;refine wpAny_JoinedStr ?_;have mono:∀(l:List (Sem Value)) (acc:Str) (Q1 Q2:Str->Shared->Prop) (s:Shared),(∀ o s,Q1 o s->Q2 o s)->Joins (model X.prog X.w) X.A X.xe l acc Q1 s->Joins (model X.prog X.w) X.A X.xe l acc Q2 s:=by
  intro l
  induction l with
  |nil=>intro acc Q1 Q2 s hm h;exact hm _ _ h
  |cons a l ih =>
   intro acc Q1 Q2 s hm h;refine wpAny_mono h (fun v s1 q=>?_) fun _ _ z=>z;obtain⟨y,t,e1,hz,q⟩:=q;exact⟨y,t,e1,hz,ih _ _ _ _ hm q⟩
 refine mono _ _ _ _ _ (fun out s1 q=>?_) (h pins s σ H _ _ I hw);obtain⟨H1,I1,hz,q⟩:=q;exact⟨hz,.str out,H1,I1.tok _,⟨_,rfl⟩,q⟩
theorem eN:eS X (.type "int") (fun xs H Q=>∃ z n,xs=[.str z]/\PySem.intText? z=some n/\z.length<=640/\Q (.int n) H):=by
 intro pins s σ H xs us Q I r h;obtain⟨z,n,rfl,hn,hl,q⟩:=h;obtain⟨u,rfl,t,rfl⟩:=r.one;exact PySem.W.KIN.call_text hn hl ⟨.int n,H,I.tok _,⟨_,rfl⟩,q⟩
def ali:V->Option Int->Option Int->Hp->VK->Prop:=fun x lo hi H Q=>∃ z,x=.str z/\z.length<=sizeLine/\Q (.str (Txt.slice z lo hi)) H
theorem HQ {v:Value}{o:Option Int}(p:IsPart v o):∃ l:Option (Int×Tok),v=partValue l/\l.map (·.1)=o:=by
 cases p with
 |none=>exact⟨none,rfl,rfl⟩
 |int i t=>exact⟨some (i,t),rfl,rfl⟩
theorem Jd:SlR X ali:=by
 intro pins s σ H x v vl vu lo hi sl Q I rx hs pl pu h;obtain⟨z,rfl,hz,q⟩:=h;obtain⟨t,rfl⟩:=rx;obtain⟨l,rfl,el⟩:=HQ pl;obtain⟨u,rfl,eu⟩:=HQ pu;subst el eu;refine⟨"str",_,F.slot_str_getitem.lookup,typeIs_str _ _ _,?_⟩;obtain⟨o,ho,hc,hd⟩:=hs;refine wpAny_getItem_str_slice (l:=l) (u:=u) (st:=none) ⟨o,ho,hc,hd⟩ rfl ?_;exact post_val_or_str ⟨Zk' (Txt.slice_le z _ _) hz,fun t' k=>⟨.str _,H,I.tok _,⟨t',rfl⟩,q⟩⟩
def Its (z:Str):It:=⟨fun i _=>i<z.cps.size,fun i H x H'=>H'=H/\∃ c,z.cps[i]? = some c/\x=.str ⟨#[c]⟩,fun i _=>z.cps.size<=i⟩
def alj (tl:TE):TI:=fun σ H R=>tl σ H fun x H1=>∃ z,x=.str z/\R (Its z) H1
theorem LS {P:Program}{w:World}{K:Frag}{tg:Expr}{z:Str}{it:Addr}{T:String}{t:Tok}(hT:["enumerate","zip","dict_itemiterator","dict_reverseitemiterator","odict_iterator","itertools.zip_longest","itertools.pairwise"].contains T=false)
  (W:∀ A:Around,A.handled=none->Walks P w A it [it] [it] z.cps.size (SignAt z) (fun i h=>h.IsStrIter it T z t i)) 
  (S:∀(A:Around)(i:Nat)(s:Shared)(Q:Value->Shared->Prop)(E:Value->Shared->Prop),s.heap.IsStrIter it T z t i->Q (.ref it) s->wpAny (model P w) A (pyIter (.ref it)) Q E s) :
  Turn P w K tg (Its z) [it] it (fun i h=>h.IsStrIter it T z t i/\i<=z.cps.size) where
 mem:=by simp
 obj:=fun i h st b hb=>by
  have e:b=it:=by simpa using hb
  subst e;obtain⟨⟨o,e,c,d⟩,_⟩:=st;exact⟨o,e,fun v q=>by rw[d]at q;cases q⟩
 keep:=fun i h h' st k=>⟨by
  obtain⟨⟨o,e,c,d⟩,_⟩:=st;exact⟨o,k it (by simp) o e,c,d⟩,st.2⟩
 item:=by
  intro X hP hw hK hc i pins s σ H E I hf st hg;subst hP hw hK;obtain⟨f0,f1,f2,f3,f4,f5⟩:=hf it (by simp);have hgi:i<z.cps.size:=hg;refine(W X.A (I.ok.hd hc)).item i s _ _ hgi st.1 fun v h' tk hv st' kk=>?_;obtain⟨c,u,hc',rfl⟩:=hv;have I1:Inv X pins σ H { s with heap:=h',toks:=tk }:=I.turned (fun b o hb e=>kk b o (by simpa using hb) e) f0 f1 f3 f4 f5;obtain⟨o,e,cc,d⟩:=id st';exact⟨_,rfl,UA (s:={ s with heap:=h',toks:=tk }) e cc d hT ⟨.str ⟨#[c]⟩,H,I1,⟨u,rfl⟩,⟨rfl,c,hc',rfl⟩,⟨st',hgi⟩,fun b hb=>(hf b hb).1⟩⟩
 done:=by
  intro X hP hw hK hc i pins s σ H E I hf st hg;subst hP hw hK;obtain⟨f0,f1,f2,f3,f4,f5⟩:=hf it (by simp);have hge:z.cps.size<=i:=hg;have e:i=z.cps.size:=Nat.le_antisymm st.2 hge;subst e;exact(W X.A (I.ok.hd hc)).done s _ _ st.1 fun h' tk kk=>⟨rfl,I.turned (fun b o hb e=>kk b o (by simpa using hb) e) f0 f1 f3 f4 f5⟩
 self:=fun A i s Q E st h=>S A i s Q E st.1 h
theorem afV {tg l:Expr}{tl:TE}(hl:PE X l tl):PI X tg l (alj tl):=by
 intro pins s σ H R I h;refine cu (hl pins s σ H _ I h) fun v s1 ⟨x,H1,I1,r1,q1⟩=>?_;obtain⟨z,rfl,q⟩:=q1;obtain⟨t,rfl⟩:=r1;have fp:∀ b∈[s1.heap.objs.size],jh X pins H1 b:=fun b hb=>by
  have e:b=s1.heap.objs.size:=by simpa using hb
  subst e;exact I1.IM (A' _) (I1.hok.fresh (A' _))
 cases ha:z.cps.all (· < 128)
 ·refine wpAny_pyIter_wide ha ?_;refine⟨s1.heap.objs.size,[s1.heap.objs.size],_,_,H1,rfl,I1.kept (t':=s1.toks) fun b o e=>G' _ e,LS (T:="str_iterator") (t:=t) (by decide) (fun A hA=>Walks.strWide hA _ z t)
   (fun A i s Q E st hq=>wpAny_pyIter_striter_wide st hq),⟨⟨_,Zd' _ rfl,rfl,rfl⟩,X' _⟩,fp,q⟩
 ·refine wpAny_pyIter_ascii ha ?_;refine⟨s1.heap.objs.size,[s1.heap.objs.size],_,_,H1,rfl,I1.kept (t':=s1.toks) fun b o e=>G' _ e,LS (T:="str_ascii_iterator") (t:=t) (by decide) (fun A hA=>Walks.strAscii hA _ z t)
   (fun A i s Q E st hq=>wpAny_pyIter_striter_ascii st hq),⟨⟨_,Zd' _ rfl,rfl,rfl⟩,X' _⟩,fp,q⟩
end
end L2
namespace L2
open PySem PySem.Spec PyProof.Rows PySem.SeqAt
inductive YC (K:Frag)(H:Hp):Nat->V->V->Prop where
 |flat {n:Nat} {x:V} (f:tS x=true):YC K H n x x
 |tup {n:Nat} {a b:Addr} {xs ys:List V} (ha:dz K H a xs) (hb:dz K H b ys) (hl:xs.length=ys.length) (h:∀(i:Nat) x y,xs[i]? = some x->ys[i]? = some y->YC K H n x y):YC K H (n+1) (.ref a) (.ref b)
 |lst {n:Nat} {a b:Addr} {xs ys:List V} (ha:aR K H a xs) (hb:aR K H b ys) (hl:xs.length=ys.length) (h:∀(i:Nat) x y,xs[i]? = some x->ys[i]? = some y->YC K H n x y):YC K H (n+1) (.ref a) (.ref b)
section
variable {X:Cx} {pins:List (Addr×Obj)} {σ:St} {H:Hp} {s:Shared}
theorem YD:∀{x:V},tS x=true->Vs x x=true:=by
 intro x f;cases x <;> first|(simp[Vs];done)|(cases f)
theorem qV (n:Nat):(List.range n).all (fun _=>true)=true:=by simp
theorem YC.at {n:Nat}{x y:V}(d:YC X.K H n x y)(I:Inv X pins σ H s):∀{A:Around} {u v:Value},A.units+n<cLine->RelV x u->RelV y v ->
  EqAt A s u v true/\(∀ a b,x=.ref a->y=.ref b->RcAt A s u v true/\RcNeAt A s u v false):=by
 induction d with
 | @flat n x f =>
  intro A u v hu ru rv;refine⟨?_,fun a b e _=>?_⟩
  ·have:=Yq (A:=A) (s:=s) ru rv f f;rw[YD f]at this;exact this
  ·subst e;cases f
 | @tup n a b xs ys ha hb hl h ih =>
  intro A u v hu ru rv;cases ru;cases rv;obtain⟨its,r,p,_⟩:=I.tuple ha;obtain⟨its',r',p',_⟩:=I.tuple hb;have e1:=r.length;have e2:=r'.length;have he:∀ j (h1:j<its.toArray.size) (h2:j<its'.toArray.size),EqAt A.in1 s its.toArray[j] its'.toArray[j] true:=by
   intro j h1 h2;have h1':j<its.length:=by simpa using h1
   have h2':j<its'.length:=by simpa using h2
   have g1:xs[j]? = some xs[j]:=C' (by omega);have g2:ys[j]? = some ys[j]:=C' (by omega);obtain⟨u1,q1,k1⟩:=r.get g1;obtain⟨u2,q2,k2⟩:=r'.get g2;have z1:its.toArray[j]=u1:=by
    rw[C' h1']at q1
    simpa using q1
   have z2:its'.toArray[j]=u2:=by
    rw[C' h2']at q2
    simpa using q2
   rw[z1,z2];exact(ih j _ _ g1 g2 (by show A.units+1+n<cLine;omega) k1 k2).1
  have bt:((List.range (min its.toArray.size its'.toArray.size)).all (fun _=>true)&&its.toArray.size==its'.toArray.size)=true:=by
   rw[qV];simp;omega
  have rc:RcAt A s (.ref a) (.ref b) true:=by
   have:=RcAt.tuples (A:=A) (e:=fun _=>true) (show s.heap.IsTuple a its.toArray from p) (show s.heap.IsTuple b its'.toArray from p') (by omega) he;rw[bt]at this;exact this
  have rn:RcNeAt A s (.ref a) (.ref b) false:=by
   have:=RcNeAt.tuples (A:=A) (e:=fun _=>true) (show s.heap.IsTuple a its.toArray from p) (show s.heap.IsTuple b its'.toArray from p') (by omega) he;rw[bt]at this;exact this
  refine⟨?_,fun _ _ _ _=>⟨rc,rn⟩⟩
  by_cases e:a=b
  ·subst e;exact EqAt.same _
  ·exact EqAt.of_refs e rc
 | @lst n a b xs ys ha hb hl h ih =>
  intro A u v hu ru rv;cases ru;cases rv;obtain⟨its,r,p,_⟩:=I.list ha;obtain⟨its',r',p',_⟩:=I.list hb;have e1:=r.length;have e2:=r'.length;have he:∀ j (h1:j<its.toArray.size) (h2:j<its'.toArray.size),EqAt A.in1 s its.toArray[j] its'.toArray[j] true:=by
   intro j h1 h2;have h1':j<its.length:=by simpa using h1
   have h2':j<its'.length:=by simpa using h2
   have g1:xs[j]? = some xs[j]:=C' (by omega);have g2:ys[j]? = some ys[j]:=C' (by omega);obtain⟨u1,q1,k1⟩:=r.get g1;obtain⟨u2,q2,k2⟩:=r'.get g2;have z1:its.toArray[j]=u1:=by
    rw[C' h1']at q1
    simpa using q1
   have z2:its'.toArray[j]=u2:=by
    rw[C' h2']at q2
    simpa using q2
   rw[z1,z2];exact(ih j _ _ g1 g2 (by show A.units+1+n<cLine;omega) k1 k2).1
  have bt:(List.range its.toArray.size).all (fun _=>true)=true:=qV _;have rc:RcAt A s (.ref a) (.ref b) true:=by
   have:=RcAt.lists (A:=A) (e:=fun _=>true) p.isList p'.isList (by simp;omega) (by omega) he;rw[bt]at this;exact this
  have rn:RcNeAt A s (.ref a) (.ref b) false:=by
   have:=RcNeAt.lists (A:=A) (e:=fun _=>true) p.isList p'.isList (by simp;omega) (by omega) he;rw[bt]at this;exact this
  refine⟨?_,fun _ _ _ _=>⟨rc,rn⟩⟩
  by_cases e:a=b
  ·subst e;exact EqAt.same _
  ·exact EqAt.of_refs e rc
inductive aex (K:Frag)(b:Bool)(x:V)(y:V)(H:Hp)(Q:VK):Prop
 |mk (a:_) (c:_) (tQ:x=.ref a) (tR:y=.ref c) (CZ:YC K H 60 x y/\Q (.bl b) H):aex K b x y H Q
def ahY (K:Frag)(b:Bool):R2:=fun x y H Q=>aex K b x y H Q
theorem aB (hu:X.A.units+64<cLine):qO X (compareOp .Eq) (ahY X.K true):=by
 intro pins s σ H x y v u Q I r1 r2 h;obtain⟨a,c,rfl,rfl,d,q⟩:=h;exact(((d.at I (A:=X.A) (by omega) r1 r2).2 a c rfl rfl).1) X.prog X.w X.xe _ ⟨.bl true,H,I,rfl,q⟩
theorem e9 (hu:X.A.units+64<cLine):qO X (compareOp .NotEq) (ahY X.K false):=by
 intro pins s σ H x y v u Q I r1 r2 h;obtain⟨a,c,rfl,rfl,d,q⟩:=h;exact(((d.at I (A:=X.A) (by omega) r1 r2).2 a c rfl rfl).2) X.prog X.w X.xe _ ⟨.bl false,H,I,rfl,q⟩
theorem YE:eS X (.builtin "isinstance") (fun xs H Q=>∃ x T t b,xs=[x,.ty T]/\vJ X.K H x t/\kitOne X.K t (.type T)=some b/\Q (.bl b) H):=by
 intro pins s σ H xs us Q I r h;obtain⟨x,T,t,b,rfl,ty,e,q⟩:=h;obtain⟨u,v,rfl,r1,r2⟩:=r.two;cases r2;exact Vq I r1 ty e fun tk=>⟨.bl b,H,I.tok _,rfl,q⟩
def Ite (K:Frag)(a:Addr):It :=
 ⟨fun i H=>∃ xs x,aR K H a xs/\xs[i]? = some x,fun i H x H'=>∃ y t,x=.ref t/\H t=none/\(∀ xs,aR K H a xs->xs[i]? = some y)/\H'=upd H t (.tup [.int i,y]),fun i H=>∃ xs,aR K H a xs/\xs.length<=i⟩
def Itz (K:Frag)(a b:Addr):It :=
 ⟨fun i H=>∃ xs ys x y,aR K H a xs/\aR K H b ys/\xs[i]? = some x/\ys[i]? = some y,
  fun i H p H'=>∃ x y t,p=.ref t/\H t=none/\(∀ xs,aR K H a xs->xs[i]? = some x)/\(∀ ys,aR K H b ys->ys[i]? = some y)/\H'=upd H t (.tup [x,y]),
  fun i H=>∃ xs ys,aR K H a xs/\aR K H b ys/\min xs.length ys.length=i⟩
theorem jk {a:Addr}{K:Frag}{X:Cx}{pins:List (Addr×Obj)}{σ:St}{H:Hp}{s:Shared}{xs:List V}{b:Addr}{o:Obj}(I:Inv X pins σ H s)(hq:aR X.K H a xs)(e:s.heap.get? b=some o)(hc:o.cls≠.type "list"):a≠b:=by
 rintro rfl;obtain⟨its,_,p,_⟩:=I.list hq;obtain⟨o',e',c',_⟩:=p.isList;rw[e]at e';cases e';exact hc c'
theorem Inv.Dr {tk:Nat}{h':Heap}{wr:List Addr}{T:Addr}{xs:List V}{vals:List Value}(I:Inv X pins σ H s)(hw:∀ b∈wr,jh X pins H b)(hT:s.heap.objs.size<=T)(ht:h'.IsTuple T vals.toArray)(rv:Vals xs vals)(hz:xs.length<=sizeLine)
  (kk:∀ b o,b ∉ wr->s.heap.get? b=some o->h'.get? b=some o) (there:∀ b∈wr,∃ o,h'.get? b=some o):Inv X pins σ (upd H T (.tup xs)) { s with heap:=h',toks:=tk }:=by
 have YF:H T=none:=I.hok.fresh hT;have nT:∀ b o,s.heap.get? b=some o->b≠T:=fun b o e=>Za' (U' (P' e) hT);refine I.step (g':=s.gens) (d':=s.drawn) (ch:=wr) (fun b hb=>?_) (fun b o _ _ hc e _=>kk b o hc e) (fun b o _ _ hc e _=>⟨o.slots,kk b o hc e⟩) (fun b o _ e n=>by rw[aA (nT b o e)];exact n)
  (fun b o hc e=>⟨o,kk b o hc e⟩) (fun b ys e=>by rw[aA (aP e YF)];exact e) (fun b o u e=>by rw[aA (aP e YF)];exact e) (fun b ps e=>⟨#[],by rw[aA (aP e YF),e];simp⟩) (fun m hm=>?_) (fun b u e=>?_) I.bare
 ·obtain⟨_,f1,_,f3,f4,f5⟩:=hw b hb;exact⟨f3,f1,f4,f5⟩
 ·obtain⟨o,es,ep,ho,r⟩:=hm;exact⟨o,es,ep,kk _ o (fun z=>(hw _ z).2.1 rfl) ho,r⟩
 ·by_cases hb:b=T
  ·subst hb;rw[ag]at e;cases e;exact⟨hz,vals,rv,ht⟩
  ·rw[aA hb]at e;refine(I.hok b u e).stay (fun c v hc q=>kk c v (fun z=>?_) q) (fun c q=>by rw[aA (aP q YF)];exact q) fun c ys q=>by rw[aA (aP q YF)];exact q
   have hn:=(hw c z).1;rcases hc with hc|hc
   ·rw[hc,e]at hn;cases hn
   ·rw[hc]at hn;cases hn
theorem Inv.gM {tk:Nat}{h':Heap}{wr:List Addr}(I:Inv X pins σ H s)(hw:∀ b∈wr,jh X pins H b)(kk:∀ b o,b ∉ wr->s.heap.get? b=some o->h'.get? b=some o):Inv X pins σ H { s with heap:=h',toks:=tk }:=by
 refine I.step (g':=s.gens) (d':=s.drawn) (ch:=wr) (fun b hb=>?_) (fun b o _ _ hc e _=>kk b o hc e) (fun b o _ _ hc e _=>⟨o.slots,kk b o hc e⟩) (fun b o _ e n=>n)
  (fun b o hc e=>⟨o,kk b o hc e⟩) (fun b ys e=>e) (fun b o u e=>e) (fun b ps e=>⟨#[],by rw[e];simp⟩) (fun m hm=>?_) (fun b u e=>?_) I.bare
 ·obtain⟨_,f1,_,f3,f4,f5⟩:=hw b hb;exact⟨f3,f1,f4,f5⟩
 ·obtain⟨o,es,ep,ho,r⟩:=hm;exact⟨o,es,ep,kk _ o (fun z=>(hw _ z).2.1 rfl) ho,r⟩
 ·refine(I.hok b u e).stay (fun c v hc q=>kk c v (fun z=>?_) q) (fun c q=>q) fun c ys q=>q;have hn:=(hw c z).1;rcases hc with hc|hc
  ·rw[hc,e]at hn;cases hn
  ·rw[hc]at hn;cases hn
end
end L2
namespace L2
open PySem PySem.Spec PyProof.Rows PySem.SeqAt
section
variable {X:Cx}
theorem au {k:Nat}{A:Around}(hr:nk k A):A.units+64<cLine:=hr.units
theorem dF:bootBuiltins "len"=some (.builtin "len"):=by lk
theorem Je:bootBuiltins "min"=some (.builtin "min"):=by lk
theorem afW:bootBuiltins "max"=some (.builtin "max"):=by lk
theorem Jf:bootBuiltins "enumerate"=some (.type "enumerate"):=by lk
theorem afX:bootBuiltins "zip"=some (.type "zip"):=by lk
theorem FQ:bootBuiltins "isinstance"=some (.builtin "isinstance"):=by lk
theorem yB:bootBuiltins "int"=some (.type "int"):=by lk
theorem acR:bootBuiltins "bool"=some (.type "bool"):=by lk
theorem afY:bootBuiltins "str"=some (.type "str"):=by lk
theorem mX:bootBuiltins "list"=some (.type "list"):=by lk
theorem YG:bootBuiltins "tuple"=some (.type "tuple"):=by lk
theorem tu:bootBuiltins "sorted"=some (.builtin "sorted"):=by lk
theorem Jg:bootBuiltins "all"=some (.builtin "all"):=by lk
theorem acS:bootBuiltins "dict"=some (.type "dict"):=by lk
end
end L2
namespace L2
open PySem PySem.Spec PyProof.Rows
end L2
namespace L2
open PySem
theorem vR {K:Frag}{H:Hp}{a l:Addr}{o:HO}{xs:List V}(h:aR K H a xs)(hn:H l=none):aR K (upd H l o) a xs:=by
 have ne:∀{u},H a=some u->a≠l:=fun e=>aP e hn;rcases h with (h|⟨u,h⟩)|h
 ·exact .inl (.inl (by rw[aA (ne h)];exact h))
 ·exact .inl (.inr ⟨u,by rw[aA (ne h)];exact h⟩)
 ·exact .inr h
theorem ax.tup {K:Frag}{H H':Hp}{a:Addr}{xs:List V}(e:ax H H')(h:dz K H a xs):dz K H' a xs:=by
 rcases h with (h|⟨o,h⟩)|h
 ·exact .inl (.inl (e _ _ h))
 ·exact .inl (.inr ⟨o,e _ _ h⟩)
 ·exact .inr h
theorem ax.upd {H:Hp}{l:Addr}{o:HO}(hn:H l=none):ax H (upd H l o):=fun b u e=>by
 rw[aA (aP e hn)];exact e
end L2
namespace L2
theorem aT {X:Cx}{b:List PySem.Stmt}{t:TS}{D:Ends}{σ:St}{H:Hp}(h:NT X b t)(q:t D σ H):∃ t,NT X b t/\t D σ H:=⟨t,h,q⟩
theorem qW (i j:Int):decide (V.int i=V.int j)=decide (i=j):=by
 by_cases h:i=j
 ·subst h;simp
 ·rw[Zb' h];exact Zb' fun e=>h (V.int.inj e)
end L2
namespace L2
open PySem
theorem YH {X:Cx}:∀ cs:List (Str×Pos),PA X (cs.map fun c=>Expr.Constant (.str c.1) 0 c.2) (fun _ H Q=>Q (cs.map fun c=>V.str c.1) H)
 |[]=>aj
 |c::cs=>aa aw (YH cs)
end L2
namespace L2
open PySem
end L2
namespace L2
open PySem PySem.Spec PyProof.Rows
section
variable {X:Cx} {tg:Expr}
theorem yC {pins:List (Addr×Obj)}{σ:St}{H:Hp}{s:Shared}{a:Addr}{xs:List V}{i:Nat}{y:V}(I:Inv X pins σ H s)(hq:aR X.K H a xs)(hy:xs[i]? = some y):∀ ys,aR X.K H a ys->ys[i]? = some y:=fun ys h=>by
 rw[I.LL h hq];exact hy
theorem Vx {P:Program}{w:World}{K:Frag}{es:List Expr}{k:Nat}{tp:Pos}(a e it:Addr)(hei:e≠it) :
  Turn P w K (.Tuple es k tp) (Ite K a) [e,it] e (fun i h=>(∃ old,IsEnum h e it i old)/\h.IsListIter it a i) where
 mem:=by simp
 obj:=fun i h st b hb=>by
  obtain⟨⟨old,he⟩,o,e2,c,d⟩:=st;rcases List.mem_cons.mp hb with rfl|hb
  ·exact⟨_,he,fun v z=>by
    have z':Data.fields _=Data.cell v:=z;cases z'⟩
  ·have:b=it:=by simpa using hb
   subst this;exact⟨o,e2,fun v z=>by rw[d]at z;cases z⟩
 keep:=fun i h h' st kp=>by
  obtain⟨⟨old,he⟩,hit⟩:=st;exact⟨⟨old,kp e (by simp) _ he⟩,hit.at fun o x=>kp it (by simp) o x⟩
 item:=by
  intro X hP hw hK hc i pins s σ H E I hf st hg;subst hP hw hK;obtain⟨xs,x,hq,hx⟩:=hg;obtain⟨its,rv,p,hz⟩:=I.list hq;obtain⟨u,hu,ru⟩:=rv.get hx;obtain⟨⟨old,he⟩,hit⟩:=st;have hle:a≠e:=jk (K:=X.K) I hq he (by intro z;injection z with z;exact j' z (by decide));have hli:a≠it:=by
   obtain⟨o,e2,c,_⟩:=hit;exact jk (K:=X.K) I hq e2 (by rw[c];intro z;injection z with z;exact j' z (by decide))
  have hiu:i<its.toArray.size:=by
   have:=(B'.mp hu).1
   simpa using this
  have W:=WalksT.enumerate (prog:=X.prog) (w:=X.w) (I.ok.hd hc) e it a hei hle hli its.toArray;refine W.item i s _ _ hiu ⟨⟨old,he⟩,hit,p.isList⟩ fun T vals h' tk hv hT ht mid kk=>?_;refine⟨_,rfl,?_⟩;obtain⟨t,x',hx',rfl⟩:=hv;have ex:x'=u:=by
   have:its[i]? = some x':=by simpa using hx'
   rw[hu]at this;exact(Zc' this).symm
  subst ex;have fw:∀ b∈[e,it],jh X pins H b:=hf;have I1:Inv X pins σ (upd H T (.tup [.int i,x])) { s with heap:=h',toks:=tk }:=by
   refine I.Dr (vals:=[.int i t,x']) fw hT (by simpa using ht) (.cons ⟨t,rfl⟩ (.cons ru .nil)) (by show 2<=sizeLine;decide) kk fun b hb=>?_;obtain⟨⟨xx,ho⟩,⟨o,e2,_⟩,_⟩:=mid;rcases List.mem_cons.mp hb with rfl|hb
   ·exact⟨_,ho⟩
   ·have:b=it:=by simpa using hb
    subst this;exact⟨o,e2⟩
  have YF:H T=none:=I.hok.fresh hT;have neT:∀ b∈[e,it],b≠T:=fun b hb z=>by
   subst z;exact W.apart i b _ mid hb
  refine W.go es k tp i T _ _ _ mid fun h'' st'' afZ=>?_;have hf2:∀ b∈[e,it],jh X pins (upd H T (.tup [.int i,x])) b:=fun b hb=>by
   obtain⟨f0,fr⟩:=hf b hb;exact⟨by rw[aA (neT b hb)];exact f0,fr⟩
  refine⟨.ref T,upd H T (.tup [.int i,x]),I1.gM (tk:=tk) hf2 afZ,rfl,⟨x,T,rfl,YF,yC I hq hx,rfl⟩,⟨st''.1,st''.2.1⟩,fun b hb=>(hf2 b hb).1⟩
 done:=by
  intro X hP hw hK hc i pins s σ H E I hf st hg;subst hP hw hK;obtain⟨xs,hq,hx⟩:=hg;obtain⟨its,rv,p,hz⟩:=I.list hq;obtain⟨⟨old,he⟩,hit⟩:=st;have hl:=rv.length;refine wpAny_pyNext_enum_end (I.ok.hd hc) he hit p.isList (Array.getElem?_eq_none (by simp;omega)) fun h' hx'=>?_;exact⟨rfl,I.gM (tk:=s.toks) hf fun b o hb q=>hx' b o (fun z=>hb (by simp[z])) q⟩
 self:=fun _ _ _ _ _ st h=>by
  obtain⟨⟨old,he⟩,_⟩:=st;exact wpAny_pyIter_enum he h
theorem af0 {l:Expr}{tl:TE}(hl:PE X l tl)(hs:starEach [l] X.env=[(false,eval l X.env)])(pos:Pos)(pins:List (Addr×Obj))(s:Shared)(σ:St)(H:Hp){Q:VK}(I:Inv X pins σ H s)(h:tl σ H Q) :
  wpAny (model X.prog X.w) X.A (spliced (backTo pos (starEach [l] X.env))) (fun us s1=>∃ v u H1,Inv X pins σ H1 s1/\us=[u]/\RelV v u/\Q v H1) X.xe s:=by
 have ha:PA X [l] (fun σ H Q=>tl σ H fun x H1=>Q [x] H1):=aa hl aj hs;have mono:wpAny (model X.prog X.w) X.A (spliced (backTo pos (starEach [l] X.env))) (AP X pins σ fun vs H1=>∃ v,vs=[v]/\Q v H1) X.xe s:=by
  have he:PE X l (fun σ' H' Q'=>σ'=σ/\H'=H/\∀ v H1,Q v H1->Q' v H1):=by
   intro pins s σ' H' Q' I' hw;obtain⟨rfl,rfl,hm⟩:=hw;exact cu (hl pins s σ' H' Q I' h) fun u s1 ⟨v,H1,I1,r,q⟩=>⟨v,H1,I1,r,hm v H1 q⟩
  exact aa he aj hs pos pins s σ H _ I ⟨rfl,rfl,fun v H1 q=>⟨v,rfl,q⟩⟩
 refine cu mono fun us s1 ⟨vs,H1,I1,r,v,e,q⟩=>?_;subst e;obtain⟨u,rfl,ru⟩:=r.one;exact⟨v,u,H1,I1,rfl,ru,q⟩
inductive YI (K:Frag)(R:(It->Hp->Prop))(x:V)(H1:Hp):Prop
 |mk (a:_) (tQ:x=.ref a) (tR:(∃ xs,aR K H1 a xs)/\R (Ite K a) H1):YI K R x H1
def ah1 (K:Frag)(tl:TE):TI:=fun σ H R=>tl σ H fun x H1=>YI K R x H1
theorem acT {l:Expr}{tl:TE}{p pos tp:Pos}{es:List Expr}{k:Nat}(hg:Gl X "enumerate")(hm:X.mg "enumerate"=none)(hl:PE X l tl)(hs:starEach [l] X.env=[(false,eval l X.env)]:=by rfl) :
  PI X (.Tuple es k tp) (.Call (.Name "enumerate" p) [l] [] pos) (ah1 X.K tl):=by
 intro pins s σ H R I h;refine Call_ (t7 I hg hm Jf (PyProof.Rows.callWith_type1 (cu (af0 hl hs pos pins s σ H I h) fun us s1 ⟨v,u,H1,I1,e1,r1,q1⟩=>?_) (by rw[hs];rfl) (by rfl)))
 ·obtain⟨a,rfl,⟨xs,hq⟩,q⟩:=q1;subst e1;cases r1;obtain⟨its,rv,pl,hz⟩:=I1.list hq;refine call_enumerate_list pl.isList fun h' he hit hsz kk=>?_;have hee:s1.heap.objs.size+1≠s1.heap.objs.size:=Nat.succ_ne_self _;refine wpAny_pyIter_enum he ?_;refine⟨s1.heap.objs.size+1,[s1.heap.objs.size+1,s1.heap.objs.size],_,_,H1,rfl,I1.kept (t':=s1.toks) kk,Vx a _ _ hee,⟨⟨.none,he⟩,hit⟩,fun b hb=>?_,q⟩;have hb':s1.heap.objs.size<=b:=by
   rcases List.mem_cons.mp hb with rfl|hb
   ·exact Nat.le_succ _
   ·have:b=s1.heap.objs.size:=by simpa using hb
    rw[this];exact A' _
  exact I1.IM hb' (I1.hok.fresh hb')
end
end L2
namespace L2
open PySem PySem.Spec PyProof.Rows
structure N8 (z TI TO i1 i2:Addr):Prop where
 TIz:TI≠z
 TOz:TO≠z
 i1z:i1≠z
 i2z:i2≠z
 TITO:TI≠TO
 TIi1:TI≠i1
 TIi2:TI≠i2
 TOi1:TO≠i1
 TOi2:TO≠i2
 i12:i1≠i2
section
variable {X:Cx}
def aey (z TI TO i1 i2 a b:Addr)(i:Nat)(h:Heap):Prop:=IsZip h z TI TO .none/\IsPair h TI (.ref i1) (.ref i2)/\(∃ x y,IsPair h TO x y)/\h.IsListIter i1 a i/\h.IsListIter i2 b i
theorem HR {pins:List (Addr×Obj)}{σ:St}{H:Hp}{s:Shared}{z TI TO i1 i2 a b:Addr}{i:Nat}{xs ys:List V}(I:Inv X pins σ H s)(O:N8 z TI TO i1 i2)(st:aey z TI TO i1 i2 a b i s.heap)(ha:aR X.K H a xs)(hb:aR X.K H b ys) :
  ZipApart z TI TO i1 i2 a b:=by
 obtain⟨hz,hTI,⟨x,y,hTO⟩,⟨o1,e1,c1,_⟩,⟨o2,e2,c2,_⟩⟩:=st;have nz:∀{c:Addr} {zs:List V},aR X.K H c zs->c≠z:=fun h=>jk (K:=X.K) I h hz (by intro q;injection q with q;exact j' q (by decide));have nT:∀{c:Addr} {zs:List V},aR X.K H c zs->c≠TO:=fun h=>jk (K:=X.K) I h hTO (by intro q;injection q with q;exact j' q (by decide));have n1:∀{c:Addr} {zs:List V},aR X.K H c zs->c≠i1:=fun h=>jk (K:=X.K) I h e1 (by rw[c1];intro q;injection q with q;exact j' q (by decide));have n2:∀{c:Addr} {zs:List V},aR X.K H c zs->c≠i2:=fun h=>jk (K:=X.K) I h e2 (by rw[c2];intro q;injection q with q;exact j' q (by decide));exact⟨O.TIz,O.TOz,O.i1z,O.i2z,O.TITO,O.TIi1,O.TIi2,O.TOi1,O.TOi2,O.i12,nz ha,nT ha,n1 ha,n2 ha,nz hb,nT hb,n1 hb,n2 hb⟩
theorem YJ {P:Program}{w:World}{K:Frag}{es:List Expr}{k:Nat}{tp:Pos}{z TI TO i1 i2:Addr}(a b:Addr)(O:N8 z TI TO i1 i2) :
  Turn P w K (.Tuple es k tp) (Itz K a b) [z,TI,TO,i1,i2] z (aey z TI TO i1 i2 a b) where
 mem:=by simp
 obj:=fun i h st c hc=>by
  obtain⟨hz,hTI,⟨x,y,hTO⟩,⟨o1,e1,_,d1⟩,⟨o2,e2,_,d2⟩⟩:=st;have hc':c=z\/c=TI\/c=TO\/c=i1\/c=i2:=by simpa using hc
  rcases hc' with rfl|rfl|rfl|rfl|rfl
  ·exact⟨_,hz,fun v q=>by
    have q':Data.fields _=Data.cell v:=q;cases q'⟩
  ·exact⟨_,hTI,fun v q=>by
    have q':Data.seq _ _=Data.cell v:=q;cases q'⟩
  ·exact⟨_,hTO,fun v q=>by
    have q':Data.seq _ _=Data.cell v:=q;cases q'⟩
  ·exact⟨o1,e1,fun v q=>by rw[d1]at q;cases q⟩
  ·exact⟨o2,e2,fun v q=>by rw[d2]at q;cases q⟩
 keep:=fun i h h' st kp=>by
  obtain⟨hz,hTI,⟨x,y,hTO⟩,h1,h2⟩:=st;exact⟨kp z (by simp) _ hz,kp TI (by simp) _ hTI,⟨x,y,kp TO (by simp) _ hTO⟩,h1.at fun o q=>kp i1 (by simp) o q,h2.at fun o q=>kp i2 (by simp) o q⟩
 item:=by
  intro X hP hw hK hc i pins s σ H E I hf st hg;subst hP hw hK;obtain⟨xs,ys,x,y,hq,hq2,hx,hy⟩:=hg;have D:=HR I O st hq hq2;obtain⟨its,rv,p,_⟩:=I.list hq;obtain⟨its2,rv2,p2,_⟩:=I.list hq2;obtain⟨u,hu,ru⟩:=rv.get hx;obtain⟨u2,hu2,ru2⟩:=rv2.get hy;have h1:i<its.length:=(B'.mp hu).1;have h2:i<its2.length:=(B'.mp hu2).1;have W:=WalksT.zip2 (prog:=X.prog) (w:=X.w) (I.ok.hd hc) z TI TO i1 i2 a b D its.toArray its2.toArray;obtain⟨hz,hTI,hTO,g1,g2⟩:=st;refine W.item i s _ _ (by simp;omega) ⟨hz,hTI,hTO,g1,g2,p.isList,p2.isList⟩ fun T vals h' tk hv hT ht mid kk=>?_;refine⟨_,rfl,?_⟩;obtain⟨x',y',hx',hy',rfl⟩:=hv;have ex:x'=u:=by
   have:its[i]? = some x':=by simpa using hx'
   rw[hu]at this;exact(Zc' this).symm
  have ey:y'=u2:=by
   have:its2[i]? = some y':=by simpa using hy'
   rw[hu2]at this;exact(Zc' this).symm
  subst ex ey;have sub:∀ c∈[z,TO,i1,i2],c∈[z,TI,TO,i1,i2]:=fun c hc=>by
   have:c=z\/c=TO\/c=i1\/c=i2:=by simpa using hc
   simp;rcases this with r|r|r|r <;> simp[r]
  have fw:∀ c∈[z,TO,i1,i2],jh X pins H c:=fun c hc=>hf c (sub c hc);have I1:Inv X pins σ (upd H T (.tup [x,y])) { s with heap:=h',toks:=tk }:=by
   refine I.Dr (vals:=[x',y']) fw hT (by simpa using ht) (.cons ru (.cons ru2 .nil)) (by show 2<=sizeLine;decide) kk fun c hc=>?_;obtain⟨m1,_,⟨_,_,m2⟩,⟨o1,m3,_⟩,⟨o2,m4,_⟩,_⟩:=mid;have:c=z\/c=TO\/c=i1\/c=i2:=by simpa using hc
   rcases this with rfl|rfl|rfl|rfl
   ·exact⟨_,m1⟩
   ·exact⟨_,m2⟩
   ·exact⟨_,m3⟩
   ·exact⟨_,m4⟩
  have YF:H T=none:=I.hok.fresh hT;have neT:∀ c∈[z,TI,TO,i1,i2],c≠T:=fun c hc q=>by
   subst q;have:c=TI\/c∈[z,TO,i1,i2]:=by
    have:c=z\/c=TI\/c=TO\/c=i1\/c=i2:=by simpa using hc
    simp;rcases this with r|r|r|r|r <;> simp[r]
   rcases this with r|r
   ·subst r;exact j' (U' (P' hTI) hT) (Nat.lt_irrefl _)
   ·exact W.apart i c _ mid r
  refine W.go es k tp i T _ _ _ mid fun h'' st'' afZ=>?_;have hf2:∀ c∈[z,TI,TO,i1,i2],jh X pins (upd H T (.tup [x,y])) c:=fun c hc=>by
   obtain⟨f0,fr⟩:=hf c hc;exact⟨by rw[aA (neT c hc)];exact f0,fr⟩
  obtain⟨s1,s2,s3,s4,s5,_⟩:=st'';refine⟨.ref T,upd H T (.tup [x,y]),I1.gM (tk:=tk) (fun c hc=>hf2 c (sub c hc)) afZ,rfl,⟨x,y,T,rfl,YF,yC I hq hx,yC I hq2 hy,rfl⟩,⟨s1,s2,s3,s4,s5⟩,fun c hc=>(hf2 c hc).1⟩
 done:=by
  intro X hP hw hK hc i pins s σ H E I hf st hg;subst hP hw hK;obtain⟨xs,ys,hq,hq2,hx⟩:=hg;have D:=HR I O st hq hq2;obtain⟨its,rv,p,_⟩:=I.list hq;obtain⟨its2,rv2,p2,_⟩:=I.list hq2;have W:=WalksT.zip2 (prog:=X.prog) (w:=X.w) (I.ok.hd hc) z TI TO i1 i2 a b D its.toArray its2.toArray;obtain⟨hz,hTI,hTO,g1,g2⟩:=st;have e:min its.toArray.size its2.toArray.size=i:=by
   rw[Ze',Ze',<-rv.length,<-rv2.length];exact hx
  refine W.done s _ _ (by rw[e];exact⟨hz,hTI,hTO,g1,g2,p.isList,p2.isList⟩) fun h' tk kk=>?_;refine⟨rfl,I.gM (tk:=tk) (wr:=[z,TO,i1,i2]) (fun c hc=>hf c ?_) kk⟩;have:c=z\/c=TO\/c=i1\/c=i2:=by simpa using hc
  simp;rcases this with r|r|r|r <;> simp[r]
 self:=fun _ i s _ _ st h=>by
  obtain⟨hz,_⟩:=st;exact wpAny_pyIter_zip hz h
inductive aez (K:Frag)(R:(It->Hp->Prop))(x:V)(y:V)(H2:Hp):Prop
 |mk (a:_) (b:_) (tQ:x=.ref a) (tR:y=.ref b) (CZ:(∃ xs,aR K H2 a xs)/\(∃ ys,aR K H2 b ys)/\R (Itz K a b) H2):aez K R x y H2
def alk (K:Frag)(tl tm:TE):TI:=fun σ H R=>tl σ H fun x H1=>tm σ H1 fun y H2=>aez K R x y H2
theorem af1 {l m:Expr}{tl tm:TE}(hl:PE X l tl)(hm:PE X m tm)(hs:starEach [l,m] X.env=[(false,eval l X.env),(false,eval m X.env)])(hs2:starEach [m] X.env=[(false,eval m X.env)])(pos:Pos)(pins:List (Addr×Obj))(s:Shared)(σ:St)(H:Hp){Q:V->V->Hp->Prop}(I:Inv X pins σ H s)(h:tl σ H fun x H1=>tm σ H1 fun y H2=>Q x y H2) :
  wpAny (model X.prog X.w) X.A (spliced (backTo pos (starEach [l,m] X.env))) (fun us s1=>∃ x y u v H1,Inv X pins σ H1 s1/\us=[u,v]/\RelV x u/\RelV y v/\Q x y H1) X.xe s:=by
 have he:PE X l (fun σ' H' Q'=>σ'=σ/\H'=H/\∀ x H1,(tm σ H1 fun y H2=>Q x y H2)->Q' x H1):=by
  intro pins s σ' H' Q' I' hw;obtain⟨rfl,rfl,k⟩:=hw;exact cu (hl pins s σ' H' _ I' h) fun u s1 ⟨v,H1,I1,r,q⟩=>⟨v,H1,I1,r,k v H1 q⟩
 have hf:PE X m (fun σ' H' Q'=>∃ x,σ'=σ/\(tm σ H' fun y H2=>Q x y H2)/\∀ y H2,Q x y H2->Q' y H2):=by
  intro pins s σ' H' Q' I' hw;obtain⟨x,rfl,hh,k⟩:=hw;exact cu (hm pins s σ' H' _ I' hh) fun u s1 ⟨v,H1,I1,r,q⟩=>⟨v,H1,I1,r,k v H1 q⟩
 have main:=aa he (aa hf aj hs2) (by rw[hs,hs2]) pos pins s σ H (fun vs H2=>∃ x y,vs=[x,y]/\Q x y H2) I ⟨rfl,rfl,fun x H1 q=>⟨x,rfl,q,fun y H2 q2=>⟨x,y,rfl,q2⟩⟩⟩;refine cu main fun us s1 ⟨vs,H1,I1,r,x,y,e,q⟩=>?_;subst e;obtain⟨u,v,rfl,r1,r2⟩:=r.two;exact⟨x,y,u,v,H1,I1,rfl,r1,r2,q⟩
theorem af2 {l m:Expr}{tl tm:TE}{p pos tp:Pos}{es:List Expr}{k:Nat}(hg:Gl X "zip")(hz:X.mg "zip"=none)(hl:PE X l tl)(hm:PE X m tm)(hs:starEach [l,m] X.env=[(false,eval l X.env),(false,eval m X.env)]:=by rfl)(hs2:starEach [m] X.env=[(false,eval m X.env)]:=by rfl) :
  PI X (.Tuple es k tp) (.Call (.Name "zip" p) [l,m] [] pos) (alk X.K tl tm):=by
 intro pins s σ H R I h;refine Call_ (t7 I hg hz afX (PyProof.Rows.callWith_type1 (cu (af1 hl hm hs hs2 pos pins s σ H I h) fun us s1 ⟨x,y,u,v,H1,I1,e1,r1,r2,q1⟩=>?_) (by rw[hs,hs2]) (by rw[hs2];rfl)));obtain⟨a,b,rfl,rfl,⟨xs,hq⟩,⟨ys,hq2⟩,q⟩:=q1;subst e1;cases r1;cases r2;obtain⟨its,rv,pl,_⟩:=I1.list hq;obtain⟨its2,rv2,pl2,_⟩:=I1.list hq2;refine call_zip_2 pl.isList pl2.isList fun h' z1 z2 z3 z4 z5 hsz kk=>?_;refine wpAny_pyIter_zip z1 ?_;have O:N8 (s1.heap.objs.size+4) (s1.heap.objs.size+2) (s1.heap.objs.size+3) s1.heap.objs.size (s1.heap.objs.size+1):=by
  constructor <;> exact(by intro q;have q':(_:Nat)=_:=q;omega)
 refine⟨_,[s1.heap.objs.size+4,s1.heap.objs.size+2,s1.heap.objs.size+3,s1.heap.objs.size,s1.heap.objs.size+1],_,_,H1,rfl,I1.kept (t':=s1.toks) kk,YJ a b O,⟨z1,z2,⟨_,_,z3⟩,z4,z5⟩,fun c hc=>?_,q⟩;have hc':s1.heap.objs.size<=c:=by
  have:c=s1.heap.objs.size+4\/c=s1.heap.objs.size+2\/c=s1.heap.objs.size+3\/c=s1.heap.objs.size\/c=s1.heap.objs.size+1:=by simpa using hc
  rcases this with r|r|r|r|r <;> (rw[r];first|exact Nat.le_add_right _ _|exact A' _)
 exact I1.IM hc' (I1.hok.fresh hc')
end
end L2
namespace L2
open PySem
abbrev UM (J:It)(g:TG)(tc:TT)(te:TE)(D:Addr)(R:Hp->Prop)(σ:St)(H:Hp):Prop:=∃ W:Nat->Nat->List V->St->Hp->Prop,(∃ m,W 0 m [] σ H)/\∀ i m ys σ H,W i m ys σ H ->
  (J.stop i H/\R H)\/(J.go i H/\∀ x H',J.NV i H x H'->g x σ H' fun σ2 H2=>tc σ2 H2 fun ok H3 =>
   if ok=true then te σ2 H3 fun y H4=>H4 D=some (.lst ys)/\ys.length<sizeLine/\∃ m',m'<m/\W (i+1) m' (ys++[y]) σ2 (upd H4 D (.lst (ys++[y])))
   else ∃ m',m'<m/\W (i+1) m' ys σ2 H3)
abbrev HS (g:TG)(tc:TT)(te:TE)(D:Addr)(ys:List V)(x:V)(σ:St)(H:Hp)(N:List V->St->Hp->Prop):Prop :=
 g x σ H fun σ2 H2=>tc σ2 H2 fun ok H3=>if ok=true then te σ2 H3 fun y H4=>H4 D=some (.lst ys)/\ys.length<sizeLine/\N (ys++[y]) σ2 (upd H4 D (.lst (ys++[y]))) else N ys σ2 H3
theorem Ds {lo:Int}{n:Nat}{g:TG}{tc:TT}{te:TE}{D:Addr}{R:Hp->Prop}{σ:St}{H:Hp}(Pv:Nat->List V->St->Hp->Prop)(h0:Pv 0 [] σ H)
  (hs:∀ i ys σ H,i<n->Pv i ys σ H->∀ N:List V->St->Hp->Prop,(∀ ys σ H,Pv (i+1) ys σ H->N ys σ H)->HS g tc te D ys (.int (lo+i)) σ H N) (hd:∀ ys σ H,Pv n ys σ H->R H):UM (Itr lo n) g tc te D R σ H:=by
 refine⟨fun i m ys σ H=>m=n-i/\i<=n/\Pv i ys σ H,⟨n,by simp,X' _,h0⟩,?_⟩;rintro i m ys σ H ⟨rfl,hi,p⟩
 by_cases hlt:i<n
 ·refine .inr ⟨hlt,fun x H' y=>?_⟩;obtain⟨e,y⟩:=y;subst e y;exact hs i ys σ _ hlt p (fun ys' σ' H'=>∃ m',m'<n-i/\m'=n-(i+1)/\i+1<=n/\Pv (i+1) ys' σ' H') fun ys' σ' H' q=>⟨n-(i+1),by omega,rfl,hlt,q⟩
 ·have e:i=n:=by omega
  subst e;exact .inl ⟨A' _,hd ys σ H p⟩
theorem dG {K:Frag}{a:Addr}{xs:List V}{g:TG}{tc:TT}{te:TE}{D:Addr}{R:Hp->Prop}{σ:St}{H:Hp}(Pv:Nat->List V->St->Hp->Prop)(h0:Pv 0 [] σ H)(hl:∀ i ys σ H,Pv i ys σ H->aR K H a xs)
  (hs:∀ i ys x σ H,xs[i]? = some x->Pv i ys σ H->∀ N:List V->St->Hp->Prop,(∀ ys σ H,Pv (i+1) ys σ H->N ys σ H)->HS g tc te D ys x σ H N) (hd:∀ ys σ H,Pv xs.length ys σ H->R H):UM (Itl K a) g tc te D R σ H:=by
 refine⟨fun i m ys σ H=>m=xs.length-i/\i<=xs.length/\Pv i ys σ H,⟨xs.length,by simp,X' _,h0⟩,?_⟩;rintro i m ys σ H ⟨rfl,hi,p⟩;have q:=hl i ys σ H p
 by_cases hlt:i<xs.length
 ·refine .inr ⟨⟨xs,xs[i],q,by simp[hlt]⟩,fun x H' y=>?_⟩;obtain⟨e,y⟩:=y;subst e;exact hs i ys x σ _ (y xs q) p (fun ys' σ' H'=>∃ m',m'<xs.length-i/\m'=xs.length-(i+1)/\i+1<=xs.length/\Pv (i+1) ys' σ' H') fun ys' σ' H' q=>⟨xs.length-(i+1),by omega,rfl,hlt,q⟩
 ·have e:i=xs.length:=by omega
  subst e;exact .inl ⟨⟨xs,q,A' _⟩,hd ys σ H p⟩
theorem YK {K:Frag}{a:Addr}{xs:List V}{g:TG}{tb:TS}{D:Ends}{σ:St}{H:Hp}(Pv:Nat->St->Hp->Prop)(h0:Pv 0 σ H)(hl:∀ i σ H,Pv i σ H->aR K H a xs)
  (hs:∀ i x t σ H,xs[i]? = some x->Pv i σ H->H t=none->g (.ref t) σ (upd H t (.tup [.int i,x])) fun σ2 H2=>tb { D with nx:=Pv (i+1),ct:=Pv (i+1),bk:=D.nx } σ2 H2) (hd:∀ σ H,Pv xs.length σ H->D.nx σ H) :
  ∃ W:Nat->Nat->St->Hp->Prop,(∃ m,W 0 m σ H)/\∀ i m σ H,W i m σ H ->
   ((Ite K a).stop i H/\D.nx σ H)\/((Ite K a).go i H/\∃ N:St->Hp->Prop,(∀ σ' H',N σ' H'->∃ m',m'<m/\W (i+1) m' σ' H')/\∀ x H',(Ite K a).NV i H x H'->g x σ H' fun σ2 H2=>tb { D with nx:=N,ct:=N,bk:=D.nx } σ2 H2):=by
 refine⟨fun i m σ H=>m=xs.length-i/\i<=xs.length/\Pv i σ H,⟨xs.length,by simp,X' _,h0⟩,?_⟩;rintro i m σ H ⟨rfl,hi,p⟩;have q:=hl i σ H p
 by_cases hlt:i<xs.length
 ·refine .inr ⟨⟨xs,xs[i],q,by simp[hlt]⟩,Pv (i+1),fun σ' H' p'=>⟨xs.length-(i+1),by omega,rfl,hlt,p'⟩,fun x H' y=>?_⟩;obtain⟨y0,t,rfl,hn,hy,rfl⟩:=y;exact hs i y0 t σ H (hy xs q) p hn
 ·have e:i=xs.length:=by omega
  subst e;exact .inl ⟨⟨xs,q,A' _⟩,hd σ H p⟩
theorem acU {K:Frag}{a b:Addr}{xs ys:List V}{g:TG}{tb:TS}{D:Ends}{σ:St}{H:Hp}(Pv:Nat->St->Hp->Prop)(he:xs.length=ys.length)(h0:Pv 0 σ H)(hl:∀ i σ H,Pv i σ H->aR K H a xs/\aR K H b ys)
  (hs:∀ i x y t σ H,xs[i]? = some x->ys[i]? = some y->Pv i σ H->H t=none->g (.ref t) σ (upd H t (.tup [x,y])) fun σ2 H2=>tb { D with nx:=Pv (i+1),ct:=Pv (i+1),bk:=D.nx } σ2 H2) (hd:∀ σ H,Pv xs.length σ H->D.nx σ H) :
  ∃ W:Nat->Nat->St->Hp->Prop,(∃ m,W 0 m σ H)/\∀ i m σ H,W i m σ H ->
   ((Itz K a b).stop i H/\D.nx σ H)\/((Itz K a b).go i H/\∃ N:St->Hp->Prop,(∀ σ' H',N σ' H'->∃ m',m'<m/\W (i+1) m' σ' H')/\∀ x H',(Itz K a b).NV i H x H'->g x σ H' fun σ2 H2=>tb { D with nx:=N,ct:=N,bk:=D.nx } σ2 H2):=by
 refine⟨fun i m σ H=>m=xs.length-i/\i<=xs.length/\Pv i σ H,⟨xs.length,by simp,X' _,h0⟩,?_⟩;rintro i m σ H ⟨rfl,hi,p⟩;obtain⟨q,q2⟩:=hl i σ H p
 by_cases hlt:i<xs.length
 ·have hlt2:i<ys.length:=by omega
  refine .inr ⟨⟨xs,ys,xs[i],ys[i],q,q2,by simp[hlt],by simp[hlt2]⟩,Pv (i+1),fun σ' H' p'=>⟨xs.length-(i+1),by omega,rfl,hlt,p'⟩,fun x H' y=>?_⟩;obtain⟨x0,y0,t,rfl,hn,hx,hy,rfl⟩:=y;exact hs i x0 y0 t σ H (hx xs q) (hy ys q2) p hn
 ·have e:i=xs.length:=by omega
  subst e;exact .inl ⟨⟨xs,ys,q,q2,by omega⟩,hd σ H p⟩
end L2
namespace L2
open PySem
theorem fb {j:Nat}{te:TE}{D:Addr}{ys:List V}{x:V}{σ:St}{H:Hp}{N:List V->St->Hp->Prop}
  (h:te (σ.set j (some x)) H fun y H4=>H4 D=some (.lst ys)/\ys.length<sizeLine/\N (ys++[y]) (σ.set j (some x)) (upd H4 D (.lst (ys++[y])))):HS (HG j) afS te D ys x σ H N:=by
 unfold HS HG afS;exact(S' (rfl:true=true)).mpr h
end L2
namespace L2
open PySem PySem.Spec PyProof.Rows
open Sem (wp)
section
variable {prog:Program} {w:World} {A:Around} {E:Value->Shared->Prop} {s:Shared}
end
end L2
namespace L2
open PySem PySem.Spec PyProof.Rows
section
variable {X:Cx} {pins:List (Addr×Obj)} {σ:St} {H:Hp} {s:Shared}
end
end L2
namespace L2
open PySem PySem.Spec PyProof.Rows
structure N9 (K:Frag)(x qual:Str)(st:Stmt)(f:Addr)(fd:FuncData)(dV:Value):Prop where
 ex:∃(oc:Value)(od:Option Addr)(kV doc pm:Value)(an:Option Addr)(cdv ct:Value)(osl:Array (Option Value)),
  fd=fnOf x qual (ao st) (ak st) (ae st) dV kV doc pm an cdv ct/\K.lookup f=some ⟨oc,od,.func fd,osl⟩/\codeIn K cdv qual=true
 kp:keepIn K (.ref f)=true
section
variable {P:Program} {w:World} {K:Frag} {mg:Str->Option Value} {base:Heap}
theorem N9.ok {x qual:Str}{st:Stmt}{f:Addr}{fd:FuncData}{dV:Value}{N ps:List Str}{k:Nat}{sp:Sp}(F:N9 K x qual st f fd dV)(S:aL N ps (ae st))(len:∀ vs H Q E,sp vs H Q E->vs.length=ps.length)
  (hbody:∀(cdv:Value)(A:Around)(outer:List Env)(s:Shared)(H:Hp)(vs:List V)(Q:VK)(E:XK),nk k (A.deeper (envOfC qual (ae st) s.heap.objs.size f cdv))->sp vs H Q E ->
   ∃ t,NT (N3 iw P w K mg base N qual (ae st) f cdv A outer s H E).nox (ak st) t/\t { nx:=fun _ H'=>Q .non H',rt:=Q } (start N vs) H):bV P w K mg base iw (k+1) f fd ps sp:=by
 obtain⟨oc,od,kV,doc,pm,an,cdv,ct,osl,rfl,lk,hcd⟩:=F.ex;refine aep lk hcd S len fun A outer s H vs Q E hr hsp=>?_;obtain⟨t,h,q⟩:=hbody cdv A outer s H vs Q E hr hsp;exact⟨t,h.nox,q⟩
theorem N9.binds {x qual:Str}{st:Stmt}{f:Addr}{fd:FuncData}{T:Addr}{o:Obj}{items:Array Value}{n:Nat}{ps:List Str}{ds:List Value}(F:N9 K x qual st f fd (.ref T))(lk:K.lookup T=some o)(hs:o.data=.seq items n)
  (h:∀(kV doc pm:Value)(an:Option Addr)(cdv ct:Value)(us:List Value),(us++ds).length=ps.length->∃ k,bindArgs (fnOf x qual (ao st) (ak st) (ae st) (.ref T) kV doc pm an cdv ct) ⟨us,[]⟩=seqItems? (.ref T) >>= k/\k (some items)=pure (ps.zip (us++ds))):Binds K fd ps ds:=by
 obtain⟨oc,od,kV,doc,pm,an,cdv,ct,osl,rfl,lkf,hcd⟩:=F.ex;intro s us KI hl;obtain⟨k,h1,h2⟩:=h kV doc pm an cdv ct us hl;exact BindsTo.of_defaults rfl (KI _ _ lk) hs h1 h2
theorem UN {x qual:Str}{st:Stmt}{f:Addr}{oc:Value}{od an:Option Addr}{osl:Array (Option Value)}{dV kV doc pm cdv ct:Value}(l:K.lookup f=some ⟨oc,od,.func (fnOf x qual (ao st) (ak st) (ae st) dV kV doc pm an cdv ct),osl⟩)
  (c:codeIn K cdv qual=true) (k:keepIn K (.ref f)=true):N9 K x qual st f (fnOf x qual (ao st) (ak st) (ae st) dV kV doc pm an cdv ct) dV:=⟨⟨oc,od,kV,doc,pm,an,cdv,ct,osl,rfl,l,c⟩,k⟩
end
inductive Oa (w:World):List DictEntry->List (Str×V)->Prop
 |nil:Oa w [] []
 |cons {x:Str} {t:Tok} {u:Value} {v:V} {es:List DictEntry} {kvs:List (Str×V)}:RelV v u->Oa w es kvs->Oa w (⟨PyData.keyHash w.params x,.str x t,u⟩::es) ((x,v)::kvs)
structure KD (K:Frag)(w:World)(a:Addr)(kvs:List (Str×V)):Prop where
 sys:(a==sysModules)=false
 ok:∃ es n,K.lookup a=some ⟨.type "dict",none,.dict es n,#[]⟩/\Oa w es.toList kvs/\(kvs.map (·.1)).Nodup
theorem Oa.vs (P:Program){w:World}:∀{es:List DictEntry} {kvs:List (Str×V)},Oa w es kvs->∃ vs:List (Key×Value),Pairs (aS P w) es vs/\vs.map (·.1)=kvs.map (fun p=>(Sum.inr p.1:Key)) /\
  (∀ e∈es,∃ k,(aS P w).is k e.key=true/\e.hash=(aS P w).hash k)/\∀ x,nO (kvs.lookup x) (valueAt vs (Sum.inr x))
 |_,_,.nil=>⟨[],.nil,rfl,fun e h=>by simp at h,fun x=>True.intro⟩
 |_,_,.cons (x:=x) (t:=t) (u:=u) (v:=v) r q=>by
  obtain⟨vs,h1,h2,h3,h4⟩:=Oa.vs P q;refine⟨(Sum.inr x,u)::vs,.cons (jX P w x t) rfl h1,by rw[map_cons,map_cons,h2],fun e he=>?_,fun y=>?_⟩
  ·rcases List.mem_cons.mp he with rfl|he
   ·exact⟨Sum.inr x,jX P w x t,rfl⟩
   ·exact h3 e he
  ·by_cases hy:y=x
   ·subst hy;unfold valueAt;simp only [List.lookup_cons,List.find?_cons];simp;exact r
   ·unfold valueAt;have h5:=h4 y;unfold valueAt at h5;have e1:(y==x)=false:=by simpa using hy
    have e2:decide ((Sum.inr x:Key)=Sum.inr y)=false:=Zb' fun e=>hy (Sum.inr.inj e).symm;simp only [List.lookup_cons,e1,List.find?_cons,e2];exact h5
theorem HU:∀{l:List Str},l.Nodup->(l.map (fun p=>(Sum.inr p:Key))).Nodup
 |[],_=>.nil
 |x::l,h=>by
  rw[map_cons,List.nodup_cons];obtain⟨h1,h2⟩:=List.nodup_cons.mp h;refine⟨fun z=>?_,HU h2⟩;obtain⟨y,hy,e⟩:=mem_map.mp z;cases e;exact h1 hy
theorem KD.dict (P:Program){K:Frag}{w:World}{a:Addr}{kvs:List (Str×V)}{h:Heap}(d:KD K w a kvs)(hi:K.In h):∃ vs,h.DictOf (aS P w) a vs/\∀ x,nO (kvs.lookup x) (valueAt vs (Sum.inr x)):=by
 obtain⟨es,n,lk,ok,nd⟩:=d.ok;obtain⟨vs,h1,h2,h3,h4⟩:=ok.vs P;refine⟨vs,⟨_,es,n,hi _ _ lk,⟨rfl,rfl,rfl⟩,rfl,fun e he=>h3 e (by simpa using he),h1,?_⟩,h4⟩;rw[h2];have:=HU nd;rw[List.map_map]at this;exact this
theorem nO.ah2 {o:Option V}{u:Option Value}{d:V}{d':Value}(r:nO o u)(rd:RelV d d'):RelV (o.getD d) (u.getD d'):=by
 cases o with
 |none=>cases u with
  |none=>exact rd
  |some _=>exact False.elim r
 |some v=>cases u with
  |none=>exact False.elim r
  |some _=>exact r
section
variable {X:Cx}
theorem ah3:IxR X (fun x y H Q=>∃ a z kvs r,x=.ref a/\y=.str z/\KD X.K X.w a kvs/\kvs.lookup z=some r/\Q r H):=by
 intro value slice pins s σ H x y v u Q I rx ry h hs;obtain⟨a,z,kvs,r,rfl,rfl,d,l,q⟩:=h;cases rx;obtain⟨t,rfl⟩:=ry;obtain⟨vs,dd,rel⟩:=d.dict X.prog I.FI;have hr:=rel z;rw[l]at hr;cases hv:valueAt vs (Sum.inr z) with
 |none=>rw[hv]at hr;exact False.elim hr
 |some rv =>
  rw[hv]at hr;exact subscriptTail_builtinR (x:=rv) dd.typeIs PySem.F.slot_dict_getitem.lookup
   (wpAny_getItem_of (knd:=aS X.prog X.w) (k:=Sum.inr z) (jX _ _ z t) dd.mapOf hv ⟨rfl,⟨r,H,I.tok _,hr,q⟩⟩) hs
end
end L2
namespace L2
open PySem PySem.Spec PyProof.Rows
def ah4 (t:TE):TE:=fun σ H Q=>∃ R:V->Hp->Prop,t σ H R/\∀ v H',R v H'->Q v H'
def ah5 (t:TT):TT:=fun σ H Q=>∃ R:Bool->Hp->Prop,t σ H R/\∀ v H',R v H'->Q v H'
def ah6 (t:TS):TS:=fun D σ H=>∃ R:St->Hp->Prop,t { D with nx:=R } σ H/\∀ σ' H',R σ' H'->D.nx σ' H'
section
variable {X:Cx}
theorem bB {e:Expr}{t:TE}(h:PE X e t):PE X e (ah4 t):=by
 intro pins s σ H Q I ⟨R,hR,hQ⟩;exact cu (h pins s σ H R I hR) fun u s1 ⟨v,H1,I1,r,q⟩=>⟨v,H1,I1,r,hQ v H1 q⟩
theorem ba {e:Expr}{t:TT}(h:PT X e t):PT X e (ah5 t):=by
 intro pins s σ H Q I ⟨R,hR,hQ⟩;exact cu (h pins s σ H R I hR) fun u s1 ⟨H1,I1,q⟩=>⟨H1,I1,hQ u H1 q⟩
theorem gu {st:Stmt}{t:TS}(h:PS X st t):PS X st (ah6 t):=by
 intro pins s σ H D I ⟨R,hR,hQ⟩;refine cu (h pins s σ H _ I hR) fun f s1 q=>?_;cases f with
 |next=>exact let ⟨σ',H',I',q'⟩:=q;⟨σ',H',I',hQ _ _ q'⟩
 |brk=>exact q
 |cont=>exact q
 |ret u=>exact q
end
theorem eX {t:TE}{σ:St}{H:Hp}{Q:VK}(v:V)(h:t σ H fun x H1=>x=v/\H1=H)(q:Q v H):∃ R:V->Hp->Prop,t σ H R/\∀ v H',R v H'->Q v H':=⟨_,h,by rintro _ _ ⟨rfl,rfl⟩;exact q⟩
theorem dS {t:TT}{σ:St}{H:Hp}{Q:Bool->Hp->Prop}(b:Bool)(h:t σ H fun x H1=>x=b/\H1=H)(q:Q b H):∃ R:Bool->Hp->Prop,t σ H R/\∀ v H',R v H'->Q v H':=⟨_,h,by rintro _ _ ⟨rfl,rfl⟩;exact q⟩
theorem acV {t:TS}{σ:St}{H:Hp}{D:Ends}(σ':St)(H':Hp)(h:t { D with nx:=fun σ1 H1=>σ1=σ'/\H1=H' } σ H)(q:D.nx σ' H'):∃ R:St->Hp->Prop,t { D with nx:=R } σ H/\∀ σ' H',R σ' H'->D.nx σ' H' :=
 ⟨_,h,by rintro _ _ ⟨rfl,rfl⟩;exact q⟩
theorem bD {x v:V}{H:Hp}(e:x=v):x=v/\H=H:=⟨e,rfl⟩
theorem bE {x v:Bool}{H:Hp}(e:x=v):x=v/\H=H:=⟨e,rfl⟩
end L2
namespace L2
open PySem PySem.Spec PyProof.Rows
abbrev Cx.names (X:Cx)(N:List Str):Cx:={ X with N:=N }
section
variable {X:Cx} {pins:List (Addr×Obj)} {σ:St} {H:Hp} {s:Shared}
theorem Cx.Ok.names {N:List Str}(o:X.Ok):(X.names N).Ok:=⟨o.mod,o.kind,o.glob,o.blt,o.above,o.inj,o.has,o.cab,o.hd,o.frames,o.stk,o.exf,o.bs,o.LJ,o.IJ,o.IK,o.yu,o.frf⟩
theorem Cx.Ok.Jh {N:List Str}(o:(X.names N).Ok):X.Ok:=⟨o.mod,o.kind,o.glob,o.blt,o.above,o.inj,o.has,o.cab,o.hd,o.frames,o.stk,o.exf,o.bs,o.LJ,o.IJ,o.IK,o.yu,o.frf⟩
theorem Inv.names {N:List Str}(I:Inv X pins σ H s)(hl:N.length=X.N.length)(h:∀(j:Nat) x v,N[j]? = some x->σ[j]? = some (some v)->X.N[j]? = some x):Inv (X.names N) pins σ H s:=by
 obtain⟨m,hm,hq⟩:=I.loc;exact⟨I.ok.names,I.os,I.bare,I.base,⟨m,hm,fun i x v e1 e2 e3=>hq i x v (h i x v e1 e2) e2 e3⟩,I.cell,I.free,I.lu,I.pin,I.hok,by rw[I.len];exact hl.symm⟩
theorem Inv.Jh {N:List Str}(I:Inv (X.names N) pins σ H s)(hl:N.length=X.N.length)(h:∀(j:Nat) x v,X.N[j]? = some x->σ[j]? = some (some v)->N[j]? = some x):Inv X pins σ H s:=by
 obtain⟨m,hm,hq⟩:=I.loc;exact⟨I.ok.Jh,I.os,I.bare,I.base,⟨m,hm,fun i x v e1 e2 e3=>hq i x v (h i x v e1 e2) e2 e3⟩,I.cell,I.free,I.lu,I.pin,I.hok,by rw[I.len];exact hl⟩
end
end L2
namespace L2
open PySem PySem.Spec PyProof.Rows
section
variable {X:Cx} {tg iter elt:Expr} {ifs:List Expr} {scope:Scope} {pos:Pos} {cn:List Str} {wi:TI} {g:Bk->TG} {tc:Bk->TT} {te:Bk->TE}
theorem jm {i:Nat}{x:Str}{pos' spos:Pos}(hN:X.N.Nodup)(hix:X.N[i]? = some x)(hx:X.env.scope.names.lookup x=some .local)(hcalm:X.calm=true)(F:bS X.env.scope X.N scope)(hi:PI X tg iter wi)
  (hg:∀ b,PG (a6 X cn scope b) tg (g b)) (ht:∀ b,PF (a6 X cn scope b) ifs (tc b)) (he:∀ b,PE (a6 X cn scope b) elt (te b))
  (hsw:swapsWith (.ListComp elt [⟨tg,iter,ifs,0⟩] scope pos) (some (.Name x pos')) spos.line X.env=pure true:=by rfl)
  (hs:∀ x,foldedSetIterable iter X.env x=pure x:=by intro _;rfl):PS X (.Assign [.Name x pos'] (.ListComp elt [⟨tg,iter,ifs,0⟩] scope pos) spos) (acG (UK cn.length wi g tc te) (HG i)):=by
 intro pins s σ H D I h;rw[exec_Assign_Name_used _ _ _ _ hsw];refine L' (wpAny_standAt (L' ?_));rw[arm_evalThenUse_ListComp];refine L' ?_;have hcl:closureFor scope X.env=pure (bc X.env scope.names []):=C3 fun p hp e=>I.ok.has p.1 (F.free p hp e);refine wpAny_comprehension_free (use:=some (assign (.Name x pos') X.env)) rfl hs hcl F.kind F.loc (cu (hi pins s σ H _ I h) fun xv s₁ h₁=>cu h₁ fun itv s₂ h₂=>?_);obtain⟨it,fp,tn,J,H2,rfl,I2,T,st,f2,R⟩:=h₂;refine LR (TH:=fun _=>True) (QQ:=fun D' H'=>D.nx (σ.set i (some (.ref D'))) H') (RR:=fun acc C=>compPost (model X.prog X.w) X.A X.xe (some (assign (.Name x pos') X.env)) _ acc C) hcalm F (fun b _=>hg b) (fun b _=>ht b) (fun b _=>he b) (fun _ _=>trivial) I2 T st f2 R ?_ ?_
 ·intro C D' σ' H' s' hC I' q;obtain⟨m,hm,_⟩:=I'.loc;have hCn:H' C=none:=I'.free;have fC:jh X pins H' C:=I2.IM hC hCn;have I3:Inv X pins σ H' s':=I2.Ja f2 hC I' ⟨rfl,fun _ _=>rfl⟩;show wpAny (model X.prog X.w) X.A (assign (.Name x pos') X.env (.ref D')) _ X.xe s';refine wpAny_assign_Name (yv I3 hN hix (.inl hx) (v:=.ref D') rfl (fun s'' I4 ⟨a,sa,ha⟩=>?_) (.inr hx));have hne:C≠a:=by
   rcases ha with e|e
   ·rw[e];exact fC.2.1
   ·exact fun z=>fC.2.2.2.2.1 _ _ e z.symm
  obtain⟨o,es,ep,ho,r⟩:=hm;refine⟨m,⟨o,es,ep,(sa.2 C hne).trans ho,r⟩,fun h' sb=>?_⟩;refine Y' (Y' ⟨_,H',?_,q⟩);exact I4.gM (tk:=s''.toks) (wr:=[C]) (fun b hb=>by
   have:b=C:=by simpa using hb
   rw[this];exact fC) fun b o hb e=>(sb.2 b (fun z=>hb (by simp[z]))).trans e
 ·intro C D' e s' z;exact z
end
theorem acW {X:Cx}{st:Stmt}{t:TS}(k:Nat)(N:List Str)(h:PS (X.names N) st t)(hN:N=X.N.set k "":=by rfl):PS X st (fun D σ H=>σ[k]? = some none/\t { nx:=fun σ' H'=>σ'[k]? = some none/\D.nx σ' H',rt:=fun _ _=>False } σ H):=by
 intro pins s σ H D I ⟨hk,hw⟩;have hl:N.length=X.N.length:=by rw[hN,List.length_set]
 have a1:∀(σ:St),σ[k]? = some none->∀(j:Nat)(x:Str)(v:V),σ[j]? = some (some v)->N[j]? = X.N[j]?:=fun σ hk j x v e2=>by
  have hj:k≠j:=fun z=>by rw[<-z,hk]at e2;cases e2
  rw[hN,List.getElem?_set_ne hj]
 refine cu (h pins s σ H _ (I.names hl fun j x v e1 e2=>by rw[<-a1 σ hk j x v e2];exact e1) hw) fun f s1 q=>?_;cases f with
 |next =>
  obtain⟨σ',H',I',hk',q'⟩:=q;exact⟨σ',H',I'.Jh hl fun j x v e1 e2=>by rw[a1 σ' hk' j x v e2];exact e1,q'⟩
 |brk=>exact(let ⟨_,_,_,z⟩:=q;z.elim)
 |cont=>exact(let ⟨_,_,_,z⟩:=q;z.elim)
 |ret u=>exact(let ⟨_,_,_,_,_,z⟩:=q;z.elim)
end L2
namespace L2
open PySem PySem.Spec PyProof.Rows PySem.SeqAt
section
variable {X:Cx}
inductive aeA (K:Frag)(neg:Bool)(x:V)(y:V)(H:Hp)(Q:VK):Prop
 |mk (a:_) (c:_) (xs:_) (tQ:x=.ref a) (tR:y=.ref c) (CZ:aR K H a xs) (NU:aR K H c []) (h4_:Q (.bl (if neg then !xs.isEmpty else xs.isEmpty)) H):aeA K neg x y H Q
def ah7 (K:Frag)(neg:Bool):R2:=fun x y H Q=>aeA K neg x y H Q
theorem YL {pins:List (Addr×Obj)}{σ:St}{H:Hp}{s:Shared}{a c:Addr}{xs:List V}(hu:X.A.units+64<cLine)(I:Inv X pins σ H s)(ha:aR X.K H a xs)(hc:aR X.K H c []):RcAt X.A s (.ref a) (.ref c) xs.isEmpty/\RcNeAt X.A s (.ref a) (.ref c) (!xs.isEmpty):=by
 obtain⟨its,r,p,_⟩:=I.list ha;obtain⟨its',r',p',_⟩:=I.list hc;have e1:=r.length;have e2:=r'.length;simp at e2;cases xs with
 |nil =>
  simp at e1;have z1:its=[]:=by simpa using e1.symm
  have z2:its'=[]:=by simpa using e2.symm
  subst z1 z2;constructor
  ·have:=RcAt.lists (A:=X.A) (e:=fun _=>true) p.isList p'.isList rfl (by omega) (fun j h1 _=>j' h1 (by simp))
   simpa using this
  ·have:=RcNeAt.lists (A:=X.A) (e:=fun _=>true) p.isList p'.isList rfl (by omega) (fun j h1 _=>j' h1 (by simp))
   simpa using this
 |cons x t =>
  have hne:(its.toArray.size != its'.toArray.size)=true:=by
   simp at e1;have z2:its'=[]:=by simpa using e2.symm
   subst z2;have:its.length≠0:=by omega
   simpa using this
  exact⟨RcAt.lists_lengths p.isList p'.isList hne (by omega),RcNeAt.lists_lengths p.isList p'.isList hne (by omega)⟩
theorem Ji (hu:X.A.units+64<cLine):qO X (compareOp .Eq) (ah7 X.K false):=by
 intro pins s σ H x y v u Q I r1 r2 h;obtain⟨a,c,xs,rfl,rfl,ha,hc,q⟩:=h;cases r1;cases r2;exact(YL hu I ha hc).1 X.prog X.w X.xe _ ⟨.bl _,H,I,rfl,q⟩
theorem af3 (hu:X.A.units+64<cLine):qO X (compareOp .NotEq) (ah7 X.K true):=by
 intro pins s σ H x y v u Q I r1 r2 h;obtain⟨a,c,xs,rfl,rfl,ha,hc,q⟩:=h;cases r1;cases r2;exact(YL hu I ha hc).2 X.prog X.w X.xe _ ⟨.bl _,H,I,rfl,q⟩
end
end L2
namespace L2
open PySem PySem.Spec PyProof.Rows
end L2
namespace L2
open PySem PySem.Spec PyProof.Rows
abbrev XSt:=St->Value->Hp->Prop
section
variable {X:Cx} {pins:List (Addr×Obj)} {σ:St} {H H':Hp} {s s':Shared}
end
section
variable {P:Program} {w:World} {K:Frag} {mg:Str->Option Value} {base:Heap}
end
section
variable {X:Cx} {W:Value->Shared->Prop} {XS:XSt} {k:Nat} {f C:Addr} {fd:FuncData} {ps:List Str} {sp:Sp} {LH:List V} {ds:List Value} {x m:Str} {p pos apos:Pos} {e o:Expr} {es:List Expr} {ta:TE} {t:TA}
end
section
variable {X:Cx} {pins X6:List (Addr×Obj)} {σ:St} {H H':Hp} {s:Shared}
end
end L2
namespace L2
open PySem PySem.Spec PyProof.Rows
section
variable {prog:Program} {w:World} {A:Around} {E:Value->Shared->Prop} {h:Heap} {g:Array GenState} {d:Drawn} {t:Nat} {os:OsState} {a:Addr} {o:Obj} {vs:Array Value} {K:Frag}
 {nm q:Str} {C N:Addr} {bs bm:List Value} {hdct:Bool} {sn:List Str} {sub:List Value} {ab:Bool} {col:Option Bool} {dd:Option Addr} {k0 k1 k2 k3 k5:Option Value} {newId:String}
end
section
variable {X:Cx}
end
end L2
namespace L2
open PySem PySem.Spec PyProof.Rows
section
variable {P:Program} {w:World} {K:Frag} {mg:Str->Option Value} {base:Heap}
end
section
variable {X:Cx} {tg iter elt:Expr} {ifs:List Expr} {scope:Scope} {pos:Pos} {cn:List Str} {wi:TI} {g:Bk->TG} {tc:Bk->TT} {te:Bk->TE} {TH:Bk->Prop}
end
end L2
namespace L2
open PySem PySem.Spec PyProof.Rows
end L2
namespace L2
open PySem PySem.Spec PyProof.Rows
section
variable {X:Cx}
theorem all_range:∀ bs:List Bool,(List.range bs.length).all (fun i=>bs.getD i false)=bs.all id
 |[]=>rfl
 |b::bs=>by
  rw[Zp',List.range_succ_eq_map,List.all_cons,List.all_map,List.all_cons];have:((fun i=>(b::bs).getD i false) ∘ Nat.succ)=fun i=>bs.getD i false:=by
   funext i
   rfl
  rw[this,all_range bs];rfl
theorem vS:eS X (.builtin "all") (fun xs H Q=>X.calm=true/\∃(a:Addr)(bs:List Bool),xs=[.ref a]/\aR X.K H a (bs.map V.bl)/\Q (.bl (bs.all id)) H):=by
 intro pins s σ H xs us Q I r h;obtain⟨hc,a,bs,rfl,hq,q⟩:=h;obtain⟨u,rfl,rfl⟩:=r.one;obtain⟨its,rv,p,hz⟩:=I.list hq;have hl:=rv.length;rw[K']at hl;have alp:∀(i:Nat)(v:Value),its.toArray[i]? = some v->v=Value.bool (bs.getD i false):=by
  intro i v hv;have hv':its[i]? = some v:=by simpa using hv
  have hi:i<its.length:=(B'.mp hv').1;have hb:i<bs.length:=by omega
  obtain⟨u,hu,ru⟩:=rv.get (i:=i) (x:=.bl (bs[i])) (by rw[Zi',C' hb];rfl);rw[hv']at hu;cases hu;have:v=.bool bs[i]:=ru;rw[this,T',C' hb];rfl
 refine call_all_walk (wpAny_pyIter_list p.isList ?_);have ane:a≠s.heap.objs.size:=by
  obtain⟨o,ho,_⟩:=p.isList;exact Za' (P' ho)
 have hd:X.A.in1.handled=none:=I.ok.hd hc;refine⟨s.heap.objs.size,_,_,_,_,_,fun i=>bs.getD i false,rfl,Walks.list hd s.heap.objs.size a ane its.toArray,⟨⟨_,Zd' _ rfl,rfl,rfl⟩,p.isList.push _⟩,?_,?_⟩
 ·intro i v s' Q' E' hP hQ';rw[alp i v hP];exact wpAny_truthy_bool hQ'
 ·intro h' tk kk;have e:(List.range its.toArray.size).all (fun i=>bs.getD i false)=bs.all id:=by
   rw[Ze',<-hl];exact all_range bs
  rw[e];refine⟨.bl _,H,I.kept (t':=tk) fun b o e=>kk b o (fun z=>?_) (G' _ e),rfl,q⟩;have:b=s.heap.objs.size:=by simpa using z
  exact j' (P' e) (by rw[this];exact Nat.lt_irrefl _)
end
end L2
namespace L2
open PySem PySem.Spec PyProof.Rows
section
variable {κ:Type} [DecidableEq κ]
def qL (kvs:List (κ×V))(k:κ):Option V:=(kvs.find? fun kv=>decide (kv.1=k)).map (·.2)
def putK (kvs:List (κ×V))(k:κ)(v:V):List (κ×V) :=
 if(kvs.any fun kv=>decide (kv.1=k))=true then kvs.map (fun kv=>if kv.1=k then(kv.1,v) else kv) else kvs++[(k,v)]
theorem vT {p:κ×V}{r:List (κ×V)}{k:κ}(e:p.1=k):qL (p::r) k=some p.2:=by simp[qL,List.find?_cons,e]
theorem vU {p:κ×V}{r:List (κ×V)}{k:κ}(e:¬ p.1=k):qL (p::r) k=qL r k:=by simp[qL,List.find?_cons,e]
theorem vV (k:κ):∀ kvs:List (κ×V),(kvs.any fun kv=>decide (kv.1=k))=(qL kvs k).isSome
 |[]=>rfl
 |p::r=>by
  rw[List.any_cons]
  by_cases e:p.1=k
  ·simp only [vT e,W' e,Bool.true_or,Option.isSome_some]
  ·rw[vU e,Zb' e,Bool.false_or];exact vV k r
theorem mY (kvs:List (κ×V))(k:κ)(v:V):(putK kvs k v).length<=kvs.length+1:=by
 unfold putK;split
 ·rw[K'];omega
 ·rw[Zj',Zp',List.length_nil];omega
theorem nO.nP {o:Option V}{u:Option Value}(r:nO o u):o.isSome=u.isSome:=by
 cases o with
 |none=>cases u with
  |none=>rfl
  |some _=>exact(show False from r).elim
 |some _=>cases u with
  |none=>exact(show False from r).elim
  |some _=>rfl
theorem nO.getD {o:Option V}{u:Option Value}{d:V}{d':Value}(r:nO o u)(rd:RelV d d'):RelV (o.getD d) (u.getD d'):=by
 cases o with
 |none=>cases u with
  |none=>exact rd
  |some _=>exact(show False from r).elim
 |some _=>cases u with
  |none=>exact(show False from r).elim
  |some _=>exact r
theorem KV.val {kvs:List (κ×V)}{vs:List (κ×Value)}(r:KV kvs vs)(k:κ):nO (qL kvs k) (valueAt vs k):=by
 unfold KV at r
 induction r with
 |nil=>exact True.intro
 | @cons p q ps qs h t ih =>
  obtain⟨h1,h2⟩:=h
  by_cases e:p.1=k
  ·have e':q.1=k:=h1.symm.trans e;have b:valueAt (q::qs) k=some q.2:=by simp[valueAt,List.find?_cons,e']
   rw[vT e,b];exact h2
  ·have e':¬ q.1=k:=fun z=>e (h1.trans z);have b:valueAt (q::qs) k=valueAt qs k:=by simp[valueAt,List.find?_cons,e']
   rw[vU e,b];exact ih
theorem KV.any {kvs:List (κ×V)}{vs:List (κ×Value)}(r:KV kvs vs)(k:κ):(kvs.any fun kv=>decide (kv.1=k))=vs.any fun kv=>decide (kv.1=k):=by
 unfold KV at r
 induction r with
 |nil=>rfl
 |cons h t ih=>rw[List.any_cons,List.any_cons,ih,h.1]
theorem KV.repl {kvs:List (κ×V)}{vs:List (κ×Value)}(r:KV kvs vs)(k:κ){y:V}{u:Value}(ry:RelV y u) :
  KV (kvs.map fun kv=>if kv.1=k then(kv.1,y) else kv) (vs.map fun kv=>if kv.1=k then(kv.1,u) else kv):=by
 unfold KV at r ⊢
 induction r with
 |nil=>exact .nil
 | @cons p q ps qs h t ih =>
  rw[map_cons,map_cons];refine .cons ?_ ih;obtain⟨h1,h2⟩:=h
  by_cases e:p.1=k
  ·rw[S' e,S' (h1.symm.trans e)];exact⟨h1,ry⟩
  ·rw[M' e,M' (fun z=>e (h1.trans z))];exact⟨h1,h2⟩
theorem KV.put {kvs:List (κ×V)}{vs:List (κ×Value)}(r:KV kvs vs)(k:κ){y:V}{u:Value}(ry:RelV y u):KV (putK kvs k y) (stored vs k u):=by
 unfold putK stored;rw[r.any k]
 by_cases e:(vs.any fun kv=>decide (kv.1=k))=true
 ·rw[S' e,S' e];exact r.repl k ry
 ·rw[M' e,M' e];exact Paired.snoc r ⟨rfl,ry⟩
theorem KV.keys {kvs:List (κ×V)}{vs:List (κ×Value)}(r:KV kvs vs):kvs.map (·.1)=vs.map (·.1):=by
 unfold KV at r
 induction r with
 |nil=>rfl
 |cons h t ih=>rw[map_cons,map_cons,ih,h.1]
theorem KV.length {kvs:List (κ×V)}{vs:List (κ×Value)}(r:KV kvs vs):kvs.length=vs.length:=Paired.length r
end
theorem AD {P:Program}{w:World}{k:Key}{u:Value}(r:RelV (kV k) u):(aS P w).is k u=true:=by
 cases k with
 |inl i=>obtain⟨t,e⟩:=(show ∃ t,u=Value.int i t from r);subst e;exact Ay P w i t
 |inr x=>obtain⟨t,e⟩:=(show ∃ t,u=Value.str x t from r);subst e;exact jX P w x t
theorem HV {P:Program}{w:World}:∀{ks:List Key} {us:List Value},Vals (ks.map kV) us->ItemsAre (aS P w) ks us
 |[],_,r=>by rw[List.map_nil]at r;cases r;exact .nil
 |k::ks,_,r=>by
  rw[map_cons]at r;cases r with
  |cons h t=>exact .cons (AD h) (HV t)
abbrev KT (H:Hp):List (List Key×V)->List (List Key×Addr×Value)->Prop:=Paired fun p q=>p.1=q.1/\H q.2.1=some (.tup (p.1.map kV))/\RelV p.2 q.2.2
theorem KT.val {H:Hp}{kvs:List (List Key×V)}{xs:List (List Key×Addr×Value)}(r:KT H kvs xs)(k:List Key):nO (qL kvs k) ((atKey xs k).map (·.2)):=by
 induction r with
 |nil=>exact True.intro
 | @cons p q ps qs h t ih =>
  obtain⟨h1,_,h2⟩:=h
  by_cases e:p.1=k
  ·have e':q.1=k:=h1.symm.trans e;have b:atKey (q::qs) k=some q.2:=by simp[atKey,List.find?_cons,e']
   rw[vT e,b];exact h2
  ·have e':¬ q.1=k:=fun z=>e (h1.trans z);have b:atKey (q::qs) k=atKey qs k:=by simp[atKey,List.find?_cons,e']
   rw[vU e,b];exact ih
theorem KT.repl {H:Hp}{kvs:List (List Key×V)}{xs:List (List Key×Addr×Value)}(r:KT H kvs xs)(k:List Key){y:V}{u:Value}(ry:RelV y u) :
  KT H (kvs.map fun kv=>if kv.1=k then(kv.1,y) else kv) (xs.map (putAt k u)):=by
 induction r with
 |nil=>exact .nil
 | @cons p q ps qs h t ih =>
  rw[map_cons,map_cons];refine .cons ?_ ih;obtain⟨h1,h2,h3⟩:=h;unfold putAt
  by_cases e:p.1=k
  ·rw[S' e,S' (h1.symm.trans e)];exact⟨h1,h2,ry⟩
  ·rw[M' e,M' (fun z=>e (h1.trans z))];exact⟨h1,h2,h3⟩
theorem KT.put {H:Hp}{kvs:List (List Key×V)}{xs:List (List Key×Addr×Value)}(r:KT H kvs xs)(k:List Key){b:Addr}{y:V}{u:Value}(hb:H b=some (.tup (k.map kV)))(ry:RelV y u) :
  KT H (putK kvs k y) (storedH xs k b u):=by
 have e:(kvs.any fun kv=>decide (kv.1=k))=(atKey xs k).isSome:=by
  rw[vV,(r.val k).nP,Option.isSome_map]
 unfold putK storedH;rw[e]
 by_cases q:(atKey xs k).isSome=true
 ·rw[S' q,S' q];exact r.repl k ry
 ·rw[M' q,M' q];exact Paired.snoc r ⟨rfl,hb,ry⟩
theorem KT.keeps {H H':Hp}{kvs:List (List Key×V)}{xs:List (List Key×Addr×Value)}(r:KT H kvs xs)(ht:∀ b ys,H b=some (.tup ys)->H' b=some (.tup ys)):KT H' kvs xs :=
 Paired.afv r fun _ _ z=>⟨z.1,ht _ _ z.2.1,z.2.2⟩
section
variable {P:Program} {w:World} {H:Hp} {h:Heap} {a:Addr}
theorem aeB {u:HO}(ok:qN P w H h)(e:Rd H a u):ck P w H h a u:=e.ok ok
theorem vW {kvs:List (Key×V)}(ok:qN P w H h)(e:Rd H a (.dK kvs)):kvs.length<=sizeLine/\(a==sysModules)=false/\∃ vs,KV kvs vs/\h.DictOf (aS P w) a vs :=
 show ck P w H h a (.dK kvs) from aeB ok e
theorem Dt {kvs:List (Key×V)}(ok:qN P w H h)(e:H a=some (.dK kvs)):kvs.length<=sizeLine/\(a==sysModules)=false/\∃ vs,KV kvs vs/\h.DictOf (aS P w) a vs:=vW ok (.inl e)
theorem yD {ks:List Key}(ok:qN P w H h)(e:H a=some (.tup (ks.map kV))):(tupleKind (aS P w)).is h ks a:=by
 obtain⟨_,its,r,o,h1,h2,n,h3⟩:=(show ck P w H h a (.tup (ks.map kV)) from ok a _ e);exact⟨o,its.toArray,n,h1,h2,h3,by simpa using HV r⟩
theorem Du {kvs:List (List Key×V)}(ok:qN P w H h)(e:Rd H a (.dT kvs)):kvs.length<=sizeLine/\(a==sysModules)=false /\
  ∃ xs,KT H kvs xs/\h.DictOfH (tupleKind (aS P w)) a xs:=by
 obtain⟨z,y,xs,r,o,es,ep,h1,h2,h3,h4,h5⟩:=(show ck P w H h a (.dT kvs) from aeB ok e);refine⟨z,y,xs,r,o,es,ep,h1,h2,h3,h4,fun x hx=>?_,h5⟩;have all:∀{l:List (List Key×V)} {m:List (List Key×Addr×Value)},KT H l m->∀ x∈m,(tupleKind (aS P w)).is h x.1 x.2.1:=by
  intro l m q
  induction q with
  |nil=>intro x hx;exact nomatch hx
  | @cons p q ps qs hq t ih =>
   intro x hx;rcases List.mem_cons.mp hx with e|hx
   ·subst e;exact yD ok (by rw[<-hq.1];exact hq.2.1)
   ·exact ih x hx
 exact all r x hx
theorem ah9 {kvs:List (List Key×V)}(ok:qN P w H h)(e:H a=some (.dT kvs)):kvs.length<=sizeLine/\(a==sysModules)=false /\
  ∃ xs,KT H kvs xs/\h.DictOfH (tupleKind (aS P w)) a xs:=Du ok (.inl e)
end
def nq (H:Hp)(a:Addr)(y:V)(r:Option V):Prop :=
 (∃ kvs k,Rd H a (.dK kvs)/\y=kV k/\r=qL kvs k)\/∃ kvs k b,Rd H a (.dT kvs)/\y=.ref b/\H b=some (.tup (k.map kV))/\r=qL kvs k
def Ob (H:Hp)(a:Addr)(y v:V)(H':Hp):Prop :=
 (∃ kvs k,H a=some (.dK kvs)/\y=kV k/\kvs.length<sizeLine/\H'=upd H a (.dK (putK kvs k v))) \/
 ∃ kvs k b,H a=some (.dT kvs)/\y=.ref b/\H b=some (.tup (k.map kV))/\kvs.length<sizeLine/\H'=upd H a (.dT (putK kvs k v))
theorem nq.k {H:Hp}{a:Addr}{kvs:List (Key×V)}{k:Key}(e:H a=some (.dK kvs)):nq H a (kV k) (qL kvs k):=.inl ⟨kvs,k,.inl e,rfl,rfl⟩
theorem Ob.k {H:Hp}{a:Addr}{kvs:List (Key×V)}{k:Key}{v:V}(e:H a=some (.dK kvs))(hl:kvs.length<sizeLine):Ob H a (kV k) v (upd H a (.dK (putK kvs k v))):=.inl ⟨kvs,k,e,rfl,hl,rfl⟩
section
variable {X:Cx} {pins:List (Addr×Obj)} {σ:St} {H:Hp} {s:Shared} {a:Addr} {y v:V} {u r:Value} {o:Option V} {A:Around} {E:Value->Shared->Prop}
theorem Inv.big (I:Inv X pins σ H s):sysModules<s.heap.objs.size:=by
 have h:mainGlobals<s.heap.objs.size:=(I.mod.glob.keeps I.bk).lt;exact Nat.lt_trans (by decide) h
theorem Vy {Q:Value->Shared->Prop}(hu:A.units+1<cLine)(I:Inv X pins σ H s)(g:nq H a y (some v))(ry:RelV y u)(h:∀ w' s',Inv X pins σ H s'->RelV v w'->Q w' s') :
  wpAny (model X.prog X.w) A (getItem (.ref a) u) Q E s:=by
 rcases g with ⟨kvs,k,e,ey,l⟩|⟨kvs,k,b,e,ey,eb,l⟩
 ·subst ey;obtain⟨z,hd,vs,rel,dd⟩:=vW I.hok e;obtain⟨w',hw,NY⟩:=nO.some_of (v:=v) (o:=valueAt vs k) (by rw[l];exact rel.val k);exact wpAny_getItem_of (AD ry) dd.mapOf hw (h w' _ (I.tok _) NY)
 ·subst ey;cases (show u=Value.ref b from ry);obtain⟨z,hd,xs,rel,dd⟩:=Du I.hok e;obtain⟨w',hw,NY⟩:=nO.some_of (v:=v) (o:=(atKey xs k).map (·.2)) (by rw[l];exact rel.val k);obtain⟨p,hp,hp2⟩:=Option.map_eq_some_iff.mp hw;refine wpAny_getItem_heap (tupleKind_room_in1 hu) (yD I.hok eb) dd hp ?_;rw[hp2];exact h w' _ (I.tok _) NY
theorem alr {Q:Value->Shared->Prop}(hu:A.units+1<cLine)(I:Inv X pins σ H s)(g:nq H a y o)(ry:RelV y u)(h:∀ s',Inv X pins σ H s'->Q (.bool o.isSome) s') :
  wpAny (model X.prog X.w) A (compareOp .In u (.ref a)) Q E s:=by
 rcases g with ⟨kvs,k,e,ey,l⟩|⟨kvs,k,b,e,ey,eb,l⟩
 ·subst ey;obtain⟨z,hd,vs,rel,dd⟩:=vW I.hok e;refine wpAny_in_of (AD ry) hd dd.mapOf ?_;rw[<-(rel.val k).nP,<-l];exact h _ (I.tok _)
 ·subst ey;cases (show u=Value.ref b from ry);obtain⟨z,hd,xs,rel,dd⟩:=Du I.hok e;refine wpAny_in_heap (tupleKind_room_in1 hu) (yD I.hok eb) hd dd ?_;have q:=(rel.val k).nP;rw[Option.isSome_map]at q;rw[<-q,<-l];exact h _ (I.tok _)
theorem acY {Q:Value->Shared->Prop}(hu:A.units+1<cLine)(I:Inv X pins σ H s)(g:nq H a y o)(ry:RelV y u)(h:∀ s',Inv X pins σ H s'->Q (.bool (!o.isSome)) s') :
  wpAny (model X.prog X.w) A (compareOp .NotIn u (.ref a)) Q E s:=by
 rcases g with ⟨kvs,k,e,ey,l⟩|⟨kvs,k,b,e,ey,eb,l⟩
 ·subst ey;obtain⟨z,hd,vs,rel,dd⟩:=vW I.hok e;refine wpAny_notIn_of (AD ry) hd dd.mapOf ?_;rw[<-(rel.val k).nP,<-l];exact h _ (I.tok _)
 ·subst ey;cases (show u=Value.ref b from ry);obtain⟨z,hd,xs,rel,dd⟩:=Du I.hok e;refine wpAny_notIn_heap (tupleKind_room_in1 hu) (yD I.hok eb) hd dd ?_;have q:=(rel.val k).nP;rw[Option.isSome_map]at q;rw[<-q,<-l];exact h _ (I.tok _)
theorem C6 {h':Heap}{t':Nat}{ob:HO}(I:Inv X pins σ H s)(mu:Mut (H a))(hs:Heap.SameBut a s.heap h')(he:∃ q,h'.get? a=some q)(new:ck X.prog X.w (upd H a ob) h' a ob) :
  Inv X pins σ (upd H a ob) { s with heap:=h',toks:=t' } :=
 I.write (x:=a) (e:=a) mu (.inl rfl) (fun b q hb z=>(hs.2 b hb).trans z) he new
theorem Jj {P:Program}{w:World}{H':Hp}{h':Heap}{kvs:List (Key×V)}{vs:List (Key×Value)}(z:kvs.length<=sizeLine)(hd:(a==sysModules)=false)(rel:KV kvs vs)(dd:h'.DictOf (aS P w) a vs) :
  ck P w H' h' a (.dK kvs):=⟨z,hd,vs,rel,dd⟩
theorem Vz {H':Hp}{Q:Unit->Shared->Prop}(hu:A.units+1<cLine)(I:Inv X pins σ H s)(g:Ob H a y v H')(ry:RelV y u)(rv:RelV v r)(h:∀ s',Inv X pins σ H' s'->Q () s') :
  wpAny (model X.prog X.w) A (setItem (.ref a) u r) Q E s:=by
 rcases g with ⟨kvs,k,e,ey,l,eH⟩|⟨kvs,k,b,e,ey,eb,l,eH⟩
 ·subst ey eH;obtain⟨z,hd,vs,rel,dd⟩:=Dt I.hok e;have hz:vs.length<=sizeLine:=by rw[<-rel.length];exact z
  have hl:(putK kvs k v).length<=sizeLine:=by have:=mY kvs k v;omega
  refine wpAny_setItem_pairs (hsz:=hz) (AD ry) dd fun h' X0 hs=>h _ ?_;have he:∃ q,h'.get? a=some q:=let ⟨q,_,_,hq,_⟩:=X0;⟨q,hq⟩;exact C6 I (by rw[e];exact True.intro) hs he (Jj hl hd (rel.put k rv) X0)
 ·subst ey eH;cases (show u=Value.ref b from ry);obtain⟨z,hd,xs,rel,dd⟩:=ah9 I.hok e;have hz:xs.length<=sizeLine:=by rw[<-Paired.length rel];exact z
  have hl:(putK kvs k v).length<=sizeLine:=by have:=mY kvs k v;omega
  refine wpAny_setItem_heap (hsz:=hz) (tupleKind_room_in1 hu) (yD I.hok eb) dd fun h' X0 hs=>h _ ?_;obtain⟨q,es,ep,hq,h2,h3,h4,_,h5⟩:=X0;refine C6 I (by rw[e];exact True.intro) hs ⟨q,hq⟩ ⟨hl,hd,_,(rel.put k eb rv).keeps fun c ys ec=>?_,q,es,ep,hq,h2,h3,h4,h5⟩;rw[aA (HF ec e (fun z=>nomatch z))];exact ec
end
section
variable {X:Cx} {pins:List (Addr×Obj)} {σ:St} {H:Hp} {s:Shared} {a:Addr} {kvs:List (Key×V)} {k:Key} {u:Value} {A:Around} {E:Value->Shared->Prop}
end
def aia (i:Expr):Prop:=∀ ov iv,subscripted i false ov iv=operate [ov,iv] (getItem ov iv)
theorem acZ {prog:Program}{w:World}{A:Around}{E:Value->Shared->Prop}{s:Shared}{env:Env}{value slice:Expr}{pos:Pos}{T id:String}{Q:Value->Shared->Prop}
  (hl:typeLookup (.type T) "__getitem__"=pure (some (.builtin id))) (hs:aia slice)
  (h:wpAny (model prog w) A (eval value env) (fun o s₁=>wpAny (model prog w) A (eval slice env) (fun i s₂=>s₂.TypeIs o T/\wpAny (model prog w) A (getItem o i) Q E s₂) E s₁) E s) :
  wpAny (model prog w) A (eval (.Subscript value slice pos) env) Q E s:=by
 refine Subscript_ (wpAny_mono h (fun o s₁ h₁=>wpAny_mono h₁ (fun i s₂ h₂=>?_) fun _ _ x=>x) fun _ _ x=>x);obtain⟨hT,h₂⟩:=h₂;unfold subscriptTail;refine L' ?_;rw[getitemInPython_of_ne hT.not_modules];refine L' (wpAny_specialOf hT hl ?_);have fin:wpAny (model prog w) A (subscripted slice false o i) (fun r s₃=>wpAny (model prog w) A (letTemporaryGo value o r >>= fun _=>pure r) Q E s₃) E s₂:=by
  rw[hs o i];exact wpAny_operating (wpAny_mono h₂ (fun r s₃ h₃=>L' (wpAny_letTemporaryGo (Y' h₃))) fun _ _ x=>x)
 first
  |exact Y' (L' fin)
  |exact L' (Y' (L' fin))
  |exact L' fin
theorem LU {X:Cx}{pins:List (Addr×Obj)}{σ:St}{H:Hp}{s:Shared}{a:Addr}{y:V}{o:Option V}(I:Inv X pins σ H s)(g:nq H a y o):s.TypeIs (.ref a) "dict":=by
 rcases g with ⟨kvs,k,e,_,_⟩|⟨kvs,k,b,e,_,_,_⟩
 ·obtain⟨_,_,vs,_,dd⟩:=vW I.hok e;exact dd.typeIs
 ·obtain⟨_,_,xs,_,dd⟩:=Du I.hok e;exact dd.typeIs
def aib (td ty:TE):TE:=fun σ H Q=>td σ H fun x H1=>ty σ H1 fun y H2=>∃ a v,x=.ref a/\nq H2 a y (some v)/\Q v H2
def als (ty td:TE):TE:=fun σ H Q=>ty σ H fun y H1=>td σ H1 fun x H2=>∃ a o,x=.ref a/\nq H2 a y o/\Q (.bl o.isSome) H2
def ac0 (ty td:TE):TE:=fun σ H Q=>ty σ H fun y H1=>td σ H1 fun x H2=>∃ a o,x=.ref a/\nq H2 a y o/\Q (.bl (!o.isSome)) H2
def aic (td ty tv:TE):TS:=fun D σ H=>tv σ H fun v H1=>td σ H1 fun x H2=>ty σ H2 fun y H3=>∃ a H4,x=.ref a/\Ob H3 a y v H4/\D.nx σ H4
section
variable {X:Cx} {o i e value:Expr} {pos pos' tpos:Pos} {td ty tv:TE}
theorem tw (hu:X.A.units+1<cLine)(ho:PE X o td)(hi:PE X i ty)(hs:aia i):PE X (.Subscript o i pos) (aib td ty):=by
 intro pins s σ H Q I h;refine acZ PySem.F.slot_dict_getitem.lookup hs (cu (ho pins s σ H _ I h) fun u s1 ⟨x,H1,I1,rx,q1⟩=>cu (hi pins s1 σ H1 _ I1 q1) fun iv s2 ⟨y,H2,I2,ry,a,v,ex,g,q2⟩=>?_);subst ex;obtain rfl:u=Value.ref a:=rx;exact⟨LU I2 g,Vy hu I2 g ry fun w' s3 I3 NY=>⟨v,H2,I3,NY,q2⟩⟩
theorem YM (hu:X.A.units+1<cLine)(hi:PE X i ty)(ho:PE X o td):PC X .In i o (als ty td):=by
 intro pins s σ H Q I h;refine cu (hi pins s σ H _ I h) fun iv s1 ⟨y,H1,I1,ry,q1⟩=>cu (ho pins s1 σ H1 _ I1 q1) fun u s2 ⟨x,H2,I2,rx,a,ov,ex,g,q2⟩=>?_;subst ex;obtain rfl:u=Value.ref a:=rx;exact alr hu I2 g ry fun s3 I3=>⟨.bl ov.isSome,H2,I3,rfl,q2⟩
theorem VA (hu:X.A.units+1<cLine)(hi:PE X i ty)(ho:PE X o td):PC X .NotIn i o (ac0 ty td):=by
 intro pins s σ H Q I h;refine cu (hi pins s σ H _ I h) fun iv s1 ⟨y,H1,I1,ry,q1⟩=>cu (ho pins s1 σ H1 _ I1 q1) fun u s2 ⟨x,H2,I2,rx,a,ov,ex,g,q2⟩=>?_;subst ex;obtain rfl:u=Value.ref a:=rx;exact acY hu I2 g ry fun s3 I3=>⟨.bl (!ov.isSome),H2,I3,rfl,q2⟩
theorem Jk (hu:X.A.units+1<cLine)(ho:PE X o td)(hi:PE X i ty)(hv:PE X value tv)(hs:swapsWith value (some (.Subscript o i pos')) pos.line X.env=pure false) :
  PS X (.Assign [.Subscript o i pos'] value pos) (aic td ty tv):=by
 intro pins s σ H D I h;refine wpAny_Assign_Subscript (cu (hv pins s σ H _ I h) fun r s1 ⟨v,H1,I1,rv,q1⟩=>cu (ho pins s1 σ H1 _ I1 q1) fun u s2 ⟨x,H2,I2,rx,q2⟩=>cu (hi pins s2 σ H2 _ I2 q2) fun iv s3 ⟨y,H3,I3,ry,a,H4,ex,g,q3⟩=>?_) hs;subst ex;obtain rfl:u=Value.ref a:=rx;exact Vz hu I3 g ry rv fun s4 I4=>⟨σ,H4,I4,q3⟩
end
theorem LV {P:Program}{w:World}{H:Hp}(h:Heap)(hb:sysModules<h.objs.size):ck P w H (h.push { cls:=.type "dict",data:=.dict #[] }) h.objs.size (.dK []) :=
 ⟨X' _,beq_eq_false_iff_ne.mpr (Yb' (Za' hb)),[],.nil,Heap.DictOf.new h⟩
def af4:TE:=fun _ H Q=>∀ p,H p=none->Q (.ref p) (upd H p (.dK []))
section
variable {X:Cx} {pos:Pos}
theorem LW:PE X (.Dict [] [] pos) af4:=fun pins s σ H Q I h =>
 wpAny_Dict_empty ⟨.ref s.heap.objs.size,_,I.laid (a:=s.heap.objs.size) (o:=.dK []) (t':=s.toks) (fun _ _ q=>G' _ q) (A' _) (LV s.heap I.big),rfl,h _ (I.hok.fresh (A' _))⟩
end
def Oc:List (TE×TE)->St->Hp->(List (V×V)->Hp->Prop)->Prop
 |[],_,H,Q=>Q [] H
 |(tk,tv)::r,σ,H,Q=>tk σ H fun x H1=>tv σ H1 fun y H2=>Oc r σ H2 fun ps H3=>Q ((x,y)::ps) H3
abbrev VV:List (V×V)->List (Value×Value)->Prop:=Paired fun p q=>RelV p.1 q.1/\RelV p.2 q.2
def PDs (X:Cx)(pos:Pos)(keys:List (Option Expr))(values:List Expr)(trs:List (TE×TE)):Prop :=
 ∀(pins:List (Addr×Obj)) (s:Shared) (σ:St) (H:Hp) (Q:List (V×V)->Hp->Prop),Inv X pins σ H s->Oc trs σ H Q ->
  wpAny (model X.prog X.w) X.A (evalPairs (pairTrees keys values X.env pos)) (fun vs s'=>∃ ps H',Inv X pins σ H' s'/\VV ps vs/\Q ps H') X.xe s
theorem ac2 {X:Cx}{pos:Pos}:PDs X pos [] [] []:=fun pins s σ H Q I h=>pairTrees_nil_walk ⟨[],H,I,.nil,h⟩
theorem YN {X:Cx}{pos:Pos}{k v:Expr}{ks:List (Option Expr)}{vs:List Expr}{tk tv:TE}{trs:List (TE×TE)}(hk:PE X k tk)(hv:PE X v tv)(hr:PDs X pos ks vs trs) :
  PDs X pos (some k::ks) (v::vs) ((tk,tv)::trs):=fun pins s σ H Q I h =>
 pairTrees_cons_walk (cu (hk pins s σ H _ I h) fun u s1 ⟨x,H1,I1,rx,q1⟩=>cu (hv pins s1 σ H1 _ I1 q1) fun w2 s2 ⟨y,H2,I2,ry,q2⟩ =>
  cu (hr pins s2 σ H2 _ I2 q2) fun ws s3 ⟨ps,H3,I3,rel,q3⟩=>⟨(x,y)::ps,H3,I3,.cons ⟨rx,ry⟩ rel,q3⟩)
def Dv (kvs more:List (Key×V)):List (Key×V):=more.foldl (fun acc kv=>putK acc kv.1 kv.2) kvs
theorem KV.merge:∀{more:List (Key×V)} {rs:List (Key×Value)} {kvs:List (Key×V)} {vs:List (Key×Value)},KV more rs->KV kvs vs->KV (Dv kvs more) (merged vs rs):=by
 intro more rs kvs vs r;unfold KV at r
 induction r generalizing kvs vs with
 |nil=>intro q;exact q
 | @cons p q ps qs h t ih =>
  intro r0;have e:KV (putK kvs p.1 p.2) (stored vs q.1 q.2):=by
   have:=r0.put p.1 h.2;rw[<-h.1];exact this
  exact ih e
theorem tT:∀(more kvs:List (Key×V)),(Dv kvs more).length<=kvs.length+more.length
 |[],kvs=>by show kvs.length<=kvs.length+0;omega
 |p::r,kvs=>by
  have h1:=tT r (putK kvs p.1 p.2);have h2:=mY kvs p.1 p.2;show(Dv (putK kvs p.1 p.2) r).length<=_;rw[Zp'];omega
theorem Dw {P:Program}{w:World}:∀{kvs:List (Key×V)} {ws:List (Value×Value)},VV (kvs.map fun kv=>(kV kv.1,kv.2)) ws->∃ rs,Carries (aS P w) ws rs/\KV kvs rs
 |[],_,r=>by rw[List.map_nil]at r;cases r;exact⟨[],True.intro,.nil⟩
 |p::kvs,_,r=>by
  rw[map_cons]at r;cases r with
  | @cons a b as bs h t =>
   obtain⟨rs,c,q⟩:=Dw (P:=P) (w:=w) t;obtain⟨b1,b2⟩:=b;exact⟨(p.1,b2)::rs,⟨AD h.1,rfl,c⟩,.cons ⟨rfl,h.2⟩ q⟩
def aid (trs:List (TE×TE)):TE:=fun σ H Q=>∀ p,H p=none->Oc trs σ (upd H p (.dK [])) fun ps H2=>H2 p=some (.dK [])/\∃ kvs:List (Key×V),ps=kvs.map (fun kv=>(kV kv.1,kv.2))/\kvs.length<=15/\Q (.ref p) (upd H2 p (.dK (Dv [] kvs)))
theorem ac3 {X:Cx}{pos:Pos}{keys:List (Option Expr)}{values:List Expr}{trs:List (TE×TE)}(h:PDs X pos keys values trs)(hall:keys.all (·.isSome)=true)(hl:keys.length=values.length)(h0:keys≠[])
  (h15:keys.length<=15):PE X (.Dict keys values pos) (aid trs):=by
 intro pins s σ H Q I q;have hn:=I.hok.fresh (A' s.heap.objs.size);have I1:=I.laid (a:=s.heap.objs.size) (o:=.dK []) (h':=s.heap.push { cls:=.type "dict",data:=.dict #[] }) (t':=s.toks) (fun _ _ q=>G' _ q) (A' _) (LV s.heap I.big);refine wpAny_Dict_walk (knd:=aS X.prog X.w) hall hl h0 h15 (cu (h pins _ σ _ _ I1 (q _ hn)) fun ws s2 ⟨ps,H2,I2,rel,e,kvs,ep,lk,q2⟩=>?_);subst ep;obtain⟨rs,c,rk⟩:=Dw (P:=X.prog) (w:=X.w) rel;obtain⟨z,hd,vs0,r0,dd⟩:=Dt I2.hok e;cases r0;refine⟨rs,c,dd,fun h' X0 hs=>⟨.ref s.heap.objs.size,_,?_,rfl,q2⟩⟩;have hz:(Dv [] kvs).length<=sizeLine:=by
  have h1:=tT kvs [];rw[List.length_nil]at h1;rw[sizeLine_eq];omega
 have he:∃ q,h'.get? s.heap.objs.size=some q:=let ⟨q,_,_,hq,_⟩:=X0;⟨q,hq⟩;exact C6 I2 (by rw[e];exact True.intro) hs he (Jj hz hd (rk.merge .nil) X0)
structure M2 (X:Cx)(o:Expr)(m:Str)(apos:Pos)(e f:Expr)(cpos:Pos):Prop where
 base:attributeBase o m X.env (eval o X.env)=eval o X.env
 few:((backTo cpos (starEach [e,f] X.env)).all (fun x=>!x.1)&&(backToKw cpos (keywordEach [] X.env)).all (fun x=>x.1.isSome)
  && decide (([e,f]:List Expr).length+([]:List Keyword).length+(if([]:List Keyword).isEmpty then 0 else 1)<30))=true
 line:(apos.endLine==cpos.line)=true
 trees:backTo cpos (starEach [e,f] X.env)=[(false,eval e X.env),(false,eval f X.env)]
def IsD (H:Hp)(a:Addr):Prop:=(∃ kvs,Rd H a (.dK kvs))\/∃ kvs,Rd H a (.dT kvs)
theorem af5 {X:Cx}{pins:List (Addr×Obj)}{σ:St}{H:Hp}{s:Shared}{a:Addr}(I:Inv X pins σ H s)(d:IsD H a) :
  s.TypeIs (.ref a) "dict"/\(∀ b,Value.ref a=.ref b->∃ ob,s.heap.get? b=some ob/\ob.dict=none)/\(a==sysModules)=false:=by
 rcases d with ⟨kvs,e⟩|⟨kvs,e⟩
 ·obtain⟨_,hd,vs,_,dd⟩:=vW I.hok e;refine⟨dd.typeIs,fun b q=>?_,hd⟩;cases q;obtain⟨ob,_,_,h1,h2,_⟩:=dd;exact⟨ob,h1,h2.2.1⟩
 ·obtain⟨_,hd,xs,_,dd⟩:=Du I.hok e;refine⟨dd.typeIs,fun b q=>?_,hd⟩;cases q;obtain⟨ob,_,_,h1,h2,_⟩:=dd;exact⟨ob,h1,h2.2.1⟩
section
variable {X:Cx} {pins:List (Addr×Obj)} {σ:St} {H:Hp} {s:Shared} {a:Addr} {y d:V} {u r:Value} {o:Option V} {A:Around} {E:Value->Shared->Prop}
theorem af6 {Q:Value->Shared->Prop}(hu:A.units+1<cLine)(I:Inv X pins σ H s)(g:nq H a y o)(ry:RelV y u)(rd:RelV d r)(h:∀ w' s',Inv X pins σ H s'->RelV (o.getD d) w'->Q w' s') :
  wpAny (model X.prog X.w) A (call (.builtin "dict.get") [.ref a,u,r]) Q E s:=by
 rcases g with ⟨kvs,k,e,ey,l⟩|⟨kvs,k,b,e,ey,eb,l⟩
 ·subst ey;obtain⟨z,hd,vs,rel,dd⟩:=vW I.hok e;refine call_meetsIn slot_dict_get dd.typeIs entry_dict_get (PySem.F.args_dict_get_3 _ _ _) (meets_dict_get_default (aS X.prog X.w) a (AD ry) hd r) ⟨_,dd.mapOf,h _ _ (I.tok _) ?_⟩;rw[l];exact(rel.val k).getD rd
 ·subst ey;cases (show u=Value.ref b from ry);obtain⟨z,hd,xs,rel,dd⟩:=Du I.hok e;refine call_meetsIn slot_dict_get dd.typeIs entry_dict_get (PySem.F.args_dict_get_3 _ _ _) (meetsH_dict_get_default (tupleKind (aS X.prog X.w)) a b hd r) ⟨tupleKind_room_in1 hu,k,xs,yD I.hok eb,dd,h _ _ (I.tok _) ?_⟩;rw[l];exact(rel.val k).getD rd
end
def af7 (td ty tx:TE):TE:=fun σ H Q=>td σ H fun x H1=>∃ a,x=.ref a/\IsD H1 a/\ty σ H1 fun y H2=>tx σ H2 fun z H3=>∃ o,nq H3 a y o/\Q (o.getD z) H3
section
variable {X:Cx} {o e f:Expr} {apos cpos:Pos} {td ty tx:TE}
theorem Dx (hu:X.A.units+1<cLine)(ho:PE X o td)(he:PE X e ty)(hf:PE X f tx)(m:M2 X o "get" apos e f cpos):PE X (.Call (.Attribute o "get" apos) [e,f] [] cpos) (af7 td ty tx):=by
 intro pins s σ H Q I h;refine wpAny_Call_method m.base m.few m.line plainAttrs_dict slot_dict_get type_dict_get (cu (ho pins s σ H _ I h) fun u s1 ⟨x,H1,I1,rx,a,ex,d,q1⟩=>?_);subst ex;obtain rfl:u=Value.ref a:=rx;obtain⟨t1,t2,_⟩:=af5 I1 d;refine⟨t1,t2,?_⟩;rw[m.trees];refine Calls.callWith_builtin rfl (Calls.evalArgs_plain (Calls.spliced_cons (cu (he pins s1 σ H1 _ I1 q1) fun iv s2 ⟨y,H2,I2,ry,q2⟩ =>
  Calls.spliced_cons (cu (hf pins s2 σ H2 _ I2 q2) fun fv s3 ⟨z,H3,I3,rz,ov,g,q3⟩=>Calls.spliced_nil ?_))))
 exact af6 hu I3 g ry rz fun w' s4 I4 NY=>⟨_,H3,I4,NY,q3⟩
end
section
variable {X:Cx} {pins:List (Addr×Obj)} {σ:St} {H:Hp} {s:Shared} {a:Addr} {kvs:List (Key×V)} {A:Around} {E:Value->Shared->Prop}
theorem YO {Q:Value->Shared->Prop}(I:Inv X pins σ H s)(e:Rd H a (.dK kvs))(h:∀ p s',H p=none->Inv X pins σ (upd H p (.dK kvs)) s'->Q (.ref p) s'):wpAny (model X.prog X.w) A (call (.type "dict") [.ref a]) Q E s:=by
 obtain⟨z,hd,vs,rel,dd⟩:=vW I.hok e;refine kt_call_dict hd dd (by rw[<-rel.length];exact z) fun h' X0 hs=>?_;refine h _ _ (I.hok.fresh (A' _)) (I.laid (a:=s.heap.objs.size) (o:=.dK kvs) (t':=s.toks) (fun b q hq=>?_) (A' _) (Jj z (beq_eq_false_iff_ne.mpr (Yb' (Za' I.big))) rel X0));exact(hs.2 b (Za' (P' hq))).trans (G' _ hq)
end
section
variable {X:Cx} {pins:List (Addr×Obj)} {σ:St} {H:Hp} {s:Shared} {a:Addr} {y:V} {u:Value} {A:Around} {E:Value->Shared->Prop}
end
end L2
namespace L2
open PySem PySem.Spec PyProof.Rows
section
variable {X:Cx}
end
section
variable {κ:Type} [DecidableEq κ]
theorem Jl:∀{l:List κ} {k:κ},l.Nodup->¬ k∈l->(l++[k]).Nodup
 |[],k,_,_=>by simp
 |a::r,k,h,hk=>by
  obtain⟨h1,h2⟩:=List.nodup_cons.mp h;show(a::(r++[k])).Nodup;refine List.nodup_cons.mpr ⟨fun m=>?_,Jl h2 fun m=>hk (List.mem_cons.mpr (Or.inr m))⟩;rcases Zq'.mp m with q|q
  ·exact h1 q
  ·exact hk (List.mem_cons.mpr (Or.inl (Zo'.mp q).symm))
end
end L2
namespace L2
open PySem PySem.Spec PyProof.Rows
theorem YQ {P:Program}{w:World}{k:Key}{u:Value}(h:(aS P w).is k u=true):RelV (kV k) u:=by
 rcases c4 (show Dh k u=true from h) with ⟨i,t,rfl,rfl⟩|⟨x,t,rfl,rfl⟩
 ·exact⟨t,rfl⟩
 ·exact⟨t,rfl⟩
theorem aeC:∀{xs:List V} {us:List Value},xs.length=us.length->(∀(i:Nat)(x:V)(u:Value),xs[i]? = some x->us[i]? = some u->RelV x u)->Vals xs us
 |[],[],_,_=>.nil
 |x::xs,u::us,hl,h=>.cons (h 0 x u rfl rfl) (aeC (by simpa using hl) fun i y v e1 e2=>h (i+1) y v (by simpa using e1) (by simpa using e2))
 |[],_::_,hl,_=>by simp at hl
 |_::_,[],hl,_=>by simp at hl
section
variable {X:Cx}
theorem Dy:eS X (.type "list") (fun xs H Q=>X.calm=true/\∃ p kvs,xs=[.ref p]/\Rd H p (.dK kvs)/\∀ l,H l=none->Q (.ref l) (upd H l (.lst (kvs.map fun kv=>kV kv.1)))):=by
 intro pins s σ H xs us Q I r h;obtain⟨hc,p,kvs,rfl,hp,q⟩:=h;obtain⟨u,rfl,rx⟩:=vals1 r;cases rx;obtain⟨z,hd,vs,rel,dd⟩:=vW I.hok hp;obtain⟨ep,da⟩:=dd.dictAt;have hl:=rel.length;refine PySem.W.kdl_call (PySem.W.kdl_dict (knd:=aS X.prog X.w) (kvs:=vs) (ep:=ep) hd) (I.ok.hd hc) da (by omega) fun h' tk acc' c' kp e it=>?_;refine⟨.ref s.heap.objs.size,_,I.laid (t':=tk) kp (A' _) (show ck X.prog X.w _ h' _ (.lst (kvs.map fun kv=>kV kv.1)) from⟨by rw[K'];exact z,acc'.toList,c',?_,by rw[Array.toArray_toList];exact e⟩),rfl,q _ (I.hok.fresh (A' _))⟩;have hk:=rel.keys;have h1:acc'.toList.length=vs.length:=by rw[Array.length_toList];exact it.1
 refine aeC (by rw[K',h1,hl]) fun i x u e1 e2=>?_;obtain⟨k,y,e3,e4⟩:=it.2 i u (by rw[<-Array.getElem?_toList];exact e2);have e5:(kvs.map (·.1))[i]? = some k:=by rw[hk,Zi',e3];rfl
 have e6:(kvs.map fun kv=>kV kv.1)[i]? = some (kV k):=by
  rw[Zi']at e5 ⊢;cases e7:kvs[i]? with
  |none=>rw[e7]at e5;cases e5
  |some w=>rw[e7]at e5;cases e5;rfl
 rw[e6]at e1;cases e1;exact YQ e4
theorem Od:eS X (.type "dict") (fun xs H Q=>∃ p kvs,xs=[.ref p]/\Rd H p (.dK kvs)/\∀ l,H l=none->Q (.ref l) (upd H l (.dK kvs))):=by
 intro pins s σ H xs us Q I r h;obtain⟨p,kvs,rfl,hp,q⟩:=h;obtain⟨u,rfl,rx⟩:=vals1 r;cases rx;exact YO I hp fun l s' hl I'=>⟨.ref l,_,I',rfl,q l hl⟩
end
section
variable {P:Program} {w:World} {K:Frag} {mg:Str->Option Value} {base:Heap}
end
end L2
namespace L2
open PySem PySem.Spec PyProof.Rows
section
variable {prog:Program} {w:World} {A:Around} {E:Value->Shared->Prop} {s:Shared}
end
section
variable {X:Cx}
end
end L2
namespace L2
open PySem PySem.Spec PyProof.Rows
section
variable {X:Cx} {pins:List (Addr×Obj)} {σ:St} {H:Hp}
theorem Inv.af8 {s₂:Shared}{h₁:Heap}{tk:Nat}{cn:List Str}{scope:Scope}{fp:List Addr}{xe:Value->Shared->Prop}{C D:Addr}{m:Str->Option Value}
  (I:Inv X pins σ H s₂) (F:bS X.env.scope X.N scope) (hc:X.calm=true) (hf:∀ b∈fp,jh X pins H b) (hfl:∀ b∈fp,b<s₂.heap.objs.size)
  (hC:s₂.heap.objs.size<=C) (hD:s₂.heap.objs.size<=D) (hDC:D≠C) (hn:h₁.Ns C m) (old:∀ b o,s₂.heap.get? b=some o->h₁.get? b=some o)
  (hacc:ck X.prog X.w (upd H D (.dK [])) h₁ D (.dK [])) :
  Inv (a6 X cn scope ⟨C,s₂,H,fp,xe⟩) [] (List.replicate cn.length none++σ) (upd H D (.dK [])) { s₂ with heap:=h₁,toks:=tk }:=by
 have pB:∀ x,((a6 X cn scope ⟨C,s₂,H,fp,xe⟩).env.kindOf x=some .cell\/(a6 X cn scope ⟨C,s₂,H,fp,xe⟩).env.kindOf x=some .free)->(x,NameKind.free)∈scope.names:=by
  intro x hx;have hx':(relabel scope X.env).names.lookup x=some .cell\/(relabel scope X.env).names.lookup x=some .free:=hx;rcases hx' with z|z
  ·rcases bU scope.names z with z|⟨_,z⟩
   ·exact j' rfl (F.IZ _ (cf z))
   ·exact cf z
  ·rcases bU scope.names z with z|⟨e,_⟩
   ·exact cf z
   ·cases e
 have mV:∀ x,(x,NameKind.free)∈scope.names->X.env.kindOf x=some .cell\/X.env.kindOf x=some .free:=fun x hx=>F.free _ hx rfl;have cY:∀ x c,(bc X.env scope.names []).lookup x=some c->X.env.cells.lookup x=some c:=by
  intro x c e;rcases tq _ _ e with z|⟨z,e2⟩
  ·cases z
  ·obtain⟨c',hc'⟩:=I.ok.has x (mV x z);rw[hc']at e2 ⊢;rw[e2];rfl
 have ahT:(a6 X cn scope ⟨C,s₂,H,fp,xe⟩).fs=frs X.stack:=rfl;have Yx:∀ b∈fp,b ∉ frs X.stack:=by
  intro b hb z;obtain⟨_,f1,f2,_⟩:=hf b hb;rcases List.mem_cons.mp (I.Dj b z) with e|e
  ·exact f1 e
  ·exact f2 e
 have yA:∀ x c,X.env.cells.lookup x=some c->c<s₂.heap.objs.size:=by
  intro x c e;obtain⟨v,o,ho,_⟩:=I.cell x c e;exact P' ho
 have ok:(a6 X cn scope ⟨C,s₂,H,fp,xe⟩).Ok:=by
  refine⟨I.ok.mod,?_,I.ok.glob,I.ok.blt,hC,fun x y c h1 h2=>I.ok.inj x y c (cY x c h1) (cY y c h2),fun x hx=>?_,fun x c z=>?_,fun _=>I.ok.hd hc,I.ok.frames,.inl rfl,fun b hb=>⟨?_,fun x c e=>?_⟩,
   fun b o e=>I.bs b o e,Zk' I.ok.LJ I.sz,fun b o e hb=>?_,fun b hb=>?_,I.stack,I.CY⟩
  ·show(relabel scope X.env).kind=.function;exact F.kind
  ·have:=ly (env:=X.env) (x:=x) scope.names [] (.inr (pB x hx));exact Option.isSome_iff_exists.mp this
  ·cases z
  ·exact Za' (U' (hfl b hb) hC)
  ·exact(hf b hb).2.2.2.2.1 x c (cY x c e)
  ·have:X.base.objs.size<=X.s₀.heap.objs.size:=I.ok.LJ;rcases (hf b hb).2.2.2.1 with z|z
   ·exact I.ok.IJ b o e z
   ·exact j' (U' (P' e) (Zk' I.ok.LJ z)) (Nat.lt_irrefl _)
  ·exact Yx b hb
 have hDn:H D=none:=I.hok.fresh hD;have Yy:qN X.prog X.w (upd H D (.dK [])) h₁:=I.hok.laid old hD hacc;refine⟨ok,rfl,I.bare,Un.laid old hD hDn,⟨m,hn,fun i x v e1 e2 e3=>?_⟩,fun x c e=>?_,?_,fun x c e=>?_,fun p hp=>j' (show p∈([]:List (Addr×Obj)) from hp) (by simp),Yy,?_⟩
 ·have hi:¬ i<cn.length:=by
   intro hi;rw[List.getElem?_append_left (by simpa using hi),List.getElem?_replicate]at e2;split at e2 <;> cases e2
  rw[getElem?_append_right (by simpa using hi),List.length_replicate]at e2;have e1':(cn++X.N)[i]? = some x:=e1;rw[getElem?_append_right (by omega)]at e1';obtain⟨m0,hm0,hl⟩:=I.loc;have hxN:x∈X.N:=V' e1';have hfr:(x,NameKind.free)∈scope.names:=by
   have e3':(relabel scope X.env).names.lookup x=some .local\/(relabel scope X.env).names.lookup x=some .cell\/(relabel scope X.env).names.lookup x=some .free:=e3;rcases e3' with z|z|z
   ·rcases bU scope.names z with z|⟨e,_⟩
    ·exact j' z (F.apart x hxN)
    ·cases e
   ·exact pB x (.inl z)
   ·exact pB x (.inr z)
  have hk:=mV x hfr;have vis:Vis X.env.scope x:=by
   rcases hk with z|z
   ·exact .inr (.inl z)
   ·exact .inr (.inr z)
  obtain⟨u,r,lk⟩:=hl (i-cn.length) x v e1' e2 vis;refine⟨u,r,?_⟩;rcases lk with ⟨z,_⟩|⟨_,c,ec,z⟩
  ·rcases hk with q|q
   ·rw[z]at q;cases q
   ·rw[z]at q;cases q
  ·have hcl:(bc X.env scope.names []).lookup x=some c:=by
    obtain⟨c',e'⟩:=Option.isSome_iff_exists.mp (ly (env:=X.env) (x:=x) scope.names [] (.inr hfr));rw[e'];have:=cY x c' e';rw[ec]at this;exact this.symm
   refine .inr ⟨?_,c,hcl,?_⟩
   ·have e3':(relabel scope X.env).names.lookup x=some .local\/(relabel scope X.env).names.lookup x=some .cell\/(relabel scope X.env).names.lookup x=some .free:=e3;rcases e3' with y|y|y
    ·rcases bU scope.names y with y|⟨e,_⟩
     ·exact j' y (F.apart x hxN)
     ·cases e
    ·exact .inl y
    ·exact .inr y
   ·obtain⟨o,ho,hd⟩:=z;exact⟨o,old c o ho,hd⟩
 ·obtain⟨v,o,ho,hd⟩:=I.cell x c (cY x c e);exact⟨v,o,old c o ho,hd⟩
 ·show upd H D (.dK []) C=none;rw[aA (Yb' hDC)];exact I.hok.fresh hC
 ·rw[aA (Za' (U' (yA x c (cY x c e)) hD))];exact I.lu x c (cY x c e)
 ·show(List.replicate cn.length none++σ).length=(cn++X.N).length;rw[Zj',List.length_replicate,Zj',I.len]
end
theorem Oe {prog:Program}{w:World}{A:Around}{R:Result->Shared->Prop}{s:Shared}{kx vx tg iter:Expr}{ifs:List Expr}{scope:Scope}{pos:Pos}{it:Value}{D:Addr}{env:Env}(J:Nat->Shared->Prop)
  (turn:∀ n s,J n s->wpAny (model prog w) A (pyNext it) (fun r s₁=>(r=none/\R (.ok .next) s₁)\/∃ v,r=some v /\
   wpAny (model prog w) A (letOwnedTupleGo tg it v) (fun _ s₂=>wpAny (model prog w) A (assign tg env v) (fun _ s₃ =>
    wpAny (model prog w) A (forIn ifs true fun c r=>if r=true then do let ok <-isTrue c env (eval c env);pure (ForInStep.yield ok) else pure (ForInStep.yield r)) (fun ok s₄ =>
     if ok=true then wpAny (model prog w) A (eval kx env) (fun kv s₅=>wpAny (model prog w) A (eval vx env) (fun vv s₆=>wpAny (model prog w) A (dictSet D kv vv) (fun _ s₇=>∃ m,m<n/\J m s₇) (notedBy (model prog w) A env fun e s'=>R (.error e) s') s₆)
      (notedBy (model prog w) A env fun e s'=>R (.error e) s') s₅) (notedBy (model prog w) A env fun e s'=>R (.error e) s') s₄
     else ∃ m,m<n/\J m s₄) (notedBy (model prog w) A env fun e s'=>R (.error e) s') s₃) (notedBy (model prog w) A env fun e s'=>R (.error e) s') s₂) (notedBy (model prog w) A env fun e s'=>R (.error e) s') s₁)
   (notedBy (model prog w) A env fun e s'=>R (.error e) s') s)
  (n:Nat) (h:J n s):codeAny (model prog w) A (.compLoop (.DictComp kx vx [⟨tg,iter,ifs,0⟩] scope pos) 0 it (.ref D) env) R s:=by
 refine codeAny_loop rfl J (fun n s hJ=>?_) n h;refine wpAny_noted (A:=A) (m:=compTurn (.DictComp kx vx [⟨tg,iter,ifs,0⟩] scope pos) 0 it (.ref D) env) (env:=env) ?_;rw[compTurn_dict];refine L' (wpAny_standAt (L' (cu (turn n s hJ) fun r s₁ h₁=>?_)));rcases h₁ with ⟨e,h₁⟩|⟨v,e,h₁⟩
 ·subst e;exact Y' h₁
 ·subst e;refine L' (cu h₁ fun _ s₂ h₂=>L' (cu h₂ fun _ s₃ h₃=>L' (cu h₃ fun ok s₄ h₄=>?_)));cases ok with
  |false=>exact Y' ⟨rfl,h₄⟩
  |true=>exact L' (L' (cu h₄ fun kv s₅ h₅=>L' (wpAny_holding (cu h₅ fun vv s₆ h₆=>L' (wpAny_standAt (wpAny_holding (cu h₆ fun _ s₇ h₇=>Y' ⟨rfl,h₇⟩)))))))
def af9 (n:Nat)(wi:TI)(g:Bk->TG)(tc:Bk->TT)(tk tv:Bk->TE):TE:=fun σ H Q=>wi σ H fun J H1=>∀(D:Addr)(b:Bk),H1 D=none->∃ W:Nat->Nat->St->Hp->Prop,
 (∃ m,W 0 m (List.replicate n none++σ) (upd H1 D (.dK [])))/\∀ i m σ H,W i m σ H ->
  (J.stop i H/\Q (.ref D) H)\/(J.go i H/\∀ x H',J.NV i H x H'->g b x σ H' fun σ2 H2=>tc b σ2 H2 fun ok H3 =>
   if ok=true then tk b σ2 H3 fun y H4=>tv b σ2 H4 fun z H5=>∃(kvs:List (Key×V)) (k:Key),y=kV k/\H5 D=some (.dK kvs)/\kvs.length<sizeLine/\∃ m',m'<m/\W (i+1) m' σ2 (upd H5 D (.dK (putK kvs k z)))
   else ∃ m',m'<m/\W (i+1) m' σ2 H3)
section
variable {X:Cx} {tg iter kx vx:Expr} {ifs:List Expr} {scope:Scope} {pos:Pos} {cn:List Str} {wi:TI} {g:Bk->TG} {tc:Bk->TT} {tk tv:Bk->TE} {TH:Bk->Prop}
theorem VB {pins:List (Addr×Obj)}{σ:St}{H:Hp}{s₂:Shared}{it:Addr}{fp:List Addr}{tn:Nat->Heap->Prop}{J:It}{RR:Value->Addr->Result->Shared->Prop}{QQ:Addr->Hp->Prop}{EE:Value->Shared->Prop}
  (hcalm:X.calm=true) (F:bS X.env.scope X.N scope) (hg:∀ b,TH b->PG (a6 X cn scope b) tg (g b)) (ht:∀ b,TH b->PF (a6 X cn scope b) ifs (tc b)) (hk:∀ b,TH b->PE (a6 X cn scope b) kx (tk b)) (hv:∀ b,TH b->PE (a6 X cn scope b) vx (tv b))
  (hTH:∀ C,s₂.heap.objs.size<=C->TH ⟨C,s₂,H,fp,eT X scope C⟩)
  (I:Inv X pins σ H s₂) (T:Turn X.prog X.w X.K tg J fp it tn) (st:tn 0 s₂.heap) (hf:∀ b∈fp,jh X pins H b)
  (h:∀(D:Addr)(b:Bk),H D=none->∃ W:Nat->Nat->St->Hp->Prop,(∃ m,W 0 m (List.replicate cn.length none++σ) (upd H D (.dK [])))/\∀ i m σ H,W i m σ H ->
   (J.stop i H/\QQ D H)\/(J.go i H/\∀ x H',J.NV i H x H'->g b x σ H' fun σ2 H2=>tc b σ2 H2 fun ok H3 =>
    if ok=true then tk b σ2 H3 fun y H4=>tv b σ2 H4 fun z H5=>∃(kvs:List (Key×V)) (k:Key),y=kV k/\H5 D=some (.dK kvs)/\kvs.length<sizeLine/\∃ m',m'<m/\W (i+1) m' σ2 (upd H5 D (.dK (putK kvs k z)))
    else ∃ m',m'<m/\W (i+1) m' σ2 H3))
  (hR:∀ C D σ' H' s',s₂.heap.objs.size<=C->Inv (a6 X cn scope ⟨C,s₂,H,fp,eT X scope C⟩) [] σ' H' s'->QQ D H'->RR (.ref D) C (.ok .next) s')
  (hE:∀ C D e s',qU X C e s'->RR (.ref D) C (.error e) s') :
  wpAny (model X.prog X.w) X.A newDict (fun acc s₃=>wpAny (model X.prog X.w) X.A (newFunctionEnv scope X.env.globals (bc X.env scope.names []) [] X.env.qual none .none (some X.env)) (fun cenv s₄ =>
   codeAny (model X.prog X.w) X.A (.compStart (.DictComp kx vx [⟨tg,iter,ifs,0⟩] scope pos) 0 (.ref it) acc { cenv with scope:=relabel scope X.env }) (RR acc cenv.locals) s₄) EE s₃) EE s₂:=by
 refine wpAny_newObj_type (wpAny_newFunctionEnv F.IZ (by intro y hy;simp at hy) (fun h₁ hns₁ hsb₁=>?_) F.kind);dsimp only at hns₁ hsb₁ ⊢;have hnew:(s₂.heap.push { cls:=.type "dict",dict:=none,data:=.dict #[] }).DictOf (aS X.prog X.w) s₂.heap.objs.size []:=Heap.DictOf.new s₂.heap;generalize hH2:s₂.heap.push { cls:=.type "dict",dict:=none,data:=.dict #[] } = H2 at hns₁ hsb₁ hnew ⊢;have hC:H2.objs.size=s₂.heap.objs.size+1:=by rw[<-hH2,Heap.size_push]
 have hDC:s₂.heap.objs.size≠H2.objs.size:=by omega
 have hCle:s₂.heap.objs.size<=H2.objs.size:=by omega
 have hfl:∀ b∈fp,b<s₂.heap.objs.size:=fun b hb=>by
  obtain⟨o,e,_⟩:=T.obj 0 _ st b hb;exact P' e
 have Vw:∀ b o,s₂.heap.get? b=some o->H2.get? b=some o:=fun b o e=>hH2 ▸ G' _ e;have old:∀ b o,s₂.heap.get? b=some o->h₁.get? b=some o:=fun b o e=>by
  have hb:=P' e;refine hsb₁.extBut b o (Za' (U' hb hCle)) (G' _ (Vw b o e))
 have hacc:ck X.prog X.w (upd H s₂.heap.objs.size (.dK [])) h₁ s₂.heap.objs.size (.dK []) :=
  ⟨X' _,beq_eq_false_iff_ne.mpr (Yb' (Za' I.big)),[],.nil,(hnew).at fun o e=>hsb₁.extBut _ _ hDC (G' _ e)⟩
 have I0:=Inv.af8 (cn:=cn) (xe:=eT X scope H2.objs.size) (tk:=s₂.toks+([]:List (Str×Value)).length) I F hcalm hf hfl hCle (A' _) hDC hns₁ old hacc;have th:=hTH _ hCle;obtain⟨W,⟨m0,w0⟩,turn⟩:=h s₂.heap.objs.size ⟨H2.objs.size,s₂,H,fp,eT X scope H2.objs.size⟩ (I.hok.fresh (A' _));have YA:∀{H':Hp},(∀ b∈fp,H' b=none)->∀ b∈fp,jh (a6 X cn scope ⟨H2.objs.size,s₂,H,fp,eT X scope H2.objs.size⟩) [] H' b:=fun {H'} hn b hb=>by
  refine⟨hn b hb,(I0.ok.exf b hb).1,I0.ok.IK b hb,.inl hb,(I0.ok.exf b hb).2,fun p hp=>j' (show p∈([]:List (Addr×Obj)) from hp) (by simp)⟩
 have AB:(a6 X cn scope ⟨H2.objs.size,s₂,H,fp,eT X scope H2.objs.size⟩).calm=true:=hcalm;have loop:∀ s₃:Shared,s₃ = { s₂ with heap:=h₁,toks:=s₂.toks+([]:List (Str×Value)).length } ->
   codeAny (model X.prog X.w) X.A (.compLoop (.DictComp kx vx [⟨tg,iter,ifs,0⟩] scope pos) 0 (.ref it) (.ref s₂.heap.objs.size) (compEnvC scope (bc X.env scope.names []) H2.objs.size X.env))
    (RR (.ref s₂.heap.objs.size) H2.objs.size) s₃:=by
  rintro s₃ rfl;have UL:∀ e s',(a6 X cn scope ⟨H2.objs.size,s₂,H,fp,eT X scope H2.objs.size⟩).xe e s' ->
    notedBy (model X.prog X.w) X.A (compEnvC scope (bc X.env scope.names []) H2.objs.size X.env) (fun e s'=>RR (.ref s₂.heap.objs.size) H2.objs.size (.error e) s') e s':=fun e s' z =>
   wpAny_mono (show notedBy (model X.prog X.w) X.A (compEnvC scope (bc X.env scope.names []) H2.objs.size X.env) (qU X H2.objs.size) e s' from z) (fun _ _ q=>hE _ _ _ _ q) fun _ _ q=>hE _ _ _ _ q
  refine Oe (env:=compEnvC scope (bc X.env scope.names []) H2.objs.size X.env)
   (fun n s'=>∃ i σ' H',Inv (a6 X cn scope ⟨H2.objs.size,s₂,H,fp,eT X scope H2.objs.size⟩) [] σ' H' s'/\tn i s'.heap/\(∀ b∈fp,H' b=none)/\W i n σ' H') ?_ m0
   ⟨0,_,_,I0,T.keep _ _ _ st fun b _ o e=>old b o e,fun b hb=>?_,w0⟩
  ·rintro n s' ⟨i,σ',H',I',st',fr',w'⟩;rcases turn i n σ' H' w' with ⟨stop,qn⟩|⟨go,step⟩
   ·refine wpAny_mono (T.done (a6 X cn scope ⟨H2.objs.size,s₂,H,fp,eT X scope H2.objs.size⟩) rfl rfl rfl AB i [] s' σ' H' (fun _ _=>False) I' (YA fr') st' stop) (fun r s4 ⟨hr,I4⟩=>?_) fun _ _ z=>z.elim;exact .inl ⟨hr,hR _ _ _ _ _ hCle I4 qn⟩
   ·refine wpAny_mono (T.item (a6 X cn scope ⟨H2.objs.size,s₂,H,fp,eT X scope H2.objs.size⟩) rfl rfl rfl AB i [] s' σ' H' (fun _ _=>False) I' (YA fr') st' go) (fun r s4 ⟨u,hr,h4⟩=>?_) fun _ _ z=>z.elim;refine .inr ⟨u,hr,wpAny_mono h4 (fun _ s5 ⟨x,H5,I5,r5,y5,LM,fr5⟩=>?_) fun _ _ z=>z.elim⟩;have I5':=I5.pinned (YA fr5) (T.obj _ _ LM);refine wpAny_mono (hg _ th _ s5 σ' H5 x u _ I5' r5 (step x H5 y5)) (fun _ s6 ⟨σ6,H6,I6,q6⟩=>?_) UL;refine wpAny_mono (ht _ th _ s6 σ6 H6 _ I6 q6) (fun ok s7 ⟨H7,I7,q7⟩=>?_) UL;have back:∀{σ8:St} {H8:Hp} {s8:Shared},Inv (a6 X cn scope ⟨H2.objs.size,s₂,H,fp,eT X scope H2.objs.size⟩) ([]++ub fp s5.heap) σ8 H8 s8->tn (i+1) s8.heap/\∀ b∈fp,H8 b=none:=fun {σ8 H8 s8} I8=>by
     refine⟨T.keep _ _ _ LM fun b hb o e=>(I8.pin (b,o) (Zm' _ (Zm' _ (eZ hb e)))).1,fun b hb=>?_⟩;obtain⟨o,e,d⟩:=T.obj _ _ LM b hb;exact(I8.pin (b,o) (Zm' _ (Zm' _ (eZ hb e)))).2.1
    cases ok with
    |false =>
     rw[M' Z']at q7 ⊢;obtain⟨m',hm,w7⟩:=q7;obtain⟨t8,f8⟩:=back I7;exact⟨m',hm,i+1,σ6,H7,I7.iA,t8,f8,w7⟩
    |true =>
     rw[S' rfl]at q7 ⊢;refine wpAny_mono (hk _ th _ s7 σ6 H7 _ I7 q7) (fun ku s8 ⟨y,H8,I8,r8,q8⟩=>?_) UL;refine wpAny_mono (hv _ th _ s8 σ6 H8 _ I8 q8) (fun vu s9 ⟨z,H9,I9,r9,kvs,k,ey,hl,hz,m',hm,w9⟩=>?_) UL;subst ey;obtain⟨zz,hd,vs,rel,dd⟩:=Dt I9.hok hl;have hzl:vs.length<=sizeLine:=by rw[<-rel.length];exact zz
     have hpl:(putK kvs k z).length<=sizeLine:=by have:=mY kvs k z;omega
     refine wpAny_dictSet_pairs (hsz:=hzl) (AD r8) dd fun h' X0 hs=>?_;have hex:∃ q,h'.get? s₂.heap.objs.size=some q:=let ⟨q,_,_,hq,_⟩:=X0;⟨q,hq⟩;have I10:=C6 (t':=s9.toks+1) I9 (by rw[hl];exact True.intro) hs hex (Jj hpl hd (rel.put k r9) X0);obtain⟨t9,f9⟩:=back I10;exact⟨m',hm,i+1,σ6,_,I10.iA,t9,f9,w9⟩
  ·rw[aA (Za' (hfl b hb))];exact(hf b hb).1
 exact codeAny_compStart_dict (loop _ rfl) (T.self _ 0 _ _ _ (T.keep _ _ _ st fun b _ o e=>old b o e) (loop _ rfl))
theorem YR (hcalm:X.calm=true)(F:bS X.env.scope X.N scope)(hi:PI X tg iter wi)(hg:∀ b,PG (a6 X cn scope b) tg (g b))(ht:∀ b,PF (a6 X cn scope b) ifs (tc b))(hk:∀ b,PE (a6 X cn scope b) kx (tk b))(hv:∀ b,PE (a6 X cn scope b) vx (tv b))
  (hs:∀ x,foldedSetIterable iter X.env x=pure x:=by intro _;rfl):PE X (.DictComp kx vx [⟨tg,iter,ifs,0⟩] scope pos) (af9 cn.length wi g tc tk tv):=by
 intro pins s σ H Q I h;rw[arm_eval_DictComp];have hcl:closureFor scope X.env=pure (bc X.env scope.names []):=C3 fun p hp e=>I.ok.has p.1 (F.free p hp e);refine wpAny_comprehension_free (use:=none) rfl hs hcl F.kind F.loc (cu (hi pins s σ H _ I h) fun xv s₁ h₁=>cu h₁ fun itv s₂ h₂=>?_);obtain⟨it,fp,tn,J,H2,rfl,I2,T,st,f2,R⟩:=h₂;refine VB (TH:=fun _=>True) (QQ:=fun D H'=>Q (.ref D) H') (RR:=fun acc C=>compPost (model X.prog X.w) X.A X.xe none (EP X pins σ Q) acc C) hcalm F (fun b _=>hg b) (fun b _=>ht b) (fun b _=>hk b) (fun b _=>hv b) (fun _ _=>trivial) I2 T st f2 R ?_ ?_
 ·intro C D σ' H' s' hC I' q;obtain⟨m,hm,_⟩:=I'.loc;exact⟨m,hm,fun h' sb=>⟨.ref D,H',I2.Ja f2 hC I' sb,rfl,q⟩⟩
 ·intro C D e s' z;exact z
end
abbrev aga (J:It)(g:TG)(tc:TT)(tk tv:TE)(D:Addr)(R:Hp->Prop)(σ:St)(H:Hp):Prop:=∃ W:Nat->Nat->St->Hp->Prop,(∃ m,W 0 m σ H)/\∀ i m σ H,W i m σ H ->
  (J.stop i H/\R H)\/(J.go i H/\∀ x H',J.NV i H x H'->g x σ H' fun σ2 H2=>tc σ2 H2 fun ok H3 =>
   if ok=true then tk σ2 H3 fun y H4=>tv σ2 H4 fun z H5=>∃(kvs:List (Key×V)) (k:Key),y=kV k/\H5 D=some (.dK kvs)/\kvs.length<sizeLine/\∃ m',m'<m/\W (i+1) m' σ2 (upd H5 D (.dK (putK kvs k z)))
   else ∃ m',m'<m/\W (i+1) m' σ2 H3)
abbrev agb (g:TG)(tc:TT)(tk tv:TE)(D:Addr)(x:V)(σ:St)(H:Hp)(N:St->Hp->Prop):Prop:=g x σ H fun σ2 H2=>tc σ2 H2 fun ok H3 =>
 if ok=true then tk σ2 H3 fun y H4=>tv σ2 H4 fun z H5=>∃(kvs:List (Key×V)) (k:Key),y=kV k/\H5 D=some (.dK kvs)/\kvs.length<sizeLine/\N σ2 (upd H5 D (.dK (putK kvs k z))) else N σ2 H3
theorem Of {K:Frag}{a:Addr}{xs:List V}{g:TG}{tc:TT}{tk tv:TE}{D:Addr}{R:Hp->Prop}{σ:St}{H:Hp}(Pv:Nat->St->Hp->Prop)(h0:Pv 0 σ H)(hl:∀ i σ H,Pv i σ H->aR K H a xs)
  (hs:∀ i x σ H,xs[i]? = some x->Pv i σ H->∀ N:St->Hp->Prop,(∀ σ H,Pv (i+1) σ H->N σ H)->agb g tc tk tv D x σ H N) (hd:∀ σ H,Pv xs.length σ H->R H):aga (Itl K a) g tc tk tv D R σ H:=by
 refine⟨fun i m σ H=>m=xs.length-i/\i<=xs.length/\Pv i σ H,⟨xs.length,by simp,X' _,h0⟩,?_⟩;rintro i m σ H ⟨rfl,hi,p⟩;have q:=hl i σ H p
 by_cases hlt:i<xs.length
 ·refine .inr ⟨⟨xs,xs[i],q,by simp[hlt]⟩,fun x H' y=>?_⟩;obtain⟨e,y⟩:=y;subst e;have z:=hs i x σ _ (y xs q) p (fun σ' H'=>∃ m',m'<xs.length-i/\m'=xs.length-(i+1)/\i+1<=xs.length/\Pv (i+1) σ' H') fun σ' H' q=>⟨xs.length-(i+1),by omega,rfl,hlt,q⟩;exact z
 ·have e:i=xs.length:=by omega
  subst e;exact .inl ⟨⟨xs,q,A' _⟩,hd σ H p⟩
section
variable {X:Cx}
theorem LX {ns:List Int}{its:List Value}(rv:Vals (ns.map V.int) its)(i:Nat)(v:Value)(hv:its.toArray[i]? = some v):∃ t,v=Value.int (ns.getD i 0) t:=by
 have hl:=rv.length;rw[K']at hl;have hv':its[i]? = some v:=by simpa using hv
 have hi:i<its.length:=(B'.mp hv').1;have hn:i<ns.length:=by omega
 obtain⟨u,hu,ru⟩:=rv.get (i:=i) (x:=.int (ns[i])) (by rw[Zi',C' hn];rfl);rw[hv']at hu;cases hu;obtain⟨t,rfl⟩:=ru;refine⟨t,?_⟩;rw[T',C' hn];rfl
theorem VC {ns:List Int}{i:Nat}(h:i<ns.length):ns.getD i 0∈ns:=by
 rw[T',C' h];exact List.getElem_mem h
theorem VD {ns:List Int}{a:Int}(h:a∈ns):∃ j,j<ns.length/\ns.getD j 0=a:=by
 obtain⟨j,hj,e⟩:=List.getElem_of_mem h;exact⟨j,hj,by rw[T',C' hj];exact e⟩
theorem VE:eS X (.builtin "min") (fun xs H Q=>X.calm=true/\∃(a:Addr)(ns:List Int),xs=[.ref a]/\aR X.K H a (ns.map V.int)/\ns≠[]/\∀ m,m∈ns->(∀ x∈ns,m<=x)->Q (.int m) H):=by
 intro pins s σ H xs us Q I r h;obtain⟨hc,a,ns,rfl,hq,hne,q⟩:=h;obtain⟨u,rfl,rfl⟩:=r.one;obtain⟨its,rv,p,hz⟩:=I.list hq;have hl:=rv.length;rw[K']at hl;have hpos:0<ns.length:=by cases ns with|nil=>exact j' rfl hne|cons _ _=>exact Nat.succ_pos _
 have ane:a≠s.heap.objs.size:=by
  obtain⟨o,ho,_⟩:=p.isList;exact Za' (P' ho)
 have hd:X.A.in1.handled=none:=I.ok.hd hc;refine call_min_walk (wpAny_pyIter_list p.isList ?_);refine⟨s.heap.objs.size,_,_,_,_,_,_,rfl,Walks.list hd s.heap.objs.size a ane its.toArray,⟨⟨_,Zd' _ rfl,rfl,rfl⟩,p.isList.push _⟩,?_,?_,CmpOf.ints_lt (fun i=>ns.getD i 0) (fun i v hP=>LX rv i v hP),?_⟩
 ·intro b hb;obtain⟨o,ho,_⟩:=p.isList;have e:b=s.heap.objs.size\/b=a:=by simpa using hb
  have z:(s.heap.push { cls:=.type "list_iterator",data:=.fields #[.ref a,.int 0 0] }).objs.size=s.heap.objs.size+1:=Heap.size_push ..;show b<(s.heap.push _).objs.size;rw[z];rcases e with rfl|rfl
  ·exact Nat.lt_succ_self _
  ·exact Nat.lt_succ_of_lt (P' ho)
 ·rw[Ze'];omega
 ·intro v h' tk hP kk;obtain⟨h1,h2⟩:=argBest_lt (fun i=>ns.getD i 0) (its.toArray.size-1);obtain⟨t,rfl⟩:=LX rv _ v hP;refine⟨.int _,H,I.kept (t':=tk) fun b o e=>kk b o (fun z=>?_) (G' _ e),⟨t,rfl⟩,q _ (VC ?_) fun x hx=>?_⟩
  ·have:b=s.heap.objs.size:=by simpa using z
   exact j' (P' e) (by rw[this];exact Nat.lt_irrefl _)
  ·rw[Ze']at h1 ⊢;omega
  ·obtain⟨j,hj,rfl⟩:=VD hx;exact h2 j (by rw[Ze'];omega)
end
section
variable {prog:Program} {w:World} {A:Around} {R:Result->Shared->Prop} {I:Addr} {fp wr:List Addr} {n:Nat} {P:Nat->Value->Prop} {St:Nat->Heap->Prop}
end
section
variable {X:Cx}
end
end L2
def Hd.th (P:PySem.Params)(x:PySem.Str)(n:Int):Int:=PySem.reduceHash (PySem.Builtin.Tuple.tupleHashOf [PySem.PyData.keyHash P x,PySem.hashInt n])
namespace L2
open PySem PySem.Spec PyProof.Rows
inductive Og (K:Frag)(w:World):List DictEntry->List ((Str×Int)×V)->Prop
 |nil:Og K w [] []
 |cons {x:Str} {n:Int} {b:Addr} {ob:Option Addr} {ta tb:Tok} {nb:Nat} {sb:Array (Option Value)} {u:Value} {v:V} {es:List DictEntry} {kvs:List ((Str×Int)×V)}:K.lookup b=some ⟨.type "tuple",ob,.seq #[.str x ta,.int n tb] nb,sb⟩->RelV v u->Og K w es kvs->Og K w (⟨Hd.th w.params x n,.ref b,u⟩::es) (((x,n),v)::kvs)
structure KP (K:Frag)(w:World)(a:Addr)(kvs:List ((Str×Int)×V)):Prop where
 sys:(a==sysModules)=false
 ok:∃ es n,K.lookup a=some ⟨.type "dict",none,.dict es n,#[]⟩/\Og K w es.toList kvs/\(kvs.map (·.1)).Nodup
abbrev kp (x:Str)(n:Int):List Key:=[Sum.inr x,Sum.inl n]
theorem UO {P:Program}{w:World}{h:Heap}{a:Addr}{x:Str}{n:Int}{ta tb:Tok}(t:IsTup h a #[.str x ta,.int n tb]):(tupleKind (aS P w)).is h (kp x n) a:=by
 obtain⟨o,e,c,m,d⟩:=t;exact⟨o,_,m,e,c,d,.cons (jX P w x ta) (.cons (Ay P w n tb) .nil)⟩
theorem Og.xs (P:Program){K:Frag}{w:World}{h:Heap}(hi:K.In h):∀{es:List DictEntry} {kvs:List ((Str×Int)×V)},Og K w es kvs->∃ xs:List (List Key×Addr×Value),es=xs.map (entryOfKey (tupleKind (aS P w)))/\xs.map (·.1)=kvs.map (fun p=>kp p.1.1 p.1.2) /\
  (∀ x∈xs,(tupleKind (aS P w)).is h x.1 x.2.1)/\∀ x n,nO (kvs.lookup (x,n)) ((atKey xs (kp x n)).map (·.2))
 |_,_,.nil=>⟨[],rfl,rfl,(fun e z=>nomatch z),fun x n=>True.intro⟩
 |_,_,.cons (x:=x) (n:=n) (b:=b) (u:=u) (v:=v) lb r q=>by
  obtain⟨xs,h1,h2,h3,h4⟩:=Og.xs P hi q;refine⟨(kp x n,b,u)::xs,by rw[map_cons,<-h1];rfl,by rw[map_cons,map_cons,h2],fun e he=>?_,fun y m=>?_⟩
  ·rcases List.mem_cons.mp he with rfl|he
   ·exact UO ⟨_,hi _ _ lb,rfl,_,rfl⟩
   ·exact h3 e he
  ·by_cases hy:(y,m)=(x,n)
   ·cases hy;unfold atKey;simp only [List.lookup_cons,List.find?_cons];simp;exact r
   ·unfold atKey;have h5:=h4 y m;unfold atKey at h5;have e1:((y,m)==(x,n))=false:=by simpa using hy
    have e2:decide (kp x n=kp y m)=false:=Zb' fun e=>hy (by
     injection e with e1 e2
     injection e2 with e2 _
     cases e1;cases e2;rfl)
    simp only [List.lookup_cons,e1,List.find?_cons,e2];exact h5
theorem LY:∀{l:List (Str×Int)},l.Nodup->(l.map (fun p=>kp p.1 p.2)).Nodup
 |[],_=>.nil
 |x::l,h=>by
  rw[map_cons,List.nodup_cons];obtain⟨h1,h2⟩:=List.nodup_cons.mp h;refine⟨fun z=>?_,LY h2⟩;obtain⟨y,hy,e⟩:=mem_map.mp z
  injection e with e1 e2
  injection e2 with e2 _
  obtain⟨a,b⟩:=x;obtain⟨c,d⟩:=y;cases e1;cases e2;exact h1 hy
theorem KP.dict (P:Program){K:Frag}{w:World}{a:Addr}{kvs:List ((Str×Int)×V)}{h:Heap}(d:KP K w a kvs)(hi:K.In h):∃ xs,h.DictOfH (tupleKind (aS P w)) a xs/\∀ x n,nO (kvs.lookup (x,n)) ((atKey xs (kp x n)).map (·.2)):=by
 obtain⟨es,n,lk,ok,nd⟩:=d.ok;obtain⟨xs,h1,h2,h3,h4⟩:=ok.xs P hi;refine⟨xs,⟨_,es,n,hi _ _ lk,⟨rfl,rfl,rfl⟩,rfl,h1,h3,?_⟩,h4⟩;rw[h2];have:=LY nd;rw[List.map_map]at this;exact this
section
variable {X:Cx}
def agc (K:Frag)(w:World)(td ty:TE):TE:=fun σ H Q=>td σ H fun x H1=>∃ a kvs,x=.ref a/\KP K w a kvs/\ty σ H1 fun y H2=>∃ p k n,y=.ref p/\H2 p=some (.tup [.str k,.int n])/\Q ((kvs.lookup (k,n)).getD .non) H2
theorem LZ {o e:Expr}{apos cpos:Pos}{td ty:TE}(hu:X.A.units+1<cLine)(ho:PE X o td)(he:PE X e ty)
  (base:attributeBase o "get" X.env (eval o X.env)=eval o X.env:=by rfl)
  (few:((backTo cpos (starEach [e] X.env)).all (fun x=>!x.1)&&(backToKw cpos (keywordEach [] X.env)).all (fun x=>x.1.isSome)
   && decide (([e]:List Expr).length+([]:List Keyword).length+(if([]:List Keyword).isEmpty then 0 else 1)<30))=true:=by rfl)
  (line:(apos.endLine==cpos.line)=true:=by rfl) (trees:backTo cpos (starEach [e] X.env)=[(false,eval e X.env)]:=by rfl) :
  PE X (.Call (.Attribute o "get" apos) [e] [] cpos) (agc X.K X.w td ty):=by
 intro pins s σ H Q I h;refine wpAny_Call_method base few line plainAttrs_dict slot_dict_get type_dict_get (cu (ho pins s σ H _ I h) fun u s1 ⟨x,H1,I1,rx,a,kvs,ex,d,q1⟩=>?_);subst ex;obtain rfl:u=Value.ref a:=rx;obtain⟨xs,dd,rel⟩:=d.dict X.prog I1.FI;refine⟨dd.typeIs,fun b q=>?_,?_⟩
 ·cases q;obtain⟨ob,_,_,h1,h2,_⟩:=dd;exact⟨ob,h1,h2.2.1⟩
 rw[trees];refine Calls.callWith_builtin rfl (Calls.evalArgs_plain (Calls.spliced_cons (cu (he pins s1 σ H1 _ I1 q1) fun iv s2 ⟨y,H2,I2,ry,p,k,n,ek,hp,q2⟩=>Calls.spliced_nil ?_)));subst ek;obtain rfl:iv=Value.ref p:=ry;obtain⟨xs3,dd3,alu⟩:=d.dict X.prog I2.FI;obtain⟨_,its,vs,tp⟩:=I2.hok _ _ hp;rcases vs with _|⟨⟨ta,rfl⟩,_|⟨⟨tb,rfl⟩,_|_⟩⟩
 exact call_meetsIn slot_dict_get dd3.typeIs entry_dict_get (PySem.F.args_dict_get_2 _ _) (meetsH_dict_get (tupleKind (aS X.prog X.w)) a p d.sys) ⟨hu,kp k n,xs3,UO tp,dd3,_,H2,I2.tok _,nO.ah2 (d:=V.non) (alu k n) rfl,q2⟩
end
end L2
namespace Hd
open PySem PySem.W
section
variable {p:Program} {w:World} {n₀:Nat} {ann:Option Value} {q:Pos} {c:Code}
theorem YS {b:Nat}:∀{n m:Nat} {s s1:Shared} {t t1:Thread} {r:Option (Shared×Thread)},segGo treeTable p w n₀ ann b n s t=some (s1,t1)->segGo treeTable p w n₀ ann b m s1 t1=r->segGo treeTable p w n₀ ann b (n+m) s t=r
 |0,m,s,s1,t,t1,r,h,k=>by
  cases h;rw[Nat.zero_add];exact k
 |n+1,m,s,s1,t,t1,r,h,k=>by
  rw[Nat.add_right_comm];unfold segGo at h ⊢;split at h
  ·cases h
  ·split at h
   ·cases h
   ·split at h
    ·exact YS h k
    ·cases h
def Go (p:Program)(w:World)(n₀:Nat)(ann:Option Value)(m:Nat)(s:Shared)(t:Thread)(s':Shared)(t':Thread):Prop:=∃ n,n<=m/\segGo treeTable p w n₀ ann 1 n s t=some (s',t')
theorem Go.trans {m m':Nat}{s s1 s2:Shared}{t t1 t2:Thread}(h:Go p w n₀ ann m s t s1 t1)(h':Go p w n₀ ann m' s1 t1 s2 t2):Go p w n₀ ann (m+m') s t s2 t2:=by
 obtain⟨n,l,e⟩:=h;obtain⟨n',l',e'⟩:=h';exact⟨n+n',Nat.add_le_add l l',YS e e'⟩
def RT {α:Type}(p:Program)(w:World)(n₀:Nat)(ann:Option Value)(q:Pos)(c:Code)(m:Nat)(x:Sem α)(s s':Shared)(a:α):Prop :=
 ∀(K:α->Sem Fin)(H:Value->Sem Fin)(gd:Bool->Bool)(lv:List Value->List Value)(pos:Pos),∃ pos',Go p w n₀ ann m s ⟨x.wrap K H gd lv,c,pos,[topFrame q]⟩ s' ⟨K a,c,pos',[topFrame q]⟩
def RTP {α:Type}(p:Program)(w:World)(n₀:Nat)(ann:Option Value)(q:Pos)(c:Code)(m:Nat)(x:Sem α)(s s':Shared)(a:α)(p':Pos):Prop :=
 ∀(K:α->Sem Fin)(H:Value->Sem Fin)(gd:Bool->Bool)(lv:List Value->List Value)(pos:Pos),Go p w n₀ ann m s ⟨x.wrap K H gd lv,c,pos,[topFrame q]⟩ s' ⟨K a,c,p',[topFrame q]⟩
variable {α β:Type} {x:Sem α} {f:α->Sem β} {s s1 s2:Shared} {a:α} {b:β} {m m':Nat} {p':Pos}
theorem HW (x:Sem α)(f:α->Sem β)(K:β->Sem Fin)(H gd lv):(x >>= f).wrap K H gd lv=x.wrap (fun a=>(f a).wrap K H gd lv) H gd lv:=by
 rw[Sem.bind_eq_wrap',Sem.wrap_wrap];rfl
theorem RT.bind (h:RT p w n₀ ann q c m x s s1 a)(h':RT p w n₀ ann q c m' (f a) s1 s2 b):RT p w n₀ ann q c (m+m') (x >>= f) s s2 b:=fun K H gd lv pos=>by
 rw[HW];obtain⟨p1,g⟩:=h (fun a=>(f a).wrap K H gd lv) H gd lv pos;obtain⟨p2,g'⟩:=h' K H gd lv p1;exact⟨p2,g.trans g'⟩
theorem RT.aeE (h:RT p w n₀ ann q c m x s s1 a)(h':RTP p w n₀ ann q c m' (f a) s1 s2 b p'):RTP p w n₀ ann q c (m+m') (x >>= f) s s2 b p':=fun K H gd lv pos=>by
 rw[HW];obtain⟨p1,g⟩:=h (fun a=>(f a).wrap K H gd lv) H gd lv pos;exact g.trans (h' K H gd lv p1)
theorem RT.hold (vs:List Value)(h:RT p w n₀ ann q c m x s s1 a):RT p w n₀ ann q c m (holding vs x) s s1 a:=by
 unfold holding;split
 ·exact h
 ·intro K H gd lv pos;rw[Sem.keep_eq_wrap,Sem.wrap_wrap];exact h _ _ _ _ _
theorem RT.pure:RT p w n₀ ann q c 0 (Pure.pure a:Sem α) s s a:=fun K H gd lv pos=>⟨pos,0,A' _,rfl⟩
theorem RT.more (h:RT p w n₀ ann q c m x s s1 a)(l:m<=m'):RT p w n₀ ann q c m' x s s1 a:=fun K H gd lv pos=>by
 obtain⟨p1,n,l1,e⟩:=h K H gd lv pos;exact⟨p1,n,Zk' l1 l,e⟩
theorem L0:∀(k n:Nat) {s:Shared} {t:Thread} {r},segRun treeTable p w n₀ ann 1 n s t=some r->segRun treeTable p w n₀ ann 1 (n+k) s t=some r
 |k,0,s,t,r,h=>by cases h
 |k,n+1,s,t,r,h=>by
  rw[Nat.add_right_comm];unfold segRun at h ⊢;split at h
  ·exact h
  ·split at h
   ·cases h
   ·split at h
    ·exact L0 k n h
    ·cases h
theorem RTP.piece {st:Stmt}{env:Env}{pos:Pos}(h:RTP p w n₀ ann q c m (exec st env) s s1 .next p'):segRun treeTable p w n₀ ann 1 (m+1) s (pieceOf st env c pos [topFrame q])=some (.next,s1,c,p'):=by
 obtain⟨n,l,e⟩:=h doneF deadEnd id id pos;have z:segRun treeTable p w n₀ ann 1 (n+1) s (pieceOf st env c pos [topFrame q])=some (.next,s1,c,p'):=seg_go e rfl;have:=L0 (m-n) _ z
 rwa [show n+1+(m-n)=m+1 by omega]at this
end
section
variable {p:Program} {w:World} {n₀:Nat} {ann:Option Value} {q:Pos} {c:Code} {s:Shared}
theorem b0 (i:Int):RT p w n₀ ann q c 1 (pyHashByItsType.reduced i) s s (reduceHash i):=by
 unfold pyHashByItsType.reduced reduceHash;split
 ·exact RT.pure.more (X' _)
 ·intro K H gd lv pos;exact⟨pos,1,A' _,rfl⟩
variable {α β:Type} {x y:Sem α} {s':Shared} {a:α} {m e:Nat}
theorem RT.ifn {b:Bool}(hb:b=false)(h:RT p w n₀ ann q c m y s s' a):RT p w n₀ ann q c m (if b=true then x else y) s s' a:=by
 subst hb;exact h
theorem RT.ift {b:Bool}(hb:b=true)(h:RT p w n₀ ann q c m x s s' a):RT p w n₀ ann q c m (if b=true then x else y) s s' a:=by
 subst hb;exact h
theorem RT.ifc {b:Bool}(h:RT p w n₀ ann q c m x s s' a)(h':RT p w n₀ ann q c m y s s' a):RT p w n₀ ann q c m (if b=true then x else y) s s' a:=by
 cases b
 ·exact h'
 ·exact h
theorem Oh {β γ:Type}{f:γ->β->Sem (ForInStep β)}{r:β}:∀{l:List γ},(∀ i∈l,RT p w n₀ ann q c e (f i r) s s (.yield r))->RT p w n₀ ann q c (l.length * e) (forIn l r f) s s r
 |[],_=>by
  rw[List.forIn_nil,List.length_nil,Nat.zero_mul];exact RT.pure
 |i::l,h=>by
  rw[List.forIn_cons,Zp',Nat.succ_mul,Nat.add_comm];exact RT.bind (h i (mem_cons_self ..)) (Oh fun j hj=>h j (Zl' _ hj))
theorem ac4 {key:Value}{l:List Value}(hk:RT p w n₀ ann q c e (eqIsQuiet 8 key) s s true)(h:∀ v∈l,RT p w n₀ ann q c e (eqIsQuiet 8 v) s s true):RT p w n₀ ann q c (e+(l.length * e+0)) (tableMayTell key l) s s false:=by
 unfold tableMayTell;dsimp only;cases hl:l.isEmpty with
 |true=>exact RT.ift rfl (RT.pure.more (X' _))
 |false =>
  refine RT.ifn rfl ?_;refine RT.bind hk ?_;refine RT.ifn rfl ?_;refine RT.bind (Oh fun v hv=>?_) ?_
  ·exact RT.bind (m':=0) (h v hv) (RT.ifn rfl RT.pure)
  ·exact RT.pure
theorem age {key:Value}{l:List Value}(h:∀ v∈l,(v==key)=false):(l == [key])=false:=by
 cases l with
 |nil=>rfl
 |cons v l=>rw[List.cons_beq_cons,h v (mem_cons_self ..)];rfl
theorem HX {es:Array DictEntry}{ps:List Nat}{v:Value}(h:v∈ps.filterMap fun i=>Option.map (fun x=>x.key) es[i]?):v∈es.toList.map (·.key):=by
 obtain⟨i,_,e⟩:=List.mem_filterMap.mp h;obtain⟨z,e1,rfl⟩:=Option.map_eq_some_iff.mp e;exact mem_map.mpr ⟨z,by simpa using Array.mem_of_getElem? e1,rfl⟩
theorem VF {n:Nat}{g:Nat->Option Int}{h:Int}{i:Nat}(hi:i∈placesWithHash n g h):i<n:=mem_range.mp (List.mem_filter.mp hi).1
theorem places_len {n:Nat}{g:Nat->Option Int}{h:Int}:(placesWithHash n g h).length<=n:=by
 have:=List.length_filter_le (fun i=>g i==some h) (List.range n);rw[List.length_range]at this;exact this
theorem eU {d a n:Nat}{h:Int}{es:Array DictEntry}{e1 e2 e3:Nat}(hes:RT p w n₀ ann q c e1 (dictEntries d (keyPart (.ref a))) s s es)(hany:(es.any fun e=>e.key == .ref a&&e.hash != h)=false)
  (hne:∀ v∈es.toList.map (·.key),(v == .ref a)=false) (hq:RT p w n₀ ann q c e2 (eqIsQuiet 8 (.ref a)) s s true) (hqs:∀ v∈es.toList.map (·.key),RT p w n₀ ann q c e2 (eqIsQuiet 8 v) s s true)
  (hep:RT p w n₀ ann q c 1 (dictEpoch d (keyPart (.ref a))) s s n) (heq:∀ v∈es.toList.map (·.key),RT p w n₀ ann q c e3 (eqBool v (.ref a)) s s false):RT p w n₀ ann q c (e1+((e2+(es.size * e2+0))+(es.size * (1+(e3+(1+(1+0))))+0))) (dictFind d (.ref a) h) s s none:=by
 unfold dictFind;refine RT.hold _ ?_;refine RT.bind hes ?_;dsimp only;generalize hp:placesWithHash _ _ _=places;have pl:∀ i∈places,i<es.size:=fun i hi=>VF (hp ▸ hi);have pn:places.length<=es.size:=by rw[<-hp];exact places_len
 clear hp;refine RT.ifn (by rw[List.all_cons];rfl) ?_;refine RT.ifn hany ?_;refine RT.ifn (age fun v hv=>hne v (HX hv)) ?_;refine RT.bind ((ac4 hq fun v hv=>hqs v (HX hv)).more ?_) ?_
 ·have l1:(places.filterMap fun i=>Option.map (fun x=>x.key) es[i]?).length<=es.size:=Zk' (List.length_filterMap_le _ _) pn;have:=Nat.mul_le_mul_right e2 l1;omega
 refine RT.ifn rfl ?_;refine RT.bind ((Oh fun i hi=>?_).more (Nat.mul_le_mul_right _ pn)) RT.pure;have hi:=pl i hi;rw[Array.getElem?_eq_getElem hi];dsimp only;have hv:(es[i]'hi).key∈es.toList.map (·.key):=mem_map.mpr ⟨_,by simp,rfl⟩;generalize es[i]'hi=en at hv;refine RT.ifc ?_ (RT.pure.more (X' _));refine RT.bind hep ?_;refine RT.bind (heq _ hv) ?_;refine RT.bind hep ?_;refine RT.ifn (by simp) ?_;refine RT.ifn rfl ?_;refine RT.bind (m:=1) (a:=()) (s1:=s) (fun K H gd lv pos=>⟨pos,1,A' _,rfl⟩) ?_;exact RT.ifn rfl RT.pure
theorem iD {d a:Nat}{h:Int}{v:Value}{s1 s2:Shared}{e1 e2 e3:Nat}(hh:RT p w n₀ ann q c e1 (pyHash (.ref a)) s s1 h)(hf:RT p w n₀ ann q c e2 (dictFind d (.ref a) h) s1 s1 none)
  (hu:RT p w n₀ ann q c e3 (updateDictKeys d (fun es=>es.push ⟨h,.ref a,v⟩) (keyPart (.ref a))) s1 s2 ()):RT p w n₀ ann q c (e1+(e2+(1+e3))) (dictSet d (.ref a) v) s s2 ():=by
 unfold dictSet dictSetHashed;refine RT.hold _ ?_;refine RT.bind hh ?_;refine RT.hold _ ?_;refine RT.bind hf ?_;exact RT.bind (m:=1) (a:=()) (s1:=s1) (fun K H gd lv pos=>⟨pos,1,A' _,rfl⟩) hu
inductive Puts (p:Program)(w:World)(n₀:Nat)(ann:Option Value)(q:Pos)(c:Code)(d:Nat):Nat->Shared->List (Value×Value)->Shared->Prop
 |nil {s:Shared}:Puts p w n₀ ann q c d 0 s [] s
 |cons {s s1 s2:Shared} {k v:Value} {l:List (Value×Value)} {m m':Nat}:RT p w n₀ ann q c m (dictSet d k v) s s1 ()->Puts p w n₀ ann q c d m' s1 l s2->Puts p w n₀ ann q c d (m+m') s ((k,v)::l) s2
theorem Puts.for {d:Nat}{l:List (Value×Value)}{f:Value×Value->PUnit->Sem (ForInStep PUnit)}(hf:∀ k v,f (k,v) ⟨⟩=dictSet d k v >>= fun _=>pure (.yield ⟨⟩))(h:Puts p w n₀ ann q c d m s l s'):RT p w n₀ ann q c m (forIn l PUnit.unit f) s s' ⟨⟩:=by
 induction h with
 |nil=>rw[List.forIn_nil];exact RT.pure
 |cons a b ih =>
  rw[List.forIn_cons,hf];exact RT.bind (RT.bind (m':=0) a RT.pure) ih
theorem bg {α:Type}{P:α->Prop}:∀ v∈([]:List α),P v:=fun _ z=>nomatch z
theorem aq {α:Type}{P:α->Prop}{a:α}{l:List α}(h:P a)(t:∀ v∈l,P v):∀ v∈a::l,P v:=fun v hv=>by
 rcases List.mem_cons.mp hv with rfl|hv
 ·exact h
 ·exact t v hv
theorem agf {pairs:List (Sem Value×Sem Value)}{vs:List (Value×Value)}{d e1:Nat}{s1 s2 s3:Shared}(hl:pairs.length<=15)(ha:RT p w n₀ ann q c 1 (alloc { cls:=.type "dict",data:=.dict #[] }) s s1 d)(he:RT p w n₀ ann q c e1 (evalPairs pairs) s1 s2 vs)
  (hc:Puts p w n₀ ann q c d m s2 vs s3):RT p w n₀ ann q c (1+((e1+(m+0))+0)) (subDict pairs) s s3 d:=by
 unfold subDict;refine RT.bind ha ?_;dsimp only;refine RT.bind (a:=()) (RT.hold _ ?_) RT.pure;rw[S' hl];refine RT.bind he ?_;refine RT.hold _ ?_;refine RT.bind (Puts.for (fun k v=>rfl) hc) RT.pure
theorem YT {x:Str}{px dp pos p':Pos}{ks:List (Option Expr)}{us:List Expr}{env:Env}{vs:List (Value×Value)}{d e1 e2:Nat}{s1 s2 s3 s4:Shared}(hall:ks.all (·.isSome)=true)(hlen:ks.length=us.length)(h0:(pairTrees ks us env dp).length<=15)(hn:pairTrees ks us env dp≠[])
  (ha:RT p w n₀ ann q c 1 (alloc { cls:=.type "dict",data:=.dict #[] }) s s1 d) (he:RT p w n₀ ann q c e1 (evalPairs (pairTrees ks us env dp)) s1 s2 vs) (hc:Puts p w n₀ ann q c d m s2 vs s3)
  (hb:RTP p w n₀ ann q c e2 (do standAt px;bindName env x (.ref d);pure Flow.next) s3 s4 .next p') :
  RTP p w n₀ ann q c (1+((1+((1+((e1+(m+0))+0))+0))+e2)) (exec (.Assign [.Name x px] (.Dict ks us dp) pos) env) s s4 .next p':=by
 rw[exec_Assign_Name env x px _ pos rfl];have at_:∀(ps:Pos)(z:Shared),RT p w n₀ ann q c 1 (standAt ps) z z ():=fun ps z K H gd lv pos=>⟨_,1,A' _,rfl⟩;refine RT.aeE (at_ pos s) (RT.aeE (RT.bind (at_ dp s) ?_) hb);rw[zip_pairTrees ks us env dp hall hlen,dictDisplay_pairs _ hn (by omega)];exact RT.bind (agf h0 ha he hc) RT.pure
end
abbrev rw:String:="special-get-raises"
theorem kL {P:World->Prop}(h:∀(w:World)(b:Bool),P (w.withFollow rw b))(w:World):P w:=byRow2 (rw) (fun w=>h w false) (fun w=>h w true) w
theorem HY {α:Type}{l:List α}(h:l.isEmpty=false):l≠[]:=fun z=>by subst z;cases h
abbrev stt (H:Params->Heap)(d:Drawn)(k:Nat)(w:World)(os:OsState):Shared:=⟨H w.params,#[],d,k,os⟩
end Hd
namespace L2
open PySem PySem.Spec PyProof.Rows PySem.SeqAt
section
variable {X:Cx}
end
end L2
namespace L2
open PySem PySem.Spec PyProof.Rows
section
variable {X:Cx} {pins:List (Addr×Obj)} {σ:St} {H:Hp} {s:Shared}
theorem Inv.YU {a:Addr}{u u':HO}(I:Inv X pins σ H s)(e:H a=some u)(h1:∀ y,u≠.own y)(h2:∀ xs,u≠.tup xs)(h3:∀ ps,u≠.tbl ps)(h4:∀ o v,X.H₀ a≠some (.ix o v))(new:ck X.prog X.w (upd H a u') s.heap a u'):Inv X pins σ (upd H a u') s:=by
 refine⟨I.ok,I.os,I.bare,⟨I.base.keep,I.base.slot,fun b ob eb n hx=>?_,I.base.there,fun b xs q=>?_,fun b ob v q=>?_,fun b ps q=>?_⟩,I.loc,I.cell,?_,fun x c ec=>?_,fun p hp=>?_,fun b v eb=>?_,I.len⟩
 ·have:=I.base.free b ob eb n hx;rw[aA (fun z=>by rw[z,e]at this;cases this)];exact this
 ·have:=I.base.tups b xs q;rw[aA (fun z=>by rw[z,e]at this;exact h2 _ (Zc' this))];exact this
 ·have:=I.base.yt b ob v q;rw[aA (fun z=>by rw[z]at q;exact h4 ob v q)];exact this
 ·obtain⟨m,this⟩:=I.base.Di b ps q;exact⟨m,by rw[aA (fun z=>by rw[z,e]at this;exact h3 _ (Zc' this))];exact this⟩
 ·have:=I.free;rw[aA (fun z=>by rw[z,e]at this;cases this)];exact this
 ·have:=I.lu x c ec;rw[aA (fun z=>by rw[z,e]at this;cases this)];exact this
 ·obtain⟨q1,q2,q3⟩:=I.pin p hp;exact⟨q1,by rw[aA (fun z=>by rw[z,e]at q2;cases q2)];exact q2,q3⟩
 ·by_cases hb:b=a
  ·subst hb;rw[ag]at eb;cases eb;exact new
  ·rw[aA hb]at eb;refine(I.hok b v eb).stay (fun _ _ _ q=>q) (fun c q=>?_) fun c xs q=>?_
   ·rw[aA (fun z=>by rw[z,e]at q;exact h1 _ (Zc' q))];exact q
   ·rw[aA (fun z=>by rw[z,e]at q;exact h2 _ (Zc' q))];exact q
theorem Inv.VG {a:Addr}{o:Obj}{kvs:List (Key×V)}(I:Inv X pins σ H s)(e:H a=some (.ix o (.dK kvs)))(h:∀ o v,X.H₀ a≠some (.ix o v)):Inv X pins σ (upd H a (.dK kvs)) s :=
 I.YU e (fun _ z=>nomatch z) (fun _ z=>nomatch z) (fun _ z=>nomatch z) h (I.hok a _ e).2
theorem Inv.freeze {a:Addr}{o:Obj}{kvs:List (Key×V)}(I:Inv X pins σ H s)(e:H a=some (.dK kvs))(ho:s.heap.get? a=some o):Inv X pins σ (upd H a (.ix o (.dK kvs))) s :=
 I.YU e (fun _ z=>nomatch z) (fun _ z=>nomatch z) (fun _ z=>nomatch z) (fun o v z=>by rw[I.base.yt a o v z]at e;cases e) ⟨ho,I.hok a _ e⟩
end
def Itv (d:Addr)(o:Obj)(kvs:List (Key×V)):It :=
 ⟨fun i H=>H d=some (.ix o (.dK kvs))/\∃ kv,kvs[i]? = some kv,
  fun i H x H'=>∃ kv t,kvs[i]? = some kv/\x=.ref t/\H t=none/\H'=upd H t (.tup [kV kv.1,kv.2]),
  fun i H=>H d=some (.ix o (.dK kvs))/\kvs.length<=i⟩
theorem aie:∀{kvs:List (Key×V)} {vs:List (Key×Value)},KV kvs vs->∀{i:Nat} {kv:Key×V},kvs[i]? = some kv->∃ u,vs[i]? = some (kv.1,u)/\RelV kv.2 u:=by
 intro kvs vs r;unfold KV at r
 induction r with
 |nil=>intro i kv h;simp at h
 | @cons p q ps qs h0 _ ih =>
  intro i kv h;cases i with
  |zero =>
   have e:p=kv:=by simpa using h
   subst e;exact⟨q.2,by rw[h0.1];rfl,h0.2⟩
  |succ i=>exact ih (by simpa using h)
theorem Dz:entryFor table "dict_itemiterator.__iter__" = some Builtin.«dict_keyiterator.__iter__»:=entryFor_alias (id':="dict_keyiterator.__iter__") (by kernel_rfl) rfl (by lk) (by kernel_rfl)
theorem Oi {P:Program}{w:World}{K:Frag}{es:List Expr}{k:Nat}{tp:Pos}(d it:Addr)(o:Obj)(kvs:List (Key×V))(ep:Nat)(he:∃ dt,o.data=.dict dt ep) :
  Turn P w K (.Tuple es k tp) (Itv d o kvs) [it] it (fun i h=>∃ a b,IsItemIter h it d i kvs.length ep a b) where
 mem:=by simp
 obj:=fun i h st b hb=>by
  obtain⟨a,c,e⟩:=st;have:b=it:=by simpa using hb
  subst this;exact⟨_,e,fun v z=>by
   have z':Data.fields _=Data.cell v:=z;cases z'⟩
 keep:=fun i h h' st kp=>by
  obtain⟨a,c,e⟩:=st;exact⟨a,c,kp it (by simp) _ e⟩
 item:=by
  intro X hP hw hK hc i pins s σ H E I hf st hg;subst hP hw hK;obtain⟨hd,kv,hkv⟩:=hg;obtain⟨a,c,hit⟩:=st;obtain⟨ho,z,hsm,vs,rel,dd⟩:=(show ck X.prog X.w H s.heap d (.ix o (.dK kvs)) from I.hok d _ hd);obtain⟨ep',da⟩:=dd.dictAt;obtain⟨dt,hdt⟩:=he;have eep:ep'=ep:=by
   obtain⟨o',es',q1,q2,q3,_⟩:=da;rw[ho]at q1;cases q1;rw[hdt]at q3;cases q3;rfl
  subst eep;have hl:=rel.length;obtain⟨u,hu,ru⟩:=aie rel hkv;rw[hl]at hit;refine wpAny_pyNext_items_item hit da hu fun key h' hkey hout htup hsz kk=>?_;refine⟨_,rfl,wpAny_letOwnedTupleGo_items hout fun h'' aeF hs''=>?_⟩;have fit:=hf it (by simp);have YF:H s.heap.objs.size=none:=I.hok.fresh (A' _);have hne:it≠s.heap.objs.size:=Za' (P' hit);have I1:Inv X pins σ (upd H s.heap.objs.size (.tup [kV kv.1,kv.2])) { s with heap:=h'',toks:=s.toks }:=by
   refine I.Dr (wr:=[it]) (vals:=[key,u]) (fun b hb=>by rw[Zo'.mp hb];exact fit) (A' _) ?_ (.cons (YQ hkey) (.cons ru .nil)) (by show 2<=sizeLine;decide) (fun b ob hb e=>?_) fun b hb=>?_
   ·exact⟨_,(hs''.2 _ (Yb' hne)).trans htup,rfl,_,rfl⟩
   ·have hb':b≠it:=fun z=>hb (by simp[z]);exact(hs''.2 b hb').trans (kk b ob hb' e)
   ·rw[Zo'.mp hb];exact⟨_,aeF⟩
  refine⟨.ref s.heap.objs.size,_,I1,rfl,⟨kv,_,hkv,rfl,YF,rfl⟩,⟨key,u,by rw[hl];exact aeF⟩,fun b hb=>?_⟩;rw[Zo'.mp hb,aA hne];exact fit.1
 done:=by
  intro X hP hw hK hc i pins s σ H E I hf st hg;subst hP hw hK;obtain⟨hd,hi⟩:=hg;obtain⟨a,c,hit⟩:=st;obtain⟨ho,z,hsm,vs,rel,dd⟩:=(show ck X.prog X.w H s.heap d (.ix o (.dK kvs)) from I.hok d _ hd);obtain⟨ep',da⟩:=dd.dictAt;obtain⟨dt,hdt⟩:=he;have eep:ep'=ep:=by
   obtain⟨o',es',q1,q2,q3,_⟩:=da;rw[ho]at q1;cases q1;rw[hdt]at q3;cases q3;rfl
  subst eep;have hl:=rel.length;rw[hl]at hit hi;refine wpAny_pyNext_items_end (I.ok.hd hc) hit da (List.getElem?_eq_none hi) fun h' hx'=>?_;exact⟨rfl,I.gM (tk:=s.toks) hf fun b ob hb q=>hx' b ob (fun z=>hb (by simp[z])) q⟩
 self:=fun A i s Q E st h=>by
  obtain⟨a,c,hit⟩:=st;refine wpAny_pyIter_slot ⟨_,hit,rfl⟩ PySem.F.slot_dict_itemiterator_iter (wpAny_call_entry PySem.F.slot_dict_itemiterator_iter ⟨_,hit,rfl⟩ Dz ?_ (PySem.F.args_dict_itemiterator_iter_1 _));show wpAny _ _ (ret (.ref it)) _ _ s;exact Y' ⟨_,rfl,"dict_itemiterator",_,⟨_,hit,rfl⟩,PySem.F.slot_dict_itemiterator_next.lookup,h⟩
section
variable {X:Cx}
inductive UP (R:(It->Hp->Prop))(x:V)(H1:Hp):Prop
 |mk (d:_) (kvs:_) (tQ:x=.ref d) (tR:H1 d=some (.dK kvs)) (CZ:∀ o,R (Itv d o kvs) (upd H1 d (.ix o (.dK kvs)))):UP R x H1
def agg (td:TE):TI:=fun σ H R=>td σ H fun x H1=>UP R x H1
theorem vX {o:Expr}{td:TE}{apos cpos tp:Pos}{es:List Expr}{k:Nat}(ho:PE X o td)(hbase:attributeBase o "items" X.env (eval o X.env)=eval o X.env:=by rfl)(hline:(apos.endLine==cpos.line)=true:=by rfl) :
  PI X (.Tuple es k tp) (.Call (.Attribute o "items" apos) [] [] cpos) (agg td):=by
 intro pins s σ H R I h;refine wpAny_Call_method0_late hbase hline (cu (ho pins s σ H _ I h) fun v s1 ⟨x,H1,I1,r1,d,kvs,ex,hd,q⟩=>?_);subst ex;cases r1;obtain⟨z,hsm,vs,rel,dd⟩:=Dt I1.hok hd;refine⟨"dict","dict.items",plainAttrs_dict,slot_dict_items,PySem.F.type_dict_items,dd.typeIs,dd.mapOf.noDict,Calls.callWith_builtin rfl (PySem.evalArgs_none ?_)⟩;refine call_meetsIn slot_dict_items dd.typeIs PySem.F.entry_dict_items (PySem.F.args_dict_items_1 _) (meets_dict_items (aS X.prog X.w) d hsm) ⟨⟨vs,dd⟩,?_⟩;obtain⟨ep,da⟩:=dd.dictAt;have up:∀(p:Obj) b ob,s1.heap.get? b=some ob->(s1.heap.push p).get? b=some ob:=fun p b ob e=>G' _ e;refine wpAny_pyIter_items (v:=s1.heap.objs.size) (d:=d) ⟨_,Zd' _ rfl,rfl,rfl⟩ (da.at' fun ob e=>up _ _ _ e) ?_;obtain⟨od,des,hod,hc,hdt,_⟩:=id da;have I2:Inv X pins σ H1 { s1 with heap:=(s1.heap.push { cls:=.type "dict_items",data:=.fields #[.ref d] }).push { cls:=.type "dict_itemiterator",data:=.fields #[.none,.bool false,.ref d,.int 0 0,.int vs.length 0,.int ep 0,.none,.none] } } :=
  I1.kept (t':=s1.toks) fun b ob e=>G' _ (G' _ e)
 have I3:=I2.freeze hd (G' _ (G' _ hod));have hsz:(s1.heap.push { cls:=.type "dict_items",data:=.fields #[.ref d] }).objs.size=s1.heap.objs.size+1:=Heap.size_push ..;refine⟨_,[(s1.heap.push { cls:=.type "dict_items",data:=.fields #[.ref d] }).objs.size],_,_,_,rfl,I3,Oi d _ od kvs ep ⟨des,hdt⟩,⟨.none,.none,?_⟩,fun b hb=>?_,q od⟩
 ·rw[rel.length];exact Zd' _ rfl
 ·have e:b=(s1.heap.push { cls:=.type "dict_items",data:=.fields #[.ref d] }).objs.size:=by simpa using hb
  subst e;have hb1:s1.heap.objs.size<=(s1.heap.push { cls:=.type "dict_items",data:=.fields #[.ref d] }).objs.size:=by rw[hsz];exact Nat.le_succ _
  have hn:=I1.hok.fresh hb1;exact I1.IM hb1 (by rw[aA (fun z=>by rw[z,hd]at hn;cases hn)];exact hn)
def UQ (X:Cx)(R:Hp->Prop)(H:Hp):Prop:=∃ d o kvs,H d=some (.ix o (.dK kvs))/\(∀ o v,X.H₀ d≠some (.ix o v))/\R (upd H d (.dK kvs))
def Ends.VG (X:Cx)(D:Ends):Ends:={ nx:=fun σ=>UQ X (D.nx σ),rt:=fun v=>UQ X (D.rt v),bk:=fun σ=>UQ X (D.bk σ),ct:=fun σ=>UQ X (D.ct σ) }
def aif (X:Cx)(t:TS):TS:=fun D σ H=>t (D.VG X) σ H
theorem C7 {st:Stmt}{t:TS}(h:PS X st t):PS X st (aif X t):=by
 intro pins s σ H D I q;refine wpAny_mono (h pins s σ H _ I q) (fun f s1 z=>?_) fun _ _ z=>z;cases f with
 |next=>obtain⟨σ1,H1,I1,d,o,kvs,e1,e2,w⟩:=z;exact⟨σ1,_,I1.VG e1 e2,w⟩
 |brk=>obtain⟨σ1,H1,I1,d,o,kvs,e1,e2,w⟩:=z;exact⟨σ1,_,I1.VG e1 e2,w⟩
 |cont=>obtain⟨σ1,H1,I1,d,o,kvs,e1,e2,w⟩:=z;exact⟨σ1,_,I1.VG e1 e2,w⟩
 |ret u=>obtain⟨v,σ1,H1,I1,r,d,o,kvs,e1,e2,w⟩:=z;exact⟨v,σ1,_,I1.VG e1 e2,r,w⟩
end
theorem yE {d:Addr}{o:Obj}{kvs:List (Key×V)}{g:TG}{tb:TS}{D:Ends}{σ:St}{H:Hp}(Pv:Nat->St->Hp->Prop)(h0:Pv 0 σ H)(hl:∀ i σ H,Pv i σ H->H d=some (.ix o (.dK kvs)))
  (hs:∀ i kv t σ H,kvs[i]? = some kv->Pv i σ H->H t=none->g (.ref t) σ (upd H t (.tup [kV kv.1,kv.2])) fun σ2 H2=>tb { D with nx:=Pv (i+1),ct:=Pv (i+1),bk:=D.nx } σ2 H2) (hd:∀ σ H,Pv kvs.length σ H->D.nx σ H) :
  ∃ W:Nat->Nat->St->Hp->Prop,(∃ m,W 0 m σ H)/\∀ i m σ H,W i m σ H ->
   ((Itv d o kvs).stop i H/\D.nx σ H)\/((Itv d o kvs).go i H/\∃ N:St->Hp->Prop,(∀ σ' H',N σ' H'->∃ m',m'<m/\W (i+1) m' σ' H')/\∀ x H',(Itv d o kvs).NV i H x H'->g x σ H' fun σ2 H2=>tb { D with nx:=N,ct:=N,bk:=D.nx } σ2 H2):=by
 refine⟨fun i m σ H=>m=kvs.length-i/\i<=kvs.length/\Pv i σ H,⟨kvs.length,by simp,X' _,h0⟩,?_⟩;rintro i m σ H ⟨rfl,hi,p⟩;have q:=hl i σ H p;rcases Nat.lt_or_ge i kvs.length with hlt|hge
 ·refine .inr ⟨⟨q,kvs[i],C' hlt⟩,Pv (i+1),fun σ' H' p'=>⟨_,Nat.sub_lt_sub_left hlt (Nat.lt_succ_self i),rfl,hlt,p'⟩,fun x H' y=>?_⟩;obtain⟨kv,t,e1,rfl,hn,rfl⟩:=y;exact hs i kv t σ H e1 p hn
 ·obtain rfl:i=kvs.length:=Nat.le_antisymm hi hge;exact .inl ⟨⟨q,hge⟩,hd σ H p⟩
theorem Oj {d:Addr}{o:Obj}{kvs:List (Key×V)}{g:TG}{tc:TT}{te:TE}{D:Addr}{R:Hp->Prop}{σ:St}{H:Hp}(Pv:Nat->List V->St->Hp->Prop)(h0:Pv 0 [] σ H)(hl:∀ i ys σ H,Pv i ys σ H->H d=some (.ix o (.dK kvs)))
  (hs:∀ i ys kv t σ H,kvs[i]? = some kv->Pv i ys σ H->H t=none->∀ N:List V->St->Hp->Prop,(∀ ys σ H,Pv (i+1) ys σ H->N ys σ H)->HS g tc te D ys (.ref t) σ (upd H t (.tup [kV kv.1,kv.2])) N) (hd:∀ ys σ H,Pv kvs.length ys σ H->R H):UM (Itv d o kvs) g tc te D R σ H:=by
 refine⟨fun i m ys σ H=>m=kvs.length-i/\i<=kvs.length/\Pv i ys σ H,⟨kvs.length,by simp,X' _,h0⟩,?_⟩;rintro i m ys σ H ⟨rfl,hi,p⟩;have q:=hl i ys σ H p;rcases Nat.lt_or_ge i kvs.length with hlt|hge
 ·refine .inr ⟨⟨q,kvs[i],C' hlt⟩,fun x H' y=>?_⟩;obtain⟨kv,t,e1,rfl,hn,rfl⟩:=y;exact hs i ys kv t σ H e1 p hn (fun ys' σ' H'=>∃ m',m'<kvs.length-i/\m'=kvs.length-(i+1)/\i+1<=kvs.length/\Pv (i+1) ys' σ' H') fun ys' σ' H' z=>⟨_,Nat.sub_lt_sub_left hlt (Nat.lt_succ_self i),rfl,hlt,z⟩
 ·obtain rfl:i=kvs.length:=Nat.le_antisymm hi hge;exact .inl ⟨⟨q,hge⟩,hd ys σ H p⟩
theorem YV {K:Frag}{a:Addr}{xs:List V}{g:TG}{tc:TT}{te:TE}{D:Addr}{R:Hp->Prop}{σ:St}{H:Hp}(Pv:Nat->List V->St->Hp->Prop)(h0:Pv 0 [] σ H)(hl:∀ i ys σ H,Pv i ys σ H->dz K H a xs)
  (hs:∀ i ys x σ H,xs[i]? = some x->Pv i ys σ H->∀ N:List V->St->Hp->Prop,(∀ ys σ H,Pv (i+1) ys σ H->N ys σ H)->HS g tc te D ys x σ H N) (hd:∀ ys σ H,Pv xs.length ys σ H->R H):UM (Itt K a) g tc te D R σ H:=by
 refine⟨fun i m ys σ H=>m=xs.length-i/\i<=xs.length/\Pv i ys σ H,⟨xs.length,by simp,X' _,h0⟩,?_⟩;rintro i m ys σ H ⟨rfl,hi,p⟩;have q:=hl i ys σ H p;rcases Nat.lt_or_ge i xs.length with hlt|hge
 ·refine .inr ⟨⟨xs,xs[i],q,C' hlt⟩,fun x H' y=>?_⟩;obtain⟨rfl,e1⟩:=y;exact hs i ys x σ _ (e1 xs q) p (fun ys' σ' H'=>∃ m',m'<xs.length-i/\m'=xs.length-(i+1)/\i+1<=xs.length/\Pv (i+1) ys' σ' H') fun ys' σ' H' z=>⟨_,Nat.sub_lt_sub_left hlt (Nat.lt_succ_self i),rfl,hlt,z⟩
 ·obtain rfl:i=xs.length:=Nat.le_antisymm hi hge;exact .inl ⟨⟨xs,q,hge⟩,hd ys σ H p⟩
theorem aeG {X:Cx}{es:List Expr}{t:TA}(h:PA X es t):∀ cs:List (Int×Pos),PA X ((cs.map fun c=>Expr.Constant (.int c.1) 0 c.2)++es) (fun σ H Q=>t σ H fun vs H'=>Q ((cs.map fun c=>V.int c.1)++vs) H')
 |[]=>h
 |c::cs=>aa ah (aeG h cs)
def setIn (s:Stmt)(k:Nat)(f:Stmt->Stmt):Stmt:=match s with
 |.For t i b o p=>.For t i (b.take k++f (b.getD k (.Pass ⟨0,0,0,0⟩))::b.drop (k+1)) o p
 |s=>s
def ac5 (v:List Expr)(n:Nat)(s:Stmt):Stmt:=match s with
 |.Assign ts (.Subscript (.List es lp) i sp) ap=>.Assign ts (.Subscript (.List (v++es.drop n) lp) i sp) ap
 |s=>s
end L2
namespace L2
open PySem PySem.Spec PyProof.Rows
section
variable {prog:Program} {w:World} {A:Around} {E:Value->Shared->Prop} {s:Shared}
end
section
variable {X:Cx} {pins:List (Addr×Obj)} {σ:St} {H:Hp} {s:Shared} {E:Value->Shared->Prop} {P:Addr} {lp:Pos} {params:Arguments} {body:Expr} {scope:Scope} {Q:Value->Shared->Prop}
end
section
open Att
variable {X:Cx} {P:Addr} {lp:Pos}
end
end L2
namespace L2
open PySem PySem.Spec PyProof.Rows
instance akg (k:Key) (l:List Key):Decidable (k∈l):=@List.instDecidableMemOfLawfulBEq Key instBEqOfDecidableEq inferInstance k l
def Jm:List Key->List Key
 |[]=>[]
 |k::t=>if k∈t then Jm t else k::Jm t
theorem Jn:∀(l:List Key),(Jm l).length<=l.length
 |[]=>A' _
 |x::t=>by
  unfold Jm;have:=Jn t;split
  ·exact Nat.le_succ_of_le this
  ·rw[Zp',Zp'];omega
theorem HZ:∀(l:List Key),(Jm l).length=l.length ↔ l.Nodup
 |[]=>⟨fun _=>.nil,fun _=>rfl⟩
 |x::t=>by
  unfold Jm;have h1:=Jn t;have h2:=HZ t
  by_cases h:x∈t
  ·rw[S' h];exact⟨fun e=>by rw[Zp']at e;omega,fun e=>j' h (List.nodup_cons.mp e).1⟩
  ·rw[M' h,Zp',Zp',List.nodup_cons];exact⟨fun e=>⟨h,h2.mp (by omega)⟩,fun e=>by have:=h2.mpr e.2;omega⟩
def DA (P:Program)(w:World)(h:Heap)(S:Addr)(ks:List Key):Prop:=h.SetOf (aS P w) S (fun k=>decide (k∈ks)) (Jm ks).length
section
variable {P:Program} {w:World} {A:Around} {E:Value->Shared->Prop} {s:Shared}
theorem DA.other {h h':Heap}{S:Addr}{ks:List Key}(x:DA P w h S ks)(k:∀ o,h.get? S=some o->h'.get? S=some o):DA P w h' S ks:=by
 obtain⟨o,es,ep,t,ho,r⟩:=x;exact⟨o,es,ep,t,k o ho,r⟩
theorem YW {a:Addr}{ks:List Key}{k:Key}{v:Value}{Q:Bool->Shared->Prop}(hk:(aS P w).is k v=true)(hv:v.scannable=true)(hS:DA P w s.heap a ks)(hroom:ks.length+1<scanBound)
  (h:∀ h' b,Heap.SameBut a s.heap h'->DA P w h' a (k::ks)->Q b { s with heap:=h' }):wpAny (model P w) A (setAddHashed a v ((aS P w).hash k)) Q E s:=by
 refine wpAny_setAddHashed_of hk hv hS (Nat.lt_of_le_of_lt (Nat.succ_le_succ (Jn ks)) hroom) fun h' sb hS'=>h h' _ sb ?_;have e1:(fun k'=>decide (k'∈ks)||decide (k'=k))=fun k'=>decide (k'∈k::ks):=by
  funext k'
  rw[<-Bool.decide_or];exact decide_eq_decide.mpr ⟨fun z=>z.elim (Zl' _) (fun e=>e ▸ mem_cons_self),fun z=>(List.mem_cons.mp z).symm⟩
 have e2:(if(decide (k∈ks))=true then(Jm ks).length else(Jm ks).length+1)=(Jm (k::ks)).length:=by
  show _=(if k∈ks then Jm ks else k::Jm ks).length
  by_cases z:k∈ks
  ·rw[S' z,S' (W' z)]
  ·rw[M' z,M' (fun y=>z (J' y))];rfl
 rw[e1,e2]at hS';exact hS'
theorem VH {R:Result->Shared->Prop}{I S:Addr}{fp wr:List Addr}{G:Array GenState->Array GenState->Prop}{n:Nat}{Pv:Nat->Value->Prop}{St':Nat->Shared->Prop}(W:WalksS P w A.in1 I fp wr G n Pv St')(hS:S ∉ fp)(key:Nat->Key)
  (hkey:∀ i v,Pv i v->(aS P w).is (key i) v=true/\v.scannable=true) (hn:n+1<scanBound) :
  ∀(k i:Nat)(s:Shared)(ks:List Key),n-i=k->i<=n->ks=((List.range i).map key).reverse->St' i s->DA P w s.heap S ks ->
   (∀ s',Moved (S::wr) G s s'->DA P w s'.heap S (((List.range n).map key).reverse)->R (.ok (.ret .none)) s')->codeAny (model P w) A (.builtin "set.update.loop" ⟨[.ref S,.ref I],[]⟩) R s:=by
 have nS:S ∉ wr:=fun z=>hS (W.sub _ z);have up:∀ b∈wr,b∈S::wr:=fun b z=>Zl' _ z;intro k
 induction k with
 |zero =>
  intro i s ks h1 h2 h3 st sk fin;obtain rfl:i=n:=by omega
  refine codeAny_builtin PyProof.Rows.F.entry_set_update_loop ?_;rw[Around.under_plainId PyProof.Rows.F.plain_set_update_loop];show wpAny (model P w) A.in1 (pyNext (.ref I) >>= _) _ _ s;exact L' (W.done s _ _ st fun s' mv=>Y' (fin s' (mv.mono up) (h3 ▸ sk.other fun o e=>mv.heap S o nS e)))
 |succ k ih =>
  intro i s ks h1 h2 h3 st sk fin;have hi:i<n:=by omega
  refine codeAny_builtin PyProof.Rows.F.entry_set_update_loop ?_;rw[Around.under_plainId PyProof.Rows.F.plain_set_update_loop];show wpAny (model P w) A.in1 (pyNext (.ref I) >>= _) _ _ s;refine L' (W.item i s _ _ hi st fun v s' pv st' mv=>?_);obtain⟨hk,hsc⟩:=hkey i v pv;show wpAny (model P w) A.in1 (holding [v] (setAdd S v) >>= _) _ _ s';refine L' (wpAny_holding ?_);unfold setAdd;refine wpAny_holding (L' ((aS P w).pyHash hk ?_));have kl:ks.length=i:=by rw[h3];simp
  refine YW (s:={ s' with toks:=s'.toks+1 }) hk hsc (sk.other fun o e=>mv.heap S o nS e) (by omega) fun h' b sb sk'=>?_;refine Y' ⟨plainId_quiet PyProof.Rows.F.plain_set_update_loop _,ih (i+1) _ (key i::ks) (by omega) hi ?_ (W.frame _ s' _ _ st' (Nat.le_succ _) fun c hc o e=>?_) sk' fun s2 mv2 sk2=>?_⟩
  ·rw[h3,List.range_succ,map_append,List.reverse_append];rfl
  ·rw[sb.2 c (fun z:c=S=>hS (z ▸ hc))];exact e
  ·refine fin s2 (Moved.trans W.gtrans ((mv.mono up).then_heap (Nat.le_succ _) fun c o hc e=>?_) mv2) sk2;rw[sb.2 c (fun z:c=S=>hc (z ▸ mem_cons_self))];exact e
end
end L2
namespace PySem
section
open PyProof.Rows (setObjOf_fresh SetOf_congr)
variable {P:Program} {w:World} {A:Around} {E:Value->Shared->Prop} {s:Shared}
open L2 in
theorem VI {l:Addr}{items:Array Value}{key:Nat->Key}{Q:Value->Shared->Prop}(calm:A.handled=none)(li:s.heap.IsList l items)(hkey:∀ i v,items[i]? = some v->(aS P w).is (key i) v=true/\v.scannable=true)(room:items.size+1<scanBound)
  (h:∀(h':Heap)(tk:Nat),DA P w h' s.heap.objs.size (((List.range items.size).map key).reverse)->(∀ b o,b<s.heap.objs.size->s.heap.get? b=some o->h'.get? b=some o)->Q (.ref s.heap.objs.size) { s with heap:=h',toks:=tk }) :
  wpAny (model P w) A (call (.type "set") [.ref l]) Q E s:=by
 have made:=F.called_set;obtain⟨c,tl,mro⟩:=made.mro;have m1:=made.made;have m2:=made.sub;have m3:=made.notType;have m4:=made.canCreate;have m5:=F.typeCall_set_1 (.ref l);refine wpAny_call (codeAny_of_tree ?_);show wpAny (model P w) _ (callAny (.type "set") _) _ _ s;refine Y' ⟨Code.quiet_builtin _ (by lk),codeAny_builtin F.entry_type_call ?_⟩;rw[Around.under_plain (weight_type_call_type "set" [Value.ref l] []) rfl]
 repeat (any_goals (first|wp_step|assumption))
 refine codeAny_mono (code_set_new_1 (.ref l) (E:=E) (Q₁:=fun o s1=>∃ led:Bool,s1 = { s with heap:=s.heap.push { cls:=.type "set",dict:=none,data:=.set #[] 0 (.fresh 0 0 led) } }/\o=.ref s.heap.objs.size) fun led=>⟨led,rfl,rfl⟩) fun r s1 hr=>?_;cases r with
 |error e=>exact hr
 |ok fl =>
  cases fl with
  |next=>exact hr.elim
  |brk=>exact hr.elim
  |cont=>exact hr.elim
  |ret ob =>
   obtain⟨led,rfl,rfl⟩:=hr;generalize hO:({ cls:=.type "set",dict:=none,data:=.set #[] 0 (.fresh 0 0 led) }:Obj)=O;have hget:(s.heap.push O).get? s.heap.objs.size=some O:=Zd' _ (by rw[<-hO];rfl);have hty:Shared.TypeIs { s with heap:=s.heap.push O } (.ref s.heap.objs.size) "set":=⟨O,hget,by rw[<-hO]⟩;have i1:=made.init.lookup;have i2:=made.init.bind (.ref s.heap.objs.size)
   repeat (any_goals (first|wp_step|assumption))
   refine codeAny_mono (codeAny_call_builtin (R:=wants (fun r s2=>r=.none/\∃ h' tk,s2 = { s with heap:=h',toks:=tk }/\DA P w h' s.heap.objs.size (((List.range items.size).map key).reverse)/\∀ b o,b<s.heap.objs.size->s.heap.get? b=some o->h'.get? b=some o) E) made.init.plain F.entry_set_init (check_set_init_1 hty ?_)) fun r2 s2 hr2=>?_
   ·subst hO;obtain⟨ol,e1,e2,nl,e3⟩:=li;obtain⟨oc,od,oda,osl⟩:=ol;dsimp only at e2 e3;subst e2 e3;have e4:=G' { cls:=.type "set",dict:=none,data:=.set #[] 0 (.fresh 0 0 led) } e1;have t1:=F.sub_list_set;have t2:=F.sub_list_frozenset;have t3:(Value.type "list" == Value.type "dict")=false:=by decide
    have li1:(s.heap.push { cls:=.type "set",dict:=none,data:=.set #[] 0 (.fresh 0 0 led) }).IsList l items:=⟨_,e4,rfl,nl,rfl⟩;unfold Builtin.«set.__init__» noKeywords Builtin.Frozenset.updateFrom;generalize hIt:pyIter=It
    wp_walk
    subst hIt;refine wpAny_pyIter_list li1 (L' (wpAny_runValue ?_));have lt:l<s.heap.objs.size:=P' e1;have sz:(s.heap.push { cls:=.type "set",dict:=none,data:=.set #[] 0 (.fresh 0 0 led) }).objs.size=s.heap.objs.size+1:=Heap.size_push ..;have aih:A.in1.in1.in1.handled=none:=by simp[calm]
    have n1:l≠(s.heap.push { cls:=.type "set",dict:=none,data:=.set #[] 0 (.fresh 0 0 led) }).objs.size:=by rw[sz];exact Za' (Nat.lt_succ_of_lt lt)
    have n2:s.heap.objs.size ∉ [(s.heap.push { cls:=.type "set",dict:=none,data:=.set #[] 0 (.fresh 0 0 led) }).objs.size,l]:=by
     rw[sz];simp only [List.mem_cons,List.not_mem_nil,or_false,not_or];exact⟨Za' (Nat.lt_succ_self _),Nat.ne_of_gt lt⟩
    refine VH (A:=A.in1.in1) (Walks.list aih _ l n1 items).toS n2 key hkey room (items.size-0) 0 _ [] (by omega) (X' _) rfl ⟨⟨_,Zd' _ rfl,rfl,rfl⟩,li1.push _⟩ ?_ fun s' mv sk=>?_
    ·have hg2:=G' { cls:=.type "list_iterator",data:=.fields #[.ref l,.int 0 0] } hget;exact⟨_,#[],0,_,hg2,⟨rfl,rfl,rfl⟩,rfl,fun e he=>by simp at he,fun k=>by simp,by decide,by rfl,rfl⟩
    ·obtain⟨h',g',d',tk',os'⟩:=s';cases (show g'=s.gens from mv.gens);cases (show d'=s.drawn from mv.drawn);cases (show os'=s.os from mv.os);show wpAny (model P w) _ _ _ _ _;refine Y' ?_;show wpAny (model P w) _ (ret Value.none) _ _ _;refine Y' ⟨rfl,h',tk',rfl,sk,fun b o hb e=>mv.heap b o ?_ (G' _ (G' _ e))⟩;rw[sz];simp only [List.mem_cons,List.not_mem_nil,or_false,not_or];exact⟨Za' hb,Za' (Nat.lt_succ_of_lt hb)⟩
   ·cases r2 with
    |error e=>exact hr2
    |ok f2 =>
     cases f2 with
     |next=>exact hr2.elim
     |brk=>exact hr2.elim
     |cont=>exact hr2.elim
     |ret r =>
      obtain⟨rfl,h',tk,rfl,k1,k2⟩:=hr2
      repeat (any_goals (first|wp_step|assumption))
      exact h h' tk k1 k2
end
end PySem
namespace L2
open PySem PySem.Spec PyProof.Rows
section
variable {X:Cx}
def ac6 (P:Program)(w:World)(a:Addr)(ks:List Key):HO:=.ext fun h=>DA P w h a ks
theorem ac7 {P:Program}{w:World}{H:Hp}{h:Heap}{a:Addr}{ks:List Key}(x:DA P w h a ks):ck P w H h a (ac6 P w a ks):=by
 refine⟨x,?_,fun h1 h2 y k=>y.other k⟩;obtain⟨o,es,ep,t,ho,_⟩:=x;exact⟨o,ho⟩
theorem VJ {P:Program}{w:World}{x:Str}{v:Value}(h:RelV (.str x) v):(aS P w).is (Sum.inr x) v=true/\v.scannable=true:=by
 obtain⟨t,rfl⟩:=h;exact⟨by show Value.isStrOf x (.str x t)=true;simp[Value.isStrOf],rfl⟩
theorem VL (hc:X.calm=true):eS X (.type "set") (fun xs H Q=>∃(p:Addr)(ns:List Str),xs=[.ref p]/\aR X.K H p (ns.map V.str)/\ns.length<=900/\∀ a,H a=none->Q (.ref a) (upd H a (ac6 X.prog X.w a ((ns.map Sum.inr).reverse)))):=by
 intro pins s σ H xs us Q I r h;obtain⟨p,ns,rfl,hp,hn,q⟩:=h;obtain⟨u,rfl,rx⟩:=vals1 r;cases rx;obtain⟨its,ri,pl,_⟩:=I.list hp;have agh:its.length=ns.length:=by have:=ri.length;rw[K']at this;exact this.symm
 have at_:∀ i v,its.toArray[i]? = some v->(aS X.prog X.w).is ((fun i=>Sum.inr (ns.getD i Str.empty)) i) v=true/\v.scannable=true:=fun i v e=>by
  have e':its[i]? = some v:=by simpa using e
  have hi:i<ns.length:=by rw[<-agh];exact(B'.mp e').1
  obtain⟨y,hy,ry⟩:∃ y,(ns.map V.str)[i]? = some y/\RelV y v:=by
   obtain⟨u,hu,ru⟩:=ri.get (show(ns.map V.str)[i]? = some (.str ns[i]) by rw[Zi',C' hi];rfl);rw[e']at hu;cases hu;exact⟨_,by rw[Zi',C' hi];rfl,ru⟩
  rw[Zi',C' hi]at hy;cases hy;have:ns.getD i Str.empty=ns[i]:=by rw[T',C' hi];rfl
  show(aS X.prog X.w).is (Sum.inr (ns.getD i Str.empty)) v=true/\_;rw[this];exact VJ ry
 refine VI (key:=fun i=>Sum.inr (ns.getD i Str.empty)) (I.ok.hd hc) pl.isList at_ (by rw[Ze',agh];exact Nat.lt_of_le_of_lt (Nat.succ_le_succ hn) (by decide)) fun h' tk sk keep=>?_;have hsz:H s.heap.objs.size=none:=I.hok.fresh (A' _);have ek:((List.range its.toArray.size).map fun i=>(Sum.inr (ns.getD i Str.empty):Key))=ns.map Sum.inr:=by
  rw[Ze',agh];refine List.ext_getElem? fun i=>?_;rw[Zi',Zi']
  by_cases hi:i<ns.length
  ·rw[List.getElem?_range hi,C' hi];show some (Sum.inr (ns.getD i Str.empty))=some (Sum.inr ns[i]);rw[T',C' hi];rfl
  ·rw[List.getElem?_eq_none (by simp;omega),List.getElem?_eq_none (by omega)];rfl
 rw[ek]at sk;have old:∀ b o,s.heap.get? b=some o->h'.get? b=some o:=fun b o e=>keep b o (P' e) e;exact⟨.ref s.heap.objs.size,_,I.un (Un.laid old (A' _) hsz) (I.hok.laid old (A' _) (ac7 sk)),rfl,q _ hsz⟩
theorem VM:eS X (.builtin "len") (fun xs H Q=>∃(a:Addr)(ks:List Key),xs=[.ref a]/\H a=some (ac6 X.prog X.w a ks)/\ks.length<=900/\Q (.int ((Jm ks).length:Nat)) H):=by
 intro pins s σ H xs us Q I r h;obtain⟨a,ks,rfl,ha,hk,q⟩:=h;obtain⟨u,rfl,rx⟩:=vals1 r;cases rx;obtain⟨o,es,ep,t,ho,hex,hd,_,_,hb,hf,hn⟩:=(I.hok a _ ha).1;have hl:(Jm ks).length<=900:=Zk' (Jn ks) hk;have hl2:(((Jm ks).length:Nat):Int)<2 ^ 63:=Int.lt_of_le_of_lt (show(((Jm ks).length:Nat):Int)<=900 by omega) (by decide);refine call_len_set ho hex hd hf (by rw[hn];exact hl2) ?_;rw[hn];exact⟨.int ((Jm ks).length:Nat),H,(I.tok _).tok _,⟨_,rfl⟩,q⟩
end
end L2
namespace L2
open PySem PySem.Spec PyProof.Rows
theorem pC {x:Str}{c:Addr}:∀(l:List (Str×NameKind)) (n:Nat) (acc:List (Str×Addr)),(cellsFrom n l acc).lookup x=some c->acc.lookup x=some c\/((x,NameKind.cell)∈l/\n<=c)
 |[],_,_,h=>.inl h
 |(y,k)::l,n,acc,h=>by
  unfold cellsFrom at h;split at h
  ·rename_i hk
   rcases pC l _ _ h with z|⟨z,e⟩
   ·rw[List.lookup_cons]at z;cases hx:(x==y) with
    |true =>
     rw[hx]at z;have e1:x=y:=by simpa using hx
     have e2:k=.cell:=by simpa using hk
     cases z;exact .inr ⟨by rw[e1,e2];exact mem_cons_self,A' _⟩
    |false =>
     rw[hx]at z;exact .inl z
   ·exact .inr ⟨Zl' _ z,by omega⟩
  ·rcases pC l _ _ h with z|⟨z,e⟩
   ·exact .inl z
   ·exact .inr ⟨Zl' _ z,e⟩
theorem yF:∀(l:List (Str×NameKind)) (n:Nat) (acc:List (Str×Addr)),(∀ x c,acc.lookup x=some c->c<n)->(∀ x y c,acc.lookup x=some c->acc.lookup y=some c->x=y) ->
  ∀ x y c,(cellsFrom n l acc).lookup x=some c->(cellsFrom n l acc).lookup y=some c->x=y
 |[],_,_,_,h2,x,y,c,a,b=>h2 x y c a b
 |(z,k)::l,n,acc,h1,h2,x,y,c,a,b=>by
  unfold cellsFrom at a b;split at a
  ·rename_i hk
   rw[S' hk]at b;refine yF l (n+1) ((z,n)::acc) (fun x c e=>?_) (fun x y c e1 e2=>?_) x y c a b
   ·rw[List.lookup_cons]at e;split at e
    ·cases e;exact Nat.lt_succ_self _
    ·exact Nat.lt_succ_of_lt (h1 x c e)
   ·rw[List.lookup_cons]at e1 e2;split at e1
    ·rename_i x1
     split at e2
     ·rename_i x2
      rw[beq_iff_eq.mp x1,beq_iff_eq.mp x2]
     ·cases e1;exact j' (h1 _ _ e2) (Nat.lt_irrefl _)
    ·split at e2
     ·cases e2;exact j' (h1 _ _ e1) (Nat.lt_irrefl _)
     ·exact h2 x y c e1 e2
  ·rename_i hk
   rw[M' hk]at b;exact yF l n acc h1 h2 x y c a b
theorem yG:∀(l:List (Str×NameKind)) (h:Heap) (acc:List (Str×Addr)),(∀ x c,acc.lookup x=some c->∃ v,h.IsCell c v)->∀ x c,(cellsFrom h.objs.size l acc).lookup x=some c->∃ v,(pushCells h l).IsCell c v
 |[],_,_,h1,x,c,e=>h1 x c e
 |(z,k)::l,h,acc,h1,x,c,e=>by
  unfold cellsFrom at e;unfold pushCells;split at e
  ·rename_i hk
   rw[S' hk];have sz:h.objs.size+1=(h.push { cls:=.type "cell",data:=.cell none }).objs.size:=(Heap.size_push ..).symm;rw[sz]at e;refine yG l _ _ (fun x c e=>?_) x c e;rw[List.lookup_cons]at e;split at e
   ·cases e;exact⟨none,_,Zd' _ rfl,rfl⟩
   ·obtain⟨v,o,ho,hd⟩:=h1 x c e;exact⟨v,o,G' _ ho,hd⟩
  ·rename_i hk
   rw[M' hk];exact yG l h acc h1 x c e
theorem vY {M:Model}{A:Around}{E:Value->Shared->Prop}{s:Shared}{scope:Scope}{globals:Addr}{cl:List (Str×Addr)}{qual:Str}{outer:Env}{Q:Env->Shared->Prop}
  (hQ:Q { scope,locals:=s.heap.objs.size,globals,cells:=cellsFrom (s.heap.objs.size+1) scope.names cl,qual,func:=none,code:=outer.code,frame:=outer.frame,builtins:=outer.builtins } { s with heap:=pushCells (s.heap.push { cls:=.type "dict",data:=.dict #[] }) scope.names }) :
  wpAny M A (newFunctionEnv scope globals cl [] qual none .none (some outer)) Q E s:=by
 simp only [newFunctionEnv,Option.isSome_some,if_true];refine L' (wpAny_alloc ?_);refine L' (wpAny_layCells _ (fun name kind cells=>by cases hkc:kind==NameKind.cell <;> simp[hkc]) _ _ _ _ ?_);rw[show({ s with heap:=s.heap.push { cls:=.type "dict",data:=.dict #[] } }:Shared).heap.objs.size=s.heap.objs.size+1 from Heap.size_push ..];rw[List.forIn_nil];exact L' (Y' (Y' hQ))
def cw (X:Cx)(cn:List Str)(scope:Scope)(b:Bk):Cx where
 prog:=X.prog
 w:=X.w
 K:=X.K
 mg:=X.mg
 base:=X.base
 A:=X.A
 N:=cn++X.N
 s₀:=b.s₂
 H₀:=b.aqo
 env:=compEnvC scope (cellsFrom (b.C+1) scope.names (bc X.env scope.names [])) b.C X.env
 outer:=X.stack
 stack:=X.stack
 ex:=b.fp
 fn:=fun x=>scope.names.lookup x==some .cell
 calm:=X.calm
 pn:=[]
 xe:=b.xe
def UR (sc:Scope)(N:List Str)(scope:Scope):Bool :=
 (scope.kind == .function)&&(decide ((scope.names.map (·.1)).Nodup)) &&
 (scope.names.all fun p=>((p.2 != .free)||(sc.names.lookup p.1==some .cell)||(sc.names.lookup p.1==some .free))) &&
 (N.all fun x=>scope.names.lookup x != some .local&&scope.names.lookup x != some .cell)
structure jZ (sc:Scope)(N:List Str)(scope:Scope):Prop where
 kind:scope.kind=.function
 nd:(scope.names.map (·.1)).Nodup
 free:∀ p∈scope.names,p.2=.free->sc.names.lookup p.1=some .cell\/sc.names.lookup p.1=some .free
 apart:∀ x∈N,scope.names.lookup x≠some .local/\scope.names.lookup x≠some .cell
theorem jZ.of {sc:Scope}{N:List Str}{scope:Scope}(h:UR sc N scope=true):jZ sc N scope:=by
 unfold UR at h;rw[Bool.and_eq_true,Bool.and_eq_true,Bool.and_eq_true]at h;obtain⟨⟨⟨h1,h0⟩,h2⟩,h3⟩:=h;rw[all_eq_true]at h2 h3;refine⟨by simpa using h1,J' h0,fun p hp e=>?_,fun x hx=>?_⟩
 ·have q:=h2 p hp;rw[e]at q;rw[Bool.or_eq_true,Bool.or_eq_true]at q;rcases q with (q|q)|q
  ·exact j' q (by decide)
  ·exact .inl (by simpa using q)
  ·exact .inr (by simpa using q)
 ·have:=h3 x hx
  simpa using this
theorem vZ {x:Str}{k:NameKind}:∀{l:List (Str×NameKind)},(l.map (·.1)).Nodup->(x,k)∈l->l.lookup x=some k
 |[],_,h=>nomatch h
 |(y,j)::l,nd,h=>by
  rw[map_cons,List.nodup_cons]at nd;rw[List.lookup_cons];rcases List.mem_cons.mp h with e|h0
  ·cases e;simp
  ·have:(x==y)=false:=by
    rw[beq_eq_false_iff_ne];rintro rfl;exact nd.1 (mem_map.mpr ⟨(x,k),h0,rfl⟩)
   rw[this];exact vZ nd.2 h0
theorem jZ.loc {sc:Scope}{N:List Str}{scope:Scope}(F:jZ sc N scope):∀ p∈scope.names,p.2=.local->scope.names.lookup p.1=some .local:=fun p hp e=>vZ F.nd (by rw[<-e];exact hp)
section
variable {X:Cx} {pins:List (Addr×Obj)} {σ:St} {H:Hp}
theorem Inv.agi {s₂:Shared}{h₁:Heap}{tk:Nat}{cn:List Str}{scope:Scope}{fp:List Addr}{xe:Value->Shared->Prop}{C D:Addr}{m:Str->Option Value}
  (I:Inv X pins σ H s₂) (F:jZ X.env.scope X.N scope) (hc:X.calm=true) (hf:∀ b∈fp,jh X pins H b) (hfl:∀ b∈fp,b<s₂.heap.objs.size)
  (hC:s₂.heap.objs.size<=C) (hD:s₂.heap.objs.size<=D) (hDC:D<C) (hn:h₁.Ns C m) (old:∀ b o,s₂.heap.get? b=some o->h₁.get? b=some o)
  (hcs:(∀ x c,(bc X.env scope.names []).lookup x=some c->∃ v,s₂.heap.IsCell c v)->∀ x c,(cellsFrom (C+1) scope.names (bc X.env scope.names [])).lookup x=some c->∃ v,h₁.IsCell c v)
  (hacc:h₁.get? D=some { cls:=.type "list",data:=.seq ([]:List Value).toArray 0 }) :
  Inv (cw X cn scope ⟨C,s₂,H,fp,xe⟩) [] (List.replicate cn.length none++σ) (upd H D (.lst [])) { s₂ with heap:=h₁,toks:=tk }:=by
 have kinds:∀ x,((cw X cn scope ⟨C,s₂,H,fp,xe⟩).env.kindOf x=some .cell\/(cw X cn scope ⟨C,s₂,H,fp,xe⟩).env.kindOf x=some .free)->(x,NameKind.free)∈scope.names\/(x,NameKind.cell)∈scope.names:=by
  intro x hx;have hx':(relabel scope X.env).names.lookup x=some .cell\/(relabel scope X.env).names.lookup x=some .free:=hx;rcases hx' with z|z
  ·rcases bU scope.names z with z|⟨_,z⟩
   ·exact .inr (cf z)
   ·exact .inl (cf z)
  ·rcases bU scope.names z with z|⟨e,_⟩
   ·exact .inl (cf z)
   ·cases e
 have both:∀ x,(x,NameKind.free)∈scope.names->(x,NameKind.cell)∈scope.names->False:=fun x a b=>by
  have e1:=vZ F.nd a;have e2:=vZ F.nd b;rw[e1]at e2;cases e2
 have mV:∀ x,(x,NameKind.free)∈scope.names->X.env.kindOf x=some .cell\/X.env.kindOf x=some .free:=fun x hx=>F.free _ hx rfl;have tD:∀ x c,(bc X.env scope.names []).lookup x=some c->X.env.cells.lookup x=some c/\(x,NameKind.free)∈scope.names:=by
  intro x c e;rcases tq _ _ e with z|⟨z,e2⟩
  ·cases z
  ·obtain⟨c',hc'⟩:=I.ok.has x (mV x z);refine⟨?_,z⟩;rw[hc']at e2 ⊢;rw[e2];rfl
 have cY:∀ x c,(cellsFrom (C+1) scope.names (bc X.env scope.names [])).lookup x=some c->X.env.cells.lookup x=some c\/((x,NameKind.cell)∈scope.names/\C+1<=c):=by
  intro x c e;rcases pC _ _ _ e with z|z
  ·exact .inl (tD x c z).1
  ·exact .inr z
 have ahT:(cw X cn scope ⟨C,s₂,H,fp,xe⟩).fs=frs X.stack:=rfl;have Yx:∀ b∈fp,b ∉ frs X.stack:=by
  intro b hb z;obtain⟨_,f1,f2,_⟩:=hf b hb;rcases List.mem_cons.mp (I.Dj b z) with e|e
  ·exact f1 e
  ·exact f2 e
 have yA:∀ x c,X.env.cells.lookup x=some c->c<s₂.heap.objs.size:=by
  intro x c e;obtain⟨v,o,ho,_⟩:=I.cell x c e;exact P' ho
 have YX:∀ x c,(x,NameKind.free)∈scope.names->X.env.cells.lookup x=some c->(cellsFrom (C+1) scope.names (bc X.env scope.names [])).lookup x=some c:=by
  intro x c hfr ec;have h1:=ly (env:=X.env) (x:=x) scope.names [] (.inr hfr);obtain⟨c',e'⟩:=Option.isSome_iff_exists.mp (cellsFrom_some (x:=x) scope.names (C+1) (bc X.env scope.names []) (.inr h1));rw[e'];rcases cY x c' e' with z|⟨z,_⟩
  ·rw[ec]at z;exact z.symm
  ·exact(both x hfr z).elim
 have ok:(cw X cn scope ⟨C,s₂,H,fp,xe⟩).Ok:=by
  refine⟨I.ok.mod,?_,I.ok.glob,I.ok.blt,hC,?_,fun x hx=>?_,fun x c z e=>?_,fun _=>I.ok.hd hc,I.ok.frames,.inl rfl,fun b hb=>⟨?_,fun x c e=>?_⟩,
   fun b o e=>I.bs b o e,Zk' I.ok.LJ I.sz,fun b o e hb=>?_,fun b hb=>?_,I.stack,I.CY⟩
  ·show(relabel scope X.env).kind=.function;exact F.kind
  ·exact yF _ _ _ (fun x c e=>Nat.lt_succ_of_lt (U' (yA x c (tD x c e).1) hC)) (fun x y c h1 h2=>I.ok.inj x y c (tD x c h1).1 (tD y c h2).1)
  ·refine Option.isSome_iff_exists.mp (cellsFrom_some (x:=x) scope.names (C+1) (bc X.env scope.names []) ?_);rcases kinds x hx with z|z
   ·exact .inr (ly (env:=X.env) (x:=x) scope.names [] (.inr z))
   ·exact .inl (vZ F.nd z)
  ·have z:(scope.names.lookup x==some .cell)=true:=z;have z:scope.names.lookup x=some .cell:=by simpa using z
   rcases pC _ _ _ e with w|⟨_,w⟩
   ·exact(both x (tD x c w).2 (cf z)).elim
   ·exact Zk' hC (Nat.le_of_succ_le w)
  ·exact Za' (U' (hfl b hb) hC)
  ·rcases cY x c e with z|⟨_,z⟩
   ·exact(hf b hb).2.2.2.2.1 x c z
   ·exact Yb' (Za' (U' (hfl b hb) (Zk' hC (Nat.le_of_succ_le z))))
  ·have:X.base.objs.size<=X.s₀.heap.objs.size:=I.ok.LJ;rcases (hf b hb).2.2.2.1 with z|z
   ·exact I.ok.IJ b o e z
   ·exact j' (U' (P' e) (Zk' I.ok.LJ z)) (Nat.lt_irrefl _)
  ·exact Yx b hb
 have hDn:H D=none:=I.hok.fresh hD;have Yy:qN X.prog X.w (upd H D (.lst [])) h₁:=I.hok.laid old hD ⟨X' _,[],0,.nil,hacc⟩;refine⟨ok,rfl,I.bare,Un.laid old hD hDn,⟨m,hn,fun i x v e1 e2 e3=>?_⟩,?_,?_,fun x c e=>?_,fun p hp=>j' (show p∈([]:List (Addr×Obj)) from hp) (by simp),Yy,?_⟩
 ·have hi:¬ i<cn.length:=by
   intro hi;rw[List.getElem?_append_left (by simpa using hi),List.getElem?_replicate]at e2;split at e2 <;> cases e2
  rw[getElem?_append_right (by simpa using hi),List.length_replicate]at e2;have e1':(cn++X.N)[i]? = some x:=e1;rw[getElem?_append_right (by omega)]at e1';obtain⟨m0,hm0,hl⟩:=I.loc;have hxN:x∈X.N:=V' e1';have e3':(relabel scope X.env).names.lookup x=some .local\/(relabel scope X.env).names.lookup x=some .cell\/(relabel scope X.env).names.lookup x=some .free:=e3;have hfr:(x,NameKind.free)∈scope.names:=by
   rcases e3' with z|z|z
   ·rcases bU scope.names z with z|⟨e,_⟩
    ·exact j' z (F.apart x hxN).1
    ·cases e
   ·rcases bU scope.names z with z|⟨_,z⟩
    ·exact j' z (F.apart x hxN).2
    ·exact cf z
   ·rcases bU scope.names z with z|⟨e,_⟩
    ·exact cf z
    ·cases e
  have hk:=mV x hfr;have vis:Vis X.env.scope x:=by
   rcases hk with z|z
   ·exact .inr (.inl z)
   ·exact .inr (.inr z)
  obtain⟨u,r,lk⟩:=hl (i-cn.length) x v e1' e2 vis;refine⟨u,r,?_⟩;rcases lk with ⟨z,_⟩|⟨_,c,ec,z⟩
  ·rcases hk with q|q
   ·rw[z]at q;cases q
   ·rw[z]at q;cases q
  ·refine .inr ⟨?_,c,YX x c hfr ec,?_⟩
   ·rcases e3' with y|y|y
    ·rcases bU scope.names y with y|⟨e,_⟩
     ·exact j' y (F.apart x hxN).1
     ·cases e
    ·exact .inl y
    ·exact .inr y
   ·obtain⟨o,ho,hd⟩:=z;exact⟨o,old c o ho,hd⟩
 ·exact hcs fun x c e=>I.cell x c (tD x c e).1
 ·show upd H D (.lst []) C=none;rw[aA (Nat.ne_of_gt hDC)];exact I.hok.fresh hC
 ·rcases cY x c e with z|⟨_,z⟩
  ·rw[aA (Za' (U' (yA x c z) hD))];exact I.lu x c z
  ·have z':C<c:=z;rw[aA (Nat.ne_of_gt (Nat.lt_trans hDC z'))];exact I.hok.fresh (Zk' hC (Nat.le_of_lt z'))
 ·show(List.replicate cn.length none++σ).length=(cn++X.N).length;rw[Zj',List.length_replicate,Zj',I.len]
theorem Inv.YY {s₂ s':Shared}{h':Heap}{cn:List Str}{scope:Scope}{fp:List Addr}{xe:Value->Shared->Prop}{C:Addr}{H':Hp}{σ':St}{pl:List (Addr×Obj)}
  (I:Inv X pins σ H s₂) (hf:∀ b∈fp,jh X pins H b) (hC:s₂.heap.objs.size<=C) (J:Inv (cw X cn scope ⟨C,s₂,H,fp,xe⟩) pl σ' H' s') (sb:Heap.SameBut C s'.heap h') :
  Inv X pins σ H' { s' with heap:=h' }:=by
 have XZ:∀ b o,s₂.heap.get? b=some o->b≠C:=fun b o e=>Za' (U' (P' e) hC);have u:Un (frs X.stack) fp H H' s₂.heap s'.heap:=J.base;have un:Un (frs X.stack) fp H H' s₂.heap h' :=
  ⟨fun b o e n hb hx=>(sb.2 b (XZ b o e)).trans (u.keep b o e n hb hx),
   fun b o e n hb hx=>by
   obtain⟨sl,q⟩:=u.slot b o e n hb hx;exact⟨sl,(sb.2 b (XZ b o e)).trans q⟩,
   u.free,fun b o e hx=>by
   obtain⟨o',q⟩:=u.there b o e hx;exact⟨o',(sb.2 b (XZ b o e)).trans q⟩,u.tups,u.yt,u.Di⟩
 have fC:H' C=none:=J.free;have hok:qN X.prog X.w H' h':=fun b o e=>by
  refine(J.hok b o e).stay (fun c v hc q=>(sb.2 c ?_).trans q) (fun _ q=>q) fun _ _ q=>q;rintro rfl;rcases hc with z|z
  ·rw[<-z,fC]at e;cases e
  ·rw[fC]at z;cases z
 have os:s'.os=s₂.os:=J.os;refine I.call' (s':={ s' with heap:=h' }) os un hok J.bare fun b hb=>?_;obtain⟨_,f1,_,f3,f4,f5⟩:=hf b hb;exact⟨f3,f1,f4,f5⟩
end
def kg (X:Cx)(scope:Scope)(C:Addr):Value->Shared->Prop :=
 notedBy (model X.prog X.w) X.A (compEnvC scope (cellsFrom (C+1) scope.names (bc X.env scope.names [])) C X.env) (qU X C)
section
variable {X:Cx} {tg iter elt:Expr} {ifs:List Expr} {scope:Scope} {pos:Pos} {cn:List Str} {wi:TI} {g:Bk->TG} {tc:Bk->TT} {te:Bk->TE} {TH:Bk->Prop}
theorem VN {pins:List (Addr×Obj)}{σ:St}{H:Hp}{s₂:Shared}{it:Addr}{fp:List Addr}{tn:Nat->Heap->Prop}{J:It}{RR:Value->Addr->Result->Shared->Prop}{QQ:Addr->Hp->Prop}{EE:Value->Shared->Prop}
  (hcalm:X.calm=true) (F:jZ X.env.scope X.N scope) (hg:∀ b,TH b->PG (cw X cn scope b) tg (g b)) (ht:∀ b,TH b->PF (cw X cn scope b) ifs (tc b)) (he:∀ b,TH b->PE (cw X cn scope b) elt (te b))
  (hTH:∀ C,s₂.heap.objs.size<=C->TH ⟨C,s₂,H,fp,kg X scope C⟩)
  (I:Inv X pins σ H s₂) (T:Turn X.prog X.w X.K tg J fp it tn) (st:tn 0 s₂.heap) (hf:∀ b∈fp,jh X pins H b)
  (h:∀(D:Addr)(b:Bk),H D=none->∃ W:Nat->Nat->List V->St->Hp->Prop,(∃ m,W 0 m [] (List.replicate cn.length none++σ) (upd H D (.lst [])))/\∀ i m ys σ H,W i m ys σ H ->
   (J.stop i H/\QQ D H)\/(J.go i H/\∀ x H',J.NV i H x H'->g b x σ H' fun σ2 H2=>tc b σ2 H2 fun ok H3 =>
    if ok=true then te b σ2 H3 fun y H4=>H4 D=some (.lst ys)/\ys.length<sizeLine/\∃ m',m'<m/\W (i+1) m' (ys++[y]) σ2 (upd H4 D (.lst (ys++[y])))
    else ∃ m',m'<m/\W (i+1) m' ys σ2 H3))
  (hR:∀ C D σ' H' s',s₂.heap.objs.size<=C->Inv (cw X cn scope ⟨C,s₂,H,fp,kg X scope C⟩) [] σ' H' s'->QQ D H'->RR (.ref D) C (.ok .next) s')
  (hE:∀ C D e s',qU X C e s'->RR (.ref D) C (.error e) s') :
  wpAny (model X.prog X.w) X.A (newList []) (fun acc s₃=>wpAny (model X.prog X.w) X.A (newFunctionEnv scope X.env.globals (bc X.env scope.names []) [] X.env.qual none .none (some X.env)) (fun cenv s₄ =>
   codeAny (model X.prog X.w) X.A (.compStart (.ListComp elt [⟨tg,iter,ifs,0⟩] scope pos) 0 (.ref it) acc { cenv with scope:=relabel scope X.env }) (RR acc cenv.locals) s₄) EE s₃) EE s₂:=by
 refine wpAny_newObj_type (vY ?_);dsimp only;generalize hH2:s₂.heap.push { cls:=.type "list",dict:=none,data:=.seq ([]:List Value).toArray } = H2;have hC:H2.objs.size=s₂.heap.objs.size+1:=by rw[<-hH2,Heap.size_push]
 have hDC:s₂.heap.objs.size<H2.objs.size:=by omega
 have hCle:s₂.heap.objs.size<=H2.objs.size:=by omega
 have hfl:∀ b∈fp,b<s₂.heap.objs.size:=fun b hb=>by
  obtain⟨o,e,_⟩:=T.obj 0 _ st b hb;exact P' e
 have Vw:∀ b o,s₂.heap.get? b=some o->H2.get? b=some o:=fun b o e=>hH2 ▸ G' _ e;have hns₁:(pushCells (H2.push { cls:=.type "dict",data:=.dict #[] }) scope.names).Ns H2.objs.size fun _=>none:=(Heap.Ns.new H2 (.type "dict")).keeps (pushCells_keeps _ _);have old:∀ b o,s₂.heap.get? b=some o->(pushCells (H2.push { cls:=.type "dict",data:=.dict #[] }) scope.names).get? b=some o:=fun b o e=>pushCells_keeps _ _ _ _ (G' _ (Vw b o e));have hacc:(pushCells (H2.push { cls:=.type "dict",data:=.dict #[] }) scope.names).get? s₂.heap.objs.size=some { cls:=.type "list",data:=.seq ([]:List Value).toArray 0 } :=
  pushCells_keeps _ _ _ _ (G' _ (hH2 ▸ Zd' _ rfl))
 have hcs:(∀ x c,(bc X.env scope.names []).lookup x=some c->∃ v,s₂.heap.IsCell c v)->∀ x c,(cellsFrom (H2.objs.size+1) scope.names (bc X.env scope.names [])).lookup x=some c->∃ v,(pushCells (H2.push { cls:=.type "dict",data:=.dict #[] }) scope.names).IsCell c v:=fun h x c e=>by
  have sz:H2.objs.size+1=(H2.push { cls:=.type "dict",data:=.dict #[] }).objs.size:=(Heap.size_push ..).symm;rw[sz]at e;refine yG _ _ _ (fun x c e=>?_) x c e;obtain⟨v,o,ho,hd⟩:=h x c e;exact⟨v,o,G' _ (Vw _ _ ho),hd⟩
 generalize pushCells (H2.push { cls:=.type "dict",data:=.dict #[] }) scope.names=h₁ at hns₁ old hacc hcs ⊢;have I0:=Inv.agi (cn:=cn) (xe:=kg X scope H2.objs.size) (tk:=s₂.toks) I F hcalm hf hfl hCle (A' _) hDC hns₁ old hcs hacc;have th:=hTH _ hCle;obtain⟨W,⟨m0,w0⟩,turn⟩:=h s₂.heap.objs.size ⟨H2.objs.size,s₂,H,fp,kg X scope H2.objs.size⟩ (I.hok.fresh (A' _));have YA:∀{H':Hp},(∀ b∈fp,H' b=none)->∀ b∈fp,jh (cw X cn scope ⟨H2.objs.size,s₂,H,fp,kg X scope H2.objs.size⟩) [] H' b:=fun {H'} hn b hb=>by
  refine⟨hn b hb,(I0.ok.exf b hb).1,I0.ok.IK b hb,.inl hb,(I0.ok.exf b hb).2,fun p hp=>j' (show p∈([]:List (Addr×Obj)) from hp) (by simp)⟩
 have AB:(cw X cn scope ⟨H2.objs.size,s₂,H,fp,kg X scope H2.objs.size⟩).calm=true:=hcalm;have loop:∀ s₃:Shared,s₃ = { s₂ with heap:=h₁,toks:=s₂.toks } ->
   codeAny (model X.prog X.w) X.A (.compLoop (.ListComp elt [⟨tg,iter,ifs,0⟩] scope pos) 0 (.ref it) (.ref s₂.heap.objs.size) (compEnvC scope (cellsFrom (H2.objs.size+1) scope.names (bc X.env scope.names [])) H2.objs.size X.env))
    (RR (.ref s₂.heap.objs.size) H2.objs.size) s₃:=by
  rintro s₃ rfl;have UL:∀ e s',(cw X cn scope ⟨H2.objs.size,s₂,H,fp,kg X scope H2.objs.size⟩).xe e s' ->
    notedBy (model X.prog X.w) X.A (compEnvC scope (cellsFrom (H2.objs.size+1) scope.names (bc X.env scope.names [])) H2.objs.size X.env) (fun e s'=>RR (.ref s₂.heap.objs.size) H2.objs.size (.error e) s') e s':=fun e s' z =>
   wpAny_mono (show notedBy (model X.prog X.w) X.A (compEnvC scope (cellsFrom (H2.objs.size+1) scope.names (bc X.env scope.names [])) H2.objs.size X.env) (qU X H2.objs.size) e s' from z) (fun _ _ q=>hE _ _ _ _ q) fun _ _ q=>hE _ _ _ _ q
  refine HP (env:=compEnvC scope (cellsFrom (H2.objs.size+1) scope.names (bc X.env scope.names [])) H2.objs.size X.env)
   (fun n s'=>∃ i ys σ' H',Inv (cw X cn scope ⟨H2.objs.size,s₂,H,fp,kg X scope H2.objs.size⟩) [] σ' H' s'/\tn i s'.heap/\(∀ b∈fp,H' b=none)/\W i n ys σ' H') ?_ m0
   ⟨0,[],_,_,I0,T.keep _ _ _ st fun b _ o e=>old b o e,fun b hb=>?_,w0⟩
  ·rintro n s' ⟨i,ys,σ',H',I',st',fr',w'⟩;rcases turn i n ys σ' H' w' with ⟨stop,qn⟩|⟨go,step⟩
   ·refine wpAny_mono (T.done (cw X cn scope ⟨H2.objs.size,s₂,H,fp,kg X scope H2.objs.size⟩) rfl rfl rfl AB i [] s' σ' H' (fun _ _=>False) I' (YA fr') st' stop) (fun r s4 ⟨hr,I4⟩=>?_) fun _ _ z=>z.elim;exact .inl ⟨hr,hR _ _ _ _ _ hCle I4 qn⟩
   ·refine wpAny_mono (T.item (cw X cn scope ⟨H2.objs.size,s₂,H,fp,kg X scope H2.objs.size⟩) rfl rfl rfl AB i [] s' σ' H' (fun _ _=>False) I' (YA fr') st' go) (fun r s4 ⟨u,hr,h4⟩=>?_) fun _ _ z=>z.elim;refine .inr ⟨u,hr,wpAny_mono h4 (fun _ s5 ⟨x,H5,I5,r5,y5,LM,fr5⟩=>?_) fun _ _ z=>z.elim⟩;have I5':=I5.pinned (YA fr5) (T.obj _ _ LM);refine wpAny_mono (hg _ th _ s5 σ' H5 x u _ I5' r5 (step x H5 y5)) (fun _ s6 ⟨σ6,H6,I6,q6⟩=>?_) UL;refine wpAny_mono (ht _ th _ s6 σ6 H6 _ I6 q6) (fun ok s7 ⟨H7,I7,q7⟩=>?_) UL;have back:∀{σ8:St} {H8:Hp} {s8:Shared},Inv (cw X cn scope ⟨H2.objs.size,s₂,H,fp,kg X scope H2.objs.size⟩) ([]++ub fp s5.heap) σ8 H8 s8->tn (i+1) s8.heap/\∀ b∈fp,H8 b=none:=fun {σ8 H8 s8} I8=>by
     refine⟨T.keep _ _ _ LM fun b hb o e=>(I8.pin (b,o) (Zm' _ (Zm' _ (eZ hb e)))).1,fun b hb=>?_⟩;obtain⟨o,e,d⟩:=T.obj _ _ LM b hb;exact(I8.pin (b,o) (Zm' _ (Zm' _ (eZ hb e)))).2.1
    cases ok with
    |false =>
     rw[M' Z']at q7 ⊢;obtain⟨m',hm,w7⟩:=q7;obtain⟨t8,f8⟩:=back I7;exact⟨m',hm,i+1,ys,σ6,H7,I7.iA,t8,f8,w7⟩
    |true =>
     rw[S' rfl]at q7 ⊢;refine wpAny_mono (he _ th _ s7 σ6 H7 _ I7 q7) (fun v s8 ⟨y,H8,I8,r8,hl,hz,m',hm,w8⟩=>?_) UL;refine wpAny_mono (bf (X:=cw X cn scope ⟨H2.objs.size,s₂,H,fp,kg X scope H2.objs.size⟩) _ s8 σ6 H8 (.ref s₂.heap.objs.size) [y] (.ref s₂.heap.objs.size) [v] (fun _ H9=>W (i+1) m' (ys++[y]) σ6 H9) I8 rfl (.cons r8 .nil) ⟨_,ys,y,rfl,rfl,hl,hz,w8⟩)
      (fun _ s9 ⟨_,H9,I9,_,w9⟩=>?_) UL
     obtain⟨t9,f9⟩:=back I9;exact⟨m',hm,i+1,_,σ6,H9,I9.iA,t9,f9,w9⟩
  ·rw[aA (Za' (hfl b hb))];exact(hf b hb).1
 exact codeAny_compStart_list (loop _ rfl) (T.self _ 0 _ _ _ (T.keep _ _ _ st fun b _ o e=>old b o e) (loop _ rfl))
theorem L1 {i:Nat}{x:Str}{pos' spos:Pos}(hN:X.N.Nodup)(hix:X.N[i]? = some x)(hx:X.env.scope.names.lookup x=some .local)(hcalm:X.calm=true)(F:jZ X.env.scope X.N scope)(hi:PI X tg iter wi)
  (hg:∀ b,PG (cw X cn scope b) tg (g b)) (ht:∀ b,PF (cw X cn scope b) ifs (tc b)) (he:∀ b,PE (cw X cn scope b) elt (te b))
  (hsw:swapsWith (.ListComp elt [⟨tg,iter,ifs,0⟩] scope pos) (some (.Name x pos')) spos.line X.env=pure true:=by rfl)
  (hs:∀ x,foldedSetIterable iter X.env x=pure x:=by intro _;rfl):PS X (.Assign [.Name x pos'] (.ListComp elt [⟨tg,iter,ifs,0⟩] scope pos) spos) (acG (UK cn.length wi g tc te) (HG i)):=by
 intro pins s σ H D I h;rw[exec_Assign_Name_used _ _ _ _ hsw];refine L' (wpAny_standAt (L' ?_));rw[arm_evalThenUse_ListComp];refine L' ?_;have hcl:closureFor scope X.env=pure (bc X.env scope.names []):=C3 fun p hp e=>I.ok.has p.1 (F.free p hp e);refine wpAny_comprehension_free (use:=some (assign (.Name x pos') X.env)) rfl hs hcl F.kind F.loc (cu (hi pins s σ H _ I h) fun xv s₁ h₁=>cu h₁ fun itv s₂ h₂=>?_);obtain⟨it,fp,tn,J,H2,rfl,I2,T,st,f2,R⟩:=h₂;refine VN (TH:=fun _=>True) (QQ:=fun D' H'=>D.nx (σ.set i (some (.ref D'))) H') (RR:=fun acc C=>compPost (model X.prog X.w) X.A X.xe (some (assign (.Name x pos') X.env)) _ acc C) hcalm F (fun b _=>hg b) (fun b _=>ht b) (fun b _=>he b) (fun _ _=>trivial) I2 T st f2 R ?_ ?_
 ·intro C D' σ' H' s' hC I' q;obtain⟨m,hm,_⟩:=I'.loc;have hCn:H' C=none:=I'.free;have fC:jh X pins H' C:=I2.IM hC hCn;have I3:Inv X pins σ H' s':=I2.YY f2 hC I' ⟨rfl,fun _ _=>rfl⟩;show wpAny (model X.prog X.w) X.A (assign (.Name x pos') X.env (.ref D')) _ X.xe s';refine wpAny_assign_Name (yv I3 hN hix (.inl hx) (v:=.ref D') rfl (fun s'' I4 ⟨a,sa,ha⟩=>?_) (.inr hx));have hne:C≠a:=by
   rcases ha with e|e
   ·rw[e];exact fC.2.1
   ·exact fun z=>fC.2.2.2.2.1 _ _ e z.symm
  obtain⟨o,es,ep,ho,r⟩:=hm;refine⟨m,⟨o,es,ep,(sa.2 C hne).trans ho,r⟩,fun h' sb=>?_⟩;refine Y' (Y' ⟨_,H',?_,q⟩);exact I4.gM (tk:=s''.toks) (wr:=[C]) (fun b hb=>by
   have:b=C:=by simpa using hb
   rw[this];exact fC) fun b o hb e=>(sb.2 b (fun z=>hb (by simp[z]))).trans e
 ·intro C D' e s' z;exact z
end
end L2
namespace L2
open PySem PySem.Spec PyProof.Rows Att
section
variable {X:Cx} {pins:List (Addr×Obj)} {σ:St} {H:Hp} {s:Shared}
theorem Inv.grown {h':Heap}{t':Nat}{G:Hp}(I:Inv X pins σ H s)(k:∀ b o,b≠X.env.locals->s.heap.get? b=some o->h'.get? b=some o)(ns:∀ m,s.heap.Ns X.env.locals m->h'.Ns X.env.locals m)
  (ext:∀ b o,H b=some o->G b=some o) (new:∀ b o,G b=some o->H b=some o\/(s.heap.get? b=none/\ck X.prog X.w G h' b o)):Inv X pins σ G { s with heap:=h',toks:=t' }:=by
 have hL:=I.free;refine I.step (g':=s.gens) (d':=s.drawn) (ch:=[]) (fun _ z=>nomatch z) (fun b o n _ _ e _=>k b o n e) (fun b o n _ _ e _=>⟨o.slots,k b o n e⟩) (fun b o _ e z=>?_) (fun b o _ e=>?_) (fun b xs e=>ext b _ e) (fun b o u e=>ext b _ e) (fun b ps e=>⟨#[],by rw[ext b _ e];simp⟩) ns (fun b u e=>?_) I.bare
 ·cases q:G b with
  |none=>rfl
  |some o' =>
   rcases new b o' q with w|⟨w,_⟩
   ·rw[w]at z;cases z
   ·rw[e]at w;cases w
 ·by_cases hb:b=X.env.locals
  ·obtain⟨m,hm,_⟩:=I.loc;obtain⟨o',es,ep,e',_⟩:=ns m hm;exact⟨o',by rw[hb];exact e'⟩
  ·exact⟨o,k b o hb e⟩
 ·rcases new b u e with w|⟨_,w⟩
  ·refine(I.hok b u w).stay (fun c o hc e'=>k c o ?_ e') (fun c q=>ext c _ q) fun c xs q=>ext c _ q;rintro rfl;rcases hc with z|z
   ·rw[<-z,hL]at w;cases w
   ·rw[hL]at z;cases z
  ·exact w
end
theorem agj {P:Program}{w:World}{H:Hp}{h:Heap}{a:Addr}{o:HO}(x:ck P w H h a o):∃ ob,h.get? a=some ob:=by
 cases o with
 |lst xs=>obtain⟨_,_,_,_,e⟩:=x;exact⟨_,e⟩
 |tup xs=>obtain⟨_,_,_,_,e,_⟩:=x;exact⟨_,e⟩
 |dK kvs=>obtain⟨_,_,_,_,o,_,_,e,_⟩:=x;exact⟨_,e⟩
 |dT kvs=>obtain⟨_,_,_,_,o,_,_,e,_⟩:=x;exact⟨_,e⟩
 |set S n=>obtain⟨o,_,_,_,e,_⟩:=x;exact⟨_,e⟩
 |ins C dx fs=>obtain⟨_,_,_,e,_⟩:=x;exact⟨_,e⟩
 |own y=>obtain⟨_,e⟩:=x;exact⟨_,e⟩
 |xd fs=>obtain⟨_,⟨_,_,_,e,_⟩,_⟩:=x;exact⟨_,e⟩
 |rng lo hi=>obtain⟨_,_,_,e⟩:=x;exact⟨_,e⟩
 |ix ob u=>obtain⟨e,_⟩:=x;exact⟨_,e⟩
 |tbl ps=>exact⟨_,(show h.get? a=some _ from x)⟩
 |met f y=>exact⟨_,(show h.get? a=some _ from x)⟩
 |ext φ=>obtain⟨_,⟨_,e⟩,_⟩:=x;exact⟨_,e⟩
theorem agk {P:Program}{w:World}{H:Hp}{h:Heap}{a:Addr}(x:qN P w H h)(e:h.get? a=none):H a=none:=by
 cases q:H a with
 |none=>rfl
 |some u =>
  obtain⟨ob,z⟩:=agj (x a u q);rw[e]at z;cases z
theorem agl {h:Heap}{a:Addr}{m m':Str->Option Value}(x:h.Ns a m)(y:h.Ns a m'):m=m':=by
 obtain⟨o,es,ep,e1,e2,_,e3⟩:=x;obtain⟨o',es',ep',f1,f2,_,f3⟩:=y;rw[e1]at f1;cases f1;rw[e2]at f2;cases f2
 funext n
 rw[<-e3,<-f3]
def L3 (kvs:List (Key×V)):Prop:=∀ kv∈kvs,∃ n,kv.2=V.int n
theorem YZ {A:Around}{s:Shared}{kb:List (Key×V)}{vb:List (Key×Value)}(rb:KV kb vb)(hb:L3 kb):∀{ka:List (Key×V)} {va:List (Key×Value)},KV ka va->L3 ka->∃ r,PySem.W.KeqHits A s vb va r:=by
 intro ka va ra;unfold KV at ra
 induction ra with
 |nil=>exact fun _=>⟨_,.nil⟩
 | @cons p q ps qs h0 _ ih =>
  intro ha;obtain⟨r,hr⟩:=ih fun kv hkv=>ha kv (Zl' _ hkv);obtain⟨k,v⟩:=q;obtain⟨n,hn⟩:=ha p mem_cons_self;have rv:RelV p.2 v:=h0.2;rw[hn]at rv;obtain⟨t,rfl⟩:=rv;have w:=rb.val k;cases e:valueAt vb k with
  |none=>exact⟨_,.miss e⟩
  |some y =>
   rw[e]at w;cases e2:qL kb k with
   |none=>rw[e2]at w;exact w.elim
   |some x =>
    rw[e2]at w;obtain⟨m,hm⟩:∃ m,x=V.int m:=by
     unfold qL at e2;obtain⟨kv,h1,h2⟩:=Option.map_eq_some_iff.mp e2;obtain⟨m,hm⟩:=hb kv (List.mem_of_find?_eq_some h1);exact⟨m,by rw[<-h2];exact hm⟩
    rw[hm]at w;have w:RelV (V.int m) y:=w;obtain⟨u,rfl⟩:=w;exact⟨_,.hit e (SeqAt.EqAt.int_int n t m u) hr⟩
section
variable {X:Cx}
theorem agm (hu:X.A.units<cLine):qO X (compareOp .Eq) (fun x y H Q=>∃ a b ka kb,x=.ref a/\y=.ref b/\H a=some (.dK ka)/\H b=some (.dK kb)/\L3 ka/\L3 kb/\∀ r,Q (.bl r) H):=by
 intro pins s σ H x y v u Q I rx ry h;obtain⟨a,b,ka,kb,rfl,rfl,ha,hb,ia,ib,q⟩:=h;cases rx;cases ry;obtain⟨_,sa,va,ra,da⟩:=Dt I.hok ha;obtain⟨_,sb,vb,rb,db⟩:=Dt I.hok hb;obtain⟨r,hr⟩:=YZ (A:=X.A.in1) (s:=s) rb ib ra ia;exact PySem.W.keq_eq sa sb da db hu (fun _=>hr) ⟨.bl _,H,I,rfl,q _⟩
def Ol (td:TE):TE:=fun σ H Q=>td σ H fun x H1=>∃ d kvs,x=.ref d/\H1 d=some (.dK kvs)/\∀(l:Addr)(as:List Addr)(H2:Hp),ax H1 H2->H1 l=none->H2 l=some (.lst (as.map V.ref))->Paired (fun a kv=>H1 a=none/\H2 a=some (.tup [kV kv.1,kv.2])) as kvs->Q (.ref l) H2
def itG (H:Hp)(l:Addr)(as:List Addr)(ls:List (Addr×Key×V)):Hp:=fun b=>if b=l then some (.lst (as.map V.ref)) else match ls.lookup b with
 |some kv=>some (.tup [kV kv.1,kv.2])
 |none=>H b
theorem L4:∀{as:List Addr} {kvs:List (Key×V)} {i:Nat} {a:Addr} {kv:Key×V},as.Pairwise (· < ·)->as[i]? = some a->kvs[i]? = some kv->(as.zip kvs).lookup a=some kv
 |[],_,i,_,_,_,h,_=>by simp at h
 |_::_,[],i,_,_,_,_,h=>by simp at h
 |x::as,y::kvs,0,a,kv,_,h1,h2=>by
  cases h1;cases h2;rw[List.zip_cons_cons,List.lookup_cons];simp
 |x::as,y::kvs,i+1,a,kv,hp,h1,h2=>by
  rw[List.pairwise_cons]at hp;have h1':as[i]? = some a:=by simpa using h1
  have:=hp.1 a (V' h1');rw[List.zip_cons_cons,List.lookup_cons];have e:(a==x)=false:=by rw[beq_eq_false_iff_ne];exact Nat.ne_of_gt this
  rw[e];exact L4 hp.2 h1' (by simpa using h2)
theorem Om:∀{as:List Addr} {kvs:List (Key×V)} {a:Addr} {kv:Key×V},(as.zip kvs).lookup a=some kv->∃ i:Nat,as[i]? = some a/\kvs[i]? = some kv
 |[],_,_,_,h=>by simp at h
 |_::_,[],_,_,h=>by simp at h
 |x::as,y::kvs,a,kv,h=>by
  rw[List.zip_cons_cons,List.lookup_cons]at h;split at h
  ·rename_i e
   cases h;exact⟨0,by rw[beq_iff_eq.mp e];rfl,rfl⟩
  ·obtain⟨i,h1,h2⟩:=Om h;exact⟨i+1,by simpa using h1,by simpa using h2⟩
theorem qX {α β:Type}{R:α->β->Prop}:∀{xs:List α} {ys:List β},xs.length=ys.length->(∀(i:Nat) x y,xs[i]? = some x->ys[i]? = some y->R x y)->Paired R xs ys
 |[],[],_,_=>.nil
 |x::xs,y::ys,hl,h=>.cons (h 0 x y rfl rfl) (qX (by simpa using hl) fun i a b e1 e2=>h (i+1) a b (by simpa using e1) (by simpa using e2))
 |[],_::_,hl,_=>by simp at hl
 |_::_,[],hl,_=>by simp at hl
theorem wa {o:Expr}{td:TE}{p apos cpos pos:Pos}(hcalm:X.calm=true)(ho:PE X o td)(hg:Gl X "list")(hm:X.mg "list"=none)
  (hbase:attributeBase o "items" X.env (eval o X.env)=eval o X.env:=by rfl) (hline:(apos.endLine==cpos.line)=true:=by rfl) (hsm:starEach [(.Call (.Attribute o "items" apos) [] [] cpos)] X.env=[(false,eval (.Call (.Attribute o "items" apos) [] [] cpos) X.env)]:=by rfl)
  (hv:bootBuiltins "list"=some (.type "list")) :
  PE X (.Call (.Name "list" p) [.Call (.Attribute o "items" apos) [] [] cpos] [] pos) (Ol td):=by
 intro pins s σ H Q I h;refine wpAny_Call_Name_kw (t7 I hg hm hv ?_ (by decide) (by decide));refine PyProof.Rows.callWith_type1 ?_ hsm rfl;rw[hsm];show wpAny _ _ (spliced ((false,eval (.Call (.Attribute o "items" apos) [] [] cpos) X.env)::[])) _ _ s;refine Calls.spliced_cons ?_;refine wpAny_Call_method0_late hbase hline (cu (ho pins s σ H _ I h) fun v s1 ⟨x,H1,I1,r1,d,kvs,ex,hd,q⟩=>?_);subst ex;cases r1;obtain⟨z,hsm,vs,rel,dd⟩:=Dt I1.hok hd;refine⟨"dict","dict.items",plainAttrs_dict,slot_dict_items,PySem.F.type_dict_items,dd.typeIs,dd.mapOf.noDict,Calls.callWith_builtin rfl (PySem.evalArgs_none ?_)⟩;refine call_meetsIn slot_dict_items dd.typeIs PySem.F.entry_dict_items (PySem.F.args_dict_items_1 _) (meets_dict_items (aS X.prog X.w) d hsm) ⟨⟨vs,dd⟩,?_⟩;obtain⟨ep,da⟩:=dd.dictAt;have up:∀(p:Obj) b ob,s1.heap.get? b=some ob->(s1.heap.push p).get? b=some ob:=fun p b ob e=>G' _ e;refine Calls.spliced_nil ?_;have hl:=rel.length;refine PySem.W.kdx_call (r:=s1.heap.objs.size) (d:=d) (knd:=aS X.prog X.w) (kvs:=vs) (ep:=ep) (I1.ok.hd hcalm) ⟨_,Zd' _ rfl,rfl,rfl⟩ (da.at' fun ob e=>up _ _ _ e) (by omega) fun h' tk acc c as hk hS hla hG hacc=>?_;have hsz:(s1.heap.push { cls:=.type "dict_items",data:=.fields #[.ref d] }).objs.size=s1.heap.objs.size+1:=Heap.size_push ..;rw[hsz]at hS hG;have hkp:∀ b o,s1.heap.get? b=some o->h'.get? b=some o:=fun b o e=>hk b o (up _ _ _ e);have al:as.length=kvs.length:=by omega
 have above:∀{a:Addr} {kv:Key×V},(as.zip kvs).lookup a=some kv->s1.heap.objs.size+1<a:=fun {a kv} e=>by
  obtain⟨i,h1,_⟩:=Om e;exact hG.above a (V' h1)
 have old:∀ b,H1 b≠none->b<s1.heap.objs.size:=fun b hb=>by
  refine Nat.lt_of_not_le fun z=>hb (I1.hok.fresh z)
 have ext:∀ b o,H1 b=some o->itG H1 (s1.heap.objs.size+1) as (as.zip kvs) b=some o:=fun b o e=>by
  have lt:=old b (by rw[e];exact fun z=>nomatch z);unfold itG;rw[M' (fun z=>by rw[z]at lt;exact j' lt (Nat.not_lt.mpr (Nat.le_succ _)))];cases q:(as.zip kvs).lookup b with
  |none=>exact e
  |some kv=>exact j' (above q) (Nat.not_lt.mpr (Nat.le_of_lt (Nat.lt_succ_of_lt lt)))
 have hat:∀(i:Nat)(a:Addr)(kv:Key×V),as[i]? = some a->kvs[i]? = some kv->H1 a=none/\itG H1 (s1.heap.objs.size+1) as (as.zip kvs) a=some (.tup [kV kv.1,kv.2]):=fun i a kv h1 h2=>by
  have lk:=L4 hG.rise h1 h2;have ab:=above lk;refine⟨I1.hok.fresh (Nat.le_of_lt (Nat.lt_of_succ_lt ab)),?_⟩;unfold itG;rw[M' (fun z=>by rw[z]at ab;exact Nat.lt_irrefl _ ab),lk]
 refine⟨.ref (s1.heap.objs.size+1),itG H1 (s1.heap.objs.size+1) as (as.zip kvs),?_,by rw[hsz];rfl,q _ as _ (fun b o e=>ext b o e) (I1.hok.fresh (Nat.le_succ _)) (by unfold itG;rw[S' rfl]) (qX al fun i a kv h1 h2=>hat i a kv h1 h2)⟩;refine I1.grown (h':=h') (fun b o _ e=>hkp b o e) (fun m hm=>hm.keeps hkp) ext fun b o e=>?_;unfold itG at e
 by_cases hb:b=s1.heap.objs.size+1
 ·rw[S' hb]at e;cases e;refine .inr ⟨Heap.get?_none_of_le (by rw[hb];exact Nat.le_succ _),?_⟩;rw[hb];refine⟨by rw[K',al];exact z,acc.toList,c,?_,by rw[Array.toArray_toList];exact hS⟩;rw[hacc];clear hacc hS hG hat ext above hla al
  induction as with
  |nil=>exact .nil
  |cons a as ih=>exact .cons rfl ih
 ·rw[M' hb]at e;cases lk:(as.zip kvs).lookup b with
  |none=>rw[lk]at e;exact .inl e
  |some kv =>
   rw[lk]at e;cases e;have ab:=above lk;refine .inr ⟨Heap.get?_none_of_le (Nat.le_of_lt (Nat.lt_of_succ_lt ab)),?_⟩;obtain⟨i,h1,h2⟩:=Om lk;obtain⟨key,k,x,h3,h4,h5⟩:=hG.pairs i b h1;obtain⟨u,h6,ru⟩:=aie rel h2;rw[h6]at h3;cases h3;exact⟨by show 2<=sizeLine;decide,[key,_],.cons (YQ h4) (.cons ru .nil),_,h5,rfl,_,rfl⟩
end
section
open PySem.W
def nQ (n:Nat)(p:Array Nat):Prop:=p.size=n/\∀ i,p.getD i 0<n
theorem aeH {n:Nat}{p q:Array Nat}(h0:0<n)(h:nQ n p)(hq:q.Perm p):nQ n q:=by
 refine⟨hq.size_eq.trans h.1,fun i=>?_⟩
 by_cases hi:i<q.size
 ·have e:q.getD i 0=q[i]:=by simp[Array.getD,hi]
  rw[e];have:q[i]∈p:=(hq.mem_iff).mp (Array.getElem_mem hi);obtain⟨j,hj,e2⟩:=Array.mem_iff_getElem.mp this;have h2:=h.2 j;have e3:p.getD j 0=p[j]:=by simp[Array.getD,hj]
  rw[e3,e2]at h2;exact h2
 ·have e:q.getD i 0=0:=by simp[Array.getD,hi]
  rw[e];exact h0
theorem DB {n:Nat}{p:Array Nat}(h0:0<n)(h:nQ n p)(i j:Nat):nQ n (kas_rev p i j):=aeH h0 h (mirror_perm _ _ _ _)
theorem ago {n:Nat}{p:Array Nat}(h0:0<n)(h:nQ n p)(i j:Nat):nQ n (bubble p i j):=aeH h0 h (bubble_perm _ _ _)
inductive L5 {α:Type}(n:Nat)(R:α->Prop):KasT α->Prop
 |ret {a:α}:R a->L5 n R (.ret a)
 |ask {i j:Nat} {k:Bool->KasT α}:i<n->j<n->(∀ b,L5 n R (k b))->L5 n R (.ask i j k)
theorem L5.bind {α β:Type}{n:Nat}{R:α->Prop}{R':β->Prop}{f:α->KasT β}{t:KasT α}(h:L5 n R t)(hf:∀ a,R a->L5 n R' (f a)):L5 n R' (t.bind f):=by
 induction h with
 |ret h=>exact hf _ h
 |ask h1 h2 _ ih=>exact .ask h1 h2 ih
theorem L5.wp {α:Type}{n:Nat}{R:α->Prop}{t:KasT α}{cmp:Nat->Nat->(Bool->Shared->Prop)->Shared->Prop}{Q:α->Shared->Prop}{s:Shared}(h:L5 n R t)(hc:∀ i j C,i<n->j<n->(∀ b,C b s)->cmp i j C s)(hQ:∀ a,R a->Q a s):t.kasWp cmp Q s:=by
 induction h with
 |ret h=>exact hQ _ h
 |ask h1 h2 _ ih=>exact hc _ _ _ h1 h2 ih
theorem Y0 {n:Nat}{p:Array Nat}(h:nQ n p):∀ f m,L5 n (fun _=>True) (kas_asc p f m)
 |0,m=>.ret trivial
 |f+1,m=>.ask (h.2 _) (h.2 _) fun b=>by
  cases b
  ·rw[M' (by decide)];exact Y0 h f (m+1)
  ·rw[S' rfl];exact .ret trivial
theorem Jo {n:Nat}(h0:0<n):∀ f (p:Array Nat) m q,nQ n p->L5 n (fun r=>nQ n r.1) (kas_desc f p m q)
 |0,p,m,q,h=>.ret h
 |f+1,p,m,q,h=>.ask (h.2 _) (h.2 _) fun b=>by
  cases b
  ·rw[M' (by decide)];refine .ask (h.2 _) (h.2 _) fun d=>?_;cases d
   ·rw[M' (by decide)];exact Jo h0 f p _ _ h
   ·rw[S' rfl];exact .ret h
  ·rw[S' rfl];split
   ·exact Jo h0 f _ _ _ (DB h0 h _ _)
   ·exact Jo h0 f _ _ _ h
theorem US {n:Nat}(h0:0<n){p:Array Nat}(h:nQ n p)(m r:Nat):L5 n (fun r=>nQ n r.2) (kas_tail3 m r p) :=
 (Y0 (DB h0 h 0 m) _ _).bind fun _ _=>.ret (DB h0 h 0 m)
theorem DC {n:Nat}(h0:0<n){p:Array Nat}(h:nQ n p)(m r:Nat):L5 n (fun r=>nQ n r.2) (kas_descPart m r p) :=
 (Jo h0 _ p _ _ h).bind fun a ha=>by
  split
  ·exact US h0 (DB h0 ha _ _) _ _
  ·exact US h0 ha _ _
theorem ac8 {n:Nat}(h0:0<n){p:Array Nat}(h:nQ n p)(r:Nat):L5 n (fun r=>nQ n r.2) (kas_count r p) :=
 (Y0 h _ _).bind fun m _=>by
  split
  ·exact .ret h
  ·split
   ·refine .ask (h.2 _) (h.2 _) fun b=>?_;cases b
    ·rw[M' (by decide)];exact DC h0 (DB h0 h _ _) _ _
    ·rw[S' rfl];exact .ret h
   ·exact DC h0 h _ _
theorem Jp {n:Nat}{p:Array Nat}(h:nQ n p)(k:Nat):∀ f l r,L5 n (fun _=>True) (kas_place p k f l r)
 |0,l,r=>.ret trivial
 |f+1,l,r=>by
  unfold kas_place;split
  ·exact .ret trivial
  ·refine .ask (h.2 _) (h.2 _) fun b=>?_;cases b
   ·rw[M' (by decide)];exact Jp h k f _ _
   ·rw[S' rfl];exact Jp h k f _ _
theorem aeI {n:Nat}(h0:0<n):∀ f (p:Array Nat) k,nQ n p->L5 n (nQ n) (kas_bin f p k)
 |0,p,k,h=>.ret h
 |f+1,p,k,h=>(Jp h k k 0 k).bind fun l _=>aeI h0 f _ _ (ago h0 h _ _)
theorem agp {n:Nat}(h0:0<n):L5 n (nQ n) (kas_sort n):=by
 have hr:nQ n (List.toArray (List.range n)):=by
  refine⟨by simp,fun i=>?_⟩
  by_cases hi:i<n
  ·simp[Array.getD,hi]
  ·simp[Array.getD,hi,h0]
 refine(ac8 h0 hr n).bind fun r h=>?_;split
 ·exact aeI h0 _ _ _ h
 ·exact .ret h
end
theorem pairAt {α β:Type}{F:α->β->Prop}:∀{xs:List α} {ys:List β} {i:Nat} {x:α},Paired F xs ys->xs[i]? = some x->∃ y,ys[i]? = some y/\F x y
 |_,_,i,_,.nil,e=>by simp at e
 |_,_,0,_,.cons h _,e=>by cases e;exact⟨_,rfl,h⟩
 |_,_,i+1,_,.cons _ r,e=>by
  obtain⟨y,h1,h2⟩:=pairAt r (by simpa using e);exact⟨y,by simpa using h1,h2⟩
def PsI (H:Hp)(y:V)(q:Str×Int):Prop:=∃ p,y=V.ref p/\H p=some (.tup [.str q.1,.int q.2])
section
variable {X:Cx}
theorem ac9 {prog:Program}{w:World}{A:Around}{E:Value->Shared->Prop}{s:Shared}{x y:Addr}{ox oy:Obj}{n k:Nat}{z z':Str}{i i':Int}{t1 t2 t3 t4:Tok}{C:Bool->Shared->Prop}
  (hx:s.heap.get? x=some ox) (dx:ox.data=.seq #[.str z t1,.int i t2] n) (hy:s.heap.get? y=some oy) (dy:oy.data=.seq #[.str z' t3,.int i' t4] k) (h:∀ b,C b s) :
  wpAny (model prog w) A (PyProof.Rows.keyLt' (PyProof.Rows.tuples' true) (.ref x) (.ref y)) C E s:=by
 refine PySem.W.kat_lt hx dx hy dy ?_;refine kat_cons (SeqAt.EqAt.str_str z t1 z' t3 prog w _ _ ?_);refine kat_go (fun _=>kat_yes ?_) (fun _=>kat_no ?_)
 ·refine kat_cons (SeqAt.EqAt.int_int i t2 i' t4 prog w _ _ ?_);refine kat_go (fun _=>kat_yes (PySem.W.kat_nil (h _))) (fun _=>kat_no ?_);exact PySem.W.kat_one _ _ (lt_int (h _))
 ·exact oneLt_str (h _)
theorem Y1 {prog:Program}{w:World}{A:Around}{E:Value->Shared->Prop}{s:Shared}{a:Addr}{vs:List Value}{n:Nat}{P:PySem.Fin->Shared->Prop}(ho:s.heap.get? a=some (seqObj "list" vs.toArray n))(hf:vs.length<2)
  (h:∀ h' c,(∀ b o,b≠a->s.heap.get? b=some o->h'.get? b=some o)->h'.get? a=some (seqObj "list" vs.toArray c)->P (.done (.ret .none)) { s with heap:=h' }) :
  wpAny (model prog w) A (Builtin.«list.sort» ⟨[.ref a],[]⟩) P E s:=by
 have lt:=P' ho;have sz:vs.toArray.size<2:=by rw[Ze'];exact hf
 have k1:=Heap.SameBut.update s.heap a (Obj.mapSeq fun _=>(#[]:Array Value));obtain⟨e1,g1⟩:∃ e1,(s.heap.update a (Obj.mapSeq fun _=>(#[]:Array Value))).get? a=some (seqObj "list" #[] e1):=⟨_,get?_update_seq ho _⟩;have up:∀ b o,(s.heap.update a (Obj.mapSeq fun _=>(#[]:Array Value))).get? b=some o->(((s.heap.update a (Obj.mapSeq fun _=>(#[]:Array Value))).push (seqObj "tuple" vs.toArray 0)).push (seqObj "list" #[] 0)).get? b=some o:=fun b o e=>G' _ (G' _ e);have few:vs.toArray.size<=sizeLine:=by rw[sizeLine_eq];omega
 rw[list_sort_plain];refine L' (listItems_at ho rfl (L' (listUpdate_at ho rfl ?_ few (X' _))));refine L' (seqEpoch_at g1 rfl (L' (wpAny_newTuple ?_ (by show vs.length<=sizeLine;rw[sizeLine_eq];omega))));refine L' (wpAny_newList (wpAny_holding ?_) (X' _));show wpAny _ A _ P E { s with heap:=((s.heap.update a (Obj.mapSeq fun _=>(#[]:Array Value))).push (seqObj "tuple" vs.toArray 0)).push (seqObj "list" #[] 0) };generalize ((s.heap.update a (Obj.mapSeq fun _=>(#[]:Array Value))).push (seqObj "tuple" vs.toArray 0)).push (seqObj "list" #[] 0)=hh at up;have g2:=up _ _ g1;dsimp only;rw[S' sz,S' sz];refine L' (Y' ?_);rw[StateT.run_pure];refine L' (Y' ?_);dsimp only;have out:(arrOf (SortSt.mk' general' (vs.toArray.zip vs.toArray) #[] 7 none)).map (·.2)=vs.toArray:=by
  show(vs.toArray.zip vs.toArray).map (·.2)=vs.toArray;have z:∀ l:List Value,(l.zip l).map (·.2)=l:=fun l=>by
   induction l with
   |nil=>rfl
   |cons x l ih=>rw[List.zip_cons_cons,map_cons,ih]
  simp[z]
 rw[out];have k2:=Heap.SameBut.update hh a (Obj.mapSeq fun _=>vs.toArray);refine L' (seqEpoch_at g2 rfl (L' (listUpdate_at g2 rfl ?_ (X' _) (Nat.le_succ_of_le few))));simp only [bne_self_eq_false,Bool.false_eq_true,if_false];exact Y' (h _ _ (fun b o nb e=>(k2.2 b nb).trans (up b o ((k1.2 b nb).trans e))) (get?_update_seq g2 _))
theorem wb:eS X (.builtin "sorted") (fun xs H Q=>∃(a:Addr)(ys:List V)(ps:List (Str×Int)),xs=[.ref a]/\aR X.K H a ys/\Paired (PsI H) ys ps/\ys.length<64/\∀(l:Addr)(zs:List V),zs.length=ys.length->(∀ z∈zs,z∈ys)->H l=none->Q (.ref l) (upd H l (.lst zs))):=by
 intro pins s σ H xs us Q I r h;obtain⟨a,ys,ps,rfl,hq,hp,hlen,q⟩:=h;obtain⟨u,rfl,rfl⟩:=r.one;obtain⟨its,rv,p,hz⟩:=I.list hq;have hl:=rv.length;have at_:∀ i,i<its.length->∃(x:Addr)(ox:Obj)(n:Nat)(z:Str)(k:Int)(t1 t2:Tok),its[i]? = some (.ref x)/\s.heap.get? x=some ox/\ox.cls=.type "tuple"/\ox.data=.seq #[.str z t1,.int k t2] n/\x≠X.env.locals:=fun i hi=>by
  have hi':i<ys.length:=by omega
  obtain⟨u,hu,ru⟩:=rv.get (C' hi');obtain⟨q,hq,x,e,hx⟩:=pairAt hp (C' hi');rw[e]at ru;obtain rfl:u=.ref x:=ru;obtain⟨_,aoK,tr,to,te1,te2,n,te3⟩:=I.hok x _ hx;cases tr with
  |cons r1 tr =>
   cases tr with
   |cons r2 tr =>
    cases tr;obtain⟨t1,rfl⟩:=r1;obtain⟨t2,rfl⟩:=r2;exact⟨x,to,n,_,_,t1,t2,hu,te1,te2,te3,fun z=>by rw[z,I.free]at hx;cases hx⟩
 have fin:∀(h':Heap)(D:Addr)(out:List Value)(c:Nat)(tk:Nat),s.heap.get? D=none->(∀ b o,b≠X.env.locals->s.heap.get? b=some o->h'.get? b=some o)->(∀ m,s.heap.Ns X.env.locals m->h'.Ns X.env.locals m)->h'.get? D=some (seqObj "list" out.toArray c)->out.length=its.length->(∀ v∈out,v∈its) ->
   EP X pins σ Q (.ref D) { s with heap:=h',toks:=tk }:=fun h' D out c tk hD hk hns hg ho hm=>by
  obtain⟨zs,rz,hzm⟩:∃ zs:List V,Vals zs out/\∀ z∈zs,z∈ys:=by
   clear hg ho
   induction out with
   |nil=>exact⟨[],.nil,fun _ h=>nomatch h⟩
   |cons v out ih =>
    obtain⟨zs,h1,h2⟩:=ih fun v hv=>hm v (Zl' _ hv);obtain⟨j,hj⟩:=List.mem_iff_getElem?.mp (hm v mem_cons_self);have hj':j<ys.length:=by rw[hl];exact(B'.mp hj).1
    obtain⟨u,hu,ru⟩:=rv.get (C' hj');rw[hj]at hu;cases hu;refine⟨ys[j]::zs,.cons ru h1,fun z hz=>?_⟩;rcases List.mem_cons.mp hz with rfl|hz
    ·exact List.getElem_mem hj'
    ·exact h2 z hz
  have zl:zs.length=ys.length:=by rw[rz.length,ho,hl]
  have hn:H D=none:=agk I.hok hD;refine⟨.ref D,upd H D (.lst zs),?_,rfl,q D zs zl hzm hn⟩;refine I.grown hk hns (fun b o e=>by rw[aA (aP e hn)];exact e) fun b o e=>?_
  by_cases hb:b=D
  ·subst hb;rw[ag]at e;cases e;exact .inr ⟨hD,by rw[zl];exact hz,out,c,rz,hg⟩
  ·rw[aA hb]at e;exact .inl e
 by_cases h2:2<=its.length
 ·obtain⟨m,hn,_⟩:=id I.loc;have N0:News (IY s.heap) X.env.locals s.heap (ledger s.heap X.env.locals X.env.locals):=fun⟨b,o⟩ hp=>by
   obtain⟨n1,_,e⟩:=pA.mp hp;exact⟨e,n1,Dp _ _⟩
  refine PySem.W.kat_sorted (afR hn) N0 p.isList h2 (by omega) fun D e1 h' F N hD=>?_;have kp:∀ b o,b≠X.env.locals->s.heap.get? b=some o->h'.get? b=some o:=fun b o n e=>(N (b,o) (Zl' _ (pA.mpr ⟨n,n,e⟩))).1;obtain⟨fs,ft,fst⟩:∃ fs:List Value,KatTups h' its fs/\fs.length=its.length/\∀ v∈fs,∃ z t,v=.str z t:=by
   have gen:∀(l:List Value),(∀ v∈l,∃(x:Addr)(ox:Obj)(n:Nat)(z:Str)(k:Int)(t1 t2:Tok),v=.ref x/\h'.get? x=some ox/\ox.cls=.type "tuple"/\ox.data=.seq #[.str z t1,.int k t2] n)->∃ fs:List Value,KatTups h' l fs/\fs.length=l.length/\∀ v∈fs,∃ z t,v=.str z t:=by
    intro l
    induction l with
    |nil=>exact fun _=>⟨[],.nil,rfl,fun _ h=>nomatch h⟩
    |cons v l ih =>
     intro hv;obtain⟨fs,h1,h2,h3⟩:=ih fun v h=>hv v (Zl' _ h);obtain⟨x,ox,n,z,k,t1,t2,rfl,g1,g2,g3⟩:=hv v mem_cons_self;refine⟨.str z t1::fs,.cons g1 g2 g3 rfl h1,by rw[Zp',h2];rfl,fun v hv=>?_⟩;rcases List.mem_cons.mp hv with rfl|hv
     ·exact⟨z,t1,rfl⟩
     ·exact h3 v hv
   refine gen its fun v hv=>?_;obtain⟨j,hj⟩:=List.mem_iff_getElem?.mp hv;obtain⟨x,ox,n,z,k,t1,t2,e1,e2,e3,e4,e5⟩:=at_ j (B'.mp hj).1;rw[hj]at e1;cases e1;exact⟨x,ox,n,z,k,t1,t2,rfl,kp _ _ e5 e2,e3,e4⟩
  refine PySem.W.kat_kind (T:=.type "str") ft (by omega) (fun v hv=>?_) (by decide) ?_
  ·obtain⟨z,t,rfl⟩:=fst.2 v hv;exact .now
  ·refine(agp (by omega)).wp (fun i j C hi hj hC=>?_) fun pm hpm=>?_
   ·obtain⟨x,ox,n,z,k,t1,t2,e1,e2,e3,e4,e5⟩:=at_ i hi;obtain⟨x',ox',n',z',k',t1',t2',e1',e2',e3',e4',e5'⟩:=at_ j hj;show wpAny _ _ (PyProof.Rows.keyLt' _ (its.getD i Value.none) (its.getD j Value.none)) _ _ _;rw[T',e1,T',e1'];exact ac9 (s:={ s with heap:=h' }) (kp _ _ e5 e2) e4 (kp _ _ e5' e2') e4' hC
   ·refine PySem.W.KasFin.intro F N (.head fun p hp=>Za' (hD p hp)) fun h'' c F' N'=>?_;have dD:=(N' _ mem_cons_self).2.1;have gD:s.heap.get? D=none:=by
     cases e:s.heap.get? D with
     |none=>rfl
     |some o=>exact j' (hD (D,o) (pA.mpr ⟨dD,dD,e⟩)) (Nat.lt_irrefl _)
    refine fin h'' D _ c s.toks gD (fun b o n e=>(N' (b,o) (Zl' _ (pA.mpr ⟨n,n,e⟩))).1) (fun m' hm'=>?_) (N' _ mem_cons_self).1 ?_ fun v hv=>?_
    ·rw[<-agl hn hm'];exact F'.ns
    ·rw[K',Array.length_toList];exact hpm.1
    ·obtain⟨i,hi,rfl⟩:=mem_map.mp hv;obtain⟨j,hj,rfl⟩:=List.mem_iff_getElem.mp hi;have lt:=hpm.2 j;have e:pm.getD j 0=pm.toList[j]:=by
      rw[Array.length_toList]at hj;simp[Array.getD,hj]
     rw[e]at lt;rw[T',C' lt];exact List.getElem_mem lt
 ·have lt2:its.length<2:=by omega
  have few:its.length<=sizeLine:=by rw[sizeLine_eq];omega
  refine Calls.call_function_entry kind_sorted plain_sorted entry_sorted (args_sorted1 _) ?_;unfold Builtin.«sorted»;refine L' (m:=checkCount "sorted" 1 1 _) (Y' (L' (collect_list p.isList ?_ few)));refine L' (wpAny_newList ?_ few);have sz1:((s.heap.push (seqObj "list" #[] 0)).update s.heap.objs.size (Obj.mapSeq (· ++ its.toArray))).objs.size=s.heap.objs.size+1:=(Heap.size_update ..).trans (Heap.size_push ..);have kp1:∀ b o,s.heap.get? b=some o->(((s.heap.push (seqObj "list" #[] 0)).update s.heap.objs.size (Obj.mapSeq (· ++ its.toArray))).push (seqObj "list" its.toArray 0)).get? b=some o:=fun b o e=>by
   have lt:=P' e;refine G' _ ?_;rw[Heap.get?_update_ne _ _ _ _ (Za' lt)];exact G' _ e
  have at1:(((s.heap.push (seqObj "list" #[] 0)).update s.heap.objs.size (Obj.mapSeq (· ++ its.toArray))).push (seqObj "list" its.toArray 0)).get? (s.heap.objs.size+1)=some (seqObj "list" its.toArray 0):=by
   rw[<-sz1];exact Zd' _ rfl
  show wpAny _ _ _ _ _ { s with heap:=((s.heap.push (seqObj "list" #[] 0)).update s.heap.objs.size (Obj.mapSeq (· ++ its.toArray))).push (seqObj "list" its.toArray 0) };rw[sz1];generalize ((s.heap.push (seqObj "list" #[] 0)).update s.heap.objs.size (Obj.mapSeq (· ++ its.toArray))).push (seqObj "list" its.toArray 0)=h1 at kp1 at1;have lv:X.env.locals≠s.heap.objs.size+1:=by
   obtain⟨m,⟨o,es,ep,e,_⟩,_⟩:=I.loc;exact Za' (Nat.lt_succ_of_lt (P' e))
  refine L' (wpAny_holding (wpAny_call_entry slot_list_sort ⟨_,at1,rfl⟩ entry_list_sort (Y1 (s:={ s with heap:=h1 }) at1 lt2 fun h' c kk g=>⟨_,rfl,?_⟩) (args_list_sort _)));refine Y' ⟨_,rfl,fin h' _ its c s.toks (Heap.get?_none_of_le (Nat.le_succ _)) (fun b o _ e=>kk b o (Za' (Nat.lt_succ_of_lt (P' e))) (kp1 b o e)) (fun m hm=>?_) g rfl fun _ h=>h⟩;obtain⟨o,es,ep,e,w⟩:=hm;exact⟨o,es,ep,kk _ _ lv (kp1 _ _ e),w⟩
end
end L2
set_option maxHeartbeats 1000000
namespace lz
open PySem L2
inductive Kd where
 |G|D|R|s|d|r|dot|three|two
 deriving DecidableEq,Repr
def Kd.str:Kd->Str
 |.G=>"G" | .D=>"D" | .R=>"R" | .s=>"s" | .d=>"d" | .r=>"r" | .dot=>"." | .three=>"3" | .two=>"2"
def Kd.cp:Kd->Nat
 |.G=>71|.D=>68|.R=>82|.s=>115|.d=>100|.r=>114|.dot=>46|.three=>51|.two=>50
def Kd.great:Kd->Bool
 |.G=>true|.D=>true|.R=>true|_=>false
def Kd.small:Kd->Bool
 |.s=>true|.d=>true|.r=>true|_=>false
def Kd.parting:Kd->Bool
 |.dot=>true|.three=>true|.two=>true|_=>false
def Kd.meas:Kd->Bool
 |.three=>true|.two=>true|_=>false
def Kd.kh:Kd->Bool
 |.G=>true|.D=>true|.s=>true|.d=>true|_=>false
abbrev Sg:=Kd×Int
def tN (x y:Str):Bool:=!(Builtin.Str.occurrences y x 0 y.length 1).isEmpty
theorem aii (k:Kd):k.str=⟨#[k.cp]⟩:=by cases k <;> decide +kernel
theorem str_inj {a b:Kd}:a.str=b.str ↔ a=b:=by
 constructor
 ·revert a b
  have:∀ a b:Kd,a.str=b.str->a=b:=by
   intro a b;cases a <;> cases b <;> first|(intro _;rfl)|(intro h;exact j' h (by lk))
  exact fun {a b}=>this a b
 ·exact fun h=>by rw[h]
theorem aly (a b:Str):decide (V.str a=V.str b)=decide (a=b):=by
 by_cases h:a=b
 ·rw[h];simp
 ·rw[Zb' h];exact Zb' fun e=>h (V.str.inj e)
theorem VO (a b:Kd):decide (V.str a.str=V.str b.str)=decide (a=b):=by
 rw[aly];exact decide_eq_decide.mpr str_inj
theorem k_G (k:Kd):decide (V.str k.str=V.str "G")=decide (k=.G):=VO k .G
theorem k_D (k:Kd):decide (V.str k.str=V.str "D")=decide (k=.D):=VO k .D
theorem k_s (k:Kd):decide (V.str k.str=V.str "s")=decide (k=.s):=VO k .s
theorem aeJ (k:Kd):decide (V.str k.str=V.str ".")=decide (k=.dot):=VO k .dot
theorem UT (k:Kd):decide (V.str k.str=V.str "3")=decide (k=.three):=VO k .three
theorem aeK (k:Kd):decide (V.str k.str=V.str "2")=decide (k=.two):=VO k .two
def VP (H:Hp)(v:V)(s:Sg):Prop:=∃ p,v=.ref p/\H p=some (.tup [.str s.1.str,.int s.2])
theorem VP.same {H H':Hp}{v:V}{s:Sg}(e:ax H H')(h:VP H v s):VP H' v s:=by
 obtain⟨p,rfl,q⟩:=h;exact⟨p,rfl,e _ _ q⟩
abbrev VQ (H:Hp):List V->List Sg->Prop:=Paired (VP H)
theorem VQ.same {H H':Hp}(e:ax H H'):∀{xs:List V} {ss:List Sg},VQ H xs ss->VQ H' xs ss
 |_,_,.nil=>.nil
 |_,_,.cons a b=>.cons (a.same e) (VQ.same e b)
theorem dq {α β:Type}{F:α->β->Prop}:∀{xs:List α} {ys:List β} {i:Nat} {x:α},Paired F xs ys->xs[i]? = some x->∃ y,ys[i]? = some y/\F x y
 |_,_,_,_,.nil,e=>by simp at e
 |_,_,0,_,.cons r _,e=>by simp at e;subst e;exact⟨_,rfl,r⟩
 |_,_,i+1,x,.cons _ t,e=>by
  obtain⟨u,h1,h2⟩:=dq (i:=i) (x:=x) t (by simpa using e);exact⟨u,by simpa using h1,h2⟩
theorem Y2 {α β:Type}{F:α->β->Prop}:∀{xs:List α} {ys:List β} {i:Nat} {y:β},Paired F xs ys->ys[i]? = some y->∃ x,xs[i]? = some x/\F x y
 |_,_,_,_,.nil,e=>by simp at e
 |_,_,0,_,.cons r _,e=>by simp at e;subst e;exact⟨_,rfl,r⟩
 |_,_,i+1,x,.cons _ t,e=>by
  obtain⟨u,h1,h2⟩:=Y2 (i:=i) t (by simpa using e);exact⟨u,by simpa using h1,h2⟩
theorem bO {α β:Type}{F:α->β->Prop}{xs:List α}{ys:List β}(h:Paired F xs ys):xs.length=ys.length:=Paired.length h
theorem j0 {α β:Type}{F:α->β->Prop}:∀{xs:List α} {ys:List β} {x:α} {y:β},Paired F xs ys->F x y->Paired F (xs++[x]) (ys++[y])
 |_,_,_,_,.nil,h=>.cons h .nil
 |_,_,_,_,.cons a b,h=>.cons a (j0 b h)
theorem aij {α β:Type}{F:α->β->Prop}:∀{xs:List α} {ys:List β} {xs':List α} {ys':List β},Paired F xs ys->Paired F xs' ys'->Paired F (xs++xs') (ys++ys')
 |_,_,_,_,.nil,h=>h
 |_,_,_,_,.cons a b,h=>.cons a (aij b h)
theorem aeL {α β:Type}{F:α->β->Prop}:∀{xs:List α} {ys:List β} (n:Nat),Paired F xs ys->Paired F (xs.drop n) (ys.drop n)
 |_,_,0,h=>h
 |_,_,n+1,.nil=>.nil
 |_,_,n+1,.cons a b=>aeL n b
theorem UU {α β:Type}{F:α->β->Prop}:∀{xs:List α} {ys:List β} (n:Nat),Paired F xs ys->Paired F (xs.take n) (ys.take n)
 |_,_,0,h=>.nil
 |_,_,n+1,.nil=>.nil
 |_,_,n+1,.cons a b=>.cons a (UU n b)
theorem bh {α β:Type}{F G:α->β->Prop}(h:∀ x y,F x y->G x y):∀{xs:List α} {ys:List β},Paired F xs ys->Paired G xs ys
 |_,_,.nil=>.nil
 |_,_,.cons a b=>.cons (h _ _ a) (bh h b)
theorem bC {H0 H:Hp}{l:Addr}{o:HO}(s:ax H0 H)(hl:H0 l=none):ax H0 (upd H l o):=fun b u e=>by
 rw[aA (aP e hl)];exact s b u e
theorem aeM {H:Hp}{D:Addr}{o:HO}{zs:List V}{v:V}{s:Sg}(hD:H D=some (.lst zs))(h:VP H v s):VP (upd H D o) v s:=by
 obtain⟨p,e,q⟩:=h;exact⟨p,e,by rw[aA (HF q hD (by intro z;cases z))];exact q⟩
theorem agq {H:Hp}{D:Addr}{o:HO}{zs:List V}{xs:List V}{ss:List Sg}(hD:H D=some (.lst zs))(h:VQ H xs ss):VQ (upd H D o) xs ss:=bh (fun _ _ q=>aeM hD q) h
theorem Y3 {ms:List Int}{i:Nat}{x:V}(h:(ms.map V.int)[i]? = some x):∃ z,ms[i]? = some z/\x=V.int z:=by
 rw[Zi']at h;cases e:ms[i]? with
 |none=>rw[e]at h;cases h
 |some z=>rw[e]at h;exact⟨z,rfl,(Zc' h).symm⟩
section
variable {K:Frag} {H:Hp} {p:Addr} {Q:VK}
theorem ix0 {a b:V}(h:H p=some (.tup [a,b]))(q:Q a H):FK K (.ref p) (.int 0) H Q\/FL K (.ref p) (.int 0) H Q\/FN (.ref p) (.int 0) H Q:=.inr (.inl ⟨p,_,0,a,rfl,rfl,dz.of h,rfl,q⟩)
theorem ix1 {a b:V}(h:H p=some (.tup [a,b]))(q:Q b H):FK K (.ref p) (.int 1) H Q\/FL K (.ref p) (.int 1) H Q\/FN (.ref p) (.int 1) H Q:=.inr (.inl ⟨p,_,1,b,rfl,rfl,dz.of h,rfl,q⟩)
theorem Ia {xs:List V}{i:Int}{n:Nat}{v:V}(h:aR K H p xs)(hn:i=n)(e:xs[n]? = some v)(q:Q v H):FK K (.ref p) (.int i) H Q\/FL K (.ref p) (.int i) H Q\/FN (.ref p) (.int i) H Q:=.inl ⟨p,xs,i,v,rfl,rfl,h,by rw[hn];exact vN e,q⟩
theorem alA {ns:List Int}{i:Int}{n:Nat}{z:Int}(h:aR K H p (ns.map V.int))(hn:i=n)(e:ns[n]? = some z)(q:Q (.int z) H):FK K (.ref p) (.int i) H Q\/FL K (.ref p) (.int i) H Q\/FN (.ref p) (.int i) H Q :=
 Ia h hn (by rw[Zi',e];rfl) q
end
def nm (m:Int):Kd->Int
 |.three=>3
 |.two=>2
 |_=>m
def Ms (m:Int):Prop:=m=3\/m=2
theorem Ms.nm {m:Int}(h:Ms m)(k:Kd):Ms (nm m k):=by
 cases k <;> first|exact h|exact .inl rfl|exact .inr rfl
def pw:Kd->Int->Int
 |.G,m=>if m=2 then 2 else 3
 |.R,m=>if m=2 then 2 else 3
 |.D,_=>2
 |.s,_=>1
 |.d,_=>1
 |.r,_=>1
 |_,_=>0
def bw (m:Int)(k:Kd)(n:Option Kd):Int:=if m=2/\k=.G/\n=some .dot then 3 else pw k m
def iE (m:Int):List Kd->List Int
 |[]=>[]
 |k::t=>bw (nm m k) k t.head? :: iE (nm m k) t
theorem yH (m:Int)(ks:List Kd):(iE m ks).length=ks.length:=by
 induction ks generalizing m with
 |nil=>rfl
 |cons k t ih=>simp[iE,ih]
def inR (m:Int)(k:Kd):Bool:=decide (m≠2)&&k.small
def jc (m:Int):List Kd->List Bool
 |[]=>[]
 |k::t=>inR (nm m k) k::jc (nm m k) t
theorem qY (m:Int)(ks:List Kd):(jc m ks).length=ks.length:=by
 induction ks generalizing m with
 |nil=>rfl
 |cons k t ih=>simp[jc,ih]
def dk (at' first:Nat):List Bool->List (Nat×Nat)
 |[]=>if first<at' then [(first,at')] else []
 |true::t=>dk (at'+1) first t
 |false::t=>(if first<at' then [(first,at')] else [])++dk (at'+1) (at'+1) t
def DD (m:Int)(ks:List Kd):List (Nat×Nat):=dk 0 0 (jc m ks)
def kAt (ks:List Kd)(i:Int):Option Kd:=if 0<=i then ks[i.toNat]? else none
theorem ada (ks:List Kd)(n:Nat):kAt ks (n:Int)=ks[n]?:=by
 unfold kAt;rw[S' (by omega)];rfl
def pD:Option Kd->Bool
 |some k=>k.great
 |none=>false
def kM (ks:List Kd)(f:List Int)(a:Nat):Bool:=decide (kAt ks ((a:Int)-1)=some .G)&&decide (f.getD (a-1) 0=3)
def iF (ks:List Kd)(z:Nat):Bool:=decide (ks[z]? = some .G) && !pD ks[z+1]?
def C8 (ks:List Kd)(f:List Int)(a z:Nat):Bool×List Int:=if kM ks f a then(true,f.set (a-1) 2) else if iF ks z then(true,f.set z 2) else(false,f)
def C9 (ks:List Kd)(f:List Int)(a z:Nat):Bool×List Int:=if pD ks[z]? && decide (ks[z-1]? = some .s) then(true,f.set (z-1) 2) else if kM ks f a&&iF ks z then(true,(f.set (a-1) 2).set z 2) else(false,f)
def settle (ks:List Kd)(f:List Int)(a z:Nat):Bool×List Int:=if(z-a) % 3=1 then C8 ks f a z else if(z-a) % 3=2 then C9 ks f a z else(true,f)
theorem DE (ks:List Kd)(f:List Int)(a z:Nat):(settle ks f a z).2.length=f.length:=by
 unfold settle C8 C9
 repeat' split
 all_goals simp
abbrev RdS:=List Int×List (Nat×Nat)
def ki (ks:List Kd)(c:RdS)(p:Nat×Nat):RdS:=((settle ks c.1 p.1 p.2).2,if(settle ks c.1 p.1 p.2).1 then c.2 else c.2++[p])
def j1 (m:Int)(ks:List Kd):RdS:=(DD m ks).foldl (ki ks) (iE m ks,[])
theorem Y4 (ks:List Kd)(rs:List (Nat×Nat))(c:RdS):(rs.foldl (ki ks) c).1.length=c.1.length:=by
 induction rs generalizing c with
 |nil=>rfl
 |cons p t ih=>rw[List.foldl_cons,ih];exact DE ..
theorem VR (m:Int)(ks:List Kd):(j1 m ks).1.length=ks.length:=by
 unfold j1;rw[Y4,yH]
theorem DF:∀(bs:List Bool)(at' first:Nat),first<=at'->∀ p∈dk at' first bs,first<=p.1/\p.1<p.2/\p.2<=at'+bs.length
 |[],at',first,h,p,hp=>by
  unfold dk at hp;split at hp
  ·have:p=(first,at'):=by simpa using hp
   subst this;exact⟨A' _,by assumption,by simp⟩
  ·cases hp
 |true::t,at',first,h,p,hp=>by
  have:=DF t (at'+1) first (by omega) p hp
  simp only [Zp'];omega
 |false::t,at',first,h,p,hp=>by
  unfold dk at hp;simp only [Zp'];rcases Zq'.mp hp with hp|hp
  ·split at hp
   ·have:p=(first,at'):=by simpa using hp
    subst this;exact⟨A' _,by assumption,by simp⟩
   ·cases hp
  ·have:=DF t (at'+1) (at'+1) (A' _) p hp;omega
theorem Y5 (m:Int)(ks:List Kd):∀ p∈DD m ks,p.1<p.2/\p.2<=ks.length:=by
 intro p hp;have:=DF (jc m ks) 0 0 (A' _) p hp;rw[qY]at this;omega
theorem qZ:∀(bs:List Bool)(at' first:Nat),(dk at' first bs).length<=bs.length+1
 |[],at',first=>by unfold dk;split <;> simp
 |true::t,at',first=>by
  unfold dk;have:=qZ t (at'+1) first
  simp only [Zp'];omega
 |false::t,at',first=>by
  unfold dk;have:=qZ t (at'+1) (at'+1);simp only [Zp',Zj'];split <;> simp <;> omega
def VS (H:Hp)(v:V)(q:Nat×Nat):Prop:=∃ p,v=.ref p/\H p=some (.tup [.int (q.1:Int),.int (q.2:Int)])
abbrev Prs (H:Hp):List V->List (Nat×Nat)->Prop:=Paired (VS H)
theorem VS.same {H H':Hp}{v:V}{q:Nat×Nat}(e:ax H H')(h:VS H v q):VS H' v q:=by
 obtain⟨p,rfl,z⟩:=h;exact⟨p,rfl,e _ _ z⟩
theorem Jq {H H':Hp}(e:ax H H'){xs:List V}{qs:List (Nat×Nat)}(h:Prs H xs qs):Prs H' xs qs:=bh (fun _ _ z=>z.same e) h
theorem aeO {H:Hp}{D:Addr}{o:HO}{zs:List V}{v:V}{q:Nat×Nat}(hD:H D=some (.lst zs))(h:VS H v q):VS (upd H D o) v q:=by
 obtain⟨p,e,z⟩:=h;exact⟨p,e,by rw[aA (HF z hD (by intro z;cases z))];exact z⟩
theorem Oo {H:Hp}{D:Addr}{o:HO}{zs:List V}{xs:List V}{qs:List (Nat×Nat)}(hD:H D=some (.lst zs))(h:Prs H xs qs):Prs (upd H D o) xs qs:=bh (fun _ _ q=>aeO hD q) h
theorem Y6 {H:Hp}{a:Addr}{o:HO}(h:H a=some o):upd H a o=H:=by
 funext b
 unfold upd;split
 ·rename_i e;rw[e,h]
 ·rfl
theorem VT {ks:List Kd}{f:List Int}{a:Nat}(h:kM ks f a=true):1<=a/\a-1<ks.length:=by
 unfold kM at h;have h1:=J' (Bool.and_eq_true_iff.mp h).1;unfold kAt at h1;split at h1
 ·have:=(B'.mp h1).1;omega
 ·cases h1
theorem Oq {ks:List Kd}{z:Nat}(h:iF ks z=true):z<ks.length:=by
 unfold iF at h;have h1:=J' (Bool.and_eq_true_iff.mp h).1;exact(B'.mp h1).1
theorem Jr {n:Nat}{i:Int}{j:Nat}(e:i=j)(h:j<n):UI n i=some j:=by
 unfold UI;subst e;rw[S' (by omega),S' (by omega)];rfl
theorem wc {α:Type}{l:List α}{i:Nat}{x:α}(h:l[i]? = some x):l.drop i=x::l.drop (i+1):=by
 obtain⟨hi,e⟩:=B'.mp h;rw[List.drop_eq_getElem_cons hi,e]
theorem DG {α β:Type}{l:List α}{f:α->β}{i:Nat}{x:α}(h:l[i]? = some x):(l.map f)[i]? = some (f x):=by rw[Zi',h];rfl
abbrev df (ss:List Sg):List Kd:=ss.map Prod.fst
theorem Js {fs:List Int}{j:Nat}{v:Int}:(fs.map V.int).set j (V.int v)=(fs.set j v).map V.int:=by rw[List.map_set]
theorem big {n:Nat}(h:n<=1000):n<=sizeLine:=Nat.le_of_lt (aQ h)
theorem head_drop {α:Type}(l:List α)(i:Nat):(l.drop i).head? = l[i]?:=by
 rw[List.head?_drop]
def gO (m:Int):List Kd->List Bool
 |[]=>[]
 |k::t=>decide (nm m k=3)::gO (nm m k) t
theorem Ot (m:Int)(ks:List Kd):(gO m ks).length=ks.length:=by
 induction ks generalizing m with
 |nil=>rfl
 |cons k t ih=>simp[gO,ih]
def lead:List Bool->Nat
 |true::t=>lead t+1
 |_=>0
theorem UW:∀ bs:List Bool,lead bs<=bs.length
 |[]=>A' _
 |true::t=>by simp only [lead,Zp'];have:=UW t;omega
 |false::t=>X' _
theorem DH:∀(bs:List Bool)(at' first:Nat),first<at'+lead bs\/lead bs=0->first<=at'->dk at' first bs=(if first<at'+lead bs then [(first,at'+lead bs)] else [])++dk (at'+lead bs) (at'+lead bs) (bs.drop (lead bs))
 |[],at',first,_,h=>by
  show(if first<at' then [(first,at')] else [])=(if first<at' then [(first,at')] else [])++dk at' at' [];rw[show dk at' at' []=[] by unfold dk;rw[M' (Nat.lt_irrefl _)],append_nil]
 |true::t,at',first,h0,h=>by
  have ih:=DH t (at'+1) first (.inl (by omega)) (by omega)
  have e:at'+1+lead t=at'+(lead t+1):=by omega
  rw[e]at ih;simp only [dk,lead,List.drop_succ_cons];exact ih
 |false::t,at',first,_,h=>by
  show(if first<at' then [(first,at')] else [])++dk (at'+1) (at'+1) t=(if first<at' then [(first,at')] else [])++((if at'<at' then [(at',at')] else [])++dk (at'+1) (at'+1) t);rw[M' (Nat.lt_irrefl at'),nil_append]
theorem UX {m:Int}(h:Ms m):∀(ks:List Kd)(i:Nat)(k:Kd),ks[i]? = some k->∃ b,(gO m ks)[i]? = some b/\(jc m ks)[i]? = some (k.small&&b)
 |[],i,k,e=>by simp at e
 |c::t,0,k,e=>by
  have:c=k:=by simpa using e
  subst this;refine⟨decide (nm m c=3),rfl,?_⟩;simp only [jc,List.getElem?_cons_zero,inR];have hm:=h.nm c;rcases hm with e|e <;> rw[e] <;> cases c <;> rfl
 |c::t,i+1,k,e=>by
  obtain⟨b,h1,h2⟩:=UX (h.nm c) t i k (by simpa using e);exact⟨b,by simpa [gO] using h1,by simpa [jc] using h2⟩
theorem UY:∀(bs:List Bool)(j:Nat),j<=lead bs->(j<lead bs ↔ bs[j]? = some true)
 |[],j,h=>by simp[lead]
 |true::t,0,h=>by simp[lead]
 |true::t,j+1,h=>by
  have:=UY t j (by simp only [lead]at h;omega);simp only [lead,List.getElem?_cons_succ];rw[<-this];omega
 |false::t,j,h=>by
  have:j=0:=by simp only [lead]at h;omega
  subst this;simp[lead]
theorem agr {m:Int}{ks:List Kd}{low j:Nat}:((jc m ks).drop low)[j]? = (jc m ks)[low+j]?:=by rw[List.getElem?_drop]
theorem aeP (xs:List V)(n:Nat):yz xs none (some (n:Int))=xs.take n:=by
 unfold yz;have e:HT.ji xs.length xs.length (some (n:Int))=min n xs.length:=HT.UE xs.length xs.length n;rw[HT.Dm,e,Nat.sub_zero,List.drop_zero];rcases Nat.le_total n xs.length with h|h
 ·rw[Nat.min_eq_left h]
 ·rw[Nat.min_eq_right h,take_length,List.take_of_length_le h]
theorem adb (xs:List V)(n:Nat)(h:n<=xs.length):yz xs (some (n:Int)) none=xs.drop n:=by
 unfold yz;have e:HT.ji xs.length 0 (some (n:Int))=min n xs.length:=HT.UE xs.length 0 n;rw[HT.Dm,e,Nat.min_eq_left h];exact List.take_of_length_le (by rw[length_drop];omega)
def PrI (H:Hp)(v:V)(q:Int×Int):Prop:=∃ p,v=.ref p/\H p=some (.tup [.int q.1,.int q.2])
abbrev uf (H:Hp):List V->List (Int×Int)->Prop:=Paired (PrI H)
theorem fc {H H':Hp}(e:ax H H'){xs:List V}{qs:List (Int×Int)}(h:uf H xs qs):uf H' xs qs:=bh (fun _ _ ⟨p,a,z⟩=>⟨p,a,e _ _ z⟩) h
theorem Ou {H:Hp}{D:Addr}{o:HO}{zs:List V}{v:V}{q:Int×Int}(hD:H D=some (.lst zs))(h:PrI H v q):PrI (upd H D o) v q:=by
 obtain⟨p,e,z⟩:=h;exact⟨p,e,by rw[aA (HF z hD (by intro z;cases z))];exact z⟩
theorem UZ {H:Hp}{D:Addr}{o:HO}{zs:List V}{xs:List V}{qs:List (Int×Int)}(hD:H D=some (.lst zs))(h:uf H xs qs):uf (upd H D o) xs qs:=bh (fun _ _ q=>Ou hD q) h
def DI (K:Frag):Sp:=fun vs H Q _=>∃(a:Addr)(ns:List Int),vs=[.ref a]/\aR K H a (ns.map V.int)/\ns.length<=63/\∀ H',Q (.bl true) H'
theorem VU {K:Frag}{H:Hp}{a:Addr}{ns:List Int}(hl:ns.length<=63)(_:Only H)(hS:aR K H a (ns.map V.int)):DI K [.ref a] H (fun v _=>v=.bl true) fun _ _ _=>False :=
 ⟨a,ns,rfl,hS,hl,fun _=>rfl⟩
abbrev q0:=Option Int×Option Int×Option Int
def eV:Option Int->V
 |none=>.non
 |some n=>.int n
def costOf (c:q0):Kd->Option Int
 |.dot=>c.1
 |.D=>c.2.1
 |.d=>c.2.1
 |.three=>c.2.2
 |.two=>c.2.2
 |_=>some 0
end lz
set_option maxHeartbeats 4000000
namespace L2
open PySem PySem.Spec PyProof.Rows PySem.SeqAt
section
variable {X:Cx}
theorem L6:∀{ss:List Str} {vs:List Value},Vals (ss.map V.str) vs->StrsAre vs ss:=by
 intro ss
 induction ss with
 |nil=>intro vs h;cases h;exact .nil
 |cons x ss ih =>
  intro vs h;cases h with
  |cons h1 h2 =>
   obtain⟨t,rfl⟩:=h1;exact .cons x t (ih h2)
theorem L7:∀{ss:List Str} {vs:List Value},StrsAre vs ss->Vals (ss.map V.str) vs
 |_,_,.nil=>.nil
 |_,_,.cons x t h=>.cons ⟨t,rfl⟩ (L7 h)
theorem Ib:∀(p:Str)(l:List Str),risingS p l=true->(p::l).Pairwise (fun a b=>¬ b.cps.toList<a.cps.toList)
 |p,[],_=>by simp
 |p,x::r,h=>by
  unfold risingS at h;rw[Bool.and_eq_true,ltCps_eq]at h;have h1:¬ x.cps.toList<p.cps.toList:=by simpa using h.1
  have ih:=Ib x r h.2;refine List.pairwise_cons.mpr ⟨fun y hy=>?_,ih⟩;rcases List.mem_cons.mp hy with rfl|hy
  ·exact h1
  ·have h2:=(List.pairwise_cons.mp ih).1 y hy;have a1:p.cps.toList<=x.cps.toList:=List.not_lt.mp h1;have a2:x.cps.toList<=y.cps.toList:=List.not_lt.mp h2;exact List.not_lt.mpr (List.le_trans a1 a2)
theorem Ic (l:List Str)(h:sortedS l=true):l.Pairwise (fun a b=>¬ b.cps.toList<a.cps.toList):=by
 cases l with
 |nil=>simp
 |cons x r=>exact Ib x r h
theorem L8 {l m:List Str}(hl:sortedS l=true)(hm:sortedS m=true)(p:l.Perm m):l=m :=
 p.eq_of_pairwise (le:=fun a b=>¬ b.cps.toList<a.cps.toList) (fun a b _ _ h1 h2=>by
  have e:a.cps.toList=b.cps.toList:=List.le_antisymm (List.not_lt.mp h1) (List.not_lt.mp h2);cases a;cases b;simp only at e
  congr 1
  exact Array.toList_inj.mp e) (Ic l hl) (Ic m hm)
theorem AE:eS X (.builtin "sorted") (fun xs H Q=>∃(a:Addr)(ss ts:List Str),xs=[.ref a]/\aR X.K H a (ss.map V.str)/\ss.length<64/\ts.Perm ss/\sortedS ts=true/\∀ l,H l=none->Q (.ref l) (upd H l (.lst (ts.map V.str)))):=by
 intro pins s σ H xs us Q I r h;obtain⟨a,ss,ts,rfl,hq,hlen,hp,hs,q⟩:=h;obtain⟨u,rfl,rfl⟩:=r.one;obtain⟨its,rv,p,hz⟩:=I.list hq;have hl:=rv.length;rw[K']at hl;refine sorted_strs p.isList (L6 rv) (by omega) fun out ss' a1 a2 a3=>?_;obtain rfl:ss'=ts:=L8 a3 hs (a2.trans hp.symm);obtain⟨e,he⟩:=sortedAll_at s.heap its out;have hz':(ss'.map V.str).length<=sizeLine:=by
  rw[K',a2.length_eq,<-K' (f:=V.str)];exact hz
 exact⟨.ref (s.heap.objs.size+1),_,I.laid (t':=s.toks) (fun _ _=>sortedAll_old) (Nat.le_succ _) (show ck X.prog X.w _ _ _ (.lst (ss'.map V.str)) from⟨hz',out.toList,e,L7 a1,by simpa [seqObj] using he⟩),rfl,q _ (I.hok.fresh (Nat.le_succ _))⟩
theorem ade {z:Str}{g:TG}{tb:TS}{D:Ends}{σ:St}{H:Hp}(Pv:Nat->St->Hp->Prop)(h0:Pv 0 σ H)
  (hs:∀ i c σ H,z.cps[i]? = some c->Pv i σ H->g (.str ⟨#[c]⟩) σ H fun σ2 H2=>tb { D with nx:=Pv (i+1),ct:=Pv (i+1),bk:=D.nx } σ2 H2) (hd:∀ σ H,Pv z.cps.size σ H->D.nx σ H) :
  ∃ W:Nat->Nat->St->Hp->Prop,(∃ m,W 0 m σ H)/\∀ i m σ H,W i m σ H ->
   ((Its z).stop i H/\D.nx σ H)\/((Its z).go i H/\∃ N:St->Hp->Prop,(∀ σ' H',N σ' H'->∃ m',m'<m/\W (i+1) m' σ' H')/\∀ x H',(Its z).NV i H x H'->g x σ H' fun σ2 H2=>tb { D with nx:=N,ct:=N,bk:=D.nx } σ2 H2):=by
 refine⟨fun i m σ H=>m=z.cps.size-i/\i<=z.cps.size/\Pv i σ H,⟨z.cps.size,by simp,X' _,h0⟩,?_⟩;rintro i m σ H ⟨rfl,hi,p⟩
 by_cases hlt:i<z.cps.size
 ·refine .inr ⟨hlt,Pv (i+1),fun σ' H' p'=>⟨z.cps.size-(i+1),by omega,rfl,hlt,p'⟩,fun x H' y=>?_⟩;obtain⟨e,c,hc,rfl⟩:=y;subst e;exact hs i c σ _ hc p
 ·have e:i=z.cps.size:=by omega
  subst e;exact .inl ⟨A' _,hd σ H p⟩
end
end L2
set_option maxHeartbeats 1000000
namespace lz
open PySem L2 PyProof.Rows
theorem nr {n:Nat}(h:n<=1000):n<=sizeLine:=Nat.le_of_lt (aQ h)
def ST:List Str:=["2-","2G","2g","3h0-","3h0o","3h0s","3h1o","3h1s","3h2S","3h2o","3h2s","3n0-","3n0o","3n0s","3n1o","3n1s","3n2S","3n2o","3n2s","3t0-","3w0-","3w0o","3w0s","3w1o","3w1s","3w2S","3w2o","3w2s"]
theorem Ie:sortedS ST=true:=by lk
def mZ (l c:Nat):Bool:=if decide (c=48)=true then decide (l≠104) else(decide (c=49)&&decide (l=104))
def ug (z:Str):Bool:=z.cps.toList.head? == some 50
def m6 (z:Str):Bool:=if ug z=true then decide (z ≠ "2G") else mZ (z.cps.toList.getD 1 0) (z.cps.toList.getD 2 0)
theorem DJ (p:Str->Bool)(h:ST.all p=true){z:Str}(hz:z∈ST):p z=true:=all_eq_true.mp h z hz
theorem aeQ {z:Str}(hz:z∈ST):inV (.str z) [.str "2-",.str "2g",.str "2G"]=ug z:=J' (DJ (fun z=>decide (inV (.str z) [.str "2-",.str "2g",.str "2G"]=ug z)) (by lk) hz)
theorem Dc {z:Str}(hz:z∈ST):z.length<=4:=J' (DJ (fun z=>decide (z.length<=4)) (by lk) hz)
theorem wd {z:Str}(hz:z∈ST)(h:¬ ug z=true):∃ l c t,z.cps.toList=[51,l,c,t]:=by
 have:=DJ (fun z=>ug z||decide (z.cps.toList=[51,z.cps.toList.getD 1 0,z.cps.toList.getD 2 0,z.cps.toList.getD 3 0])) (by lk) hz;rw[O'.mpr h,Bool.false_or]at this;exact⟨_,_,_,J' this⟩
theorem Y7 {z:Str}(hz:z∈ST):∃ c t,z.cps.toList=c::t:=by
 have:=DJ (fun z=>decide (z.cps.toList=z.cps.toList.getD 0 0::z.cps.toList.tail)) (by lk) hz;exact⟨_,_,J' this⟩
theorem b3 (c n:Nat){s:Str}(h:s=⟨#[n]⟩):decide (V.str ⟨#[c]⟩=V.str s)=decide (c=n):=by
 subst h
 by_cases e:c=n
 ·subst e;simp
 ·rw[Zb' e,Zb'];intro z;apply e;have:=V.str.inj z;have:=Ya' (fun s:Str=>s.cps.toList) this
  simpa using this
theorem Y8 (c n:Nat){s:Str}(h:s=⟨#[n]⟩):(!decide (V.str ⟨#[c]⟩=V.str s))=decide (c≠n):=by
 rw[b3 c n h];simp
theorem Ov (z s:Str):(!decide (V.str z=V.str s))=decide (z≠s):=by
 by_cases e:z=s
 ·subst e;simp
 ·have:V.str z≠V.str s:=fun q=>e (V.str.inj q);simp[e,this]
def LF:List Str:=["n","w","h"]
def RN:List Str:=["0s","0o","1s","1o","2s","2S","2o"]
def f3 (l r:Str):Str:=Str.empty ++ "3" ++ l++r
def blk (l:Str):List Str:=f3 l "0-" :: RN.map (f3 l)
def B0:List Str:=["2-","2g","2G","3t0-"]
def FR (i:Nat):List Str:=B0++(LF.take i).flatMap blk
theorem VW:ST.Perm (FR 3):=by
 have:ST.isPerm (FR 3)=true:=by lk
 exact List.isPerm_iff.mp this
theorem VX {i:Nat}{l:Str}(h:LF[i]? = some l):FR (i+1)=FR i++blk l:=by
 unfold FR;rw[List.take_add_one,h,List.flatMap_append,List.append_assoc]
 congr 2
theorem L9 {i:Nat}(h:i<=3):(FR i).length<=28:=by
 match i,h with
 |0,_=>decide +kernel
 |1,_=>decide +kernel
 |2,_=>decide +kernel
 |3,_=>decide +kernel
theorem aik {i:Nat}{l:Str}(h:LF[i]? = some l):i<3:=(B'.mp h).1
theorem ags {i:Nat}{l:Str}(h:LF[i]? = some l):l.length<=1:=by
 have hm:l∈LF:=V' h;exact J' (all_eq_true.mp (show LF.all (fun z=>decide (z.length<=1))=true by lk) l hm)
theorem agt {i:Nat}{l:Str}(h:RN[i]? = some l):l.length<=2:=by
 have hm:l∈RN:=V' h;exact J' (all_eq_true.mp (show RN.all (fun z=>decide (z.length<=2))=true by lk) l hm)
def QF:List Str:=["n","w","h","t"]
def QN:List Str:=["0o","0s","1o","1s","2S","2o","2s"]
def g3 (l r:Str):Str:="3" ++ l++r
def blq (l:Str):List Str:=g3 l "0-" :: (if l = "t" then [] else QN.map (g3 l))
def B1:List Str:=["2-","2G","2g"]
def FT (i:Nat):List Str:=B1++(QF.take i).flatMap blq
theorem VY:ST.Perm (FT 4):=by
 have:ST.isPerm (FT 4)=true:=by lk
 exact List.isPerm_iff.mp this
theorem VZ {i:Nat}{l:Str}(h:QF[i]? = some l):FT (i+1)=FT i++blq l:=by
 unfold FT;rw[List.take_add_one,h,List.flatMap_append,List.append_assoc]
 congr 2
 simp
theorem Ma {i:Nat}(h:i<=4):(FT i).length<=28:=by
 match i,h with
 |0,_=>decide +kernel
 |1,_=>decide +kernel
 |2,_=>decide +kernel
 |3,_=>decide +kernel
 |4,_=>decide +kernel
theorem alD {i c:Nat}(h:(Str.ofString "nwht").cps[i]? = some c):QF[i]? = some ⟨#[c]⟩:=by
 have hz:(Str.ofString "nwht").cps = #[110,119,104,116]:=by lk
 rw[hz]at h;have hi:i<4:=by
  have:=(Array.getElem?_eq_some_iff.mp h).1
  simpa using this
 match i,hi with
 |0,_=>cases h;exact Ya' some (by lk)
 |1,_=>cases h;exact Ya' some (by lk)
 |2,_=>cases h;exact Ya' some (by lk)
 |3,_=>cases h;exact Ya' some (by lk)
theorem ail {i:Nat}{l:Str}(h:QF[i]? = some l):i<4:=(B'.mp h).1
theorem agu {i:Nat}{l:Str}(h:QF[i]? = some l):l.length<=1:=by
 have hm:l∈QF:=V' h;exact J' (all_eq_true.mp (show QF.all (fun z=>decide (z.length<=1))=true by lk) l hm)
theorem agv {i:Nat}{l:Str}(h:QN[i]? = some l):l.length<=2:=by
 have hm:l∈QN:=V' h;exact J' (all_eq_true.mp (show QN.all (fun z=>decide (z.length<=2))=true by lk) l hm)
theorem Dd {xs:List Str}{i:Nat}{x:V}(h:(xs.map V.str)[i]? = some x):∃ z,xs[i]? = some z/\x=.str z:=by
 rw[Zi']at h;cases e:xs[i]? with
 |none=>rw[e]at h;cases h
 |some z=>rw[e]at h;cases h;exact⟨z,rfl,rfl⟩
end lz
namespace lz
open PySem L2 PyProof.Rows
theorem j2 (a b:Str):decide (V.str a=V.str b)=decide (a=b):=by
 by_cases h:a=b
 ·rw[h,W' rfl,W' rfl]
 ·rw[Zb' h,Zb' (fun z=>h (V.str.inj z))]
theorem intD (a b:Int):decide (V.int a=V.int b)=decide (a=b):=by
 by_cases h:a=b
 ·rw[h,W' rfl,W' rfl]
 ·rw[Zb' h,Zb' (fun z=>h (V.int.inj z))]
def TW:List ((Str×Int)×V):=[(("s",1),V.str "2-"),(("d",1),V.str "2-"),(("r",1),V.str "2-"),(("D",2),V.str "2-"),(("R",2),V.str "2-"),(("G",2),V.str "2g"),(("G",3),V.str "2G"),((".",0),V.str "2-"),(("2",0),V.str "2-"),(("3",0),V.str "3n0-")]
def GS:List ((Str×Int)×V):=[(("G",3),V.str "3w0-"),(("G",2),V.str "3h0-"),(("D",2),V.str "3n0-"),(("R",3),V.str "3n0-")]
def chr (z:Str)(i:Nat):Str:=⟨#[z.cps.toList.getD i 0]⟩
def clZ (z:Str):Bool:=mZ (z.cps.toList.getD 1 0) (z.cps.toList.getD 2 0)
def twS (z k:Str)(n:Int):V:=if(decide (z = "2G") && !decide (k = "."))=true then .non else if(decide (z = "2g")&&decide (k = "."))=true then .non else(TW.lookup (k,n)).getD .non
def rnZ (z:Str):Bool:=inV (.str z) [.str "3n1s",.str "3n1o",.str "3h2o"]
def bgZ (z:Str):Bool:=inV (.str z) [.str "3n2S",.str "3w2S"]
def grS (z k:Str)(n:Int):V:=if decide (z = "3t0-")=true then .non else if(rnZ z&&(decide (k = "G")&&decide (n=2)))=true then .str "3t0-" else if(clZ z||bgZ z)=true then(GS.lookup (k,n)).getD .non else .non
def ptS (z k:Str)(n:Int):V:=if(!decide (n=0) || !clZ z)=true then .non else if decide (k = "2")=true then .str "2-" else .str "3n0-"
def tlS (k c:Str)(n:Int):V:=if decide (n=1)=true then(if decide (k = "s")=true then .str "s" else .str "o") else if(decide (n=2)&&(decide (k = "s")&&decide (c = "2")))=true then .str "S" else .non
theorem V0 (k c:Str)(n:Int):tlS k c n=.non\/tlS k c n=.str "s"\/tlS k c n=.str "o"\/tlS k c n=.str "S":=by
 unfold tlS
 repeat' split
 all_goals simp
def X1 (c:Nat):Str:=if c=48 then "1" else if c=49 then "2" else "0"
theorem U0 (c:Nat):(X1 c).length=1:=by
 unfold X1
 repeat' split
 all_goals decide +kernel
theorem q4 (a b:Str):(a++b).length=a.length+b.length:=by
 show(a.cps++b.cps).size=_;rw[Array.size_append];rfl
theorem Ig (s:Str)(h:s = "s"\/s = "o"\/s = "S"\/s = "3"\/s = "n"):s.length=1:=by
 rcases h with rfl|rfl|rfl|rfl|rfl <;> decide +kernel
def lfZ (z:Str):Str:=if decide (z.cps.toList.getD 1 0=116)=true then "n" else chr z 1
theorem U1 (z:Str):(lfZ z).length=1:=by
 unfold lfZ;split
 ·exact Ig _ (.inr (.inr (.inr (.inr rfl))))
 ·rfl
def smS (z k:Str)(n:Int):V:=if decide (z.cps.toList.getD 3 0=83)=true then .non else match tlS k (X1 (z.cps.toList.getD 2 0)) n with
 |.str l=>.str ("3" ++ lfZ z++X1 (z.cps.toList.getD 2 0)++l)
 |_=>.non
def stS (z:Str)(k:Kd)(n:Int):V:=if ug z=true then twS z k.str n else if k.small=true then smS z k.str n else if k.parting=true then ptS z k.str n else grS z k.str n
def shS (z k:Str)(n:Int):Str :=
 let l:=z.cps.toList.getD 1 0
 let c:=z.cps.toList.getD 2 0
 let t:=z.cps.toList.getD 3 0
 let sh:=(decide (k = "G")&&decide (n=2))
 if decide (c=48)=true then(if(decide (l=104)||(decide (l=116)&&tN k "GDR"))=true then "" else "g")
 else if decide (c=49)=true then(if(decide (l=110)&&sh)=true then "t" else if decide (l=104)=true then "g" else "")
 else if(tN k ".32" || decide (t=115))=true then ""
 else if decide (t=83)=true then(if decide (l=104)=true then "" else "g")
 else if(decide (l=104)&&sh)=true then "t" else ""
def l2S (z k:Str)(n:Int):V :=
 if(decide (z = "2G")||decide (k = "."))=true then(if(decide (k = ".")&&(decide (n=0) && !decide (z = "2g")))=true then .str "2-" else .non)
 else if tN k "32"=true then(if(!decide (n=0))=true then .non else if decide (k = "3")=true then .str "3n0-" else .str "2-")
 else if tN k "sdr"=true then(if decide (n=1)=true then .str "2-" else .non)
 else if(decide (k = "G")&&decide (n=3))=true then .str "2G"
 else if(!decide (n=2))=true then .non
 else if decide (k = "G")=true then .str "2g" else .str "2-"
def lbS (z k:Str)(n:Int):V :=
 if ug z=true then l2S z k n
 else if(tN k "sdr" && decide (z.cps.toList.getD 3 0=83))=true then .non
 else if tN k "sdr"=true then
  let c:=X1 (z.cps.toList.getD 2 0)
  if(decide (n=2)&&(decide (k = "s")&&decide (c = "2")))=true then .str ("3" ++ lfZ z ++ "2S")
  else if decide (n=1)=true then .str ("3" ++ lfZ z++c++(if decide (k = "s")=true then "s" else "o")) else .non
 else if decide (shS z k n = "")=true then .non
 else if tN k ".32" = true then(if(!decide (n=0))=true then .non else if decide (k = "2")=true then .str "2-" else .str "3n0-")
 else if(decide (k = "D")||decide (k = "R"))=true then(if decide (n=(if decide (k = "R")=true then 1 else 0)+2)=true then .str "3n0-" else .non)
 else if decide (shS z k n = "t")=true then .str "3t0-"
 else if decide (n=3)=true then .str "3w0-" else if decide (n=2)=true then .str "3h0-" else .non
theorem aim {z:Str}(hz:z∈ST){l c e:Nat}(h:z.cps.toList=[51,l,c,e]):c=48\/c=49\/c=50:=by
 have:=J' (DJ (fun z=>decide (ug z=true\/z.cps.toList.getD 2 0=48\/z.cps.toList.getD 2 0=49\/z.cps.toList.getD 2 0=50)) (by lk) hz);unfold ug at this;rw[h]at this;rcases this with z|z
 ·exact j' z (by simp)
 ·exact z
def agw:List Kd:=[.G,.D,.R,.s,.d,.r,.dot,.three,.two]
theorem Mb (k:Kd):k∈agw:=by cases k <;> decide
theorem ain:(ST.all fun z=>agw.all fun k=>(List.range 10).all fun m=>decide (stS z k (m:Nat)=lbS z k.str (m:Nat)))=true:=by lk
theorem agx {z:Str}(hz:z∈ST)(k:Kd){n:Int}(h0:0<=n)(h9:n<=9):stS z k n=lbS z k.str n:=by
 have h1:=all_eq_true.mp (all_eq_true.mp (all_eq_true.mp ain z hz) k (Mb k)) n.toNat (mem_range.mpr (by omega));have h2:=J' h1
 rwa [Int.toNat_of_nonneg h0]at h2
end lz
namespace lz
open PySem L2 PyProof.Rows
section
variable {K:Frag} {H H':Hp} {p:Addr} {Q:VK}
theorem Jt {a b:V}(h:dz K H p [a,b])(q:Q a H):FK K (.ref p) (.int 0) H Q\/FL K (.ref p) (.int 0) H Q\/FN (.ref p) (.int 0) H Q:=.inr (.inl ⟨p,_,0,a,rfl,rfl,h,rfl,q⟩)
end
def isD:HO->Bool
 |.dK _=>true
 |.ix _ (.dK _)=>true
 |_=>false
def Kn (H H':Hp):Prop:=∀ b o,H b=some o->isD o=false->H' b=some o
theorem _root_.L2.ax.kn {H H':Hp}(s:ax H H'):Kn H H':=fun b o e _=>s b o e
theorem Kn.tup {K:Frag}{H H':Hp}{p:Addr}{xs:List V}(k:Kn H H')(h:dz K H p xs):dz K H' p xs:=by
 rcases h with (h|⟨o,h⟩)|h
 ·exact .inl (.inl (k _ _ h rfl))
 ·exact .inl (.inr ⟨o,k _ _ h rfl⟩)
 ·exact .inr h
def Mc (K:Frag)(H:Hp)(y:V)(s:Sg):Prop:=∃ p,y=.ref p/\dz K H p [.str s.1.str,.int s.2]
theorem Mc.kn {K:Frag}{H H':Hp}(k:Kn H H'){y:V}{s:Sg}(h:Mc K H y s):Mc K H' y s:=by
 obtain⟨p,e,q⟩:=h;exact⟨p,e,k.tup q⟩
theorem Mc.kns {K:Frag}{H H':Hp}(k:Kn H H'){ys:List V}{ss:List Sg}(h:Paired (Mc K H) ys ss):Paired (Mc K H') ys ss:=bh (fun _ _ q=>Mc.kn k q) h
theorem Mc.write {K:Frag}{H:Hp}{l:Addr}{xs:List V}{o:HO}(hl:H l=some (.lst xs)){y:V}{s:Sg}(h:Mc K H y s):Mc K (upd H l o) y s:=by
 obtain⟨q,e,h2⟩:=h;refine⟨q,e,?_⟩;rcases h2 with (h|⟨o,h⟩)|h
 ·exact .inl (.inl (by rw[aA (fun z=>by rw[z,hl]at h;cases h)];exact h))
 ·exact .inl (.inr ⟨o,by rw[aA (fun z=>by rw[z,hl]at h;cases h)];exact h⟩)
 ·exact .inr h
def stQ (z:Str)(k:Kd)(n:Int):Option Str:=match stS z k n with
 |.str y=>some y
 |_=>none
def alK (p:Int->Bool):Bool:=(List.range 10).all fun m=>p (m:Nat)
theorem agz:(ST.all fun z=>agw.all fun k=>alK fun c=>match stS z k c with|.str y=>decide (y∈ST)|.non=>true|_=>false)=true:=by lk
theorem Y9 {z:Str}(hz:z∈ST)(k:Kd){n:Int}(h0:0<=n)(h9:n<=9):(stS z k n=.non/\stQ z k n=none)\/∃ y∈ST,stS z k n=.str y/\stQ z k n=some y:=by
 have h1:=all_eq_true.mp (all_eq_true.mp (all_eq_true.mp agz z hz) k (Mb k)) n.toNat (mem_range.mpr (by omega));rw[Int.toNat_of_nonneg h0]at h1;dsimp only at h1;unfold stQ;cases e:stS z k n with
 |non=>exact .inl ⟨rfl,rfl⟩
 |str y=>rw[e]at h1;exact .inr ⟨y,J' h1,rfl,rfl⟩
 |_=>rw[e]at h1;cases h1
abbrev Mv:=Sg×Int×Str
def Ow (c:q0)(z:Str)(n:Int)(s:Sg):Option Mv:=match costOf c s.1,stQ z s.1 n with
 |some m,some y=>some (s,m,y)
 |_,_=>none
def cI (c:q0)(z:Str)(n:Int)(ss:List Sg):List Mv:=ss.filterMap (Ow c z n)
theorem V1 (c:q0)(z:Str)(n:Int)(ss:List Sg):(cI c z n ss).length<=ss.length:=List.length_filterMap_le ..
theorem Ox {c:q0}{z:Str}{n:Int}{ss:List Sg}{i:Nat}{s:Sg}(h:ss[i]? = some s):cI c z n (ss.take (i+1))=cI c z n (ss.take i)++(match Ow c z n s with|some m=>[m]|none=>[]):=by
 unfold cI;rw[take_succ,h,List.filterMap_append]
 congr 1
 show List.filterMap (Ow c z n) [s]=_;rw[List.filterMap_cons];cases Ow c z n s <;> rfl
def Oy (K:Frag)(H:Hp)(y:V)(m:Mv):Prop:=∃ p q,y=.ref p/\H p=some (.tup [.ref q,.int m.2.1,.str m.2.2])/\dz K H q [.str m.1.1.str,.int m.1.2]
theorem Oy.kn {K:Frag}{H H':Hp}(k:Kn H H'){y:V}{m:Mv}(h:Oy K H y m):Oy K H' y m:=by
 obtain⟨p,q,e,h1,h2⟩:=h;exact⟨p,q,e,k _ _ h1 rfl,k.tup h2⟩
theorem Oy.write {K:Frag}{H:Hp}{l:Addr}{xs:List V}{o:HO}(hl:H l=some (.lst xs)){y:V}{m:Mv}(h:Oy K H y m):Oy K (upd H l o) y m:=by
 obtain⟨p,q,e,h1,h2⟩:=h;refine⟨p,q,e,by rw[aA (fun z=>by rw[z,hl]at h1;cases h1)];exact h1,?_⟩;rcases h2 with (h|⟨o,h⟩)|h
 ·exact .inl (.inl (by rw[aA (fun z=>by rw[z,hl]at h;cases h)];exact h))
 ·exact .inl (.inr ⟨o,by rw[aA (fun z=>by rw[z,hl]at h;cases h)];exact h⟩)
 ·exact .inr h
def tU:List Sg:=[(.dot,0),(.three,0),(.two,0)]
def gP (t:Int):List Sg:=if t = -1 then [(.R,0),(.r,0)] else [(.G,t),(.D,t),(.s,t),(.d,t)]
theorem Za {α:Type}[DecidableEq α]:∀(l L:List α),l.Nodup->(∀ x∈l,x∈L)->l.length<=L.length
 |[],_,_,_=>X' _
 |x::t,L,nd,h=>by
  have hx:=h x mem_cons_self;have h1:=Za t (L.erase x) (List.nodup_cons.mp nd).2 fun y hy=>by
   have hne:y≠x:=fun z=>(List.nodup_cons.mp nd).1 (z ▸ hy);exact(List.mem_erase_of_ne hne).mpr (h y (Zl' _ hy))
  have h2:=List.length_erase_of_mem hx;have h3:0<L.length:=List.length_pos_of_mem hx;rw[Zp'];omega
def nR (H:Hp)(y:V)(q:Str×Int):Prop:=∃ p,y=.ref p/\H p=some (.tup [.str q.1,.int q.2])
theorem nR.kn {H H':Hp}(k:Kn H H'){y:V}{q:Str×Int}(h:nR H y q):nR H' y q:=by
 obtain⟨p,e,h1⟩:=h;exact⟨p,e,k _ _ h1 rfl⟩
theorem nR.write {H:Hp}{l:Addr}{xs:List V}{o:HO}(hl:H l=some (.lst xs)){y:V}{q:Str×Int}(h:nR H y q):nR (upd H l o) y q:=by
 obtain⟨p,e,h1⟩:=h;exact⟨p,e,by rw[aA (fun z=>by rw[z,hl]at h1;cases h1)];exact h1⟩
def Ih (pp:Addr)(H:Hp)(y:V)(cs:List (Str×Int)):Prop:=∃ l xs,y=.ref l/\l≠pp/\H l=some (.lst xs)/\Paired (nR H) xs cs
theorem Ih.kn {pp:Addr}{H H':Hp}(k:Kn H H'){y:V}{q:List (Str×Int)}(h:Ih pp H y q):Ih pp H' y q:=by
 obtain⟨l,xs,e,ne,h1,h2⟩:=h;exact⟨l,xs,e,ne,k _ _ h1 rfl,bh (fun _ _ q=>nR.kn k q) h2⟩
theorem Ih.write {pp:Addr}{H:Hp}{zs:List V}{o:HO}(hp:H pp=some (.lst zs)){y:V}{q:List (Str×Int)}(h:Ih pp H y q):Ih pp (upd H pp o) y q:=by
 obtain⟨l,xs,e,ne,h1,h2⟩:=h;exact⟨l,xs,e,ne,by rw[aA ne];exact h1,bh (fun _ _ q=>nR.write hp q) h2⟩
def bgS (b:Int):Str:=if b=3 then "3n0-" else "2-"
def Wsh (qs:List (Int×Int)):Prop:=∀ q∈qs,0<=q.2/\q.2<=9
def fd (ks:List Kd)(rs:List (Nat×Nat))(f:List Int):List Int:=rs.foldl (fun f q=>(settle ks f q.1 q.2).2) f
theorem U2 (ks:List Kd):∀(rs:List (Nat×Nat)) (c:RdS),(rs.foldl (ki ks) c).1=fd ks rs c.1
 |[],_=>rfl
 |r::t,c=>by rw[List.foldl_cons,U2 ks t];rfl
def rd (m:Int)(ks:List Kd):List Int:=(j1 m ks).1
theorem aio (m:Int)(ks:List Kd):rd m ks=fd ks (DD m ks) (iE m ks):=U2 ks _ _
def DK (r:List Kd):Prop:=∀ k∈r,k.small=true
def Cut (B:List Kd):Prop:=∀ k t,B=k::t->k.small=false
end lz
namespace lz
open PySem L2 PyProof.Rows
def okF (ks:List Kd):List (Nat×Nat)->List Int->Bool
 |[],_=>true
 |p::rs,f=>(settle ks f p.1 p.2).1&&okF ks rs (settle ks f p.1 p.2).2
def air (m:Int)(ks:List Kd):Bool:=okF ks (DD m ks) (iE m ks)
end lz
namespace lz
open PySem L2 PyProof.Rows
def acc:Str->List Kd->List Int->Bool
 |z,[],[]=>m6 z
 |z,k::ks,c::cs=>match stS z k c with
  |.str y=>acc y ks cs
  |_=>false
 |_,_,_=>false
def Cl (cs:List Int):Prop:=∀ c∈cs,0<=c/\c<=9
def w2 (k:Kd):Int:=bw (nm 2 k) k none
def w3 (k:Kd):Int:=bw (nm 3 k) k none
def P2 (ks:List Kd)(cs:List Int):Prop:=cs=rd 2 ks/\air 2 ks=true
def P3 (ks:List Kd)(cs:List Int):Prop:=cs=rd 3 ks/\air 3 ks=true
structure All (ks:List Kd):Prop where
 two:∀ cs:List Int,cs.length=ks.length->Cl cs->(acc "2-" ks cs=true ↔ P2 ks cs)
 g:∀ cs:List Int,cs.length=ks.length->Cl cs->(acc "2g" ks cs=true ↔ ks.head? ≠ some .dot/\P2 ks cs)
 G:∀ cs:List Int,cs.length=ks.length->Cl cs->(acc "2G" ks cs=true ↔ ks.head? = some .dot/\P2 ks cs)
 n:∀ cs:List Int,cs.length=ks.length->Cl cs->(acc "3n0-" ks cs=true ↔ P3 ks cs)
 w:∀ cs:List Int,cs.length=ks.length->Cl cs->(acc "3w0-" ks cs=true ↔ P3 (.G::ks) (3::cs))
 h:∀ cs:List Int,cs.length=ks.length->Cl cs->(acc "3h0-" ks cs=true ↔ P3 (.G::ks) (2::cs))
 t:∀ cs:List Int,cs.length=ks.length->Cl cs->(acc "3t0-" ks cs=true ↔ pD ks.head? = false/\P3 ks cs)
section
variable {r B:List Kd} (hr:DK r) (hB:Cut B) (hc:0<r.length) (ihB:All B) (ihT:∀ t,t.length<B.length->All t) {cs:List Int} (hl:cs.length=r.length+B.length) (hcl:Cl cs)
include hr hB hc ihB ihT hl hcl
end
end lz
namespace lz
open PySem L2 PyProof.Rows
def Wt (x:Int):Prop:=0<=x/\x<=9
theorem U3 {m:Int}(hM:Ms m):∀(ks:List Kd),∀ x∈iE m ks,Wt x
 |[],_,z=>(nomatch z)
 |k::t,x,hx=>by
  rcases List.mem_cons.mp hx with rfl|hx
  ·unfold bw Wt;split
   ·decide
   ·rcases hM.nm k with e|e <;> rw[e] <;> cases k <;> decide
  ·exact U3 (hM.nm k) t x hx
theorem Oz {f:List Int}(h:∀ x∈f,Wt x)(i:Nat):∀ x∈f.set i 2,Wt x:=fun x hx=>by
 rcases List.mem_or_eq_of_mem_set hx with z|rfl
 ·exact h x z
 ·exact⟨by decide,by decide⟩
theorem V2 (ks:List Kd){f:List Int}(h:∀ x∈f,Wt x)(a z:Nat):∀ x∈(settle ks f a z).2,Wt x:=by
 unfold settle C8 C9
 repeat' split
 all_goals first|exact h|exact Oz h _|exact Oz (Oz h _) _
theorem aeT (ks:List Kd):∀(rs:List (Nat×Nat)) (f:List Int),(∀ x∈f,Wt x)->∀ x∈fd ks rs f,Wt x
 |[],f,h=>h
 |r::t,f,h=>aeT ks t _ (V2 ks h r.1 r.2)
theorem adg {m:Int}(hM:Ms m)(ks:List Kd):Cl (j1 m ks).1:=by
 have:=aeT ks (DD m ks) (iE m ks) (U3 hM ks);rw[<-aio]at this;exact this
end lz
namespace lz
open PySem L2 PyProof.Rows
def DL (s:Sg):Int:=if s.1.kh then s.2 else -1
def iG:List Sg->List Int->List (Int×Int)
 |s::t,w::ws=>(if s.1.parting then [] else [(DL s,w)])++iG t ws
 |_,_=>[]
theorem yI:∀(ss:List Sg)(ws:List Int),(iG ss ws).length<=ss.length
 |[],_=>by simp[iG]
 |s::t,[]=>by simp[iG]
 |s::t,w::ws=>by
  have:=yI t ws;simp only [iG,Zj',Zp'];split <;> simp <;> omega
theorem Ii (k:Kd):tN k.str "GDsd"=k.kh:=by cases k <;> decide +kernel
theorem hI {n:Nat}(h:n<9000):n<sizeLine:=U' h (by decide)
structure SgT (K:Frag)(H:Hp)(p:Addr)(k:Kd)(n:Int):Prop where
 h:dz K H p [.str k.str,.int n]
theorem SgT.same {K:Frag}{H H':Hp}{p:Addr}{k:Kd}{n:Int}(h:SgT K H p k n)(e:ax H H'):SgT K H' p k n:=⟨e.tup h.h⟩
def SgM (K:Frag)(H:Hp)(y:V)(s:Sg):Prop:=∃ p,y=.ref p/\SgT K H p s.1 s.2
abbrev we (K:Frag)(H:Hp):List V->List Sg->Prop:=Paired (SgM K H)
theorem we.same {K:Frag}{H H':Hp}(e:ax H H'){xs:List V}{ss:List Sg}(h:we K H xs ss):we K H' xs ss:=bh (fun _ _ ⟨p,e1,q⟩=>⟨p,e1,q.same e⟩) h
theorem we.of {K:Frag}{H:Hp}{xs:List V}{ss:List Sg}(h:VQ H xs ss):we K H xs ss:=bh (fun _ _ ⟨p,e,q⟩=>⟨p,e,⟨dz.of q⟩⟩) h
section
variable {K:Frag} {H:Hp} {p:Addr} {Q:VK}
theorem alL {k:Kd}{n:Int}(h:SgT K H p k n)(q:Q (.str k.str) H):FK K (.ref p) (.int 0) H Q\/FL K (.ref p) (.int 0) H Q\/FN (.ref p) (.int 0) H Q:=.inr (.inl ⟨p,_,0,_,rfl,rfl,h.h,rfl,q⟩)
theorem alM {k:Kd}{n:Int}(h:SgT K H p k n)(q:Q (.int n) H):FK K (.ref p) (.int 1) H Q\/FL K (.ref p) (.int 1) H Q\/FN (.ref p) (.int 1) H Q:=.inr (.inl ⟨p,_,1,_,rfl,rfl,h.h,rfl,q⟩)
theorem DM {xs:List V}{ss:List Sg}{i:Int}{n:Nat}{s:Sg}(h:aR K H p xs)(g:we K H xs ss)(hn:i=n)(e:ss[n]? = some s)(q:∀ b,SgT K H b s.1 s.2->Q (.ref b) H) :
  FK K (.ref p) (.int i) H Q\/FL K (.ref p) (.int i) H Q\/FN (.ref p) (.int i) H Q:=by
 obtain⟨x,hx,b,rfl,hb⟩:=Y2 g e;exact Ia h hn hx (q b hb)
end
def adh (qs:List (Int×Int)):Prop:=∀ q∈qs,q.1 = -1\/(0<=q.1/\q.1<=99)
theorem yJ:∀{ss:List Sg} {ws:List Int} {q:Int×Int},q∈iG ss ws->∃ s∈ss,s.1.parting=false/\q.1=DL s/\q.2∈ws
 |[],_,q,h=>by simp[iG]at h
 |_::_,[],q,h=>by simp[iG]at h
 |s::t,w::ws,q,h=>by
  simp only [iG]at h;rcases Zq'.mp h with z|z
  ·cases e:s.1.parting with
   |true=>rw[e]at z;simp at z
   |false =>
    rw[e]at z;have:q=(DL s,w):=by simpa using z
    subst this;exact⟨s,mem_cons_self,e,rfl,mem_cons_self⟩
  ·obtain⟨s',a,b,c,d⟩:=yJ z;exact⟨s',Zl' _ a,b,c,Zl' _ d⟩
theorem V3 {ss:List Sg}{ws:List Int}(h:Cl ws):Wsh (iG ss ws):=fun q hq=>by
 obtain⟨_,_,_,_,d⟩:=yJ hq;exact h _ d
theorem OA {ss:List Sg}{ws:List Int}(h:∀ s∈ss,s.1.kh=true->0<=s.2/\s.2<100):adh (iG ss ws):=fun q hq=>by
 obtain⟨s,a,b,c,_⟩:=yJ hq;rw[c];unfold DL;cases e:s.1.kh with
 |true=>have:=h s a e;exact .inr ⟨by rw[S' rfl];exact this.1,by rw[S' rfl];omega⟩
 |false=>exact .inl rfl
def Sp2 (z:Str):Prop:=z = "2-"\/z = "3n0-"
instance (z:Str):Decidable (Sp2 z):=by unfold Sp2;exact inferInstance
theorem agB:bootBuiltins "set"=some (.type "set"):=by lk
abbrev Nb:=List (Str×Int)
def gN:Nb->Str->Option Int
 |[],_=>none
 |p::t,y=>if p.1=y then some p.2 else gN t y
def dB (t:Nb):List (Key×V):=t.map fun p=>(Sum.inr p.1,V.int p.2)
theorem kO:∀(t:Nb)(z:Str),qL (dB t) (Sum.inr z)=(gN t z).map V.int
 |[],_=>rfl
 |p::t,z=>by
  unfold gN
  by_cases e:p.1=z
  ·rw[S' e];exact vT (Ya' Sum.inr e)
  ·rw[M' e,<-kO t z];exact vU (fun q=>e (Sum.inr.inj q))
theorem De {t:Nb}{i:Nat}{kv:Key×V}(h:(dB t)[i]? = some kv):∃ p,t[i]? = some p/\kv=(Sum.inr p.1,V.int p.2):=by
 unfold dB at h;rw[Zi']at h;cases e:t[i]? with
 |none=>rw[e]at h;cases h
 |some p=>rw[e]at h;exact⟨p,rfl,(Zc' h).symm⟩
theorem gK (t:Nb):(dB t).length=t.length:=K' ..
theorem U4 {t:Nb}{z:Str}{n:Int}(h:gN t z=none):putK (dB t) (Sum.inr z) (.int n)=dB (t++[(z,n)]):=by
 unfold putK;rw[vV,kO,h,M' (by decide)];unfold dB;rw[map_append];rfl
theorem jT {z:Str}:∀{t:Nb},gN t z=none ↔ z ∉ t.map (·.1)
 |[]=>by simp[gN]
 |p::t=>by
  unfold gN
  by_cases e:p.1=z
  ·rw[S' e];simp[e]
  ·rw[M' e,jT];simp[show ¬ z=p.1 from fun q=>e q.symm]
def AQ (t:Nb)(z:Str)(m:Int):Bool:=match gN t z with
 |some n=>decide (n<=m)
 |none=>false
def AR (t:Nb)(n:Int)(ms:List Mv):Bool:=ms.all fun m=>AQ t m.2.2 (n+m.2.1)
def bdP (c:q0)(t:Nb):Bool:=t.all fun p=>AR t p.2 (cI c p.1 0 tU)
def Zb (c:q0)(t u:Nb)(q:Int×Int):Bool:=t.all fun p=>AR u p.2 (cI c p.1 q.2 (gP q.1))
def j3 (t:Nb):List Int:=(t.filter fun p=>m6 p.1).map (·.2)
def rcB (t:Nb)(o:Option Int):Bool:=match o with
 |none=>(j3 t).isEmpty
 |some m=>(j3 t).all fun n=>decide (m<=n)
def FF (t:Nb):Bool:=decide ((t.map (·.1)).Nodup)&&t.all fun p=>decide (p.1∈ST)
def V4 (c:q0)(b:Int)(o:Option Int)(qs:List (Int×Int))(ts:List Nb):Bool :=
 decide (ts.length=qs.length+1)&&(ts.all FF&&(AQ (ts.headD []) (bgS b) 0&&(ts.all (bdP c)&&((List.range qs.length).all (fun i=>Zb c (ts.getD i []) (ts.getD (i+1) []) (qs.getD i (0,0)))&&rcB (ts.getD qs.length []) o))))
theorem pE {α:Type}{f:α->Bool}{l:List α}{i:Nat}{x:α}(h:l[i]? = some x)(ha:(l.take i).all f=true)(hx:f x=true):(l.take (i+1)).all f=true:=by
 rw[take_succ,h,List.all_append,ha];simp[hx]
theorem pG {α:Type}{f:α->Bool}{l:List α}{i:Nat}{x:α}(h:l[i]? = some x)(hx:f x=false):l.all f=false :=
 List.all_eq_false.mpr ⟨x,V' h,by rw[hx];decide⟩
theorem Zc (z:Str):inV (.str z) (ST.map V.str)=decide (z∈ST):=by
 rw[Bool.eq_iff_iff,decide_eq_true_iff];unfold inV;rw[List.any_eq_true];constructor
 ·rintro⟨y,hy,e⟩;obtain⟨x,hx,rfl⟩:=mem_map.mp hy;have:x=z\/z=x:=by
   have e:Vs _ _=true:=e;simp[Vs]at e
   first|exact .inl e|exact .inr e
  rcases this with rfl|rfl <;> exact hx
 ·intro h;exact⟨_,mem_map.mpr ⟨z,h,rfl⟩,by simp[Vs]⟩
theorem ddS (ns:List Str):decide ((Jm ((ns.map (Sum.inr:Str->Key)).reverse)).length=ns.length)=decide ns.Nodup:=by
 rw[Bool.eq_iff_iff,decide_eq_true_iff,decide_eq_true_iff];have h:=HZ ((ns.map (Sum.inr:Str->Key)).reverse);rw[List.length_reverse,K']at h;rw[h];unfold List.Nodup;rw[List.pairwise_reverse,List.pairwise_map];exact⟨fun h=>h.imp fun n e=>n (by rw[e]),fun h=>h.imp fun n e=>n (Sum.inr.inj e).symm⟩
end lz
local macro_rules | `(tactic| tm_up) => `(tactic| repeat w_up)
local macro_rules | `(tactic| w_up) => `(tactic| first
 |refine⟨_,rfl,?_⟩
 |refine⟨_,_,rfl,rfl,⟨by decide,by decide⟩,?_⟩
 |refine⟨_,_,rfl,rfl,(by first|decide|(show(0:Int)<_;decide)),?_⟩
 |refine .inl ⟨_,_,rfl,rfl,.inr ⟨by decide,by decide⟩,?_⟩
 |refine⟨_,_,rfl,rfl,?_⟩
 |refine .inl ⟨_,_,rfl,rfl,?_⟩
 |refine .inl ⟨rfl,?_⟩
 |refine .inr ⟨_,_,rfl,rfl,?_⟩
 |refine lz.ix0 (by assumption) ?_
 |refine lz.ix1 (by assumption) ?_
 |refine lz.alL (by assumption) ?_
 |refine lz.alM (by assumption) ?_)
noncomputable section
namespace Hd
open PySem PySem.W
noncomputable abbrev pr:Program:=PySem.Challenge.rw_noteworth_k29_papers_judged.prog
noncomputable abbrev br (P:Params) (x:PySem.Str) (t:Nat) (v:Value):DictEntry:=⟨PyData.keyHash P x,.str x t,v⟩
noncomputable def tp (i:Nat):Stmt:=pr.main.body.getD i (.Pass ⟨0,0,0,0⟩)
noncomputable def m0:Nat:=11
noncomputable def ann:Option Value:=some (.ref 6)
noncomputable def drawn:Drawn:=boot_drawn
noncomputable def eJ:Pos:=⟨0,0,0,0⟩
noncomputable def code:Value:=.ref 13
noncomputable def frame:Nat:=14
noncomputable def fe (P:Params):Obj:=⟨.type "tuple",none,.seq #[] 0,#[]⟩
noncomputable def aeW (P:Params):Obj:=⟨.none,none,.fields #[],#[]⟩
noncomputable def fg (P:Params):Obj:=⟨.type "code",none,.fields #[.str "<module>" 182,.str "<module>" 183,.str "/claim/cut.py" 184,.int (1) 0,.int (0) 0,.int (0) 0,.int (0) 0,.int (0) 0,.ref 11,.bool false,.int (181) 0,.ref 12,.none,.none,.none,.none,.int (185) 0,.int (1) 0,.str "/claim/cut.py" 186],#[]⟩
noncomputable def fh (P:Params):Obj:=⟨.type "frame",none,.plain,#[some (.ref 13),some (.ref 3),some (.ref 3),none,some (.str "__main__" 164),none,some (.ref 0)]⟩
noncomputable def H1 (P:Params):Heap:=⟨⟨[boot_o_0 P,boot_o_1 P,boot_o_2 P,boot_o_3 P,boot_o_4 P,boot_o_5 P,boot_o_6 P,boot_o_7 P,boot_o_8 P,boot_o_9 P,boot_o_10 P,fe P,aeW P,fg P,fh P]⟩,(boot_heap P).life⟩
noncomputable def k1:Nat:=187
noncomputable def n1:Nat:=12
noncomputable def p1:Pos:=⟨0,0,0,0⟩
noncomputable def H2 (P:Params):Heap:=⟨⟨[boot_o_0 P,boot_o_1 P,boot_o_2 P,boot_o_3 P,boot_o_4 P,boot_o_5 P,boot_o_6 P,boot_o_7 P,boot_o_8 P,boot_o_9 P,boot_o_10 P,fe P,aeW P,fg P,fh P]⟩,(boot_heap P).life⟩
noncomputable def k2:Nat:=187
noncomputable def n2:Nat:=1
noncomputable def p2:Pos:=⟨0,0,0,0⟩
noncomputable def AS (P:Params):Obj:=⟨.type "dict",none,.dict #[br P "__name__" 165 (.str "noteworth.steps" 238),br P "__doc__" 166 (.none),br P "__package__" 167 (.none),br P "__loader__" 168 (.builtin "__main__.__loader__#opaque"),br P "__spec__" 169 (.none),br P "__annotations__" 170 (.ref 6),br P "__builtins__" 171 (.ref 4),br P "__file__" 173 (.str "/claim/cut.py" 172),br P "__cached__" 174 (.none),br P "SMALL_KINDS" 192 (.ref 15),br P "PARTING_KINDS" 196 (.ref 16),br P "MEASURE_KINDS" 199 (.ref 17),br P "SOUNDING_KINDS" 204 (.ref 18),br P "small" 211 (.ref 25),br P "parting" 218 (.ref 32),br P "DARK_KINDS" 223 (.ref 33),br P "sign_price" 234 (.ref 40),br P "REST_TONE" 237 (.int (-1) 236),br P "TWOFOLD_STATES" 243 (.ref 41),br P "TWOFOLD_BEGIN" 245 (.str "2-" 244),br P "THREEFOLD_BEGIN" 247 (.str "3n0-" 246),br P "SHORTENED_FROM_AHEAD" 249 (.str "3t0-" 248),br P "NO_RUN" 251 (.str "0-" 250),br P "RUNS_GOING_ON" 259 (.ref 42),br P "LEFTS_OF_RUNS" 263 (.ref 43),br P "NEXT_COUNTS" 273 (.ref 44)] 26,#[]⟩
noncomputable def iH (P:Params):Obj:=⟨.none,none,.fields #[.int (6) 0,.int (0) 0,.ref 24,.int (8) 0,.int (0) 0,.ref 31,.int (12) 0,.int (0) 0,.ref 39],#[]⟩
noncomputable def fN (P:Params):Obj:=⟨.type "tuple",none,.seq #[.str "s" 189,.str "d" 190,.str "r" 191] 0,#[]⟩
noncomputable def fO (P:Params):Obj:=⟨.type "tuple",none,.seq #[.str "." 193,.str "3" 194,.str "2" 195] 0,#[]⟩
noncomputable def fP (P:Params):Obj:=⟨.type "tuple",none,.seq #[.str "3" 197,.str "2" 198] 0,#[]⟩
noncomputable def fQ (P:Params):Obj:=⟨.type "tuple",none,.seq #[.str "G" 200,.str "D" 201,.str "s" 202,.str "d" 203] 0,#[]⟩
noncomputable def fR (P:Params):Obj:=⟨.type "tuple",none,.seq #[] 0,#[]⟩
noncomputable def gC (P:Params):Obj:=⟨.none,none,.fields #[],#[]⟩
noncomputable def fS (P:Params):Obj:=⟨.type "tuple",none,.seq #[.str "sign" 208] 0,#[]⟩
noncomputable def fU (P:Params):Obj:=⟨.type "tuple",none,.seq #[] 0,#[]⟩
noncomputable def gE (P:Params):Obj:=⟨.none,none,.func { name:="small",qualname:="small",params:=L2.ao (tp 5),body:=.stmts (L2.ak (tp 5)),scope:=L2.ae (tp 5),globals:=0,closure:=[],defaults:=.none,kwdefaults:=.none,doc:=.none,pyModule:=.none,annotations:=none,code:=.none,closureTuple:=.none,builtins:=0 },#[]⟩
noncomputable def fV (P:Params):Obj:=⟨.type "code",none,.fields #[.str "small" 205,.str "small" 206,.str "/claim/cut.py" 207,.int (6) 0,.int (1) 0,.int (0) 0,.int (0) 0,.int (3) 0,.ref 19,.bool true,.int (181) 0,.ref 20,.none,.ref 21,.ref 22,.ref 23,.int (209) 0,.int (6) 0,.str "/claim/cut.py" 210],#[]⟩
noncomputable def fW (P:Params):Obj:=⟨.type "function",none,.func { name:="small",qualname:="small",params:=L2.ao (tp 5),body:=.stmts (L2.ak (tp 5)),scope:=L2.ae (tp 5),globals:=3,closure:=[],defaults:=.none,kwdefaults:=.none,doc:=.none,pyModule:=.str "noteworth.signs" 187,annotations:=none,code:=.ref 24,closureTuple:=.none,builtins:=0 },#[]⟩
noncomputable def fX (P:Params):Obj:=⟨.type "tuple",none,.seq #[] 0,#[]⟩
noncomputable def gF (P:Params):Obj:=⟨.none,none,.fields #[],#[]⟩
noncomputable def fY (P:Params):Obj:=⟨.type "tuple",none,.seq #[.str "sign" 215] 0,#[]⟩
noncomputable def fZ (P:Params):Obj:=⟨.type "tuple",none,.seq #[] 0,#[]⟩
noncomputable def gG (P:Params):Obj:=⟨.none,none,.func { name:="parting",qualname:="parting",params:=L2.ao (tp 6),body:=.stmts (L2.ak (tp 6)),scope:=L2.ae (tp 6),globals:=0,closure:=[],defaults:=.none,kwdefaults:=.none,doc:=.none,pyModule:=.none,annotations:=none,code:=.none,closureTuple:=.none,builtins:=0 },#[]⟩
noncomputable def f6 (P:Params):Obj:=⟨.type "code",none,.fields #[.str "parting" 212,.str "parting" 213,.str "/claim/cut.py" 214,.int (8) 0,.int (1) 0,.int (0) 0,.int (0) 0,.int (3) 0,.ref 26,.bool true,.int (181) 0,.ref 27,.none,.ref 28,.ref 29,.ref 30,.int (216) 0,.int (8) 0,.str "/claim/cut.py" 217],#[]⟩
noncomputable def f7 (P:Params):Obj:=⟨.type "function",none,.func { name:="parting",qualname:="parting",params:=L2.ao (tp 6),body:=.stmts (L2.ak (tp 6)),scope:=L2.ae (tp 6),globals:=3,closure:=[],defaults:=.none,kwdefaults:=.none,doc:=.none,pyModule:=.str "noteworth.signs" 187,annotations:=none,code:=.ref 31,closureTuple:=.none,builtins:=0 },#[]⟩
noncomputable def gb (P:Params):Obj:=⟨.type "tuple",none,.seq #[.str "D" 221,.str "d" 222] 0,#[]⟩
noncomputable def gg (P:Params):Obj:=⟨.type "tuple",none,.seq #[] 0,#[]⟩
noncomputable def gH (P:Params):Obj:=⟨.none,none,.fields #[],#[]⟩
noncomputable def gh (P:Params):Obj:=⟨.type "tuple",none,.seq #[.str "sign" 227,.str "prices" 228,.str "dot" 229,.str "dark" 230,.str "measure" 231] 0,#[]⟩
noncomputable def gi (P:Params):Obj:=⟨.type "tuple",none,.seq #[] 0,#[]⟩
noncomputable def gI (P:Params):Obj:=⟨.none,none,.func { name:="sign_price",qualname:="sign_price",params:=L2.ao (tp 9),body:=.stmts (L2.ak (tp 9)),scope:=L2.ae (tp 9),globals:=0,closure:=[],defaults:=.none,kwdefaults:=.none,doc:=.none,pyModule:=.none,annotations:=none,code:=.none,closureTuple:=.none,builtins:=0 },#[]⟩
noncomputable def gj (P:Params):Obj:=⟨.type "code",none,.fields #[.str "sign_price" 224,.str "sign_price" 225,.str "/claim/cut.py" 226,.int (12) 0,.int (2) 0,.int (0) 0,.int (0) 0,.int (3) 0,.ref 34,.bool true,.int (181) 0,.ref 35,.none,.ref 36,.ref 37,.ref 38,.int (232) 0,.int (12) 0,.str "/claim/cut.py" 233],#[]⟩
noncomputable def gk (P:Params):Obj:=⟨.type "function",none,.func { name:="sign_price",qualname:="sign_price",params:=L2.ao (tp 9),body:=.stmts (L2.ak (tp 9)),scope:=L2.ae (tp 9),globals:=3,closure:=[],defaults:=.none,kwdefaults:=.none,doc:=.none,pyModule:=.str "noteworth.prices" 219,annotations:=none,code:=.ref 39,closureTuple:=.none,builtins:=0 },#[]⟩
noncomputable def gn (P:Params):Obj:=⟨.type "tuple",none,.seq #[.str "2-" 240,.str "2g" 241,.str "2G" 242] 0,#[]⟩
noncomputable def gp (P:Params):Obj:=⟨.type "tuple",none,.seq #[.str "0s" 252,.str "0o" 253,.str "1s" 254,.str "1o" 255,.str "2s" 256,.str "2S" 257,.str "2o" 258] 0,#[]⟩
noncomputable def gq (P:Params):Obj:=⟨.type "tuple",none,.seq #[.str "n" 260,.str "w" 261,.str "h" 262] 0,#[]⟩
noncomputable def gr (P:Params):Obj:=⟨.type "dict",none,.dict #[br P "0" 264 (.str "1" 265),br P "1" 266 (.str "2" 267),br P "2" 268 (.str "0" 269)] 3,#[]⟩
noncomputable def H3 (P:Params):Heap:=⟨⟨[boot_o_0 P,boot_o_1 P,boot_o_2 P,AS P,boot_o_4 P,boot_o_5 P,boot_o_6 P,boot_o_7 P,boot_o_8 P,boot_o_9 P,boot_o_10 P,fe P,iH P,fg P,fh P,fN P,fO P,fP P,fQ P,fR P,gC P,fS P,fU P,gE P,fV P,fW P,fX P,gF P,fY P,fZ P,gG P,f6 P,f7 P,gb P,gg P,gH P,gh P,gi P,gI P,gj P,gk P,gn P,gp P,gq P,gr P]⟩,(boot_heap P).life⟩
noncomputable def k3:Nat:=274
noncomputable def n3:Nat:=331
noncomputable def p3:Pos:=⟨30,0,30,11⟩
noncomputable def s3:List Stmt:=[tp 0,tp 1,tp 2,tp 3,tp 4,tp 5,tp 6,tp 7,tp 8,tp 9,tp 10,tp 11,tp 12,tp 13,tp 14,tp 15,tp 16,tp 17,tp 18,tp 19]
noncomputable def d4:Nat:=45
noncomputable def dp4:Pos:=⟨31,16,31,178⟩
noncomputable def vs4:List (Value×Value):=[(.ref 46,.str "2-" 276),(.ref 47,.str "2-" 279),(.ref 48,.str "2-" 282),(.ref 49,.str "2-" 285),(.ref 50,.str "2-" 288),(.ref 51,.str "2g" 291),(.ref 52,.str "2G" 294),(.ref 53,.str "2-" 297),(.ref 54,.str "2-" 300),(.ref 55,.str "3n0-" 303)]
noncomputable def adi (P:Params):Obj:=⟨.type "dict",none,.dict #[] 0,#[]⟩
noncomputable def cx (P:Params):Obj:=⟨.type "tuple",none,.seq #[.str "s" 274,.int (1) 275] 0,#[]⟩
noncomputable def cy (P:Params):Obj:=⟨.type "tuple",none,.seq #[.str "d" 277,.int (1) 278] 0,#[]⟩
noncomputable def cz (P:Params):Obj:=⟨.type "tuple",none,.seq #[.str "r" 280,.int (1) 281] 0,#[]⟩
noncomputable def cA (P:Params):Obj:=⟨.type "tuple",none,.seq #[.str "D" 283,.int (2) 284] 0,#[]⟩
noncomputable def cB (P:Params):Obj:=⟨.type "tuple",none,.seq #[.str "R" 286,.int (2) 287] 0,#[]⟩
noncomputable def cC (P:Params):Obj:=⟨.type "tuple",none,.seq #[.str "G" 289,.int (2) 290] 0,#[]⟩
noncomputable def cD (P:Params):Obj:=⟨.type "tuple",none,.seq #[.str "G" 292,.int (3) 293] 0,#[]⟩
noncomputable def cF (P:Params):Obj:=⟨.type "tuple",none,.seq #[.str "." 295,.int (0) 296] 0,#[]⟩
noncomputable def cG (P:Params):Obj:=⟨.type "tuple",none,.seq #[.str "2" 298,.int (0) 299] 0,#[]⟩
noncomputable def cH (P:Params):Obj:=⟨.type "tuple",none,.seq #[.str "3" 301,.int (0) 302] 0,#[]⟩
noncomputable def Ju (P:Params):Heap:=⟨⟨[boot_o_0 P,boot_o_1 P,boot_o_2 P,AS P,boot_o_4 P,boot_o_5 P,boot_o_6 P,boot_o_7 P,boot_o_8 P,boot_o_9 P,boot_o_10 P,fe P,iH P,fg P,fh P,fN P,fO P,fP P,fQ P,fR P,gC P,fS P,fU P,gE P,fV P,fW P,fX P,gF P,fY P,fZ P,gG P,f6 P,f7 P,gb P,gg P,gH P,gh P,gi P,gI P,gj P,gk P,gn P,gp P,gq P,gr P,adi P,cx P,cy P,cz P,cA P,cB P,cC P,cD P,cF P,cG P,cH P]⟩,(boot_heap P).life⟩
noncomputable def Md:Nat:=304
noncomputable def alN (P:Params):Array DictEntry:=#[]
noncomputable def ais:Nat:=0
noncomputable def ait:Nat:=46
noncomputable def aiu:Value:=.str "2-" 276
noncomputable def adj (P:Params):Obj:=⟨.type "dict",none,.dict #[⟨th P "s" (1),.ref 46,.str "2-" 276⟩] 1,#[]⟩
noncomputable def Jv (P:Params):Heap:=⟨⟨[boot_o_0 P,boot_o_1 P,boot_o_2 P,AS P,boot_o_4 P,boot_o_5 P,boot_o_6 P,boot_o_7 P,boot_o_8 P,boot_o_9 P,boot_o_10 P,fe P,iH P,fg P,fh P,fN P,fO P,fP P,fQ P,fR P,gC P,fS P,fU P,gE P,fV P,fW P,fX P,gF P,fY P,fZ P,gG P,f6 P,f7 P,gb P,gg P,gH P,gh P,gi P,gI P,gj P,gk P,gn P,gp P,gq P,gr P,adj P,cx P,cy P,cz P,cA P,cB P,cC P,cD P,cF P,cG P,cH P]⟩,(boot_heap P).life⟩
noncomputable def FU:Nat:=307
noncomputable def alO (P:Params):Array DictEntry:=#[⟨th P "s" (1),.ref 46,.str "2-" 276⟩]
noncomputable def aiv:Nat:=1
noncomputable def aiw:Nat:=47
noncomputable def aix:Value:=.str "2-" 279
noncomputable def adk (P:Params):Obj:=⟨.type "dict",none,.dict #[⟨th P "s" (1),.ref 46,.str "2-" 276⟩,⟨th P "d" (1),.ref 47,.str "2-" 279⟩] 2,#[]⟩
noncomputable def Jw (P:Params):Heap:=⟨⟨[boot_o_0 P,boot_o_1 P,boot_o_2 P,AS P,boot_o_4 P,boot_o_5 P,boot_o_6 P,boot_o_7 P,boot_o_8 P,boot_o_9 P,boot_o_10 P,fe P,iH P,fg P,fh P,fN P,fO P,fP P,fQ P,fR P,gC P,fS P,fU P,gE P,fV P,fW P,fX P,gF P,fY P,fZ P,gG P,f6 P,f7 P,gb P,gg P,gH P,gh P,gi P,gI P,gj P,gk P,gn P,gp P,gq P,gr P,adk P,cx P,cy P,cz P,cA P,cB P,cC P,cD P,cF P,cG P,cH P]⟩,(boot_heap P).life⟩
noncomputable def FV:Nat:=310
noncomputable def alP (P:Params):Array DictEntry:=#[⟨th P "s" (1),.ref 46,.str "2-" 276⟩,⟨th P "d" (1),.ref 47,.str "2-" 279⟩]
noncomputable def aiy:Nat:=2
noncomputable def aiz:Nat:=48
noncomputable def aiA:Value:=.str "2-" 282
noncomputable def adl (P:Params):Obj:=⟨.type "dict",none,.dict #[⟨th P "s" (1),.ref 46,.str "2-" 276⟩,⟨th P "d" (1),.ref 47,.str "2-" 279⟩,⟨th P "r" (1),.ref 48,.str "2-" 282⟩] 3,#[]⟩
noncomputable def Jx (P:Params):Heap:=⟨⟨[boot_o_0 P,boot_o_1 P,boot_o_2 P,AS P,boot_o_4 P,boot_o_5 P,boot_o_6 P,boot_o_7 P,boot_o_8 P,boot_o_9 P,boot_o_10 P,fe P,iH P,fg P,fh P,fN P,fO P,fP P,fQ P,fR P,gC P,fS P,fU P,gE P,fV P,fW P,fX P,gF P,fY P,fZ P,gG P,f6 P,f7 P,gb P,gg P,gH P,gh P,gi P,gI P,gj P,gk P,gn P,gp P,gq P,gr P,adl P,cx P,cy P,cz P,cA P,cB P,cC P,cD P,cF P,cG P,cH P]⟩,(boot_heap P).life⟩
noncomputable def FW:Nat:=313
noncomputable def alQ (P:Params):Array DictEntry:=#[⟨th P "s" (1),.ref 46,.str "2-" 276⟩,⟨th P "d" (1),.ref 47,.str "2-" 279⟩,⟨th P "r" (1),.ref 48,.str "2-" 282⟩]
noncomputable def aiB:Nat:=3
noncomputable def aiC:Nat:=49
noncomputable def aiD:Value:=.str "2-" 285
noncomputable def adm (P:Params):Obj:=⟨.type "dict",none,.dict #[⟨th P "s" (1),.ref 46,.str "2-" 276⟩,⟨th P "d" (1),.ref 47,.str "2-" 279⟩,⟨th P "r" (1),.ref 48,.str "2-" 282⟩,⟨th P "D" (2),.ref 49,.str "2-" 285⟩] 4,#[]⟩
noncomputable def Jy (P:Params):Heap:=⟨⟨[boot_o_0 P,boot_o_1 P,boot_o_2 P,AS P,boot_o_4 P,boot_o_5 P,boot_o_6 P,boot_o_7 P,boot_o_8 P,boot_o_9 P,boot_o_10 P,fe P,iH P,fg P,fh P,fN P,fO P,fP P,fQ P,fR P,gC P,fS P,fU P,gE P,fV P,fW P,fX P,gF P,fY P,fZ P,gG P,f6 P,f7 P,gb P,gg P,gH P,gh P,gi P,gI P,gj P,gk P,gn P,gp P,gq P,gr P,adm P,cx P,cy P,cz P,cA P,cB P,cC P,cD P,cF P,cG P,cH P]⟩,(boot_heap P).life⟩
noncomputable def FX:Nat:=316
noncomputable def alR (P:Params):Array DictEntry:=#[⟨th P "s" (1),.ref 46,.str "2-" 276⟩,⟨th P "d" (1),.ref 47,.str "2-" 279⟩,⟨th P "r" (1),.ref 48,.str "2-" 282⟩,⟨th P "D" (2),.ref 49,.str "2-" 285⟩]
noncomputable def aiE:Nat:=4
noncomputable def aiF:Nat:=50
noncomputable def aiG:Value:=.str "2-" 288
noncomputable def adn (P:Params):Obj:=⟨.type "dict",none,.dict #[⟨th P "s" (1),.ref 46,.str "2-" 276⟩,⟨th P "d" (1),.ref 47,.str "2-" 279⟩,⟨th P "r" (1),.ref 48,.str "2-" 282⟩,⟨th P "D" (2),.ref 49,.str "2-" 285⟩,⟨th P "R" (2),.ref 50,.str "2-" 288⟩] 5,#[]⟩
noncomputable def Jz (P:Params):Heap:=⟨⟨[boot_o_0 P,boot_o_1 P,boot_o_2 P,AS P,boot_o_4 P,boot_o_5 P,boot_o_6 P,boot_o_7 P,boot_o_8 P,boot_o_9 P,boot_o_10 P,fe P,iH P,fg P,fh P,fN P,fO P,fP P,fQ P,fR P,gC P,fS P,fU P,gE P,fV P,fW P,fX P,gF P,fY P,fZ P,gG P,f6 P,f7 P,gb P,gg P,gH P,gh P,gi P,gI P,gj P,gk P,gn P,gp P,gq P,gr P,adn P,cx P,cy P,cz P,cA P,cB P,cC P,cD P,cF P,cG P,cH P]⟩,(boot_heap P).life⟩
noncomputable def FY:Nat:=319
noncomputable def alS (P:Params):Array DictEntry:=#[⟨th P "s" (1),.ref 46,.str "2-" 276⟩,⟨th P "d" (1),.ref 47,.str "2-" 279⟩,⟨th P "r" (1),.ref 48,.str "2-" 282⟩,⟨th P "D" (2),.ref 49,.str "2-" 285⟩,⟨th P "R" (2),.ref 50,.str "2-" 288⟩]
noncomputable def aiH:Nat:=5
noncomputable def aiI:Nat:=51
noncomputable def aiJ:Value:=.str "2g" 291
noncomputable def ado (P:Params):Obj:=⟨.type "dict",none,.dict #[⟨th P "s" (1),.ref 46,.str "2-" 276⟩,⟨th P "d" (1),.ref 47,.str "2-" 279⟩,⟨th P "r" (1),.ref 48,.str "2-" 282⟩,⟨th P "D" (2),.ref 49,.str "2-" 285⟩,⟨th P "R" (2),.ref 50,.str "2-" 288⟩,⟨th P "G" (2),.ref 51,.str "2g" 291⟩] 6,#[]⟩
noncomputable def JA (P:Params):Heap:=⟨⟨[boot_o_0 P,boot_o_1 P,boot_o_2 P,AS P,boot_o_4 P,boot_o_5 P,boot_o_6 P,boot_o_7 P,boot_o_8 P,boot_o_9 P,boot_o_10 P,fe P,iH P,fg P,fh P,fN P,fO P,fP P,fQ P,fR P,gC P,fS P,fU P,gE P,fV P,fW P,fX P,gF P,fY P,fZ P,gG P,f6 P,f7 P,gb P,gg P,gH P,gh P,gi P,gI P,gj P,gk P,gn P,gp P,gq P,gr P,ado P,cx P,cy P,cz P,cA P,cB P,cC P,cD P,cF P,cG P,cH P]⟩,(boot_heap P).life⟩
noncomputable def FZ:Nat:=322
noncomputable def alT (P:Params):Array DictEntry:=#[⟨th P "s" (1),.ref 46,.str "2-" 276⟩,⟨th P "d" (1),.ref 47,.str "2-" 279⟩,⟨th P "r" (1),.ref 48,.str "2-" 282⟩,⟨th P "D" (2),.ref 49,.str "2-" 285⟩,⟨th P "R" (2),.ref 50,.str "2-" 288⟩,⟨th P "G" (2),.ref 51,.str "2g" 291⟩]
noncomputable def aiK:Nat:=6
noncomputable def aiL:Nat:=52
noncomputable def aiM:Value:=.str "2G" 294
noncomputable def adp (P:Params):Obj:=⟨.type "dict",none,.dict #[⟨th P "s" (1),.ref 46,.str "2-" 276⟩,⟨th P "d" (1),.ref 47,.str "2-" 279⟩,⟨th P "r" (1),.ref 48,.str "2-" 282⟩,⟨th P "D" (2),.ref 49,.str "2-" 285⟩,⟨th P "R" (2),.ref 50,.str "2-" 288⟩,⟨th P "G" (2),.ref 51,.str "2g" 291⟩,⟨th P "G" (3),.ref 52,.str "2G" 294⟩] 7,#[]⟩
noncomputable def JB (P:Params):Heap:=⟨⟨[boot_o_0 P,boot_o_1 P,boot_o_2 P,AS P,boot_o_4 P,boot_o_5 P,boot_o_6 P,boot_o_7 P,boot_o_8 P,boot_o_9 P,boot_o_10 P,fe P,iH P,fg P,fh P,fN P,fO P,fP P,fQ P,fR P,gC P,fS P,fU P,gE P,fV P,fW P,fX P,gF P,fY P,fZ P,gG P,f6 P,f7 P,gb P,gg P,gH P,gh P,gi P,gI P,gj P,gk P,gn P,gp P,gq P,gr P,adp P,cx P,cy P,cz P,cA P,cB P,cC P,cD P,cF P,cG P,cH P]⟩,(boot_heap P).life⟩
noncomputable def F0:Nat:=325
noncomputable def alU (P:Params):Array DictEntry:=#[⟨th P "s" (1),.ref 46,.str "2-" 276⟩,⟨th P "d" (1),.ref 47,.str "2-" 279⟩,⟨th P "r" (1),.ref 48,.str "2-" 282⟩,⟨th P "D" (2),.ref 49,.str "2-" 285⟩,⟨th P "R" (2),.ref 50,.str "2-" 288⟩,⟨th P "G" (2),.ref 51,.str "2g" 291⟩,⟨th P "G" (3),.ref 52,.str "2G" 294⟩]
noncomputable def aiN:Nat:=7
noncomputable def aiO:Nat:=53
noncomputable def aiP:Value:=.str "2-" 297
noncomputable def adq (P:Params):Obj:=⟨.type "dict",none,.dict #[⟨th P "s" (1),.ref 46,.str "2-" 276⟩,⟨th P "d" (1),.ref 47,.str "2-" 279⟩,⟨th P "r" (1),.ref 48,.str "2-" 282⟩,⟨th P "D" (2),.ref 49,.str "2-" 285⟩,⟨th P "R" (2),.ref 50,.str "2-" 288⟩,⟨th P "G" (2),.ref 51,.str "2g" 291⟩,⟨th P "G" (3),.ref 52,.str "2G" 294⟩,⟨th P "." (0),.ref 53,.str "2-" 297⟩] 8,#[]⟩
noncomputable def JC (P:Params):Heap:=⟨⟨[boot_o_0 P,boot_o_1 P,boot_o_2 P,AS P,boot_o_4 P,boot_o_5 P,boot_o_6 P,boot_o_7 P,boot_o_8 P,boot_o_9 P,boot_o_10 P,fe P,iH P,fg P,fh P,fN P,fO P,fP P,fQ P,fR P,gC P,fS P,fU P,gE P,fV P,fW P,fX P,gF P,fY P,fZ P,gG P,f6 P,f7 P,gb P,gg P,gH P,gh P,gi P,gI P,gj P,gk P,gn P,gp P,gq P,gr P,adq P,cx P,cy P,cz P,cA P,cB P,cC P,cD P,cF P,cG P,cH P]⟩,(boot_heap P).life⟩
noncomputable def F1:Nat:=328
noncomputable def alV (P:Params):Array DictEntry:=#[⟨th P "s" (1),.ref 46,.str "2-" 276⟩,⟨th P "d" (1),.ref 47,.str "2-" 279⟩,⟨th P "r" (1),.ref 48,.str "2-" 282⟩,⟨th P "D" (2),.ref 49,.str "2-" 285⟩,⟨th P "R" (2),.ref 50,.str "2-" 288⟩,⟨th P "G" (2),.ref 51,.str "2g" 291⟩,⟨th P "G" (3),.ref 52,.str "2G" 294⟩,⟨th P "." (0),.ref 53,.str "2-" 297⟩]
noncomputable def aiQ:Nat:=8
noncomputable def aiR:Nat:=54
noncomputable def aiS:Value:=.str "2-" 300
noncomputable def ads (P:Params):Obj:=⟨.type "dict",none,.dict #[⟨th P "s" (1),.ref 46,.str "2-" 276⟩,⟨th P "d" (1),.ref 47,.str "2-" 279⟩,⟨th P "r" (1),.ref 48,.str "2-" 282⟩,⟨th P "D" (2),.ref 49,.str "2-" 285⟩,⟨th P "R" (2),.ref 50,.str "2-" 288⟩,⟨th P "G" (2),.ref 51,.str "2g" 291⟩,⟨th P "G" (3),.ref 52,.str "2G" 294⟩,⟨th P "." (0),.ref 53,.str "2-" 297⟩,⟨th P "2" (0),.ref 54,.str "2-" 300⟩] 9,#[]⟩
noncomputable def JD (P:Params):Heap:=⟨⟨[boot_o_0 P,boot_o_1 P,boot_o_2 P,AS P,boot_o_4 P,boot_o_5 P,boot_o_6 P,boot_o_7 P,boot_o_8 P,boot_o_9 P,boot_o_10 P,fe P,iH P,fg P,fh P,fN P,fO P,fP P,fQ P,fR P,gC P,fS P,fU P,gE P,fV P,fW P,fX P,gF P,fY P,fZ P,gG P,f6 P,f7 P,gb P,gg P,gH P,gh P,gi P,gI P,gj P,gk P,gn P,gp P,gq P,gr P,ads P,cx P,cy P,cz P,cA P,cB P,cC P,cD P,cF P,cG P,cH P]⟩,(boot_heap P).life⟩
noncomputable def F2:Nat:=331
noncomputable def alW (P:Params):Array DictEntry:=#[⟨th P "s" (1),.ref 46,.str "2-" 276⟩,⟨th P "d" (1),.ref 47,.str "2-" 279⟩,⟨th P "r" (1),.ref 48,.str "2-" 282⟩,⟨th P "D" (2),.ref 49,.str "2-" 285⟩,⟨th P "R" (2),.ref 50,.str "2-" 288⟩,⟨th P "G" (2),.ref 51,.str "2g" 291⟩,⟨th P "G" (3),.ref 52,.str "2G" 294⟩,⟨th P "." (0),.ref 53,.str "2-" 297⟩,⟨th P "2" (0),.ref 54,.str "2-" 300⟩]
noncomputable def aiT:Nat:=9
noncomputable def aiU:Nat:=55
noncomputable def aiV:Value:=.str "3n0-" 303
noncomputable def fi (P:Params):Obj:=⟨.type "dict",none,.dict #[⟨th P "s" (1),.ref 46,.str "2-" 276⟩,⟨th P "d" (1),.ref 47,.str "2-" 279⟩,⟨th P "r" (1),.ref 48,.str "2-" 282⟩,⟨th P "D" (2),.ref 49,.str "2-" 285⟩,⟨th P "R" (2),.ref 50,.str "2-" 288⟩,⟨th P "G" (2),.ref 51,.str "2g" 291⟩,⟨th P "G" (3),.ref 52,.str "2G" 294⟩,⟨th P "." (0),.ref 53,.str "2-" 297⟩,⟨th P "2" (0),.ref 54,.str "2-" 300⟩,⟨th P "3" (0),.ref 55,.str "3n0-" 303⟩] 10,#[]⟩
noncomputable def U5 (P:Params):Heap:=⟨⟨[boot_o_0 P,boot_o_1 P,boot_o_2 P,AS P,boot_o_4 P,boot_o_5 P,boot_o_6 P,boot_o_7 P,boot_o_8 P,boot_o_9 P,boot_o_10 P,fe P,iH P,fg P,fh P,fN P,fO P,fP P,fQ P,fR P,gC P,fS P,fU P,gE P,fV P,fW P,fX P,gF P,fY P,fZ P,gG P,f6 P,f7 P,gb P,gg P,gH P,gh P,gi P,gI P,gj P,gk P,gn P,gp P,gq P,gr P,fi P,cx P,cy P,cz P,cA P,cB P,cC P,cD P,cF P,cG P,cH P]⟩,(boot_heap P).life⟩
noncomputable def Ij:Nat:=334
noncomputable def t4:Stmt:=tp 20
noncomputable def V5 (P:Params):Obj:=⟨.type "dict",none,.dict #[br P "__name__" 165 (.str "noteworth.steps" 238),br P "__doc__" 166 (.none),br P "__package__" 167 (.none),br P "__loader__" 168 (.builtin "__main__.__loader__#opaque"),br P "__spec__" 169 (.none),br P "__annotations__" 170 (.ref 6),br P "__builtins__" 171 (.ref 4),br P "__file__" 173 (.str "/claim/cut.py" 172),br P "__cached__" 174 (.none),br P "SMALL_KINDS" 192 (.ref 15),br P "PARTING_KINDS" 196 (.ref 16),br P "MEASURE_KINDS" 199 (.ref 17),br P "SOUNDING_KINDS" 204 (.ref 18),br P "small" 211 (.ref 25),br P "parting" 218 (.ref 32),br P "DARK_KINDS" 223 (.ref 33),br P "sign_price" 234 (.ref 40),br P "REST_TONE" 237 (.int (-1) 236),br P "TWOFOLD_STATES" 243 (.ref 41),br P "TWOFOLD_BEGIN" 245 (.str "2-" 244),br P "THREEFOLD_BEGIN" 247 (.str "3n0-" 246),br P "SHORTENED_FROM_AHEAD" 249 (.str "3t0-" 248),br P "NO_RUN" 251 (.str "0-" 250),br P "RUNS_GOING_ON" 259 (.ref 42),br P "LEFTS_OF_RUNS" 263 (.ref 43),br P "NEXT_COUNTS" 273 (.ref 44),br P "TWOFOLD_STEPS" 334 (.ref 45)] 27,#[]⟩
noncomputable def H4 (P:Params):Heap:=⟨⟨[boot_o_0 P,boot_o_1 P,boot_o_2 P,V5 P,boot_o_4 P,boot_o_5 P,boot_o_6 P,boot_o_7 P,boot_o_8 P,boot_o_9 P,boot_o_10 P,fe P,iH P,fg P,fh P,fN P,fO P,fP P,fQ P,fR P,gC P,fS P,fU P,gE P,fV P,fW P,fX P,gF P,fY P,fZ P,gG P,f6 P,f7 P,gb P,gg P,gH P,gh P,gi P,gI P,gj P,gk P,gn P,gp P,gq P,gr P,fi P,cx P,cy P,cz P,cA P,cB P,cC P,cD P,cF P,cG P,cH P]⟩,(boot_heap P).life⟩
noncomputable def k4:Nat:=335
noncomputable def n4:Nat:=351
noncomputable def p4:Pos:=⟨31,0,31,13⟩
noncomputable def d5:Nat:=56
noncomputable def dp5:Pos:=⟨32,14,32,86⟩
noncomputable def vs5:List (Value×Value):=[(.ref 57,.str "3w0-" 337),(.ref 58,.str "3h0-" 340),(.ref 59,.str "3n0-" 343),(.ref 60,.str "3n0-" 346)]
noncomputable def adt (P:Params):Obj:=⟨.type "dict",none,.dict #[] 0,#[]⟩
noncomputable def kP (P:Params):Obj:=⟨.type "tuple",none,.seq #[.str "G" 335,.int (3) 336] 0,#[]⟩
noncomputable def kQ (P:Params):Obj:=⟨.type "tuple",none,.seq #[.str "G" 338,.int (2) 339] 0,#[]⟩
noncomputable def kR (P:Params):Obj:=⟨.type "tuple",none,.seq #[.str "D" 341,.int (2) 342] 0,#[]⟩
noncomputable def kS (P:Params):Obj:=⟨.type "tuple",none,.seq #[.str "R" 344,.int (3) 345] 0,#[]⟩
noncomputable def JE (P:Params):Heap:=⟨⟨[boot_o_0 P,boot_o_1 P,boot_o_2 P,V5 P,boot_o_4 P,boot_o_5 P,boot_o_6 P,boot_o_7 P,boot_o_8 P,boot_o_9 P,boot_o_10 P,fe P,iH P,fg P,fh P,fN P,fO P,fP P,fQ P,fR P,gC P,fS P,fU P,gE P,fV P,fW P,fX P,gF P,fY P,fZ P,gG P,f6 P,f7 P,gb P,gg P,gH P,gh P,gi P,gI P,gj P,gk P,gn P,gp P,gq P,gr P,fi P,cx P,cy P,cz P,cA P,cB P,cC P,cD P,cF P,cG P,cH P,adt P,kP P,kQ P,kR P,kS P]⟩,(boot_heap P).life⟩
noncomputable def Me:Nat:=347
noncomputable def alY (P:Params):Array DictEntry:=#[]
noncomputable def aiW:Nat:=0
noncomputable def aiX:Nat:=57
noncomputable def aiY:Value:=.str "3w0-" 337
noncomputable def adu (P:Params):Obj:=⟨.type "dict",none,.dict #[⟨th P "G" (3),.ref 57,.str "3w0-" 337⟩] 1,#[]⟩
noncomputable def JF (P:Params):Heap:=⟨⟨[boot_o_0 P,boot_o_1 P,boot_o_2 P,V5 P,boot_o_4 P,boot_o_5 P,boot_o_6 P,boot_o_7 P,boot_o_8 P,boot_o_9 P,boot_o_10 P,fe P,iH P,fg P,fh P,fN P,fO P,fP P,fQ P,fR P,gC P,fS P,fU P,gE P,fV P,fW P,fX P,gF P,fY P,fZ P,gG P,f6 P,f7 P,gb P,gg P,gH P,gh P,gi P,gI P,gj P,gk P,gn P,gp P,gq P,gr P,fi P,cx P,cy P,cz P,cA P,cB P,cC P,cD P,cF P,cG P,cH P,adu P,kP P,kQ P,kR P,kS P]⟩,(boot_heap P).life⟩
noncomputable def F3:Nat:=350
noncomputable def alZ (P:Params):Array DictEntry:=#[⟨th P "G" (3),.ref 57,.str "3w0-" 337⟩]
noncomputable def aiZ:Nat:=1
noncomputable def ai0:Nat:=58
noncomputable def ai1:Value:=.str "3h0-" 340
noncomputable def adv (P:Params):Obj:=⟨.type "dict",none,.dict #[⟨th P "G" (3),.ref 57,.str "3w0-" 337⟩,⟨th P "G" (2),.ref 58,.str "3h0-" 340⟩] 2,#[]⟩
noncomputable def JG (P:Params):Heap:=⟨⟨[boot_o_0 P,boot_o_1 P,boot_o_2 P,V5 P,boot_o_4 P,boot_o_5 P,boot_o_6 P,boot_o_7 P,boot_o_8 P,boot_o_9 P,boot_o_10 P,fe P,iH P,fg P,fh P,fN P,fO P,fP P,fQ P,fR P,gC P,fS P,fU P,gE P,fV P,fW P,fX P,gF P,fY P,fZ P,gG P,f6 P,f7 P,gb P,gg P,gH P,gh P,gi P,gI P,gj P,gk P,gn P,gp P,gq P,gr P,fi P,cx P,cy P,cz P,cA P,cB P,cC P,cD P,cF P,cG P,cH P,adv P,kP P,kQ P,kR P,kS P]⟩,(boot_heap P).life⟩
noncomputable def F4:Nat:=353
noncomputable def al0 (P:Params):Array DictEntry:=#[⟨th P "G" (3),.ref 57,.str "3w0-" 337⟩,⟨th P "G" (2),.ref 58,.str "3h0-" 340⟩]
noncomputable def ai2:Nat:=2
noncomputable def ai3:Nat:=59
noncomputable def ai4:Value:=.str "3n0-" 343
noncomputable def adw (P:Params):Obj:=⟨.type "dict",none,.dict #[⟨th P "G" (3),.ref 57,.str "3w0-" 337⟩,⟨th P "G" (2),.ref 58,.str "3h0-" 340⟩,⟨th P "D" (2),.ref 59,.str "3n0-" 343⟩] 3,#[]⟩
noncomputable def JH (P:Params):Heap:=⟨⟨[boot_o_0 P,boot_o_1 P,boot_o_2 P,V5 P,boot_o_4 P,boot_o_5 P,boot_o_6 P,boot_o_7 P,boot_o_8 P,boot_o_9 P,boot_o_10 P,fe P,iH P,fg P,fh P,fN P,fO P,fP P,fQ P,fR P,gC P,fS P,fU P,gE P,fV P,fW P,fX P,gF P,fY P,fZ P,gG P,f6 P,f7 P,gb P,gg P,gH P,gh P,gi P,gI P,gj P,gk P,gn P,gp P,gq P,gr P,fi P,cx P,cy P,cz P,cA P,cB P,cC P,cD P,cF P,cG P,cH P,adw P,kP P,kQ P,kR P,kS P]⟩,(boot_heap P).life⟩
noncomputable def F5:Nat:=356
noncomputable def al1 (P:Params):Array DictEntry:=#[⟨th P "G" (3),.ref 57,.str "3w0-" 337⟩,⟨th P "G" (2),.ref 58,.str "3h0-" 340⟩,⟨th P "D" (2),.ref 59,.str "3n0-" 343⟩]
noncomputable def ai5:Nat:=3
noncomputable def ai6:Nat:=60
noncomputable def ai7:Value:=.str "3n0-" 346
noncomputable def wg (P:Params):Obj:=⟨.type "dict",none,.dict #[⟨th P "G" (3),.ref 57,.str "3w0-" 337⟩,⟨th P "G" (2),.ref 58,.str "3h0-" 340⟩,⟨th P "D" (2),.ref 59,.str "3n0-" 343⟩,⟨th P "R" (3),.ref 60,.str "3n0-" 346⟩] 4,#[]⟩
noncomputable def adx (P:Params):Heap:=⟨⟨[boot_o_0 P,boot_o_1 P,boot_o_2 P,V5 P,boot_o_4 P,boot_o_5 P,boot_o_6 P,boot_o_7 P,boot_o_8 P,boot_o_9 P,boot_o_10 P,fe P,iH P,fg P,fh P,fN P,fO P,fP P,fQ P,fR P,gC P,fS P,fU P,gE P,fV P,fW P,fX P,gF P,fY P,fZ P,gG P,f6 P,f7 P,gb P,gg P,gH P,gh P,gi P,gI P,gj P,gk P,gn P,gp P,gq P,gr P,fi P,cx P,cy P,cz P,cA P,cB P,cC P,cD P,cF P,cG P,cH P,wg P,kP P,kQ P,kR P,kS P]⟩,(boot_heap P).life⟩
noncomputable def V6:Nat:=359
noncomputable def t5:Stmt:=tp 21
noncomputable def al3 (P:Params):Obj:=⟨.type "dict",none,.dict #[br P "__name__" 165 (.str "noteworth.steps" 238),br P "__doc__" 166 (.none),br P "__package__" 167 (.none),br P "__loader__" 168 (.builtin "__main__.__loader__#opaque"),br P "__spec__" 169 (.none),br P "__annotations__" 170 (.ref 6),br P "__builtins__" 171 (.ref 4),br P "__file__" 173 (.str "/claim/cut.py" 172),br P "__cached__" 174 (.none),br P "SMALL_KINDS" 192 (.ref 15),br P "PARTING_KINDS" 196 (.ref 16),br P "MEASURE_KINDS" 199 (.ref 17),br P "SOUNDING_KINDS" 204 (.ref 18),br P "small" 211 (.ref 25),br P "parting" 218 (.ref 32),br P "DARK_KINDS" 223 (.ref 33),br P "sign_price" 234 (.ref 40),br P "REST_TONE" 237 (.int (-1) 236),br P "TWOFOLD_STATES" 243 (.ref 41),br P "TWOFOLD_BEGIN" 245 (.str "2-" 244),br P "THREEFOLD_BEGIN" 247 (.str "3n0-" 246),br P "SHORTENED_FROM_AHEAD" 249 (.str "3t0-" 248),br P "NO_RUN" 251 (.str "0-" 250),br P "RUNS_GOING_ON" 259 (.ref 42),br P "LEFTS_OF_RUNS" 263 (.ref 43),br P "NEXT_COUNTS" 273 (.ref 44),br P "TWOFOLD_STEPS" 334 (.ref 45),br P "GREAT_STEPS" 359 (.ref 56)] 28,#[]⟩
noncomputable def H5 (P:Params):Heap:=⟨⟨[boot_o_0 P,boot_o_1 P,boot_o_2 P,al3 P,boot_o_4 P,boot_o_5 P,boot_o_6 P,boot_o_7 P,boot_o_8 P,boot_o_9 P,boot_o_10 P,fe P,iH P,fg P,fh P,fN P,fO P,fP P,fQ P,fR P,gC P,fS P,fU P,gE P,fV P,fW P,fX P,gF P,fY P,fZ P,gG P,f6 P,f7 P,gb P,gg P,gH P,gh P,gi P,gI P,gj P,gk P,gn P,gp P,gq P,gr P,fi P,cx P,cy P,cz P,cA P,cB P,cC P,cD P,cF P,cG P,cH P,wg P,kP P,kQ P,kR P,kS P]⟩,(boot_heap P).life⟩
noncomputable def k5:Nat:=360
noncomputable def n5:Nat:=147
noncomputable def p5:Pos:=⟨32,0,32,11⟩
noncomputable def agC (P:Params):Obj:=⟨.type "dict",none,.dict #[br P "__name__" 165 (.str "law_noteworth_k29_papers_judged" 575),br P "__doc__" 166 (.none),br P "__package__" 167 (.none),br P "__loader__" 168 (.builtin "__main__.__loader__#opaque"),br P "__spec__" 169 (.none),br P "__annotations__" 170 (.ref 6),br P "__builtins__" 171 (.ref 4),br P "__file__" 173 (.str "/claim/cut.py" 172),br P "__cached__" 174 (.none),br P "SMALL_KINDS" 192 (.ref 15),br P "PARTING_KINDS" 196 (.ref 16),br P "MEASURE_KINDS" 199 (.ref 17),br P "SOUNDING_KINDS" 204 (.ref 18),br P "small" 211 (.ref 25),br P "parting" 218 (.ref 32),br P "DARK_KINDS" 223 (.ref 33),br P "sign_price" 234 (.ref 40),br P "REST_TONE" 237 (.int (-1) 236),br P "TWOFOLD_STATES" 243 (.ref 41),br P "TWOFOLD_BEGIN" 245 (.str "2-" 244),br P "THREEFOLD_BEGIN" 247 (.str "3n0-" 246),br P "SHORTENED_FROM_AHEAD" 249 (.str "3t0-" 248),br P "NO_RUN" 251 (.str "0-" 250),br P "RUNS_GOING_ON" 259 (.ref 42),br P "LEFTS_OF_RUNS" 263 (.ref 43),br P "NEXT_COUNTS" 273 (.ref 44),br P "TWOFOLD_STEPS" 334 (.ref 45),br P "GREAT_STEPS" 359 (.ref 56),br P "states" 368 (.ref 67),br P "begin_state" 376 (.ref 75),br P "step" 385 (.ref 82),br P "ends" 392 (.ref 89),br P "twofold_step" 401 (.ref 96),br P "closes" 410 (.ref 103),br P "closes_by_great" 417 (.ref 110),br P "closes_by_right_note" 424 (.ref 117),br P "great_step" 433 (.ref 124),br P "parting_step" 442 (.ref 131),br P "told_last" 451 (.ref 138),br P "small_step" 463 (.ref 145),br P "PARTING_SIGNS" 472 (.ref 149),br P "REST_SIGNS" 477 (.ref 152),br P "moves" 491 (.ref 159),br P "parting_moves" 499 (.ref 166),br P "wished_signs" 505 (.ref 171),br P "wish_moves" 516 (.ref 178),br P "names_states" 524 (.ref 183),br P "bounds" 533 (.ref 190),br P "bounds_parting_moves" 546 (.ref 197),br P "bounds_wish_moves" 561 (.ref 204),br P "reaches_bound" 567 (.ref 209),br P "holds" 574 (.ref 215),br P "_law_cell_at" 584 (.ref 222),br P "_law_mixed" 594 (.ref 229),br P "_law_numbers" 600 (.ref 234),br P "_law_sign_by" 608 (.ref 241),br P "_law_line" 614 (.ref 246),br P "_law_begin" 621 (.ref 253),br P "_law_base" 633 (.ref 260),br P "_law_three" 644 (.ref 267),br P "_law_run" 659 (.ref 274),br P "_law_read" 672 (.ref 281),br P "_law_firmed" 684 (.ref 288),br P "_law_wishes" 695 (.ref 295),br P "_law_any_wishes" 709 (.ref 302),br P "_law_prices" 718 (.ref 309),br P "_law_shut" 728 (.ref 316),br P "_law_step_two" 737 (.ref 323),br P "_law_step_by" 749 (.ref 330),br P "_law_states" 758 (.ref 337),br P "_law_ends" 765 (.ref 344),br P "_law_moves" 780 (.ref 351),br P "_law_carried" 791 (.ref 358),br P "_law_tables" 804 (.ref 365),br P "_law_holds" 820 (.ref 372),br P "_law_spread" 833 (.ref 379),br P "_law_own_paper" 849 (.ref 386),br P "_law_spoilt" 855 (.ref 391),br P "law" 861 (.ref 396)] 79,#[]⟩
noncomputable def aeX (P:Params):Obj:=⟨.none,none,.fields #[.int (6) 0,.int (0) 0,.ref 24,.int (8) 0,.int (0) 0,.ref 31,.int (12) 0,.int (0) 0,.ref 39,.int (33) 0,.int (0) 0,.ref 66,.int (41) 0,.int (0) 0,.ref 74,.int (45) 0,.int (0) 0,.ref 81,.int (53) 0,.int (0) 0,.ref 88,.int (57) 0,.int (0) 0,.ref 95,.int (63) 0,.int (0) 0,.ref 102,.int (68) 0,.int (0) 0,.ref 109,.int (70) 0,.int (0) 0,.ref 116,.int (72) 0,.int (0) 0,.ref 123,.int (80) 0,.int (0) 0,.ref 130,.int (86) 0,.int (0) 0,.ref 137,.int (92) 0,.int (0) 0,.ref 144,.int (104) 0,.int (0) 0,.ref 158,.int (112) 0,.int (0) 0,.ref 165,.int (114) 0,.int (0) 0,.ref 170,.int (118) 0,.int (0) 0,.ref 177,.int (122) 0,.int (0) 0,.ref 182,.int (125) 0,.int (0) 0,.ref 189,.int (127) 0,.int (0) 0,.ref 196,.int (133) 0,.int (0) 0,.ref 203,.int (139) 0,.int (0) 0,.ref 208,.int (144) 0,.int (0) 0,.ref 214,.int (158) 0,.int (0) 0,.ref 221,.int (162) 0,.int (0) 0,.ref 228,.int (166) 0,.int (0) 0,.ref 233,.int (176) 0,.int (0) 0,.ref 240,.int (181) 0,.int (0) 0,.ref 245,.int (183) 0,.int (0) 0,.ref 252,.int (185) 0,.int (0) 0,.ref 259,.int (203) 0,.int (0) 0,.ref 266,.int (211) 0,.int (0) 0,.ref 273,.int (225) 0,.int (0) 0,.ref 280,.int (238) 0,.int (0) 0,.ref 287,.int (246) 0,.int (0) 0,.ref 294,.int (254) 0,.int (0) 0,.ref 301,.int (262) 0,.int (0) 0,.ref 308,.int (268) 0,.int (0) 0,.ref 315,.int (281) 0,.int (0) 0,.ref 322,.int (293) 0,.int (0) 0,.ref 329,.int (314) 0,.int (0) 0,.ref 336,.int (322) 0,.int (0) 0,.ref 343,.int (326) 0,.int (0) 0,.ref 350,.int (338) 0,.int (0) 0,.ref 357,.int (343) 0,.int (0) 0,.ref 364,.int (354) 0,.int (0) 0,.ref 371,.int (369) 0,.int (0) 0,.ref 378,.int (377) 0,.int (0) 0,.ref 385,.int (390) 0,.int (0) 0,.ref 390,.int (414) 0,.int (0) 0,.ref 395],#[]⟩
noncomputable def Zd (P:Params):Obj:=⟨.type "tuple",none,.seq #[] 0,#[]⟩
noncomputable def aeY (P:Params):Obj:=⟨.none,none,.fields #[],#[]⟩
noncomputable def Ze (P:Params):Obj:=⟨.type "tuple",none,.seq #[.str "found" 363,.str "left" 364,.str "run" 365] 0,#[]⟩
noncomputable def Zf (P:Params):Obj:=⟨.type "tuple",none,.seq #[] 0,#[]⟩
noncomputable def aeZ (P:Params):Obj:=⟨.none,none,.func { name:="states",qualname:="states",params:=L2.ao (tp 22),body:=.stmts (L2.ak (tp 22)),scope:=L2.ae (tp 22),globals:=0,closure:=[],defaults:=.none,kwdefaults:=.none,doc:=.none,pyModule:=.none,annotations:=none,code:=.none,closureTuple:=.none,builtins:=0 },#[]⟩
noncomputable def Zg (P:Params):Obj:=⟨.type "code",none,.fields #[.str "states" 360,.str "states" 361,.str "/claim/cut.py" 362,.int (33) 0,.int (0) 0,.int (0) 0,.int (0) 0,.int (3) 0,.ref 61,.bool true,.int (181) 0,.ref 62,.none,.ref 63,.ref 64,.ref 65,.int (366) 0,.int (33) 0,.str "/claim/cut.py" 367],#[]⟩
noncomputable def Zh (P:Params):Obj:=⟨.type "function",none,.func { name:="states",qualname:="states",params:=L2.ao (tp 22),body:=.stmts (L2.ak (tp 22)),scope:=L2.ae (tp 22),globals:=3,closure:=[],defaults:=.none,kwdefaults:=.none,doc:=.none,pyModule:=.str "noteworth.steps" 238,annotations:=none,code:=.ref 66,closureTuple:=.none,builtins:=0 },#[]⟩
noncomputable def Zi (P:Params):Obj:=⟨.type "tuple",none,.seq #[.int (3) 369] 0,#[]⟩
noncomputable def Zj (P:Params):Obj:=⟨.type "tuple",none,.seq #[] 0,#[]⟩
noncomputable def ae0 (P:Params):Obj:=⟨.none,none,.fields #[],#[]⟩
noncomputable def Zk (P:Params):Obj:=⟨.type "tuple",none,.seq #[.str "begin" 373] 0,#[]⟩
noncomputable def Zl (P:Params):Obj:=⟨.type "tuple",none,.seq #[] 0,#[]⟩
noncomputable def ae1 (P:Params):Obj:=⟨.none,none,.func { name:="begin_state",qualname:="begin_state",params:=L2.ao (tp 23),body:=.stmts (L2.ak (tp 23)),scope:=L2.ae (tp 23),globals:=0,closure:=[],defaults:=.none,kwdefaults:=.none,doc:=.none,pyModule:=.none,annotations:=none,code:=.none,closureTuple:=.none,builtins:=0 },#[]⟩
noncomputable def Zm (P:Params):Obj:=⟨.type "code",none,.fields #[.str "begin_state" 370,.str "begin_state" 371,.str "/claim/cut.py" 372,.int (41) 0,.int (1) 0,.int (0) 0,.int (0) 0,.int (3) 0,.ref 69,.bool true,.int (181) 0,.ref 70,.none,.ref 71,.ref 72,.ref 73,.int (374) 0,.int (41) 0,.str "/claim/cut.py" 375],#[]⟩
noncomputable def Zn (P:Params):Obj:=⟨.type "function",none,.func { name:="begin_state",qualname:="begin_state",params:=L2.ao (tp 23),body:=.stmts (L2.ak (tp 23)),scope:=L2.ae (tp 23),globals:=3,closure:=[],defaults:=.ref 68,kwdefaults:=.none,doc:=.none,pyModule:=.str "noteworth.steps" 238,annotations:=none,code:=.ref 74,closureTuple:=.none,builtins:=0 },#[]⟩
noncomputable def Zo (P:Params):Obj:=⟨.type "tuple",none,.seq #[] 0,#[]⟩
noncomputable def ae2 (P:Params):Obj:=⟨.none,none,.fields #[],#[]⟩
noncomputable def Zp (P:Params):Obj:=⟨.type "tuple",none,.seq #[.str "state" 380,.str "sign" 381,.str "worth" 382] 0,#[]⟩
noncomputable def Zq (P:Params):Obj:=⟨.type "tuple",none,.seq #[] 0,#[]⟩
noncomputable def ae3 (P:Params):Obj:=⟨.none,none,.func { name:="step",qualname:="step",params:=L2.ao (tp 24),body:=.stmts (L2.ak (tp 24)),scope:=L2.ae (tp 24),globals:=0,closure:=[],defaults:=.none,kwdefaults:=.none,doc:=.none,pyModule:=.none,annotations:=none,code:=.none,closureTuple:=.none,builtins:=0 },#[]⟩
noncomputable def Zr (P:Params):Obj:=⟨.type "code",none,.fields #[.str "step" 377,.str "step" 378,.str "/claim/cut.py" 379,.int (45) 0,.int (3) 0,.int (0) 0,.int (0) 0,.int (3) 0,.ref 76,.bool true,.int (181) 0,.ref 77,.none,.ref 78,.ref 79,.ref 80,.int (383) 0,.int (45) 0,.str "/claim/cut.py" 384],#[]⟩
noncomputable def Zs (P:Params):Obj:=⟨.type "function",none,.func { name:="step",qualname:="step",params:=L2.ao (tp 24),body:=.stmts (L2.ak (tp 24)),scope:=L2.ae (tp 24),globals:=3,closure:=[],defaults:=.none,kwdefaults:=.none,doc:=.none,pyModule:=.str "noteworth.steps" 238,annotations:=none,code:=.ref 81,closureTuple:=.none,builtins:=0 },#[]⟩
noncomputable def Zt (P:Params):Obj:=⟨.type "tuple",none,.seq #[] 0,#[]⟩
noncomputable def ae4 (P:Params):Obj:=⟨.none,none,.fields #[],#[]⟩
noncomputable def Zu (P:Params):Obj:=⟨.type "tuple",none,.seq #[.str "state" 389] 0,#[]⟩
noncomputable def Zv (P:Params):Obj:=⟨.type "tuple",none,.seq #[] 0,#[]⟩
noncomputable def ae5 (P:Params):Obj:=⟨.none,none,.func { name:="ends",qualname:="ends",params:=L2.ao (tp 25),body:=.stmts (L2.ak (tp 25)),scope:=L2.ae (tp 25),globals:=0,closure:=[],defaults:=.none,kwdefaults:=.none,doc:=.none,pyModule:=.none,annotations:=none,code:=.none,closureTuple:=.none,builtins:=0 },#[]⟩
noncomputable def Zw (P:Params):Obj:=⟨.type "code",none,.fields #[.str "ends" 386,.str "ends" 387,.str "/claim/cut.py" 388,.int (53) 0,.int (1) 0,.int (0) 0,.int (0) 0,.int (3) 0,.ref 83,.bool true,.int (181) 0,.ref 84,.none,.ref 85,.ref 86,.ref 87,.int (390) 0,.int (53) 0,.str "/claim/cut.py" 391],#[]⟩
noncomputable def Zx (P:Params):Obj:=⟨.type "function",none,.func { name:="ends",qualname:="ends",params:=L2.ao (tp 25),body:=.stmts (L2.ak (tp 25)),scope:=L2.ae (tp 25),globals:=3,closure:=[],defaults:=.none,kwdefaults:=.none,doc:=.none,pyModule:=.str "noteworth.steps" 238,annotations:=none,code:=.ref 88,closureTuple:=.none,builtins:=0 },#[]⟩
noncomputable def Zy (P:Params):Obj:=⟨.type "tuple",none,.seq #[] 0,#[]⟩
noncomputable def ae6 (P:Params):Obj:=⟨.none,none,.fields #[],#[]⟩
noncomputable def Zz (P:Params):Obj:=⟨.type "tuple",none,.seq #[.str "state" 396,.str "kind" 397,.str "worth" 398] 0,#[]⟩
noncomputable def ZA (P:Params):Obj:=⟨.type "tuple",none,.seq #[] 0,#[]⟩
noncomputable def ae7 (P:Params):Obj:=⟨.none,none,.func { name:="twofold_step",qualname:="twofold_step",params:=L2.ao (tp 26),body:=.stmts (L2.ak (tp 26)),scope:=L2.ae (tp 26),globals:=0,closure:=[],defaults:=.none,kwdefaults:=.none,doc:=.none,pyModule:=.none,annotations:=none,code:=.none,closureTuple:=.none,builtins:=0 },#[]⟩
noncomputable def ZC (P:Params):Obj:=⟨.type "code",none,.fields #[.str "twofold_step" 393,.str "twofold_step" 394,.str "/claim/cut.py" 395,.int (57) 0,.int (3) 0,.int (0) 0,.int (0) 0,.int (3) 0,.ref 90,.bool true,.int (181) 0,.ref 91,.none,.ref 92,.ref 93,.ref 94,.int (399) 0,.int (57) 0,.str "/claim/cut.py" 400],#[]⟩
noncomputable def ZD (P:Params):Obj:=⟨.type "function",none,.func { name:="twofold_step",qualname:="twofold_step",params:=L2.ao (tp 26),body:=.stmts (L2.ak (tp 26)),scope:=L2.ae (tp 26),globals:=3,closure:=[],defaults:=.none,kwdefaults:=.none,doc:=.none,pyModule:=.str "noteworth.steps" 238,annotations:=none,code:=.ref 95,closureTuple:=.none,builtins:=0 },#[]⟩
noncomputable def ZE (P:Params):Obj:=⟨.type "tuple",none,.seq #[] 0,#[]⟩
noncomputable def ae8 (P:Params):Obj:=⟨.none,none,.fields #[],#[]⟩
noncomputable def ZF (P:Params):Obj:=⟨.type "tuple",none,.seq #[.str "state" 405,.str "left" 406,.str "count" 407] 0,#[]⟩
noncomputable def OB (P:Params):Obj:=⟨.type "tuple",none,.seq #[] 0,#[]⟩
noncomputable def ZG (P:Params):Obj:=⟨.none,none,.func { name:="closes",qualname:="closes",params:=L2.ao (tp 27),body:=.stmts (L2.ak (tp 27)),scope:=L2.ae (tp 27),globals:=0,closure:=[],defaults:=.none,kwdefaults:=.none,doc:=.none,pyModule:=.none,annotations:=none,code:=.none,closureTuple:=.none,builtins:=0 },#[]⟩
noncomputable def OC (P:Params):Obj:=⟨.type "code",none,.fields #[.str "closes" 402,.str "closes" 403,.str "/claim/cut.py" 404,.int (63) 0,.int (1) 0,.int (0) 0,.int (0) 0,.int (3) 0,.ref 97,.bool true,.int (181) 0,.ref 98,.none,.ref 99,.ref 100,.ref 101,.int (408) 0,.int (63) 0,.str "/claim/cut.py" 409],#[]⟩
noncomputable def OD (P:Params):Obj:=⟨.type "function",none,.func { name:="closes",qualname:="closes",params:=L2.ao (tp 27),body:=.stmts (L2.ak (tp 27)),scope:=L2.ae (tp 27),globals:=3,closure:=[],defaults:=.none,kwdefaults:=.none,doc:=.none,pyModule:=.str "noteworth.steps" 238,annotations:=none,code:=.ref 102,closureTuple:=.none,builtins:=0 },#[]⟩
noncomputable def OE (P:Params):Obj:=⟨.type "tuple",none,.seq #[] 0,#[]⟩
noncomputable def ZH (P:Params):Obj:=⟨.none,none,.fields #[],#[]⟩
noncomputable def OF (P:Params):Obj:=⟨.type "tuple",none,.seq #[.str "state" 414] 0,#[]⟩
noncomputable def OG (P:Params):Obj:=⟨.type "tuple",none,.seq #[] 0,#[]⟩
noncomputable def ZI (P:Params):Obj:=⟨.none,none,.func { name:="closes_by_great",qualname:="closes_by_great",params:=L2.ao (tp 28),body:=.stmts (L2.ak (tp 28)),scope:=L2.ae (tp 28),globals:=0,closure:=[],defaults:=.none,kwdefaults:=.none,doc:=.none,pyModule:=.none,annotations:=none,code:=.none,closureTuple:=.none,builtins:=0 },#[]⟩
noncomputable def OH (P:Params):Obj:=⟨.type "code",none,.fields #[.str "closes_by_great" 411,.str "closes_by_great" 412,.str "/claim/cut.py" 413,.int (68) 0,.int (1) 0,.int (0) 0,.int (0) 0,.int (3) 0,.ref 104,.bool true,.int (181) 0,.ref 105,.none,.ref 106,.ref 107,.ref 108,.int (415) 0,.int (68) 0,.str "/claim/cut.py" 416],#[]⟩
noncomputable def OI (P:Params):Obj:=⟨.type "function",none,.func { name:="closes_by_great",qualname:="closes_by_great",params:=L2.ao (tp 28),body:=.stmts (L2.ak (tp 28)),scope:=L2.ae (tp 28),globals:=3,closure:=[],defaults:=.none,kwdefaults:=.none,doc:=.none,pyModule:=.str "noteworth.steps" 238,annotations:=none,code:=.ref 109,closureTuple:=.none,builtins:=0 },#[]⟩
noncomputable def OJ (P:Params):Obj:=⟨.type "tuple",none,.seq #[] 0,#[]⟩
noncomputable def ZJ (P:Params):Obj:=⟨.none,none,.fields #[],#[]⟩
noncomputable def OK (P:Params):Obj:=⟨.type "tuple",none,.seq #[.str "state" 421] 0,#[]⟩
noncomputable def OL (P:Params):Obj:=⟨.type "tuple",none,.seq #[] 0,#[]⟩
noncomputable def ZK (P:Params):Obj:=⟨.none,none,.func { name:="closes_by_right_note",qualname:="closes_by_right_note",params:=L2.ao (tp 29),body:=.stmts (L2.ak (tp 29)),scope:=L2.ae (tp 29),globals:=0,closure:=[],defaults:=.none,kwdefaults:=.none,doc:=.none,pyModule:=.none,annotations:=none,code:=.none,closureTuple:=.none,builtins:=0 },#[]⟩
noncomputable def OM (P:Params):Obj:=⟨.type "code",none,.fields #[.str "closes_by_right_note" 418,.str "closes_by_right_note" 419,.str "/claim/cut.py" 420,.int (70) 0,.int (1) 0,.int (0) 0,.int (0) 0,.int (3) 0,.ref 111,.bool true,.int (181) 0,.ref 112,.none,.ref 113,.ref 114,.ref 115,.int (422) 0,.int (70) 0,.str "/claim/cut.py" 423],#[]⟩
noncomputable def ON (P:Params):Obj:=⟨.type "function",none,.func { name:="closes_by_right_note",qualname:="closes_by_right_note",params:=L2.ao (tp 29),body:=.stmts (L2.ak (tp 29)),scope:=L2.ae (tp 29),globals:=3,closure:=[],defaults:=.none,kwdefaults:=.none,doc:=.none,pyModule:=.str "noteworth.steps" 238,annotations:=none,code:=.ref 116,closureTuple:=.none,builtins:=0 },#[]⟩
noncomputable def OO (P:Params):Obj:=⟨.type "tuple",none,.seq #[] 0,#[]⟩
noncomputable def ZL (P:Params):Obj:=⟨.none,none,.fields #[],#[]⟩
noncomputable def OP (P:Params):Obj:=⟨.type "tuple",none,.seq #[.str "state" 428,.str "kind" 429,.str "worth" 430] 0,#[]⟩
noncomputable def OQ (P:Params):Obj:=⟨.type "tuple",none,.seq #[] 0,#[]⟩
noncomputable def ZM (P:Params):Obj:=⟨.none,none,.func { name:="great_step",qualname:="great_step",params:=L2.ao (tp 30),body:=.stmts (L2.ak (tp 30)),scope:=L2.ae (tp 30),globals:=0,closure:=[],defaults:=.none,kwdefaults:=.none,doc:=.none,pyModule:=.none,annotations:=none,code:=.none,closureTuple:=.none,builtins:=0 },#[]⟩
noncomputable def OR (P:Params):Obj:=⟨.type "code",none,.fields #[.str "great_step" 425,.str "great_step" 426,.str "/claim/cut.py" 427,.int (72) 0,.int (3) 0,.int (0) 0,.int (0) 0,.int (3) 0,.ref 118,.bool true,.int (181) 0,.ref 119,.none,.ref 120,.ref 121,.ref 122,.int (431) 0,.int (72) 0,.str "/claim/cut.py" 432],#[]⟩
noncomputable def OS (P:Params):Obj:=⟨.type "function",none,.func { name:="great_step",qualname:="great_step",params:=L2.ao (tp 30),body:=.stmts (L2.ak (tp 30)),scope:=L2.ae (tp 30),globals:=3,closure:=[],defaults:=.none,kwdefaults:=.none,doc:=.none,pyModule:=.str "noteworth.steps" 238,annotations:=none,code:=.ref 123,closureTuple:=.none,builtins:=0 },#[]⟩
noncomputable def OT (P:Params):Obj:=⟨.type "tuple",none,.seq #[] 0,#[]⟩
noncomputable def ZN (P:Params):Obj:=⟨.none,none,.fields #[],#[]⟩
noncomputable def OU (P:Params):Obj:=⟨.type "tuple",none,.seq #[.str "state" 437,.str "kind" 438,.str "worth" 439] 0,#[]⟩
noncomputable def OV (P:Params):Obj:=⟨.type "tuple",none,.seq #[] 0,#[]⟩
noncomputable def ZO (P:Params):Obj:=⟨.none,none,.func { name:="parting_step",qualname:="parting_step",params:=L2.ao (tp 31),body:=.stmts (L2.ak (tp 31)),scope:=L2.ae (tp 31),globals:=0,closure:=[],defaults:=.none,kwdefaults:=.none,doc:=.none,pyModule:=.none,annotations:=none,code:=.none,closureTuple:=.none,builtins:=0 },#[]⟩
noncomputable def OW (P:Params):Obj:=⟨.type "code",none,.fields #[.str "parting_step" 434,.str "parting_step" 435,.str "/claim/cut.py" 436,.int (80) 0,.int (3) 0,.int (0) 0,.int (0) 0,.int (3) 0,.ref 125,.bool true,.int (181) 0,.ref 126,.none,.ref 127,.ref 128,.ref 129,.int (440) 0,.int (80) 0,.str "/claim/cut.py" 441],#[]⟩
noncomputable def OX (P:Params):Obj:=⟨.type "function",none,.func { name:="parting_step",qualname:="parting_step",params:=L2.ao (tp 31),body:=.stmts (L2.ak (tp 31)),scope:=L2.ae (tp 31),globals:=3,closure:=[],defaults:=.none,kwdefaults:=.none,doc:=.none,pyModule:=.str "noteworth.steps" 238,annotations:=none,code:=.ref 130,closureTuple:=.none,builtins:=0 },#[]⟩
noncomputable def OY (P:Params):Obj:=⟨.type "tuple",none,.seq #[] 0,#[]⟩
noncomputable def ZP (P:Params):Obj:=⟨.none,none,.fields #[],#[]⟩
noncomputable def OZ (P:Params):Obj:=⟨.type "tuple",none,.seq #[.str "kind" 446,.str "count" 447,.str "worth" 448] 0,#[]⟩
noncomputable def O0 (P:Params):Obj:=⟨.type "tuple",none,.seq #[] 0,#[]⟩
noncomputable def ZQ (P:Params):Obj:=⟨.none,none,.func { name:="told_last",qualname:="told_last",params:=L2.ao (tp 32),body:=.stmts (L2.ak (tp 32)),scope:=L2.ae (tp 32),globals:=0,closure:=[],defaults:=.none,kwdefaults:=.none,doc:=.none,pyModule:=.none,annotations:=none,code:=.none,closureTuple:=.none,builtins:=0 },#[]⟩
noncomputable def O1 (P:Params):Obj:=⟨.type "code",none,.fields #[.str "told_last" 443,.str "told_last" 444,.str "/claim/cut.py" 445,.int (86) 0,.int (3) 0,.int (0) 0,.int (0) 0,.int (3) 0,.ref 132,.bool true,.int (181) 0,.ref 133,.none,.ref 134,.ref 135,.ref 136,.int (449) 0,.int (86) 0,.str "/claim/cut.py" 450],#[]⟩
noncomputable def O2 (P:Params):Obj:=⟨.type "function",none,.func { name:="told_last",qualname:="told_last",params:=L2.ao (tp 32),body:=.stmts (L2.ak (tp 32)),scope:=L2.ae (tp 32),globals:=3,closure:=[],defaults:=.none,kwdefaults:=.none,doc:=.none,pyModule:=.str "noteworth.steps" 238,annotations:=none,code:=.ref 137,closureTuple:=.none,builtins:=0 },#[]⟩
noncomputable def O3 (P:Params):Obj:=⟨.type "tuple",none,.seq #[] 0,#[]⟩
noncomputable def ZR (P:Params):Obj:=⟨.none,none,.fields #[],#[]⟩
noncomputable def O4 (P:Params):Obj:=⟨.type "tuple",none,.seq #[.str "state" 455,.str "kind" 456,.str "worth" 457,.str "count" 458,.str "last" 459,.str "left" 460] 0,#[]⟩
noncomputable def O5 (P:Params):Obj:=⟨.type "tuple",none,.seq #[] 0,#[]⟩
noncomputable def ZS (P:Params):Obj:=⟨.none,none,.func { name:="small_step",qualname:="small_step",params:=L2.ao (tp 33),body:=.stmts (L2.ak (tp 33)),scope:=L2.ae (tp 33),globals:=0,closure:=[],defaults:=.none,kwdefaults:=.none,doc:=.none,pyModule:=.none,annotations:=none,code:=.none,closureTuple:=.none,builtins:=0 },#[]⟩
noncomputable def O6 (P:Params):Obj:=⟨.type "code",none,.fields #[.str "small_step" 452,.str "small_step" 453,.str "/claim/cut.py" 454,.int (92) 0,.int (3) 0,.int (0) 0,.int (0) 0,.int (3) 0,.ref 139,.bool true,.int (181) 0,.ref 140,.none,.ref 141,.ref 142,.ref 143,.int (461) 0,.int (92) 0,.str "/claim/cut.py" 462],#[]⟩
noncomputable def O7 (P:Params):Obj:=⟨.type "function",none,.func { name:="small_step",qualname:="small_step",params:=L2.ao (tp 33),body:=.stmts (L2.ak (tp 33)),scope:=L2.ae (tp 33),globals:=3,closure:=[],defaults:=.none,kwdefaults:=.none,doc:=.none,pyModule:=.str "noteworth.steps" 238,annotations:=none,code:=.ref 144,closureTuple:=.none,builtins:=0 },#[]⟩
noncomputable def O8 (P:Params):Obj:=⟨.type "tuple",none,.seq #[.str "." 466,.int (0) 467] 0,#[]⟩
noncomputable def O9 (P:Params):Obj:=⟨.type "tuple",none,.seq #[.str "3" 468,.int (0) 469] 0,#[]⟩
noncomputable def Pa (P:Params):Obj:=⟨.type "tuple",none,.seq #[.str "2" 470,.int (0) 471] 0,#[]⟩
noncomputable def Pb (P:Params):Obj:=⟨.type "tuple",none,.seq #[.ref 146,.ref 147,.ref 148] 0,#[]⟩
noncomputable def Pc (P:Params):Obj:=⟨.type "tuple",none,.seq #[.str "R" 473,.int (0) 474] 0,#[]⟩
noncomputable def Pd (P:Params):Obj:=⟨.type "tuple",none,.seq #[.str "r" 475,.int (0) 476] 0,#[]⟩
noncomputable def Pe (P:Params):Obj:=⟨.type "tuple",none,.seq #[.ref 150,.ref 151] 0,#[]⟩
noncomputable def Pf (P:Params):Obj:=⟨.type "tuple",none,.seq #[] 0,#[]⟩
noncomputable def ZT (P:Params):Obj:=⟨.none,none,.fields #[],#[]⟩
noncomputable def Pg (P:Params):Obj:=⟨.type "tuple",none,.seq #[.str "state" 481,.str "signs" 482,.str "worth" 483,.str "prices" 484,.str "found" 485,.str "sign" 486,.str "cost" 487,.str "to" 488] 0,#[]⟩
noncomputable def Ph (P:Params):Obj:=⟨.type "tuple",none,.seq #[] 0,#[]⟩
noncomputable def ZU (P:Params):Obj:=⟨.none,none,.func { name:="moves",qualname:="moves",params:=L2.ao (tp 37),body:=.stmts (L2.ak (tp 37)),scope:=L2.ae (tp 37),globals:=0,closure:=[],defaults:=.none,kwdefaults:=.none,doc:=.none,pyModule:=.none,annotations:=none,code:=.none,closureTuple:=.none,builtins:=0 },#[]⟩
noncomputable def Pj (P:Params):Obj:=⟨.type "code",none,.fields #[.str "moves" 478,.str "moves" 479,.str "/claim/cut.py" 480,.int (104) 0,.int (4) 0,.int (0) 0,.int (0) 0,.int (3) 0,.ref 153,.bool true,.int (181) 0,.ref 154,.none,.ref 155,.ref 156,.ref 157,.int (489) 0,.int (104) 0,.str "/claim/cut.py" 490],#[]⟩
noncomputable def Pk (P:Params):Obj:=⟨.type "function",none,.func { name:="moves",qualname:="moves",params:=L2.ao (tp 37),body:=.stmts (L2.ak (tp 37)),scope:=L2.ae (tp 37),globals:=3,closure:=[],defaults:=.none,kwdefaults:=.none,doc:=.none,pyModule:=.str "noteworth.moves" 464,annotations:=none,code:=.ref 158,closureTuple:=.none,builtins:=0 },#[]⟩
noncomputable def Pl (P:Params):Obj:=⟨.type "tuple",none,.seq #[] 0,#[]⟩
noncomputable def ZV (P:Params):Obj:=⟨.none,none,.fields #[],#[]⟩
noncomputable def Pm (P:Params):Obj:=⟨.type "tuple",none,.seq #[.str "state" 495,.str "prices" 496] 0,#[]⟩
noncomputable def Pn (P:Params):Obj:=⟨.type "tuple",none,.seq #[] 0,#[]⟩
noncomputable def ZW (P:Params):Obj:=⟨.none,none,.func { name:="parting_moves",qualname:="parting_moves",params:=L2.ao (tp 38),body:=.stmts (L2.ak (tp 38)),scope:=L2.ae (tp 38),globals:=0,closure:=[],defaults:=.none,kwdefaults:=.none,doc:=.none,pyModule:=.none,annotations:=none,code:=.none,closureTuple:=.none,builtins:=0 },#[]⟩
noncomputable def Po (P:Params):Obj:=⟨.type "code",none,.fields #[.str "parting_moves" 492,.str "parting_moves" 493,.str "/claim/cut.py" 494,.int (112) 0,.int (2) 0,.int (0) 0,.int (0) 0,.int (3) 0,.ref 160,.bool true,.int (181) 0,.ref 161,.none,.ref 162,.ref 163,.ref 164,.int (497) 0,.int (112) 0,.str "/claim/cut.py" 498],#[]⟩
noncomputable def Pp (P:Params):Obj:=⟨.type "function",none,.func { name:="parting_moves",qualname:="parting_moves",params:=L2.ao (tp 38),body:=.stmts (L2.ak (tp 38)),scope:=L2.ae (tp 38),globals:=3,closure:=[],defaults:=.none,kwdefaults:=.none,doc:=.none,pyModule:=.str "noteworth.moves" 464,annotations:=none,code:=.ref 165,closureTuple:=.none,builtins:=0 },#[]⟩
noncomputable def Pq (P:Params):Obj:=⟨.type "tuple",none,.seq #[] 0,#[]⟩
noncomputable def ZX (P:Params):Obj:=⟨.none,none,.fields #[],#[]⟩
noncomputable def ZY (P:Params):Obj:=⟨.none,none,.func { name:="wished_signs",qualname:="wished_signs",params:=L2.ao (tp 39),body:=.stmts (L2.ak (tp 39)),scope:=L2.ae (tp 39),globals:=0,closure:=[],defaults:=.none,kwdefaults:=.none,doc:=.none,pyModule:=.none,annotations:=none,code:=.none,closureTuple:=.none,builtins:=0 },#[]⟩
noncomputable def Pr (P:Params):Obj:=⟨.type "code",none,.fields #[.str "wished_signs" 500,.str "wished_signs" 501,.str "/claim/cut.py" 502,.int (114) 0,.int (1) 0,.int (0) 0,.int (0) 0,.int (3) 0,.ref 167,.bool true,.int (181) 0,.ref 168,.none,.none,.none,.ref 169,.int (503) 0,.int (114) 0,.str "/claim/cut.py" 504],#[]⟩
noncomputable def Pt (P:Params):Obj:=⟨.type "function",none,.func { name:="wished_signs",qualname:="wished_signs",params:=L2.ao (tp 39),body:=.stmts (L2.ak (tp 39)),scope:=L2.ae (tp 39),globals:=3,closure:=[],defaults:=.none,kwdefaults:=.none,doc:=.none,pyModule:=.str "noteworth.moves" 464,annotations:=none,code:=.ref 170,closureTuple:=.none,builtins:=0 },#[]⟩
noncomputable def Pu (P:Params):Obj:=⟨.type "tuple",none,.seq #[] 0,#[]⟩
noncomputable def ZZ (P:Params):Obj:=⟨.none,none,.fields #[],#[]⟩
noncomputable def Pw (P:Params):Obj:=⟨.type "tuple",none,.seq #[.str "state" 509,.str "wish" 510,.str "prices" 511,.str "tone" 512,.str "worth" 513] 0,#[]⟩
noncomputable def Px (P:Params):Obj:=⟨.type "tuple",none,.seq #[] 0,#[]⟩
noncomputable def Z0 (P:Params):Obj:=⟨.none,none,.func { name:="wish_moves",qualname:="wish_moves",params:=L2.ao (tp 40),body:=.stmts (L2.ak (tp 40)),scope:=L2.ae (tp 40),globals:=0,closure:=[],defaults:=.none,kwdefaults:=.none,doc:=.none,pyModule:=.none,annotations:=none,code:=.none,closureTuple:=.none,builtins:=0 },#[]⟩
noncomputable def Py (P:Params):Obj:=⟨.type "code",none,.fields #[.str "wish_moves" 506,.str "wish_moves" 507,.str "/claim/cut.py" 508,.int (118) 0,.int (3) 0,.int (0) 0,.int (0) 0,.int (3) 0,.ref 172,.bool true,.int (181) 0,.ref 173,.none,.ref 174,.ref 175,.ref 176,.int (514) 0,.int (118) 0,.str "/claim/cut.py" 515],#[]⟩
noncomputable def Pz (P:Params):Obj:=⟨.type "function",none,.func { name:="wish_moves",qualname:="wish_moves",params:=L2.ao (tp 40),body:=.stmts (L2.ak (tp 40)),scope:=L2.ae (tp 40),globals:=3,closure:=[],defaults:=.none,kwdefaults:=.none,doc:=.none,pyModule:=.str "noteworth.moves" 464,annotations:=none,code:=.ref 177,closureTuple:=.none,builtins:=0 },#[]⟩
noncomputable def PB (P:Params):Obj:=⟨.type "tuple",none,.seq #[] 0,#[]⟩
noncomputable def Z1 (P:Params):Obj:=⟨.none,none,.fields #[],#[]⟩
noncomputable def Z2 (P:Params):Obj:=⟨.none,none,.func { name:="names_states",qualname:="names_states",params:=L2.ao (tp 42),body:=.stmts (L2.ak (tp 42)),scope:=L2.ae (tp 42),globals:=0,closure:=[],defaults:=.none,kwdefaults:=.none,doc:=.none,pyModule:=.none,annotations:=none,code:=.none,closureTuple:=.none,builtins:=0 },#[]⟩
noncomputable def PD (P:Params):Obj:=⟨.type "code",none,.fields #[.str "names_states" 519,.str "names_states" 520,.str "/claim/cut.py" 521,.int (122) 0,.int (2) 0,.int (0) 0,.int (0) 0,.int (3) 0,.ref 179,.bool true,.int (181) 0,.ref 180,.none,.none,.none,.ref 181,.int (522) 0,.int (122) 0,.str "/claim/cut.py" 523],#[]⟩
noncomputable def PH (P:Params):Obj:=⟨.type "function",none,.func { name:="names_states",qualname:="names_states",params:=L2.ao (tp 42),body:=.stmts (L2.ak (tp 42)),scope:=L2.ae (tp 42),globals:=3,closure:=[],defaults:=.none,kwdefaults:=.none,doc:=.none,pyModule:=.str "noteworth.papers" 517,annotations:=none,code:=.ref 182,closureTuple:=.none,builtins:=0 },#[]⟩
noncomputable def PJ (P:Params):Obj:=⟨.type "tuple",none,.seq #[] 0,#[]⟩
noncomputable def Z3 (P:Params):Obj:=⟨.none,none,.fields #[],#[]⟩
noncomputable def PK (P:Params):Obj:=⟨.type "tuple",none,.seq #[.str "numbers" 528,.str "state" 529,.str "most" 530] 0,#[]⟩
noncomputable def PL (P:Params):Obj:=⟨.type "tuple",none,.seq #[] 0,#[]⟩
noncomputable def Z4 (P:Params):Obj:=⟨.none,none,.func { name:="bounds",qualname:="bounds",params:=L2.ao (tp 43),body:=.stmts (L2.ak (tp 43)),scope:=L2.ae (tp 43),globals:=0,closure:=[],defaults:=.none,kwdefaults:=.none,doc:=.none,pyModule:=.none,annotations:=none,code:=.none,closureTuple:=.none,builtins:=0 },#[]⟩
noncomputable def PM (P:Params):Obj:=⟨.type "code",none,.fields #[.str "bounds" 525,.str "bounds" 526,.str "/claim/cut.py" 527,.int (125) 0,.int (3) 0,.int (0) 0,.int (0) 0,.int (3) 0,.ref 184,.bool true,.int (181) 0,.ref 185,.none,.ref 186,.ref 187,.ref 188,.int (531) 0,.int (125) 0,.str "/claim/cut.py" 532],#[]⟩
noncomputable def PN (P:Params):Obj:=⟨.type "function",none,.func { name:="bounds",qualname:="bounds",params:=L2.ao (tp 43),body:=.stmts (L2.ak (tp 43)),scope:=L2.ae (tp 43),globals:=3,closure:=[],defaults:=.none,kwdefaults:=.none,doc:=.none,pyModule:=.str "noteworth.papers" 517,annotations:=none,code:=.ref 189,closureTuple:=.none,builtins:=0 },#[]⟩
noncomputable def PQ (P:Params):Obj:=⟨.type "tuple",none,.seq #[] 0,#[]⟩
noncomputable def Z5 (P:Params):Obj:=⟨.none,none,.fields #[],#[]⟩
noncomputable def PR (P:Params):Obj:=⟨.type "tuple",none,.seq #[.str "numbers" 537,.str "prices" 538,.str "state" 539,.str "number" 540,.str "sign" 541,.str "cost" 542,.str "to" 543] 0,#[]⟩
noncomputable def PU (P:Params):Obj:=⟨.type "tuple",none,.seq #[] 0,#[]⟩
noncomputable def Z6 (P:Params):Obj:=⟨.none,none,.func { name:="bounds_parting_moves",qualname:="bounds_parting_moves",params:=L2.ao (tp 44),body:=.stmts (L2.ak (tp 44)),scope:=L2.ae (tp 44),globals:=0,closure:=[],defaults:=.none,kwdefaults:=.none,doc:=.none,pyModule:=.none,annotations:=none,code:=.none,closureTuple:=.none,builtins:=0 },#[]⟩
noncomputable def PV (P:Params):Obj:=⟨.type "code",none,.fields #[.str "bounds_parting_moves" 534,.str "bounds_parting_moves" 535,.str "/claim/cut.py" 536,.int (127) 0,.int (2) 0,.int (0) 0,.int (0) 0,.int (3) 0,.ref 191,.bool true,.int (181) 0,.ref 192,.none,.ref 193,.ref 194,.ref 195,.int (544) 0,.int (127) 0,.str "/claim/cut.py" 545],#[]⟩
noncomputable def PX (P:Params):Obj:=⟨.type "function",none,.func { name:="bounds_parting_moves",qualname:="bounds_parting_moves",params:=L2.ao (tp 44),body:=.stmts (L2.ak (tp 44)),scope:=L2.ae (tp 44),globals:=3,closure:=[],defaults:=.none,kwdefaults:=.none,doc:=.none,pyModule:=.str "noteworth.papers" 517,annotations:=none,code:=.ref 196,closureTuple:=.none,builtins:=0 },#[]⟩
noncomputable def PY (P:Params):Obj:=⟨.type "tuple",none,.seq #[] 0,#[]⟩
noncomputable def Z7 (P:Params):Obj:=⟨.none,none,.fields #[],#[]⟩
noncomputable def PZ (P:Params):Obj:=⟨.type "tuple",none,.seq #[.str "numbers" 550,.str "following" 551,.str "wish" 552,.str "prices" 553,.str "state" 554,.str "number" 555,.str "sign" 556,.str "cost" 557,.str "to" 558] 0,#[]⟩
noncomputable def P0 (P:Params):Obj:=⟨.type "tuple",none,.seq #[] 0,#[]⟩
noncomputable def Z8 (P:Params):Obj:=⟨.none,none,.func { name:="bounds_wish_moves",qualname:="bounds_wish_moves",params:=L2.ao (tp 45),body:=.stmts (L2.ak (tp 45)),scope:=L2.ae (tp 45),globals:=0,closure:=[],defaults:=.none,kwdefaults:=.none,doc:=.none,pyModule:=.none,annotations:=none,code:=.none,closureTuple:=.none,builtins:=0 },#[]⟩
noncomputable def P1 (P:Params):Obj:=⟨.type "code",none,.fields #[.str "bounds_wish_moves" 547,.str "bounds_wish_moves" 548,.str "/claim/cut.py" 549,.int (133) 0,.int (4) 0,.int (0) 0,.int (0) 0,.int (3) 0,.ref 198,.bool true,.int (181) 0,.ref 199,.none,.ref 200,.ref 201,.ref 202,.int (559) 0,.int (133) 0,.str "/claim/cut.py" 560],#[]⟩
noncomputable def P4 (P:Params):Obj:=⟨.type "function",none,.func { name:="bounds_wish_moves",qualname:="bounds_wish_moves",params:=L2.ao (tp 45),body:=.stmts (L2.ak (tp 45)),scope:=L2.ae (tp 45),globals:=3,closure:=[],defaults:=.none,kwdefaults:=.none,doc:=.none,pyModule:=.str "noteworth.papers" 517,annotations:=none,code:=.ref 203,closureTuple:=.none,builtins:=0 },#[]⟩
noncomputable def P5 (P:Params):Obj:=⟨.type "tuple",none,.seq #[] 0,#[]⟩
noncomputable def Z9 (P:Params):Obj:=⟨.none,none,.fields #[],#[]⟩
noncomputable def aaa (P:Params):Obj:=⟨.none,none,.func { name:="reaches_bound",qualname:="reaches_bound",params:=L2.ao (tp 46),body:=.stmts (L2.ak (tp 46)),scope:=L2.ae (tp 46),globals:=0,closure:=[],defaults:=.none,kwdefaults:=.none,doc:=.none,pyModule:=.none,annotations:=none,code:=.none,closureTuple:=.none,builtins:=0 },#[]⟩
noncomputable def P6 (P:Params):Obj:=⟨.type "code",none,.fields #[.str "reaches_bound" 562,.str "reaches_bound" 563,.str "/claim/cut.py" 564,.int (139) 0,.int (2) 0,.int (0) 0,.int (0) 0,.int (3) 0,.ref 205,.bool true,.int (181) 0,.ref 206,.none,.none,.none,.ref 207,.int (565) 0,.int (139) 0,.str "/claim/cut.py" 566],#[]⟩
noncomputable def P7 (P:Params):Obj:=⟨.type "function",none,.func { name:="reaches_bound",qualname:="reaches_bound",params:=L2.ao (tp 46),body:=.stmts (L2.ak (tp 46)),scope:=L2.ae (tp 46),globals:=3,closure:=[],defaults:=.none,kwdefaults:=.none,doc:=.none,pyModule:=.str "noteworth.papers" 517,annotations:=none,code:=.ref 208,closureTuple:=.none,builtins:=0 },#[]⟩
noncomputable def P8 (P:Params):Obj:=⟨.type "tuple",none,.seq #[.int (3) 568] 0,#[]⟩
noncomputable def P9 (P:Params):Obj:=⟨.type "tuple",none,.seq #[] 0,#[]⟩
noncomputable def aab (P:Params):Obj:=⟨.none,none,.fields #[],#[]⟩
noncomputable def aac (P:Params):Obj:=⟨.none,none,.func { name:="holds",qualname:="holds",params:=L2.ao (tp 47),body:=.stmts (L2.ak (tp 47)),scope:=L2.ae (tp 47),globals:=0,closure:=[],defaults:=.none,kwdefaults:=.none,doc:=.none,pyModule:=.none,annotations:=none,code:=.none,closureTuple:=.none,builtins:=0 },#[]⟩
noncomputable def Qa (P:Params):Obj:=⟨.type "code",none,.fields #[.str "holds" 569,.str "holds" 570,.str "/claim/cut.py" 571,.int (144) 0,.int (5) 0,.int (0) 0,.int (0) 0,.int (3) 0,.ref 211,.bool true,.int (181) 0,.ref 212,.none,.none,.none,.ref 213,.int (572) 0,.int (144) 0,.str "/claim/cut.py" 573],#[]⟩
noncomputable def Qb (P:Params):Obj:=⟨.type "function",none,.func { name:="holds",qualname:="holds",params:=L2.ao (tp 47),body:=.stmts (L2.ak (tp 47)),scope:=L2.ae (tp 47),globals:=3,closure:=[],defaults:=.ref 210,kwdefaults:=.none,doc:=.none,pyModule:=.str "noteworth.papers" 517,annotations:=none,code:=.ref 214,closureTuple:=.none,builtins:=0 },#[]⟩
noncomputable def Qc (P:Params):Obj:=⟨.type "tuple",none,.seq #[] 0,#[]⟩
noncomputable def aad (P:Params):Obj:=⟨.none,none,.fields #[],#[]⟩
noncomputable def Qd (P:Params):Obj:=⟨.type "tuple",none,.seq #[.str "_law_script" 580,.str "_law_k" 581] 0,#[]⟩
noncomputable def Qe (P:Params):Obj:=⟨.type "tuple",none,.seq #[] 0,#[]⟩
noncomputable def aae (P:Params):Obj:=⟨.none,none,.func { name:="_law_cell_at",qualname:="_law_cell_at",params:=L2.ao (tp 49),body:=.stmts (L2.ak (tp 49)),scope:=L2.ae (tp 49),globals:=0,closure:=[],defaults:=.none,kwdefaults:=.none,doc:=.none,pyModule:=.none,annotations:=none,code:=.none,closureTuple:=.none,builtins:=0 },#[]⟩
noncomputable def Qf (P:Params):Obj:=⟨.type "code",none,.fields #[.str "_law_cell_at" 577,.str "_law_cell_at" 578,.str "/claim/cut.py" 579,.int (158) 0,.int (2) 0,.int (0) 0,.int (0) 0,.int (3) 0,.ref 216,.bool true,.int (181) 0,.ref 217,.none,.ref 218,.ref 219,.ref 220,.int (582) 0,.int (158) 0,.str "/claim/cut.py" 583],#[]⟩
noncomputable def Qg (P:Params):Obj:=⟨.type "function",none,.func { name:="_law_cell_at",qualname:="_law_cell_at",params:=L2.ao (tp 49),body:=.stmts (L2.ak (tp 49)),scope:=L2.ae (tp 49),globals:=3,closure:=[],defaults:=.none,kwdefaults:=.none,doc:=.none,pyModule:=.str "law_noteworth_k29_papers_judged" 575,annotations:=none,code:=.ref 221,closureTuple:=.none,builtins:=0 },#[]⟩
noncomputable def Qh (P:Params):Obj:=⟨.type "tuple",none,.seq #[] 0,#[]⟩
noncomputable def aaf (P:Params):Obj:=⟨.none,none,.fields #[],#[]⟩
noncomputable def Qi (P:Params):Obj:=⟨.type "tuple",none,.seq #[.str "_law_seed" 588,.str "_law_k" 589,.str "_law_one" 590,.str "_law_two" 591] 0,#[]⟩
noncomputable def Qj (P:Params):Obj:=⟨.type "tuple",none,.seq #[] 0,#[]⟩
noncomputable def aag (P:Params):Obj:=⟨.none,none,.func { name:="_law_mixed",qualname:="_law_mixed",params:=L2.ao (tp 50),body:=.stmts (L2.ak (tp 50)),scope:=L2.ae (tp 50),globals:=0,closure:=[],defaults:=.none,kwdefaults:=.none,doc:=.none,pyModule:=.none,annotations:=none,code:=.none,closureTuple:=.none,builtins:=0 },#[]⟩
noncomputable def Qk (P:Params):Obj:=⟨.type "code",none,.fields #[.str "_law_mixed" 585,.str "_law_mixed" 586,.str "/claim/cut.py" 587,.int (162) 0,.int (2) 0,.int (0) 0,.int (0) 0,.int (3) 0,.ref 223,.bool true,.int (181) 0,.ref 224,.none,.ref 225,.ref 226,.ref 227,.int (592) 0,.int (162) 0,.str "/claim/cut.py" 593],#[]⟩
noncomputable def Ql (P:Params):Obj:=⟨.type "function",none,.func { name:="_law_mixed",qualname:="_law_mixed",params:=L2.ao (tp 50),body:=.stmts (L2.ak (tp 50)),scope:=L2.ae (tp 50),globals:=3,closure:=[],defaults:=.none,kwdefaults:=.none,doc:=.none,pyModule:=.str "law_noteworth_k29_papers_judged" 575,annotations:=none,code:=.ref 228,closureTuple:=.none,builtins:=0 },#[]⟩
noncomputable def Qm (P:Params):Obj:=⟨.type "tuple",none,.seq #[] 0,#[]⟩
noncomputable def aah (P:Params):Obj:=⟨.none,none,.fields #[],#[]⟩
noncomputable def aai (P:Params):Obj:=⟨.none,none,.func { name:="_law_numbers",qualname:="_law_numbers",params:=L2.ao (tp 51),body:=.stmts (L2.ak (tp 51)),scope:=L2.ae (tp 51),globals:=0,closure:=[],defaults:=.none,kwdefaults:=.none,doc:=.none,pyModule:=.none,annotations:=none,code:=.none,closureTuple:=.none,builtins:=0 },#[]⟩
noncomputable def Qn (P:Params):Obj:=⟨.type "code",none,.fields #[.str "_law_numbers" 595,.str "_law_numbers" 596,.str "/claim/cut.py" 597,.int (166) 0,.int (3) 0,.int (0) 0,.int (0) 0,.int (3) 0,.ref 230,.bool true,.int (181) 0,.ref 231,.none,.none,.none,.ref 232,.int (598) 0,.int (166) 0,.str "/claim/cut.py" 599],#[]⟩
noncomputable def Qo (P:Params):Obj:=⟨.type "function",none,.func { name:="_law_numbers",qualname:="_law_numbers",params:=L2.ao (tp 51),body:=.stmts (L2.ak (tp 51)),scope:=L2.ae (tp 51),globals:=3,closure:=[],defaults:=.none,kwdefaults:=.none,doc:=.none,pyModule:=.str "law_noteworth_k29_papers_judged" 575,annotations:=none,code:=.ref 233,closureTuple:=.none,builtins:=0 },#[]⟩
noncomputable def Qp (P:Params):Obj:=⟨.type "tuple",none,.seq #[] 0,#[]⟩
noncomputable def aaj (P:Params):Obj:=⟨.none,none,.fields #[],#[]⟩
noncomputable def Qq (P:Params):Obj:=⟨.type "tuple",none,.seq #[.str "_law_number" 604,.str "_law_kind" 605] 0,#[]⟩
noncomputable def Qr (P:Params):Obj:=⟨.type "tuple",none,.seq #[] 0,#[]⟩
noncomputable def aak (P:Params):Obj:=⟨.none,none,.func { name:="_law_sign_by",qualname:="_law_sign_by",params:=L2.ao (tp 52),body:=.stmts (L2.ak (tp 52)),scope:=L2.ae (tp 52),globals:=0,closure:=[],defaults:=.none,kwdefaults:=.none,doc:=.none,pyModule:=.none,annotations:=none,code:=.none,closureTuple:=.none,builtins:=0 },#[]⟩
noncomputable def Qs (P:Params):Obj:=⟨.type "code",none,.fields #[.str "_law_sign_by" 601,.str "_law_sign_by" 602,.str "/claim/cut.py" 603,.int (176) 0,.int (1) 0,.int (0) 0,.int (0) 0,.int (3) 0,.ref 235,.bool true,.int (181) 0,.ref 236,.none,.ref 237,.ref 238,.ref 239,.int (606) 0,.int (176) 0,.str "/claim/cut.py" 607],#[]⟩
noncomputable def Qt (P:Params):Obj:=⟨.type "function",none,.func { name:="_law_sign_by",qualname:="_law_sign_by",params:=L2.ao (tp 52),body:=.stmts (L2.ak (tp 52)),scope:=L2.ae (tp 52),globals:=3,closure:=[],defaults:=.none,kwdefaults:=.none,doc:=.none,pyModule:=.str "law_noteworth_k29_papers_judged" 575,annotations:=none,code:=.ref 240,closureTuple:=.none,builtins:=0 },#[]⟩
noncomputable def Qu (P:Params):Obj:=⟨.type "tuple",none,.seq #[] 0,#[]⟩
noncomputable def aal (P:Params):Obj:=⟨.none,none,.fields #[],#[]⟩
noncomputable def aam (P:Params):Obj:=⟨.none,none,.func { name:="_law_line",qualname:="_law_line",params:=L2.ao (tp 53),body:=.stmts (L2.ak (tp 53)),scope:=L2.ae (tp 53),globals:=0,closure:=[],defaults:=.none,kwdefaults:=.none,doc:=.none,pyModule:=.none,annotations:=none,code:=.none,closureTuple:=.none,builtins:=0 },#[]⟩
noncomputable def Qv (P:Params):Obj:=⟨.type "code",none,.fields #[.str "_law_line" 609,.str "_law_line" 610,.str "/claim/cut.py" 611,.int (181) 0,.int (3) 0,.int (0) 0,.int (0) 0,.int (3) 0,.ref 242,.bool true,.int (181) 0,.ref 243,.none,.none,.none,.ref 244,.int (612) 0,.int (181) 0,.str "/claim/cut.py" 613],#[]⟩
noncomputable def Qw (P:Params):Obj:=⟨.type "function",none,.func { name:="_law_line",qualname:="_law_line",params:=L2.ao (tp 53),body:=.stmts (L2.ak (tp 53)),scope:=L2.ae (tp 53),globals:=3,closure:=[],defaults:=.none,kwdefaults:=.none,doc:=.none,pyModule:=.str "law_noteworth_k29_papers_judged" 575,annotations:=none,code:=.ref 245,closureTuple:=.none,builtins:=0 },#[]⟩
noncomputable def Qx (P:Params):Obj:=⟨.type "tuple",none,.seq #[] 0,#[]⟩
noncomputable def aan (P:Params):Obj:=⟨.none,none,.fields #[],#[]⟩
noncomputable def Qy (P:Params):Obj:=⟨.type "tuple",none,.seq #[.str "_law_cell" 618] 0,#[]⟩
noncomputable def Qz (P:Params):Obj:=⟨.type "tuple",none,.seq #[] 0,#[]⟩
noncomputable def aao (P:Params):Obj:=⟨.none,none,.func { name:="_law_begin",qualname:="_law_begin",params:=L2.ao (tp 54),body:=.stmts (L2.ak (tp 54)),scope:=L2.ae (tp 54),globals:=0,closure:=[],defaults:=.none,kwdefaults:=.none,doc:=.none,pyModule:=.none,annotations:=none,code:=.none,closureTuple:=.none,builtins:=0 },#[]⟩
noncomputable def QA (P:Params):Obj:=⟨.type "code",none,.fields #[.str "_law_begin" 615,.str "_law_begin" 616,.str "/claim/cut.py" 617,.int (183) 0,.int (1) 0,.int (0) 0,.int (0) 0,.int (3) 0,.ref 247,.bool true,.int (181) 0,.ref 248,.none,.ref 249,.ref 250,.ref 251,.int (619) 0,.int (183) 0,.str "/claim/cut.py" 620],#[]⟩
noncomputable def QB (P:Params):Obj:=⟨.type "function",none,.func { name:="_law_begin",qualname:="_law_begin",params:=L2.ao (tp 54),body:=.stmts (L2.ak (tp 54)),scope:=L2.ae (tp 54),globals:=3,closure:=[],defaults:=.none,kwdefaults:=.none,doc:=.none,pyModule:=.str "law_noteworth_k29_papers_judged" 575,annotations:=none,code:=.ref 252,closureTuple:=.none,builtins:=0 },#[]⟩
noncomputable def QC (P:Params):Obj:=⟨.type "tuple",none,.seq #[] 0,#[]⟩
noncomputable def aap (P:Params):Obj:=⟨.none,none,.fields #[],#[]⟩
noncomputable def QD (P:Params):Obj:=⟨.type "tuple",none,.seq #[.str "_law_line_here" 625,.str "_law_begin_here" 626,.str "_law_told" 627,.str "_law_now" 628,.str "_law_at" 629,.str "_law_kind" 630] 0,#[]⟩
noncomputable def QE (P:Params):Obj:=⟨.type "tuple",none,.seq #[] 0,#[]⟩
noncomputable def aaq (P:Params):Obj:=⟨.none,none,.func { name:="_law_base",qualname:="_law_base",params:=L2.ao (tp 55),body:=.stmts (L2.ak (tp 55)),scope:=L2.ae (tp 55),globals:=0,closure:=[],defaults:=.none,kwdefaults:=.none,doc:=.none,pyModule:=.none,annotations:=none,code:=.none,closureTuple:=.none,builtins:=0 },#[]⟩
noncomputable def QG (P:Params):Obj:=⟨.type "code",none,.fields #[.str "_law_base" 622,.str "_law_base" 623,.str "/claim/cut.py" 624,.int (185) 0,.int (2) 0,.int (0) 0,.int (0) 0,.int (3) 0,.ref 254,.bool true,.int (181) 0,.ref 255,.none,.ref 256,.ref 257,.ref 258,.int (631) 0,.int (185) 0,.str "/claim/cut.py" 632],#[]⟩
noncomputable def QH (P:Params):Obj:=⟨.type "function",none,.func { name:="_law_base",qualname:="_law_base",params:=L2.ao (tp 55),body:=.stmts (L2.ak (tp 55)),scope:=L2.ae (tp 55),globals:=3,closure:=[],defaults:=.none,kwdefaults:=.none,doc:=.none,pyModule:=.str "law_noteworth_k29_papers_judged" 575,annotations:=none,code:=.ref 259,closureTuple:=.none,builtins:=0 },#[]⟩
noncomputable def QI (P:Params):Obj:=⟨.type "tuple",none,.seq #[] 0,#[]⟩
noncomputable def aar (P:Params):Obj:=⟨.none,none,.fields #[],#[]⟩
noncomputable def QJ (P:Params):Obj:=⟨.type "tuple",none,.seq #[.str "_law_line_here" 637,.str "_law_begin_here" 638,.str "_law_told" 639,.str "_law_now" 640,.str "_law_sign" 641] 0,#[]⟩
noncomputable def QK (P:Params):Obj:=⟨.type "tuple",none,.seq #[] 0,#[]⟩
noncomputable def aas (P:Params):Obj:=⟨.none,none,.func { name:="_law_three",qualname:="_law_three",params:=L2.ao (tp 56),body:=.stmts (L2.ak (tp 56)),scope:=L2.ae (tp 56),globals:=0,closure:=[],defaults:=.none,kwdefaults:=.none,doc:=.none,pyModule:=.none,annotations:=none,code:=.none,closureTuple:=.none,builtins:=0 },#[]⟩
noncomputable def QL (P:Params):Obj:=⟨.type "code",none,.fields #[.str "_law_three" 634,.str "_law_three" 635,.str "/claim/cut.py" 636,.int (203) 0,.int (2) 0,.int (0) 0,.int (0) 0,.int (3) 0,.ref 261,.bool true,.int (181) 0,.ref 262,.none,.ref 263,.ref 264,.ref 265,.int (642) 0,.int (203) 0,.str "/claim/cut.py" 643],#[]⟩
noncomputable def QM (P:Params):Obj:=⟨.type "function",none,.func { name:="_law_three",qualname:="_law_three",params:=L2.ao (tp 56),body:=.stmts (L2.ak (tp 56)),scope:=L2.ae (tp 56),globals:=3,closure:=[],defaults:=.none,kwdefaults:=.none,doc:=.none,pyModule:=.str "law_noteworth_k29_papers_judged" 575,annotations:=none,code:=.ref 266,closureTuple:=.none,builtins:=0 },#[]⟩
noncomputable def QO (P:Params):Obj:=⟨.type "tuple",none,.seq #[] 0,#[]⟩
noncomputable def aat (P:Params):Obj:=⟨.none,none,.fields #[],#[]⟩
noncomputable def QP (P:Params):Obj:=⟨.type "tuple",none,.seq #[.str "_law_line_here" 648,.str "_law_told" 649,.str "_law_low" 650,.str "_law_high" 651,.str "_law_rest" 652,.str "_law_behind" 653,.str "_law_after" 654,.str "_law_left" 655,.str "_law_right" 656] 0,#[]⟩
noncomputable def QR (P:Params):Obj:=⟨.type "tuple",none,.seq #[] 0,#[]⟩
noncomputable def aau (P:Params):Obj:=⟨.none,none,.func { name:="_law_run",qualname:="_law_run",params:=L2.ao (tp 57),body:=.stmts (L2.ak (tp 57)),scope:=L2.ae (tp 57),globals:=0,closure:=[],defaults:=.none,kwdefaults:=.none,doc:=.none,pyModule:=.none,annotations:=none,code:=.none,closureTuple:=.none,builtins:=0 },#[]⟩
noncomputable def QS (P:Params):Obj:=⟨.type "code",none,.fields #[.str "_law_run" 645,.str "_law_run" 646,.str "/claim/cut.py" 647,.int (211) 0,.int (4) 0,.int (0) 0,.int (0) 0,.int (3) 0,.ref 268,.bool true,.int (181) 0,.ref 269,.none,.ref 270,.ref 271,.ref 272,.int (657) 0,.int (211) 0,.str "/claim/cut.py" 658],#[]⟩
noncomputable def QT (P:Params):Obj:=⟨.type "function",none,.func { name:="_law_run",qualname:="_law_run",params:=L2.ao (tp 57),body:=.stmts (L2.ak (tp 57)),scope:=L2.ae (tp 57),globals:=3,closure:=[],defaults:=.none,kwdefaults:=.none,doc:=.none,pyModule:=.str "law_noteworth_k29_papers_judged" 575,annotations:=none,code:=.ref 273,closureTuple:=.none,builtins:=0 },#[]⟩
noncomputable def QU (P:Params):Obj:=⟨.type "tuple",none,.seq #[] 0,#[]⟩
noncomputable def aav (P:Params):Obj:=⟨.none,none,.fields #[],#[]⟩
noncomputable def QV (P:Params):Obj:=⟨.type "tuple",none,.seq #[.str "_law_line_here" 663,.str "_law_begin_here" 664,.str "_law_told" 665,.str "_law_three_here" 666,.str "_law_left" 667,.str "_law_low" 668,.str "_law_high" 669] 0,#[]⟩
noncomputable def QW (P:Params):Obj:=⟨.type "tuple",none,.seq #[] 0,#[]⟩
noncomputable def aaw (P:Params):Obj:=⟨.none,none,.func { name:="_law_read",qualname:="_law_read",params:=L2.ao (tp 58),body:=.stmts (L2.ak (tp 58)),scope:=L2.ae (tp 58),globals:=0,closure:=[],defaults:=.none,kwdefaults:=.none,doc:=.none,pyModule:=.none,annotations:=none,code:=.none,closureTuple:=.none,builtins:=0 },#[]⟩
noncomputable def QX (P:Params):Obj:=⟨.type "code",none,.fields #[.str "_law_read" 660,.str "_law_read" 661,.str "/claim/cut.py" 662,.int (225) 0,.int (2) 0,.int (0) 0,.int (0) 0,.int (3) 0,.ref 275,.bool true,.int (181) 0,.ref 276,.none,.ref 277,.ref 278,.ref 279,.int (670) 0,.int (225) 0,.str "/claim/cut.py" 671],#[]⟩
noncomputable def QY (P:Params):Obj:=⟨.type "function",none,.func { name:="_law_read",qualname:="_law_read",params:=L2.ao (tp 58),body:=.stmts (L2.ak (tp 58)),scope:=L2.ae (tp 58),globals:=3,closure:=[],defaults:=.none,kwdefaults:=.none,doc:=.none,pyModule:=.str "law_noteworth_k29_papers_judged" 575,annotations:=none,code:=.ref 280,closureTuple:=.none,builtins:=0 },#[]⟩
noncomputable def QZ (P:Params):Obj:=⟨.type "tuple",none,.seq #[] 0,#[]⟩
noncomputable def aax (P:Params):Obj:=⟨.none,none,.fields #[],#[]⟩
noncomputable def Q0 (P:Params):Obj:=⟨.type "tuple",none,.seq #[.str "_law_line_here" 676,.str "_law_begin_here" 677,.str "_law_k" 678,.str "_law_found" 679,.str "_law_low" 680,.str "_law_high" 681] 0,#[]⟩
noncomputable def Q3 (P:Params):Obj:=⟨.type "tuple",none,.seq #[] 0,#[]⟩
noncomputable def aay (P:Params):Obj:=⟨.none,none,.func { name:="_law_firmed",qualname:="_law_firmed",params:=L2.ao (tp 59),body:=.stmts (L2.ak (tp 59)),scope:=L2.ae (tp 59),globals:=0,closure:=[],defaults:=.none,kwdefaults:=.none,doc:=.none,pyModule:=.none,annotations:=none,code:=.none,closureTuple:=.none,builtins:=0 },#[]⟩
noncomputable def Q4 (P:Params):Obj:=⟨.type "code",none,.fields #[.str "_law_firmed" 673,.str "_law_firmed" 674,.str "/claim/cut.py" 675,.int (238) 0,.int (2) 0,.int (0) 0,.int (0) 0,.int (3) 0,.ref 282,.bool true,.int (181) 0,.ref 283,.none,.ref 284,.ref 285,.ref 286,.int (682) 0,.int (238) 0,.str "/claim/cut.py" 683],#[]⟩
noncomputable def Q5 (P:Params):Obj:=⟨.type "function",none,.func { name:="_law_firmed",qualname:="_law_firmed",params:=L2.ao (tp 59),body:=.stmts (L2.ak (tp 59)),scope:=L2.ae (tp 59),globals:=3,closure:=[],defaults:=.none,kwdefaults:=.none,doc:=.none,pyModule:=.str "law_noteworth_k29_papers_judged" 575,annotations:=none,code:=.ref 287,closureTuple:=.none,builtins:=0 },#[]⟩
noncomputable def Q6 (P:Params):Obj:=⟨.type "tuple",none,.seq #[] 0,#[]⟩
noncomputable def aaz (P:Params):Obj:=⟨.none,none,.fields #[],#[]⟩
noncomputable def Q7 (P:Params):Obj:=⟨.type "tuple",none,.seq #[.str "_law_line_here" 688,.str "_law_begin_here" 689,.str "_law_told" 690,.str "_law_sign" 691,.str "_law_worth" 692] 0,#[]⟩
noncomputable def Q8 (P:Params):Obj:=⟨.type "tuple",none,.seq #[] 0,#[]⟩
noncomputable def aaA (P:Params):Obj:=⟨.none,none,.func { name:="_law_wishes",qualname:="_law_wishes",params:=L2.ao (tp 60),body:=.stmts (L2.ak (tp 60)),scope:=L2.ae (tp 60),globals:=0,closure:=[],defaults:=.none,kwdefaults:=.none,doc:=.none,pyModule:=.none,annotations:=none,code:=.none,closureTuple:=.none,builtins:=0 },#[]⟩
noncomputable def Q9 (P:Params):Obj:=⟨.type "code",none,.fields #[.str "_law_wishes" 685,.str "_law_wishes" 686,.str "/claim/cut.py" 687,.int (246) 0,.int (2) 0,.int (0) 0,.int (0) 0,.int (3) 0,.ref 289,.bool true,.int (181) 0,.ref 290,.none,.ref 291,.ref 292,.ref 293,.int (693) 0,.int (246) 0,.str "/claim/cut.py" 694],#[]⟩
noncomputable def Ra (P:Params):Obj:=⟨.type "function",none,.func { name:="_law_wishes",qualname:="_law_wishes",params:=L2.ao (tp 60),body:=.stmts (L2.ak (tp 60)),scope:=L2.ae (tp 60),globals:=3,closure:=[],defaults:=.none,kwdefaults:=.none,doc:=.none,pyModule:=.str "law_noteworth_k29_papers_judged" 575,annotations:=none,code:=.ref 294,closureTuple:=.none,builtins:=0 },#[]⟩
noncomputable def Rb (P:Params):Obj:=⟨.type "tuple",none,.seq #[] 0,#[]⟩
noncomputable def aaB (P:Params):Obj:=⟨.none,none,.fields #[],#[]⟩
noncomputable def Rc (P:Params):Obj:=⟨.type "tuple",none,.seq #[.str "_law_script" 699,.str "_law_at" 700,.str "_law_many" 701,.str "_law_told" 702,.str "_law_k" 703,.str "_law_number" 704,.str "_law_worth" 705,.str "_law_tone" 706] 0,#[]⟩
noncomputable def Rf (P:Params):Obj:=⟨.type "tuple",none,.seq #[] 0,#[]⟩
noncomputable def aaC (P:Params):Obj:=⟨.none,none,.func { name:="_law_any_wishes",qualname:="_law_any_wishes",params:=L2.ao (tp 61),body:=.stmts (L2.ak (tp 61)),scope:=L2.ae (tp 61),globals:=0,closure:=[],defaults:=.none,kwdefaults:=.none,doc:=.none,pyModule:=.none,annotations:=none,code:=.none,closureTuple:=.none,builtins:=0 },#[]⟩
noncomputable def Rg (P:Params):Obj:=⟨.type "code",none,.fields #[.str "_law_any_wishes" 696,.str "_law_any_wishes" 697,.str "/claim/cut.py" 698,.int (254) 0,.int (3) 0,.int (0) 0,.int (0) 0,.int (3) 0,.ref 296,.bool true,.int (181) 0,.ref 297,.none,.ref 298,.ref 299,.ref 300,.int (707) 0,.int (254) 0,.str "/claim/cut.py" 708],#[]⟩
noncomputable def Rh (P:Params):Obj:=⟨.type "function",none,.func { name:="_law_any_wishes",qualname:="_law_any_wishes",params:=L2.ao (tp 61),body:=.stmts (L2.ak (tp 61)),scope:=L2.ae (tp 61),globals:=3,closure:=[],defaults:=.none,kwdefaults:=.none,doc:=.none,pyModule:=.str "law_noteworth_k29_papers_judged" 575,annotations:=none,code:=.ref 301,closureTuple:=.none,builtins:=0 },#[]⟩
noncomputable def Ri (P:Params):Obj:=⟨.type "tuple",none,.seq #[] 0,#[]⟩
noncomputable def aaD (P:Params):Obj:=⟨.none,none,.fields #[],#[]⟩
noncomputable def Rj (P:Params):Obj:=⟨.type "tuple",none,.seq #[.str "_law_cell" 713,.str "_law_told" 714,.str "_law_k" 715] 0,#[]⟩
noncomputable def Rk (P:Params):Obj:=⟨.type "tuple",none,.seq #[] 0,#[]⟩
noncomputable def aaE (P:Params):Obj:=⟨.none,none,.func { name:="_law_prices",qualname:="_law_prices",params:=L2.ao (tp 62),body:=.stmts (L2.ak (tp 62)),scope:=L2.ae (tp 62),globals:=0,closure:=[],defaults:=.none,kwdefaults:=.none,doc:=.none,pyModule:=.none,annotations:=none,code:=.none,closureTuple:=.none,builtins:=0 },#[]⟩
noncomputable def Rl (P:Params):Obj:=⟨.type "code",none,.fields #[.str "_law_prices" 710,.str "_law_prices" 711,.str "/claim/cut.py" 712,.int (262) 0,.int (1) 0,.int (0) 0,.int (0) 0,.int (3) 0,.ref 303,.bool true,.int (181) 0,.ref 304,.none,.ref 305,.ref 306,.ref 307,.int (716) 0,.int (262) 0,.str "/claim/cut.py" 717],#[]⟩
noncomputable def Rm (P:Params):Obj:=⟨.type "function",none,.func { name:="_law_prices",qualname:="_law_prices",params:=L2.ao (tp 62),body:=.stmts (L2.ak (tp 62)),scope:=L2.ae (tp 62),globals:=3,closure:=[],defaults:=.none,kwdefaults:=.none,doc:=.none,pyModule:=.str "law_noteworth_k29_papers_judged" 575,annotations:=none,code:=.ref 308,closureTuple:=.none,builtins:=0 },#[]⟩
noncomputable def Rn (P:Params):Obj:=⟨.type "tuple",none,.seq #[] 0,#[]⟩
noncomputable def aaF (P:Params):Obj:=⟨.none,none,.fields #[],#[]⟩
noncomputable def Ro (P:Params):Obj:=⟨.type "tuple",none,.seq #[.str "_law_state" 722,.str "_law_kind" 723,.str "_law_worth" 724,.str "_law_short" 725] 0,#[]⟩
noncomputable def Rp (P:Params):Obj:=⟨.type "tuple",none,.seq #[] 0,#[]⟩
noncomputable def aaG (P:Params):Obj:=⟨.none,none,.func { name:="_law_shut",qualname:="_law_shut",params:=L2.ao (tp 63),body:=.stmts (L2.ak (tp 63)),scope:=L2.ae (tp 63),globals:=0,closure:=[],defaults:=.none,kwdefaults:=.none,doc:=.none,pyModule:=.none,annotations:=none,code:=.none,closureTuple:=.none,builtins:=0 },#[]⟩
noncomputable def Rq (P:Params):Obj:=⟨.type "code",none,.fields #[.str "_law_shut" 719,.str "_law_shut" 720,.str "/claim/cut.py" 721,.int (268) 0,.int (3) 0,.int (0) 0,.int (0) 0,.int (3) 0,.ref 310,.bool true,.int (181) 0,.ref 311,.none,.ref 312,.ref 313,.ref 314,.int (726) 0,.int (268) 0,.str "/claim/cut.py" 727],#[]⟩
noncomputable def Rr (P:Params):Obj:=⟨.type "function",none,.func { name:="_law_shut",qualname:="_law_shut",params:=L2.ao (tp 63),body:=.stmts (L2.ak (tp 63)),scope:=L2.ae (tp 63),globals:=3,closure:=[],defaults:=.none,kwdefaults:=.none,doc:=.none,pyModule:=.str "law_noteworth_k29_papers_judged" 575,annotations:=none,code:=.ref 315,closureTuple:=.none,builtins:=0 },#[]⟩
noncomputable def Rt (P:Params):Obj:=⟨.type "tuple",none,.seq #[] 0,#[]⟩
noncomputable def aaH (P:Params):Obj:=⟨.none,none,.fields #[],#[]⟩
noncomputable def Ru (P:Params):Obj:=⟨.type "tuple",none,.seq #[.str "_law_state" 732,.str "_law_kind" 733,.str "_law_worth" 734] 0,#[]⟩
noncomputable def Rv (P:Params):Obj:=⟨.type "tuple",none,.seq #[] 0,#[]⟩
noncomputable def aaI (P:Params):Obj:=⟨.none,none,.func { name:="_law_step_two",qualname:="_law_step_two",params:=L2.ao (tp 64),body:=.stmts (L2.ak (tp 64)),scope:=L2.ae (tp 64),globals:=0,closure:=[],defaults:=.none,kwdefaults:=.none,doc:=.none,pyModule:=.none,annotations:=none,code:=.none,closureTuple:=.none,builtins:=0 },#[]⟩
noncomputable def Rw (P:Params):Obj:=⟨.type "code",none,.fields #[.str "_law_step_two" 729,.str "_law_step_two" 730,.str "/claim/cut.py" 731,.int (281) 0,.int (3) 0,.int (0) 0,.int (0) 0,.int (3) 0,.ref 317,.bool true,.int (181) 0,.ref 318,.none,.ref 319,.ref 320,.ref 321,.int (735) 0,.int (281) 0,.str "/claim/cut.py" 736],#[]⟩
noncomputable def Rx (P:Params):Obj:=⟨.type "function",none,.func { name:="_law_step_two",qualname:="_law_step_two",params:=L2.ao (tp 64),body:=.stmts (L2.ak (tp 64)),scope:=L2.ae (tp 64),globals:=3,closure:=[],defaults:=.none,kwdefaults:=.none,doc:=.none,pyModule:=.str "law_noteworth_k29_papers_judged" 575,annotations:=none,code:=.ref 322,closureTuple:=.none,builtins:=0 },#[]⟩
noncomputable def Ry (P:Params):Obj:=⟨.type "tuple",none,.seq #[] 0,#[]⟩
noncomputable def aaJ (P:Params):Obj:=⟨.none,none,.fields #[],#[]⟩
noncomputable def Rz (P:Params):Obj:=⟨.type "tuple",none,.seq #[.str "_law_state" 741,.str "_law_kind" 742,.str "_law_worth" 743,.str "_law_left" 744,.str "_law_count" 745,.str "_law_shut_here" 746] 0,#[]⟩
noncomputable def RA (P:Params):Obj:=⟨.type "tuple",none,.seq #[] 0,#[]⟩
noncomputable def aaK (P:Params):Obj:=⟨.none,none,.func { name:="_law_step_by",qualname:="_law_step_by",params:=L2.ao (tp 65),body:=.stmts (L2.ak (tp 65)),scope:=L2.ae (tp 65),globals:=0,closure:=[],defaults:=.none,kwdefaults:=.none,doc:=.none,pyModule:=.none,annotations:=none,code:=.none,closureTuple:=.none,builtins:=0 },#[]⟩
noncomputable def RB (P:Params):Obj:=⟨.type "code",none,.fields #[.str "_law_step_by" 738,.str "_law_step_by" 739,.str "/claim/cut.py" 740,.int (293) 0,.int (3) 0,.int (0) 0,.int (0) 0,.int (3) 0,.ref 324,.bool true,.int (181) 0,.ref 325,.none,.ref 326,.ref 327,.ref 328,.int (747) 0,.int (293) 0,.str "/claim/cut.py" 748],#[]⟩
noncomputable def RC (P:Params):Obj:=⟨.type "function",none,.func { name:="_law_step_by",qualname:="_law_step_by",params:=L2.ao (tp 65),body:=.stmts (L2.ak (tp 65)),scope:=L2.ae (tp 65),globals:=3,closure:=[],defaults:=.none,kwdefaults:=.none,doc:=.none,pyModule:=.str "law_noteworth_k29_papers_judged" 575,annotations:=none,code:=.ref 329,closureTuple:=.none,builtins:=0 },#[]⟩
noncomputable def RD (P:Params):Obj:=⟨.type "tuple",none,.seq #[] 0,#[]⟩
noncomputable def aaL (P:Params):Obj:=⟨.none,none,.fields #[],#[]⟩
noncomputable def RE (P:Params):Obj:=⟨.type "tuple",none,.seq #[.str "_law_told" 753,.str "_law_left" 754,.str "_law_tail" 755] 0,#[]⟩
noncomputable def RF (P:Params):Obj:=⟨.type "tuple",none,.seq #[] 0,#[]⟩
noncomputable def aaM (P:Params):Obj:=⟨.none,none,.func { name:="_law_states",qualname:="_law_states",params:=L2.ao (tp 66),body:=.stmts (L2.ak (tp 66)),scope:=L2.ae (tp 66),globals:=0,closure:=[],defaults:=.none,kwdefaults:=.none,doc:=.none,pyModule:=.none,annotations:=none,code:=.none,closureTuple:=.none,builtins:=0 },#[]⟩
noncomputable def RG (P:Params):Obj:=⟨.type "code",none,.fields #[.str "_law_states" 750,.str "_law_states" 751,.str "/claim/cut.py" 752,.int (314) 0,.int (0) 0,.int (0) 0,.int (0) 0,.int (3) 0,.ref 331,.bool true,.int (181) 0,.ref 332,.none,.ref 333,.ref 334,.ref 335,.int (756) 0,.int (314) 0,.str "/claim/cut.py" 757],#[]⟩
noncomputable def RH (P:Params):Obj:=⟨.type "function",none,.func { name:="_law_states",qualname:="_law_states",params:=L2.ao (tp 66),body:=.stmts (L2.ak (tp 66)),scope:=L2.ae (tp 66),globals:=3,closure:=[],defaults:=.none,kwdefaults:=.none,doc:=.none,pyModule:=.str "law_noteworth_k29_papers_judged" 575,annotations:=none,code:=.ref 336,closureTuple:=.none,builtins:=0 },#[]⟩
noncomputable def RI (P:Params):Obj:=⟨.type "tuple",none,.seq #[] 0,#[]⟩
noncomputable def aaN (P:Params):Obj:=⟨.none,none,.fields #[],#[]⟩
noncomputable def RJ (P:Params):Obj:=⟨.type "tuple",none,.seq #[.str "_law_state" 762] 0,#[]⟩
noncomputable def RK (P:Params):Obj:=⟨.type "tuple",none,.seq #[] 0,#[]⟩
noncomputable def aaO (P:Params):Obj:=⟨.none,none,.func { name:="_law_ends",qualname:="_law_ends",params:=L2.ao (tp 67),body:=.stmts (L2.ak (tp 67)),scope:=L2.ae (tp 67),globals:=0,closure:=[],defaults:=.none,kwdefaults:=.none,doc:=.none,pyModule:=.none,annotations:=none,code:=.none,closureTuple:=.none,builtins:=0 },#[]⟩
noncomputable def RL (P:Params):Obj:=⟨.type "code",none,.fields #[.str "_law_ends" 759,.str "_law_ends" 760,.str "/claim/cut.py" 761,.int (322) 0,.int (1) 0,.int (0) 0,.int (0) 0,.int (3) 0,.ref 338,.bool true,.int (181) 0,.ref 339,.none,.ref 340,.ref 341,.ref 342,.int (763) 0,.int (322) 0,.str "/claim/cut.py" 764],#[]⟩
noncomputable def RM (P:Params):Obj:=⟨.type "function",none,.func { name:="_law_ends",qualname:="_law_ends",params:=L2.ao (tp 67),body:=.stmts (L2.ak (tp 67)),scope:=L2.ae (tp 67),globals:=3,closure:=[],defaults:=.none,kwdefaults:=.none,doc:=.none,pyModule:=.str "law_noteworth_k29_papers_judged" 575,annotations:=none,code:=.ref 343,closureTuple:=.none,builtins:=0 },#[]⟩
noncomputable def RO (P:Params):Obj:=⟨.type "tuple",none,.seq #[] 0,#[]⟩
noncomputable def aaP (P:Params):Obj:=⟨.none,none,.fields #[],#[]⟩
noncomputable def RP (P:Params):Obj:=⟨.type "tuple",none,.seq #[.str "_law_state" 769,.str "_law_wish" 770,.str "_law_prices_here" 771,.str "_law_told" 772,.str "_law_menu" 773,.str "_law_kind" 774,.str "_law_worth" 775,.str "_law_cost" 776,.str "_law_onto" 777] 0,#[]⟩
noncomputable def RQ (P:Params):Obj:=⟨.type "tuple",none,.seq #[] 0,#[]⟩
noncomputable def aaQ (P:Params):Obj:=⟨.none,none,.func { name:="_law_moves",qualname:="_law_moves",params:=L2.ao (tp 68),body:=.stmts (L2.ak (tp 68)),scope:=L2.ae (tp 68),globals:=0,closure:=[],defaults:=.none,kwdefaults:=.none,doc:=.none,pyModule:=.none,annotations:=none,code:=.none,closureTuple:=.none,builtins:=0 },#[]⟩
noncomputable def RS (P:Params):Obj:=⟨.type "code",none,.fields #[.str "_law_moves" 766,.str "_law_moves" 767,.str "/claim/cut.py" 768,.int (326) 0,.int (3) 0,.int (0) 0,.int (0) 0,.int (3) 0,.ref 345,.bool true,.int (181) 0,.ref 346,.none,.ref 347,.ref 348,.ref 349,.int (778) 0,.int (326) 0,.str "/claim/cut.py" 779],#[]⟩
noncomputable def RU (P:Params):Obj:=⟨.type "function",none,.func { name:="_law_moves",qualname:="_law_moves",params:=L2.ao (tp 68),body:=.stmts (L2.ak (tp 68)),scope:=L2.ae (tp 68),globals:=3,closure:=[],defaults:=.none,kwdefaults:=.none,doc:=.none,pyModule:=.str "law_noteworth_k29_papers_judged" 575,annotations:=none,code:=.ref 350,closureTuple:=.none,builtins:=0 },#[]⟩
noncomputable def RV (P:Params):Obj:=⟨.type "tuple",none,.seq #[] 0,#[]⟩
noncomputable def aaR (P:Params):Obj:=⟨.none,none,.fields #[],#[]⟩
noncomputable def RW (P:Params):Obj:=⟨.type "tuple",none,.seq #[.str "_law_number" 784,.str "_law_moves_here" 785,.str "_law_table" 786,.str "_law_onto" 787,.str "_law_cost" 788] 0,#[]⟩
noncomputable def RX (P:Params):Obj:=⟨.type "tuple",none,.seq #[] 0,#[]⟩
noncomputable def aaS (P:Params):Obj:=⟨.none,none,.func { name:="_law_carried",qualname:="_law_carried",params:=L2.ao (tp 69),body:=.stmts (L2.ak (tp 69)),scope:=L2.ae (tp 69),globals:=0,closure:=[],defaults:=.none,kwdefaults:=.none,doc:=.none,pyModule:=.none,annotations:=none,code:=.none,closureTuple:=.none,builtins:=0 },#[]⟩
noncomputable def RY (P:Params):Obj:=⟨.type "code",none,.fields #[.str "_law_carried" 781,.str "_law_carried" 782,.str "/claim/cut.py" 783,.int (338) 0,.int (3) 0,.int (0) 0,.int (0) 0,.int (3) 0,.ref 352,.bool true,.int (181) 0,.ref 353,.none,.ref 354,.ref 355,.ref 356,.int (789) 0,.int (338) 0,.str "/claim/cut.py" 790],#[]⟩
noncomputable def RZ (P:Params):Obj:=⟨.type "function",none,.func { name:="_law_carried",qualname:="_law_carried",params:=L2.ao (tp 69),body:=.stmts (L2.ak (tp 69)),scope:=L2.ae (tp 69),globals:=3,closure:=[],defaults:=.none,kwdefaults:=.none,doc:=.none,pyModule:=.str "law_noteworth_k29_papers_judged" 575,annotations:=none,code:=.ref 357,closureTuple:=.none,builtins:=0 },#[]⟩
noncomputable def R0 (P:Params):Obj:=⟨.type "tuple",none,.seq #[] 0,#[]⟩
noncomputable def aaT (P:Params):Obj:=⟨.none,none,.fields #[],#[]⟩
noncomputable def R1 (P:Params):Obj:=⟨.type "tuple",none,.seq #[.str "_law_paper" 795,.str "_law_known" 796,.str "_law_tables_here" 797,.str "_law_row" 798,.str "_law_table" 799,.str "_law_state" 800,.str "_law_number" 801] 0,#[]⟩
noncomputable def R3 (P:Params):Obj:=⟨.type "tuple",none,.seq #[] 0,#[]⟩
noncomputable def aaU (P:Params):Obj:=⟨.none,none,.func { name:="_law_tables",qualname:="_law_tables",params:=L2.ao (tp 70),body:=.stmts (L2.ak (tp 70)),scope:=L2.ae (tp 70),globals:=0,closure:=[],defaults:=.none,kwdefaults:=.none,doc:=.none,pyModule:=.none,annotations:=none,code:=.none,closureTuple:=.none,builtins:=0 },#[]⟩
noncomputable def R6 (P:Params):Obj:=⟨.type "code",none,.fields #[.str "_law_tables" 792,.str "_law_tables" 793,.str "/claim/cut.py" 794,.int (343) 0,.int (1) 0,.int (0) 0,.int (0) 0,.int (3) 0,.ref 359,.bool true,.int (181) 0,.ref 360,.none,.ref 361,.ref 362,.ref 363,.int (802) 0,.int (343) 0,.str "/claim/cut.py" 803],#[]⟩
noncomputable def R7 (P:Params):Obj:=⟨.type "function",none,.func { name:="_law_tables",qualname:="_law_tables",params:=L2.ao (tp 70),body:=.stmts (L2.ak (tp 70)),scope:=L2.ae (tp 70),globals:=3,closure:=[],defaults:=.none,kwdefaults:=.none,doc:=.none,pyModule:=.str "law_noteworth_k29_papers_judged" 575,annotations:=none,code:=.ref 364,closureTuple:=.none,builtins:=0 },#[]⟩
noncomputable def R8 (P:Params):Obj:=⟨.type "tuple",none,.seq #[] 0,#[]⟩
noncomputable def aaV (P:Params):Obj:=⟨.none,none,.fields #[],#[]⟩
noncomputable def R9 (P:Params):Obj:=⟨.type "tuple",none,.seq #[.str "_law_wishes_here" 808,.str "_law_prices_here" 809,.str "_law_bound" 810,.str "_law_paper" 811,.str "_law_begin_here" 812,.str "_law_tables_here" 813,.str "_law_first" 814,.str "_law_k" 815,.str "_law_state" 816,.str "_law_number" 817] 0,#[]⟩
noncomputable def Sa (P:Params):Obj:=⟨.type "tuple",none,.seq #[] 0,#[]⟩
noncomputable def aaW (P:Params):Obj:=⟨.none,none,.func { name:="_law_holds",qualname:="_law_holds",params:=L2.ao (tp 71),body:=.stmts (L2.ak (tp 71)),scope:=L2.ae (tp 71),globals:=0,closure:=[],defaults:=.none,kwdefaults:=.none,doc:=.none,pyModule:=.none,annotations:=none,code:=.none,closureTuple:=.none,builtins:=0 },#[]⟩
noncomputable def Sb (P:Params):Obj:=⟨.type "code",none,.fields #[.str "_law_holds" 805,.str "_law_holds" 806,.str "/claim/cut.py" 807,.int (354) 0,.int (5) 0,.int (0) 0,.int (0) 0,.int (3) 0,.ref 366,.bool true,.int (181) 0,.ref 367,.none,.ref 368,.ref 369,.ref 370,.int (818) 0,.int (354) 0,.str "/claim/cut.py" 819],#[]⟩
noncomputable def Sd (P:Params):Obj:=⟨.type "function",none,.func { name:="_law_holds",qualname:="_law_holds",params:=L2.ao (tp 71),body:=.stmts (L2.ak (tp 71)),scope:=L2.ae (tp 71),globals:=3,closure:=[],defaults:=.none,kwdefaults:=.none,doc:=.none,pyModule:=.str "law_noteworth_k29_papers_judged" 575,annotations:=none,code:=.ref 371,closureTuple:=.none,builtins:=0 },#[]⟩
noncomputable def Se (P:Params):Obj:=⟨.type "tuple",none,.seq #[] 0,#[]⟩
noncomputable def aaX (P:Params):Obj:=⟨.none,none,.fields #[],#[]⟩
noncomputable def Sf (P:Params):Obj:=⟨.type "tuple",none,.seq #[.str "_law_table" 824,.str "_law_prices_here" 825,.str "_law_k" 826,.str "_law_ahead" 827,.str "_law_state" 828,.str "_law_onto" 829,.str "_law_cost" 830] 0,#[]⟩
noncomputable def Si (P:Params):Obj:=⟨.type "tuple",none,.seq #[] 0,#[]⟩
noncomputable def aaY (P:Params):Obj:=⟨.none,none,.func { name:="_law_spread",qualname:="_law_spread",params:=L2.ao (tp 72),body:=.stmts (L2.ak (tp 72)),scope:=L2.ae (tp 72),globals:=0,closure:=[],defaults:=.none,kwdefaults:=.none,doc:=.none,pyModule:=.none,annotations:=none,code:=.none,closureTuple:=.none,builtins:=0 },#[]⟩
noncomputable def Sj (P:Params):Obj:=⟨.type "code",none,.fields #[.str "_law_spread" 821,.str "_law_spread" 822,.str "/claim/cut.py" 823,.int (369) 0,.int (2) 0,.int (0) 0,.int (0) 0,.int (3) 0,.ref 373,.bool true,.int (181) 0,.ref 374,.none,.ref 375,.ref 376,.ref 377,.int (831) 0,.int (369) 0,.str "/claim/cut.py" 832],#[]⟩
noncomputable def Sk (P:Params):Obj:=⟨.type "function",none,.func { name:="_law_spread",qualname:="_law_spread",params:=L2.ao (tp 72),body:=.stmts (L2.ak (tp 72)),scope:=L2.ae (tp 72),globals:=3,closure:=[],defaults:=.none,kwdefaults:=.none,doc:=.none,pyModule:=.str "law_noteworth_k29_papers_judged" 575,annotations:=none,code:=.ref 378,closureTuple:=.none,builtins:=0 },#[]⟩
noncomputable def Sl (P:Params):Obj:=⟨.type "tuple",none,.seq #[] 0,#[]⟩
noncomputable def aaZ (P:Params):Obj:=⟨.none,none,.fields #[],#[]⟩
noncomputable def Sm (P:Params):Obj:=⟨.type "tuple",none,.seq #[.str "_law_wishes_here" 837,.str "_law_prices_here" 838,.str "_law_begin_here" 839,.str "_law_table" 840,.str "_law_paper" 841,.str "_law_wish" 842,.str "_law_ahead" 843,.str "_law_state" 844,.str "_law_onto" 845,.str "_law_cost" 846] 0,#[]⟩
noncomputable def Sn (P:Params):Obj:=⟨.type "tuple",none,.seq #[] 0,#[]⟩
noncomputable def aa0 (P:Params):Obj:=⟨.none,none,.func { name:="_law_own_paper",qualname:="_law_own_paper",params:=L2.ao (tp 73),body:=.stmts (L2.ak (tp 73)),scope:=L2.ae (tp 73),globals:=0,closure:=[],defaults:=.none,kwdefaults:=.none,doc:=.none,pyModule:=.none,annotations:=none,code:=.none,closureTuple:=.none,builtins:=0 },#[]⟩
noncomputable def So (P:Params):Obj:=⟨.type "code",none,.fields #[.str "_law_own_paper" 834,.str "_law_own_paper" 835,.str "/claim/cut.py" 836,.int (377) 0,.int (3) 0,.int (0) 0,.int (0) 0,.int (3) 0,.ref 380,.bool true,.int (181) 0,.ref 381,.none,.ref 382,.ref 383,.ref 384,.int (847) 0,.int (377) 0,.str "/claim/cut.py" 848],#[]⟩
noncomputable def Sq (P:Params):Obj:=⟨.type "function",none,.func { name:="_law_own_paper",qualname:="_law_own_paper",params:=L2.ao (tp 73),body:=.stmts (L2.ak (tp 73)),scope:=L2.ae (tp 73),globals:=3,closure:=[],defaults:=.none,kwdefaults:=.none,doc:=.none,pyModule:=.str "law_noteworth_k29_papers_judged" 575,annotations:=none,code:=.ref 385,closureTuple:=.none,builtins:=0 },#[]⟩
noncomputable def Sr (P:Params):Obj:=⟨.type "tuple",none,.seq #[] 0,#[]⟩
noncomputable def aa1 (P:Params):Obj:=⟨.none,none,.fields #[],#[]⟩
noncomputable def aa2 (P:Params):Obj:=⟨.none,none,.func { name:="_law_spoilt",qualname:="_law_spoilt",params:=L2.ao (tp 74),body:=.stmts (L2.ak (tp 74)),scope:=L2.ae (tp 74),globals:=0,closure:=[],defaults:=.none,kwdefaults:=.none,doc:=.none,pyModule:=.none,annotations:=none,code:=.none,closureTuple:=.none,builtins:=0 },#[]⟩
noncomputable def Ss (P:Params):Obj:=⟨.type "code",none,.fields #[.str "_law_spoilt" 850,.str "_law_spoilt" 851,.str "/claim/cut.py" 852,.int (390) 0,.int (4) 0,.int (0) 0,.int (0) 0,.int (3) 0,.ref 387,.bool true,.int (181) 0,.ref 388,.none,.none,.none,.ref 389,.int (853) 0,.int (390) 0,.str "/claim/cut.py" 854],#[]⟩
noncomputable def Su (P:Params):Obj:=⟨.type "function",none,.func { name:="_law_spoilt",qualname:="_law_spoilt",params:=L2.ao (tp 74),body:=.stmts (L2.ak (tp 74)),scope:=L2.ae (tp 74),globals:=3,closure:=[],defaults:=.none,kwdefaults:=.none,doc:=.none,pyModule:=.str "law_noteworth_k29_papers_judged" 575,annotations:=none,code:=.ref 390,closureTuple:=.none,builtins:=0 },#[]⟩
noncomputable def Sv (P:Params):Obj:=⟨.type "tuple",none,.seq #[] 0,#[]⟩
noncomputable def aa3 (P:Params):Obj:=⟨.none,none,.fields #[],#[]⟩
noncomputable def aa4 (P:Params):Obj:=⟨.none,none,.func { name:="law",qualname:="law",params:=L2.ao (tp 75),body:=.stmts (L2.ak (tp 75)),scope:=L2.ae (tp 75),globals:=0,closure:=[],defaults:=.none,kwdefaults:=.none,doc:=.none,pyModule:=.none,annotations:=none,code:=.none,closureTuple:=.none,builtins:=0 },#[]⟩
noncomputable def Sw (P:Params):Obj:=⟨.type "code",none,.fields #[.str "law" 856,.str "law" 857,.str "/claim/cut.py" 858,.int (414) 0,.int (1) 0,.int (0) 0,.int (0) 0,.int (3) 0,.ref 392,.bool true,.int (181) 0,.ref 393,.none,.none,.none,.ref 394,.int (859) 0,.int (414) 0,.str "/claim/cut.py" 860],#[]⟩
noncomputable def Sx (P:Params):Obj:=⟨.type "function",none,.func { name:="law",qualname:="law",params:=L2.ao (tp 75),body:=.stmts (L2.ak (tp 75)),scope:=L2.ae (tp 75),globals:=3,closure:=[],defaults:=.none,kwdefaults:=.none,doc:=.none,pyModule:=.str "law_noteworth_k29_papers_judged" 575,annotations:=none,code:=.ref 395,closureTuple:=.none,builtins:=0 },#[]⟩
noncomputable def H6 (P:Params):Heap:=⟨⟨[boot_o_0 P,boot_o_1 P,boot_o_2 P,agC P,boot_o_4 P,boot_o_5 P,boot_o_6 P,boot_o_7 P,boot_o_8 P,boot_o_9 P,boot_o_10 P,fe P,aeX P,fg P,fh P,fN P,fO P,fP P,fQ P,fR P,gC P,fS P,fU P,gE P,fV P,fW P,fX P,gF P,fY P,fZ P,gG P,f6 P,f7 P,gb P,gg P,gH P,gh P,gi P,gI P,gj P,gk P,gn P,gp P,gq P,gr P,fi P,cx P,cy P,cz P,cA P,cB P,cC P,cD P,cF P,cG P,cH P,wg P,kP P,kQ P,kR P,kS P,Zd P,aeY P,Ze P,Zf P,aeZ P,Zg P,Zh P,Zi P,Zj P,ae0 P,Zk P,Zl P,ae1 P,Zm P,Zn P,Zo P,ae2 P,Zp P,Zq P,ae3 P,Zr P,Zs P,Zt P,ae4 P,Zu P,Zv P,ae5 P,Zw P,Zx P,Zy P,ae6 P,Zz P,ZA P,ae7 P,ZC P,ZD P,ZE P,ae8 P,ZF P,OB P,ZG P,OC P,OD P,OE P,ZH P,OF P,OG P,ZI P,OH P,OI P,OJ P,ZJ P,OK P,OL P,ZK P,OM P,ON P,OO P,ZL P,OP P,OQ P,ZM P,OR P,OS P,OT P,ZN P,OU P,OV P,ZO P,OW P,OX P,OY P,ZP P,OZ P,O0 P,ZQ P,O1 P,O2 P,O3 P,ZR P,O4 P,O5 P,ZS P,O6 P,O7 P,O8 P,O9 P,Pa P,Pb P,Pc P,Pd P,Pe P,Pf P,ZT P,Pg P,Ph P,ZU P,Pj P,Pk P,Pl P,ZV P,Pm P,Pn P,ZW P,Po P,Pp P,Pq P,ZX P,ZY P,Pr P,Pt P,Pu P,ZZ P,Pw P,Px P,Z0 P,Py P,Pz P,PB P,Z1 P,Z2 P,PD P,PH P,PJ P,Z3 P,PK P,PL P,Z4 P,PM P,PN P,PQ P,Z5 P,PR P,PU P,Z6 P,PV P,PX P,PY P,Z7 P,PZ P,P0 P,Z8 P,P1 P,P4 P,P5 P,Z9 P,aaa P,P6 P,P7 P,P8 P,P9 P,aab P,aac P,Qa P,Qb P,Qc P,aad P,Qd P,Qe P,aae P,Qf P,Qg P,Qh P,aaf P,Qi P,Qj P,aag P,Qk P,Ql P,Qm P,aah P,aai P,Qn P,Qo P,Qp P,aaj P,Qq P,Qr P,aak P,Qs P,Qt P,Qu P,aal P,aam P,Qv P,Qw P,Qx P,aan P,Qy P,Qz P,aao P,QA P,QB P,QC P,aap P,QD P,QE P,aaq P,QG P,QH P,QI P,aar P,QJ P,QK P,aas P,QL P,QM P,QO P,aat P,QP P,QR P,aau P,QS P,QT P,QU P,aav P,QV P,QW P,aaw P,QX P,QY P,QZ P,aax P,Q0 P,Q3 P,aay P,Q4 P,Q5 P,Q6 P,aaz P,Q7 P,Q8 P,aaA P,Q9 P,Ra P,Rb P,aaB P,Rc P,Rf P,aaC P,Rg P,Rh P,Ri P,aaD P,Rj P,Rk P,aaE P,Rl P,Rm P,Rn P,aaF P,Ro P,Rp P,aaG P,Rq P,Rr P,Rt P,aaH P,Ru P,Rv P,aaI P,Rw P,Rx P,Ry P,aaJ P,Rz P,RA P,aaK P,RB P,RC P,RD P,aaL P,RE P,RF P,aaM P,RG P,RH P,RI P,aaN P,RJ P,RK P,aaO P,RL P,RM P,RO P,aaP P,RP P,RQ P,aaQ P,RS P,RU P,RV P,aaR P,RW P,RX P,aaS P,RY P,RZ P,R0 P,aaT P,R1 P,R3 P,aaU P,R6 P,R7 P,R8 P,aaV P,R9 P,Sa P,aaW P,Sb P,Sd P,Se P,aaX P,Sf P,Si P,aaY P,Sj P,Sk P,Sl P,aaZ P,Sm P,Sn P,aa0 P,So P,Sq P,Sr P,aa1 P,aa2 P,Ss P,Su P,Sv P,aa3 P,aa4 P,Sw P,Sx P]⟩,(boot_heap P).life⟩
noncomputable def k6:Nat:=862
noncomputable def n6:Nat:=1616
noncomputable def p6:Pos:=⟨414,0,440,106⟩
noncomputable def s6:List Stmt:=[tp 22,tp 23,tp 24,tp 25,tp 26,tp 27,tp 28,tp 29,tp 30,tp 31,tp 32,tp 33,tp 34,tp 35,tp 36,tp 37,tp 38,tp 39,tp 40,tp 41,tp 42,tp 43,tp 44,tp 45,tp 46,tp 47,tp 48,tp 49,tp 50,tp 51,tp 52,tp 53,tp 54,tp 55,tp 56,tp 57,tp 58,tp 59,tp 60,tp 61,tp 62,tp 63,tp 64,tp 65,tp 66,tp 67,tp 68,tp 69,tp 70,tp 71,tp 72,tp 73,tp 74,tp 75]
noncomputable def H7 (P:Params):Heap:=⟨⟨[boot_o_0 P,boot_o_1 P,boot_o_2 P,agC P,boot_o_4 P,boot_o_5 P,boot_o_6 P,boot_o_7 P,boot_o_8 P,boot_o_9 P,boot_o_10 P,fe P,aeX P,fg P,fh P,fN P,fO P,fP P,fQ P,fR P,gC P,fS P,fU P,gE P,fV P,fW P,fX P,gF P,fY P,fZ P,gG P,f6 P,f7 P,gb P,gg P,gH P,gh P,gi P,gI P,gj P,gk P,gn P,gp P,gq P,gr P,fi P,cx P,cy P,cz P,cA P,cB P,cC P,cD P,cF P,cG P,cH P,wg P,kP P,kQ P,kR P,kS P,Zd P,aeY P,Ze P,Zf P,aeZ P,Zg P,Zh P,Zi P,Zj P,ae0 P,Zk P,Zl P,ae1 P,Zm P,Zn P,Zo P,ae2 P,Zp P,Zq P,ae3 P,Zr P,Zs P,Zt P,ae4 P,Zu P,Zv P,ae5 P,Zw P,Zx P,Zy P,ae6 P,Zz P,ZA P,ae7 P,ZC P,ZD P,ZE P,ae8 P,ZF P,OB P,ZG P,OC P,OD P,OE P,ZH P,OF P,OG P,ZI P,OH P,OI P,OJ P,ZJ P,OK P,OL P,ZK P,OM P,ON P,OO P,ZL P,OP P,OQ P,ZM P,OR P,OS P,OT P,ZN P,OU P,OV P,ZO P,OW P,OX P,OY P,ZP P,OZ P,O0 P,ZQ P,O1 P,O2 P,O3 P,ZR P,O4 P,O5 P,ZS P,O6 P,O7 P,O8 P,O9 P,Pa P,Pb P,Pc P,Pd P,Pe P,Pf P,ZT P,Pg P,Ph P,ZU P,Pj P,Pk P,Pl P,ZV P,Pm P,Pn P,ZW P,Po P,Pp P,Pq P,ZX P,ZY P,Pr P,Pt P,Pu P,ZZ P,Pw P,Px P,Z0 P,Py P,Pz P,PB P,Z1 P,Z2 P,PD P,PH P,PJ P,Z3 P,PK P,PL P,Z4 P,PM P,PN P,PQ P,Z5 P,PR P,PU P,Z6 P,PV P,PX P,PY P,Z7 P,PZ P,P0 P,Z8 P,P1 P,P4 P,P5 P,Z9 P,aaa P,P6 P,P7 P,P8 P,P9 P,aab P,aac P,Qa P,Qb P,Qc P,aad P,Qd P,Qe P,aae P,Qf P,Qg P,Qh P,aaf P,Qi P,Qj P,aag P,Qk P,Ql P,Qm P,aah P,aai P,Qn P,Qo P,Qp P,aaj P,Qq P,Qr P,aak P,Qs P,Qt P,Qu P,aal P,aam P,Qv P,Qw P,Qx P,aan P,Qy P,Qz P,aao P,QA P,QB P,QC P,aap P,QD P,QE P,aaq P,QG P,QH P,QI P,aar P,QJ P,QK P,aas P,QL P,QM P,QO P,aat P,QP P,QR P,aau P,QS P,QT P,QU P,aav P,QV P,QW P,aaw P,QX P,QY P,QZ P,aax P,Q0 P,Q3 P,aay P,Q4 P,Q5 P,Q6 P,aaz P,Q7 P,Q8 P,aaA P,Q9 P,Ra P,Rb P,aaB P,Rc P,Rf P,aaC P,Rg P,Rh P,Ri P,aaD P,Rj P,Rk P,aaE P,Rl P,Rm P,Rn P,aaF P,Ro P,Rp P,aaG P,Rq P,Rr P,Rt P,aaH P,Ru P,Rv P,aaI P,Rw P,Rx P,Ry P,aaJ P,Rz P,RA P,aaK P,RB P,RC P,RD P,aaL P,RE P,RF P,aaM P,RG P,RH P,RI P,aaN P,RJ P,RK P,aaO P,RL P,RM P,RO P,aaP P,RP P,RQ P,aaQ P,RS P,RU P,RV P,aaR P,RW P,RX P,aaS P,RY P,RZ P,R0 P,aaT P,R1 P,R3 P,aaU P,R6 P,R7 P,R8 P,aaV P,R9 P,Sa P,aaW P,Sb P,Sd P,Se P,aaX P,Sf P,Si P,aaY P,Sj P,Sk P,Sl P,aaZ P,Sm P,Sn P,aa0 P,So P,Sq P,Sr P,aa1 P,aa2 P,Ss P,Su P,Sv P,aa3 P,aa4 P,Sw P,Sx P]⟩,(boot_heap P).life⟩
noncomputable def k7:Nat:=862
noncomputable def n7:Nat:=2
noncomputable def frg (P:Params):Frag:=(nat_lit 2,boot_o_2 P)::(nat_lit 3,agC P)::(nat_lit 15,fN P)::(nat_lit 16,fO P)::(nat_lit 17,fP P)::(nat_lit 18,fQ P)::(nat_lit 19,fR P)::(nat_lit 21,fS P)::(nat_lit 22,fU P)::(nat_lit 24,fV P)::(nat_lit 25,fW P)::(nat_lit 26,fX P)::(nat_lit 28,fY P)::(nat_lit 29,fZ P)::(nat_lit 31,f6 P)::(nat_lit 32,f7 P)::(nat_lit 33,gb P)::(nat_lit 34,gg P)::(nat_lit 36,gh P)::(nat_lit 37,gi P)::(nat_lit 39,gj P)::(nat_lit 40,gk P)::(nat_lit 41,gn P)::(nat_lit 42,gp P)::(nat_lit 43,gq P)::(nat_lit 44,gr P)::(nat_lit 45,fi P)::(nat_lit 46,cx P)::(nat_lit 47,cy P)::(nat_lit 48,cz P)::(nat_lit 49,cA P)::(nat_lit 50,cB P)::(nat_lit 51,cC P)::(nat_lit 52,cD P)::(nat_lit 53,cF P)::(nat_lit 54,cG P)::(nat_lit 55,cH P)::(nat_lit 56,wg P)::(nat_lit 57,kP P)::(nat_lit 58,kQ P)::(nat_lit 59,kR P)::(nat_lit 60,kS P)::(nat_lit 61,Zd P)::(nat_lit 63,Ze P)::(nat_lit 64,Zf P)::(nat_lit 66,Zg P)::(nat_lit 67,Zh P)::(nat_lit 68,Zi P)::(nat_lit 69,Zj P)::(nat_lit 71,Zk P)::(nat_lit 72,Zl P)::(nat_lit 74,Zm P)::(nat_lit 75,Zn P)::(nat_lit 76,Zo P)::(nat_lit 78,Zp P)::(nat_lit 79,Zq P)::(nat_lit 81,Zr P)::(nat_lit 82,Zs P)::(nat_lit 83,Zt P)::(nat_lit 85,Zu P)::(nat_lit 86,Zv P)::(nat_lit 88,Zw P)::(nat_lit 89,Zx P)::(nat_lit 90,Zy P)::(nat_lit 92,Zz P)::(nat_lit 93,ZA P)::(nat_lit 95,ZC P)::(nat_lit 96,ZD P)::(nat_lit 97,ZE P)::(nat_lit 99,ZF P)::(nat_lit 100,OB P)::(nat_lit 102,OC P)::(nat_lit 103,OD P)::(nat_lit 104,OE P)::(nat_lit 106,OF P)::(nat_lit 107,OG P)::(nat_lit 109,OH P)::(nat_lit 110,OI P)::(nat_lit 111,OJ P)::(nat_lit 113,OK P)::(nat_lit 114,OL P)::(nat_lit 116,OM P)::(nat_lit 117,ON P)::(nat_lit 118,OO P)::(nat_lit 120,OP P)::(nat_lit 121,OQ P)::(nat_lit 123,OR P)::(nat_lit 124,OS P)::(nat_lit 125,OT P)::(nat_lit 127,OU P)::(nat_lit 128,OV P)::(nat_lit 130,OW P)::(nat_lit 131,OX P)::(nat_lit 132,OY P)::(nat_lit 134,OZ P)::(nat_lit 135,O0 P)::(nat_lit 137,O1 P)::(nat_lit 138,O2 P)::(nat_lit 139,O3 P)::(nat_lit 141,O4 P)::(nat_lit 142,O5 P)::(nat_lit 144,O6 P)::(nat_lit 145,O7 P)::(nat_lit 146,O8 P)::(nat_lit 147,O9 P)::(nat_lit 148,Pa P)::(nat_lit 149,Pb P)::(nat_lit 150,Pc P)::(nat_lit 151,Pd P)::(nat_lit 152,Pe P)::(nat_lit 153,Pf P)::(nat_lit 155,Pg P)::(nat_lit 156,Ph P)::(nat_lit 158,Pj P)::(nat_lit 159,Pk P)::(nat_lit 160,Pl P)::(nat_lit 162,Pm P)::(nat_lit 163,Pn P)::(nat_lit 165,Po P)::(nat_lit 166,Pp P)::(nat_lit 167,Pq P)::(nat_lit 170,Pr P)::(nat_lit 171,Pt P)::(nat_lit 172,Pu P)::(nat_lit 174,Pw P)::(nat_lit 175,Px P)::(nat_lit 177,Py P)::(nat_lit 178,Pz P)::(nat_lit 179,PB P)::(nat_lit 182,PD P)::(nat_lit 183,PH P)::(nat_lit 184,PJ P)::(nat_lit 186,PK P)::(nat_lit 187,PL P)::(nat_lit 189,PM P)::(nat_lit 190,PN P)::(nat_lit 191,PQ P)::(nat_lit 193,PR P)::(nat_lit 194,PU P)::(nat_lit 196,PV P)::(nat_lit 197,PX P)::(nat_lit 198,PY P)::(nat_lit 200,PZ P)::(nat_lit 201,P0 P)::(nat_lit 203,P1 P)::(nat_lit 204,P4 P)::(nat_lit 205,P5 P)::(nat_lit 208,P6 P)::(nat_lit 209,P7 P)::(nat_lit 210,P8 P)::(nat_lit 211,P9 P)::(nat_lit 214,Qa P)::(nat_lit 215,Qb P)::(nat_lit 216,Qc P)::(nat_lit 218,Qd P)::(nat_lit 219,Qe P)::(nat_lit 221,Qf P)::(nat_lit 222,Qg P)::(nat_lit 223,Qh P)::(nat_lit 225,Qi P)::(nat_lit 226,Qj P)::(nat_lit 228,Qk P)::(nat_lit 229,Ql P)::(nat_lit 230,Qm P)::(nat_lit 233,Qn P)::(nat_lit 234,Qo P)::(nat_lit 235,Qp P)::(nat_lit 237,Qq P)::(nat_lit 238,Qr P)::(nat_lit 240,Qs P)::(nat_lit 241,Qt P)::(nat_lit 242,Qu P)::(nat_lit 245,Qv P)::(nat_lit 246,Qw P)::(nat_lit 247,Qx P)::(nat_lit 249,Qy P)::(nat_lit 250,Qz P)::(nat_lit 252,QA P)::(nat_lit 253,QB P)::(nat_lit 254,QC P)::(nat_lit 256,QD P)::(nat_lit 257,QE P)::(nat_lit 259,QG P)::(nat_lit 260,QH P)::(nat_lit 261,QI P)::(nat_lit 263,QJ P)::(nat_lit 264,QK P)::(nat_lit 266,QL P)::(nat_lit 267,QM P)::(nat_lit 268,QO P)::(nat_lit 270,QP P)::(nat_lit 271,QR P)::(nat_lit 273,QS P)::(nat_lit 274,QT P)::(nat_lit 275,QU P)::(nat_lit 277,QV P)::(nat_lit 278,QW P)::(nat_lit 280,QX P)::(nat_lit 281,QY P)::(nat_lit 282,QZ P)::(nat_lit 284,Q0 P)::(nat_lit 285,Q3 P)::(nat_lit 287,Q4 P)::(nat_lit 288,Q5 P)::(nat_lit 289,Q6 P)::(nat_lit 291,Q7 P)::(nat_lit 292,Q8 P)::(nat_lit 294,Q9 P)::(nat_lit 295,Ra P)::(nat_lit 296,Rb P)::(nat_lit 298,Rc P)::(nat_lit 299,Rf P)::(nat_lit 301,Rg P)::(nat_lit 302,Rh P)::(nat_lit 303,Ri P)::(nat_lit 305,Rj P)::(nat_lit 306,Rk P)::(nat_lit 308,Rl P)::(nat_lit 309,Rm P)::(nat_lit 310,Rn P)::(nat_lit 312,Ro P)::(nat_lit 313,Rp P)::(nat_lit 315,Rq P)::(nat_lit 316,Rr P)::(nat_lit 317,Rt P)::(nat_lit 319,Ru P)::(nat_lit 320,Rv P)::(nat_lit 322,Rw P)::(nat_lit 323,Rx P)::(nat_lit 324,Ry P)::(nat_lit 326,Rz P)::(nat_lit 327,RA P)::(nat_lit 329,RB P)::(nat_lit 330,RC P)::(nat_lit 331,RD P)::(nat_lit 333,RE P)::(nat_lit 334,RF P)::(nat_lit 336,RG P)::(nat_lit 337,RH P)::(nat_lit 338,RI P)::(nat_lit 340,RJ P)::(nat_lit 341,RK P)::(nat_lit 343,RL P)::(nat_lit 344,RM P)::(nat_lit 345,RO P)::(nat_lit 347,RP P)::(nat_lit 348,RQ P)::(nat_lit 350,RS P)::(nat_lit 351,RU P)::(nat_lit 352,RV P)::(nat_lit 354,RW P)::(nat_lit 355,RX P)::(nat_lit 357,RY P)::(nat_lit 358,RZ P)::(nat_lit 359,R0 P)::(nat_lit 361,R1 P)::(nat_lit 362,R3 P)::(nat_lit 364,R6 P)::(nat_lit 365,R7 P)::(nat_lit 366,R8 P)::(nat_lit 368,R9 P)::(nat_lit 369,Sa P)::(nat_lit 371,Sb P)::(nat_lit 372,Sd P)::(nat_lit 373,Se P)::(nat_lit 375,Sf P)::(nat_lit 376,Si P)::(nat_lit 378,Sj P)::(nat_lit 379,Sk P)::(nat_lit 380,Sl P)::(nat_lit 382,Sm P)::(nat_lit 383,Sn P)::(nat_lit 385,So P)::(nat_lit 386,Sq P)::(nat_lit 387,Sr P)::(nat_lit 390,Ss P)::(nat_lit 391,Su P)::(nat_lit 392,Sv P)::(nat_lit 395,Sw P)::(nat_lit 396,Sx P)::[]
noncomputable def adr:List Addr:=[2,3,15,16,17,18,19,21,22,24,25,26,28,29,31,32,33,34,36,37,39,40,41,42,43,44,45,46,47,48,49,50,51,52,53,54,55,56,57,58,59,60,61,63,64,66,67,68,69,71,72,74,75,76,78,79,81,82,83,85,86,88,89,90,92,93,95,96,97,99,100,102,103,104,106,107,109,110,111,113,114,116,117,118,120,121,123,124,125,127,128,130,131,132,134,135,137,138,139,141,142,144,145,146,147,148,149,150,151,152,153,155,156,158,159,160,162,163,165,166,167,170,171,172,174,175,177,178,179,182,183,184,186,187,189,190,191,193,194,196,197,198,200,201,203,204,205,208,209,210,211,214,215,216,218,219,221,222,223,225,226,228,229,230,233,234,235,237,238,240,241,242,245,246,247,249,250,252,253,254,256,257,259,260,261,263,264,266,267,268,270,271,273,274,275,277,278,280,281,282,284,285,287,288,289,291,292,294,295,296,298,299,301,302,303,305,306,308,309,310,312,313,315,316,317,319,320,322,323,324,326,327,329,330,331,333,334,336,337,338,340,341,343,344,345,347,348,350,351,352,354,355,357,358,359,361,362,364,365,366,368,369,371,372,373,375,376,378,379,380,382,383,385,386,387,390,391,392,395,396]
noncomputable def env:Env:={ scope:=pr.main.scope,locals:=mainNs,globals:=mainNs,cells:=[],code:=code,frame:=some frame }
noncomputable abbrev cE:Code:=.body pr.main.body env
noncomputable abbrev fr:List Frame:=[topFrame eJ]
noncomputable abbrev st (H:Params->Heap) (k:Nat) (w:World) (os:OsState):Shared:=stt H drawn k w os
theorem pre (w os):topGo treeTable pr w m0 ann n1 ⟨boot_heap w.params,Array.mk [],boot_drawn,boot_toks,os⟩ (topStub pr)=some (st H1 k1 w os,⟨denote treeTable cE,cE,p1,fr⟩):=by kernel_rfl
theorem blk (w os):segRun treeTable pr w m0 ann 1 n2 (st H1 k1 w os) (blockOf pr.main.body env cE p1 fr)=some (.next,st H2 k2 w os,cE,p2):=by kernel_rfl
theorem g3 (w:World)(os:OsState):segRun treeTable pr w m0 ann 1 n3 (st H2 k2 w os) (piecesOf s3 env cE p2 fr)=some (.next,st H3 k3 w os,cE,p3):=kL (P:=fun w=>segRun treeTable pr w m0 ann 1 n3 (st H2 k2 w os) (piecesOf s3 env cE p2 fr)=some (.next,st H3 k3 w os,cE,p3)) (fun w b=>by cases b <;> kernel_rfl) w
theorem al6 (w:World)(os:OsState):RT pr w m0 ann eJ cE ((1+(1+(1+(20+1))))+((1+((3+(0 * 3+0))+(0 * (1+(16+(1+(1+0))))+0)))+(1+3))) (dictSet d4 (.ref ait) aiu) (st Ju Md w os) (st Jv FU w os) ():=by
 refine kL (P:=fun w=>RT pr w m0 ann eJ cE ((1+(1+(1+(20+1))))+((1+((3+(0 * 3+0))+(0 * (1+(16+(1+(1+0))))+0)))+(1+3))) (dictSet d4 (.ref ait) aiu) (st Ju Md w os) (st Jv FU w os) ()) (fun w b=>?_) w;refine iD (h:=th (w.withFollow rw b).params "s" 1) (s1:=st Ju FU (w.withFollow rw b) os) ?_ (eU (es:=alN (w.withFollow rw b).params) (n:=ais) (fun K H gd lv pos=>⟨pos,1,A' _,by kernel_rfl⟩) (by kernel_rfl) ?_ (fun K H gd lv pos=>⟨pos,3,A' _,by kernel_rfl⟩) ?_ (fun K H gd lv pos=>⟨pos,1,A' _,by kernel_rfl⟩) ?_) (fun K H gd lv pos=>⟨pos,3,A' _,by kernel_rfl⟩)
 ·unfold pyHash pyHashByItsType;dsimp only;refine RT.bind (a:=()) (s1:=st Ju Md (w.withFollow rw b) os) (fun K H gd lv pos=>⟨pos,1,A' _,by kernel_rfl⟩) ?_;refine RT.bind (a:=some (.builtin "tuple.__hash__")) (s1:=st Ju Md (w.withFollow rw b) os) (fun K H gd lv pos=>⟨pos,1,A' _,by kernel_rfl⟩) ?_;rw[M' (by decide)];refine RT.bind (a:=some (.builtin "tuple.__hash__")) (s1:=st Ju Md (w.withFollow rw b) os) (fun K H gd lv pos=>⟨pos,1,A' _,by kernel_rfl⟩) ?_;rw[M' (by decide)];refine RT.bind (a:=some (.int (Builtin.Tuple.tupleHashOf [PyData.keyHash (w.withFollow rw b).params "s",hashInt 1]) (Md+2))) (s1:=st Ju FU (w.withFollow rw b) os) (fun K H gd lv pos=>⟨pos,20,(by decide:20<=20),by cases b <;> kernel_rfl⟩) ?_;exact b0 _
 ·exact bg
 ·exact bg
 ·exact bg
theorem al7 (w:World)(os:OsState):RT pr w m0 ann eJ cE ((1+(1+(1+(20+1))))+((1+((3+(1 * 3+0))+(1 * (1+(16+(1+(1+0))))+0)))+(1+3))) (dictSet d4 (.ref aiw) aix) (st Jv FU w os) (st Jw FV w os) ():=by
 refine kL (P:=fun w=>RT pr w m0 ann eJ cE ((1+(1+(1+(20+1))))+((1+((3+(1 * 3+0))+(1 * (1+(16+(1+(1+0))))+0)))+(1+3))) (dictSet d4 (.ref aiw) aix) (st Jv FU w os) (st Jw FV w os) ()) (fun w b=>?_) w;refine iD (h:=th (w.withFollow rw b).params "d" 1) (s1:=st Jv FV (w.withFollow rw b) os) ?_ (eU (es:=alO (w.withFollow rw b).params) (n:=aiv) (fun K H gd lv pos=>⟨pos,1,A' _,by kernel_rfl⟩) (by kernel_rfl) ?_ (fun K H gd lv pos=>⟨pos,3,A' _,by kernel_rfl⟩) ?_ (fun K H gd lv pos=>⟨pos,1,A' _,by kernel_rfl⟩) ?_) (fun K H gd lv pos=>⟨pos,3,A' _,by kernel_rfl⟩)
 ·unfold pyHash pyHashByItsType;dsimp only;refine RT.bind (a:=()) (s1:=st Jv FU (w.withFollow rw b) os) (fun K H gd lv pos=>⟨pos,1,A' _,by kernel_rfl⟩) ?_;refine RT.bind (a:=some (.builtin "tuple.__hash__")) (s1:=st Jv FU (w.withFollow rw b) os) (fun K H gd lv pos=>⟨pos,1,A' _,by kernel_rfl⟩) ?_;rw[M' (by decide)];refine RT.bind (a:=some (.builtin "tuple.__hash__")) (s1:=st Jv FU (w.withFollow rw b) os) (fun K H gd lv pos=>⟨pos,1,A' _,by kernel_rfl⟩) ?_;rw[M' (by decide)];refine RT.bind (a:=some (.int (Builtin.Tuple.tupleHashOf [PyData.keyHash (w.withFollow rw b).params "d",hashInt 1]) (FU+2))) (s1:=st Jv FV (w.withFollow rw b) os) (fun K H gd lv pos=>⟨pos,20,(by decide:20<=20),by cases b <;> kernel_rfl⟩) ?_;exact b0 _
 ·exact(aq (rfl) bg)
 ·exact(aq ((fun K H gd lv pos=>⟨pos,3,A' _,by kernel_rfl⟩)) bg)
 ·exact(aq ((fun K H gd lv pos=>⟨pos,16,(by decide:16<=16),by cases b <;> kernel_rfl⟩)) bg)
theorem al8 (w:World)(os:OsState):RT pr w m0 ann eJ cE ((1+(1+(1+(20+1))))+((1+((3+(2 * 3+0))+(2 * (1+(16+(1+(1+0))))+0)))+(1+3))) (dictSet d4 (.ref aiz) aiA) (st Jw FV w os) (st Jx FW w os) ():=by
 refine kL (P:=fun w=>RT pr w m0 ann eJ cE ((1+(1+(1+(20+1))))+((1+((3+(2 * 3+0))+(2 * (1+(16+(1+(1+0))))+0)))+(1+3))) (dictSet d4 (.ref aiz) aiA) (st Jw FV w os) (st Jx FW w os) ()) (fun w b=>?_) w;refine iD (h:=th (w.withFollow rw b).params "r" 1) (s1:=st Jw FW (w.withFollow rw b) os) ?_ (eU (es:=alP (w.withFollow rw b).params) (n:=aiy) (fun K H gd lv pos=>⟨pos,1,A' _,by kernel_rfl⟩) (by kernel_rfl) ?_ (fun K H gd lv pos=>⟨pos,3,A' _,by kernel_rfl⟩) ?_ (fun K H gd lv pos=>⟨pos,1,A' _,by kernel_rfl⟩) ?_) (fun K H gd lv pos=>⟨pos,3,A' _,by kernel_rfl⟩)
 ·unfold pyHash pyHashByItsType;dsimp only;refine RT.bind (a:=()) (s1:=st Jw FV (w.withFollow rw b) os) (fun K H gd lv pos=>⟨pos,1,A' _,by kernel_rfl⟩) ?_;refine RT.bind (a:=some (.builtin "tuple.__hash__")) (s1:=st Jw FV (w.withFollow rw b) os) (fun K H gd lv pos=>⟨pos,1,A' _,by kernel_rfl⟩) ?_;rw[M' (by decide)];refine RT.bind (a:=some (.builtin "tuple.__hash__")) (s1:=st Jw FV (w.withFollow rw b) os) (fun K H gd lv pos=>⟨pos,1,A' _,by kernel_rfl⟩) ?_;rw[M' (by decide)];refine RT.bind (a:=some (.int (Builtin.Tuple.tupleHashOf [PyData.keyHash (w.withFollow rw b).params "r",hashInt 1]) (FV+2))) (s1:=st Jw FW (w.withFollow rw b) os) (fun K H gd lv pos=>⟨pos,20,(by decide:20<=20),by cases b <;> kernel_rfl⟩) ?_;exact b0 _
 ·exact(aq (rfl) (aq (rfl) bg))
 ·exact(aq ((fun K H gd lv pos=>⟨pos,3,A' _,by kernel_rfl⟩)) (aq ((fun K H gd lv pos=>⟨pos,3,A' _,by kernel_rfl⟩)) bg))
 ·exact(aq ((fun K H gd lv pos=>⟨pos,16,(by decide:16<=16),by cases b <;> kernel_rfl⟩)) (aq ((fun K H gd lv pos=>⟨pos,16,(by decide:16<=16),by cases b <;> kernel_rfl⟩)) bg))
theorem al9 (w:World)(os:OsState):RT pr w m0 ann eJ cE ((1+(1+(1+(20+1))))+((1+((3+(3 * 3+0))+(3 * (1+(16+(1+(1+0))))+0)))+(1+3))) (dictSet d4 (.ref aiC) aiD) (st Jx FW w os) (st Jy FX w os) ():=by
 refine kL (P:=fun w=>RT pr w m0 ann eJ cE ((1+(1+(1+(20+1))))+((1+((3+(3 * 3+0))+(3 * (1+(16+(1+(1+0))))+0)))+(1+3))) (dictSet d4 (.ref aiC) aiD) (st Jx FW w os) (st Jy FX w os) ()) (fun w b=>?_) w;refine iD (h:=th (w.withFollow rw b).params "D" 2) (s1:=st Jx FX (w.withFollow rw b) os) ?_ (eU (es:=alQ (w.withFollow rw b).params) (n:=aiB) (fun K H gd lv pos=>⟨pos,1,A' _,by kernel_rfl⟩) (by kernel_rfl) ?_ (fun K H gd lv pos=>⟨pos,3,A' _,by kernel_rfl⟩) ?_ (fun K H gd lv pos=>⟨pos,1,A' _,by kernel_rfl⟩) ?_) (fun K H gd lv pos=>⟨pos,3,A' _,by kernel_rfl⟩)
 ·unfold pyHash pyHashByItsType;dsimp only;refine RT.bind (a:=()) (s1:=st Jx FW (w.withFollow rw b) os) (fun K H gd lv pos=>⟨pos,1,A' _,by kernel_rfl⟩) ?_;refine RT.bind (a:=some (.builtin "tuple.__hash__")) (s1:=st Jx FW (w.withFollow rw b) os) (fun K H gd lv pos=>⟨pos,1,A' _,by kernel_rfl⟩) ?_;rw[M' (by decide)];refine RT.bind (a:=some (.builtin "tuple.__hash__")) (s1:=st Jx FW (w.withFollow rw b) os) (fun K H gd lv pos=>⟨pos,1,A' _,by kernel_rfl⟩) ?_;rw[M' (by decide)];refine RT.bind (a:=some (.int (Builtin.Tuple.tupleHashOf [PyData.keyHash (w.withFollow rw b).params "D",hashInt 2]) (FW+2))) (s1:=st Jx FX (w.withFollow rw b) os) (fun K H gd lv pos=>⟨pos,20,(by decide:20<=20),by cases b <;> kernel_rfl⟩) ?_;exact b0 _
 ·exact(aq (rfl) (aq (rfl) (aq (rfl) bg)))
 ·exact(aq ((fun K H gd lv pos=>⟨pos,3,A' _,by kernel_rfl⟩)) (aq ((fun K H gd lv pos=>⟨pos,3,A' _,by kernel_rfl⟩)) (aq ((fun K H gd lv pos=>⟨pos,3,A' _,by kernel_rfl⟩)) bg)))
 ·exact(aq ((fun K H gd lv pos=>⟨pos,16,(by decide:16<=16),by cases b <;> kernel_rfl⟩)) (aq ((fun K H gd lv pos=>⟨pos,16,(by decide:16<=16),by cases b <;> kernel_rfl⟩)) (aq ((fun K H gd lv pos=>⟨pos,16,(by decide:16<=16),by cases b <;> kernel_rfl⟩)) bg)))
theorem ama (w:World)(os:OsState):RT pr w m0 ann eJ cE ((1+(1+(1+(20+1))))+((1+((3+(4 * 3+0))+(4 * (1+(16+(1+(1+0))))+0)))+(1+3))) (dictSet d4 (.ref aiF) aiG) (st Jy FX w os) (st Jz FY w os) ():=by
 refine kL (P:=fun w=>RT pr w m0 ann eJ cE ((1+(1+(1+(20+1))))+((1+((3+(4 * 3+0))+(4 * (1+(16+(1+(1+0))))+0)))+(1+3))) (dictSet d4 (.ref aiF) aiG) (st Jy FX w os) (st Jz FY w os) ()) (fun w b=>?_) w;refine iD (h:=th (w.withFollow rw b).params "R" 2) (s1:=st Jy FY (w.withFollow rw b) os) ?_ (eU (es:=alR (w.withFollow rw b).params) (n:=aiE) (fun K H gd lv pos=>⟨pos,1,A' _,by kernel_rfl⟩) (by kernel_rfl) ?_ (fun K H gd lv pos=>⟨pos,3,A' _,by kernel_rfl⟩) ?_ (fun K H gd lv pos=>⟨pos,1,A' _,by kernel_rfl⟩) ?_) (fun K H gd lv pos=>⟨pos,3,A' _,by kernel_rfl⟩)
 ·unfold pyHash pyHashByItsType;dsimp only;refine RT.bind (a:=()) (s1:=st Jy FX (w.withFollow rw b) os) (fun K H gd lv pos=>⟨pos,1,A' _,by kernel_rfl⟩) ?_;refine RT.bind (a:=some (.builtin "tuple.__hash__")) (s1:=st Jy FX (w.withFollow rw b) os) (fun K H gd lv pos=>⟨pos,1,A' _,by kernel_rfl⟩) ?_;rw[M' (by decide)];refine RT.bind (a:=some (.builtin "tuple.__hash__")) (s1:=st Jy FX (w.withFollow rw b) os) (fun K H gd lv pos=>⟨pos,1,A' _,by kernel_rfl⟩) ?_;rw[M' (by decide)];refine RT.bind (a:=some (.int (Builtin.Tuple.tupleHashOf [PyData.keyHash (w.withFollow rw b).params "R",hashInt 2]) (FX+2))) (s1:=st Jy FY (w.withFollow rw b) os) (fun K H gd lv pos=>⟨pos,20,(by decide:20<=20),by cases b <;> kernel_rfl⟩) ?_;exact b0 _
 ·exact(aq (rfl) (aq (rfl) (aq (rfl) (aq (rfl) bg))))
 ·exact(aq ((fun K H gd lv pos=>⟨pos,3,A' _,by kernel_rfl⟩)) (aq ((fun K H gd lv pos=>⟨pos,3,A' _,by kernel_rfl⟩)) (aq ((fun K H gd lv pos=>⟨pos,3,A' _,by kernel_rfl⟩)) (aq ((fun K H gd lv pos=>⟨pos,3,A' _,by kernel_rfl⟩)) bg))))
 ·exact(aq ((fun K H gd lv pos=>⟨pos,16,(by decide:16<=16),by cases b <;> kernel_rfl⟩)) (aq ((fun K H gd lv pos=>⟨pos,16,(by decide:16<=16),by cases b <;> kernel_rfl⟩)) (aq ((fun K H gd lv pos=>⟨pos,16,(by decide:16<=16),by cases b <;> kernel_rfl⟩)) (aq ((fun K H gd lv pos=>⟨pos,16,(by decide:16<=16),by cases b <;> kernel_rfl⟩)) bg))))
theorem amb (w:World)(os:OsState):RT pr w m0 ann eJ cE ((1+(1+(1+(20+1))))+((1+((3+(5 * 3+0))+(5 * (1+(16+(1+(1+0))))+0)))+(1+3))) (dictSet d4 (.ref aiI) aiJ) (st Jz FY w os) (st JA FZ w os) ():=by
 refine kL (P:=fun w=>RT pr w m0 ann eJ cE ((1+(1+(1+(20+1))))+((1+((3+(5 * 3+0))+(5 * (1+(16+(1+(1+0))))+0)))+(1+3))) (dictSet d4 (.ref aiI) aiJ) (st Jz FY w os) (st JA FZ w os) ()) (fun w b=>?_) w;refine iD (h:=th (w.withFollow rw b).params "G" 2) (s1:=st Jz FZ (w.withFollow rw b) os) ?_ (eU (es:=alS (w.withFollow rw b).params) (n:=aiH) (fun K H gd lv pos=>⟨pos,1,A' _,by kernel_rfl⟩) (by kernel_rfl) ?_ (fun K H gd lv pos=>⟨pos,3,A' _,by kernel_rfl⟩) ?_ (fun K H gd lv pos=>⟨pos,1,A' _,by kernel_rfl⟩) ?_) (fun K H gd lv pos=>⟨pos,3,A' _,by kernel_rfl⟩)
 ·unfold pyHash pyHashByItsType;dsimp only;refine RT.bind (a:=()) (s1:=st Jz FY (w.withFollow rw b) os) (fun K H gd lv pos=>⟨pos,1,A' _,by kernel_rfl⟩) ?_;refine RT.bind (a:=some (.builtin "tuple.__hash__")) (s1:=st Jz FY (w.withFollow rw b) os) (fun K H gd lv pos=>⟨pos,1,A' _,by kernel_rfl⟩) ?_;rw[M' (by decide)];refine RT.bind (a:=some (.builtin "tuple.__hash__")) (s1:=st Jz FY (w.withFollow rw b) os) (fun K H gd lv pos=>⟨pos,1,A' _,by kernel_rfl⟩) ?_;rw[M' (by decide)];refine RT.bind (a:=some (.int (Builtin.Tuple.tupleHashOf [PyData.keyHash (w.withFollow rw b).params "G",hashInt 2]) (FY+2))) (s1:=st Jz FZ (w.withFollow rw b) os) (fun K H gd lv pos=>⟨pos,20,(by decide:20<=20),by cases b <;> kernel_rfl⟩) ?_;exact b0 _
 ·exact(aq (rfl) (aq (rfl) (aq (rfl) (aq (rfl) (aq (rfl) bg)))))
 ·exact(aq ((fun K H gd lv pos=>⟨pos,3,A' _,by kernel_rfl⟩)) (aq ((fun K H gd lv pos=>⟨pos,3,A' _,by kernel_rfl⟩)) (aq ((fun K H gd lv pos=>⟨pos,3,A' _,by kernel_rfl⟩)) (aq ((fun K H gd lv pos=>⟨pos,3,A' _,by kernel_rfl⟩)) (aq ((fun K H gd lv pos=>⟨pos,3,A' _,by kernel_rfl⟩)) bg)))))
 ·exact(aq ((fun K H gd lv pos=>⟨pos,16,(by decide:16<=16),by cases b <;> kernel_rfl⟩)) (aq ((fun K H gd lv pos=>⟨pos,16,(by decide:16<=16),by cases b <;> kernel_rfl⟩)) (aq ((fun K H gd lv pos=>⟨pos,16,(by decide:16<=16),by cases b <;> kernel_rfl⟩)) (aq ((fun K H gd lv pos=>⟨pos,16,(by decide:16<=16),by cases b <;> kernel_rfl⟩)) (aq ((fun K H gd lv pos=>⟨pos,16,(by decide:16<=16),by cases b <;> kernel_rfl⟩)) bg)))))
theorem amc (w:World)(os:OsState):RT pr w m0 ann eJ cE ((1+(1+(1+(20+1))))+((1+((3+(6 * 3+0))+(6 * (1+(20+(1+(1+0))))+0)))+(1+3))) (dictSet d4 (.ref aiL) aiM) (st JA FZ w os) (st JB F0 w os) ():=by
 refine kL (P:=fun w=>RT pr w m0 ann eJ cE ((1+(1+(1+(20+1))))+((1+((3+(6 * 3+0))+(6 * (1+(20+(1+(1+0))))+0)))+(1+3))) (dictSet d4 (.ref aiL) aiM) (st JA FZ w os) (st JB F0 w os) ()) (fun w b=>?_) w;refine iD (h:=th (w.withFollow rw b).params "G" 3) (s1:=st JA F0 (w.withFollow rw b) os) ?_ (eU (es:=alT (w.withFollow rw b).params) (n:=aiK) (fun K H gd lv pos=>⟨pos,1,A' _,by kernel_rfl⟩) (by kernel_rfl) ?_ (fun K H gd lv pos=>⟨pos,3,A' _,by kernel_rfl⟩) ?_ (fun K H gd lv pos=>⟨pos,1,A' _,by kernel_rfl⟩) ?_) (fun K H gd lv pos=>⟨pos,3,A' _,by kernel_rfl⟩)
 ·unfold pyHash pyHashByItsType;dsimp only;refine RT.bind (a:=()) (s1:=st JA FZ (w.withFollow rw b) os) (fun K H gd lv pos=>⟨pos,1,A' _,by kernel_rfl⟩) ?_;refine RT.bind (a:=some (.builtin "tuple.__hash__")) (s1:=st JA FZ (w.withFollow rw b) os) (fun K H gd lv pos=>⟨pos,1,A' _,by kernel_rfl⟩) ?_;rw[M' (by decide)];refine RT.bind (a:=some (.builtin "tuple.__hash__")) (s1:=st JA FZ (w.withFollow rw b) os) (fun K H gd lv pos=>⟨pos,1,A' _,by kernel_rfl⟩) ?_;rw[M' (by decide)];refine RT.bind (a:=some (.int (Builtin.Tuple.tupleHashOf [PyData.keyHash (w.withFollow rw b).params "G",hashInt 3]) (FZ+2))) (s1:=st JA F0 (w.withFollow rw b) os) (fun K H gd lv pos=>⟨pos,20,(by decide:20<=20),by cases b <;> kernel_rfl⟩) ?_;exact b0 _
 ·exact(aq (rfl) (aq (rfl) (aq (rfl) (aq (rfl) (aq (rfl) (aq (rfl) bg))))))
 ·exact(aq ((fun K H gd lv pos=>⟨pos,3,A' _,by kernel_rfl⟩)) (aq ((fun K H gd lv pos=>⟨pos,3,A' _,by kernel_rfl⟩)) (aq ((fun K H gd lv pos=>⟨pos,3,A' _,by kernel_rfl⟩)) (aq ((fun K H gd lv pos=>⟨pos,3,A' _,by kernel_rfl⟩)) (aq ((fun K H gd lv pos=>⟨pos,3,A' _,by kernel_rfl⟩)) (aq ((fun K H gd lv pos=>⟨pos,3,A' _,by kernel_rfl⟩)) bg))))))
 ·exact(aq ((fun K H gd lv pos=>⟨pos,16,(by decide:16<=20),by cases b <;> kernel_rfl⟩)) (aq ((fun K H gd lv pos=>⟨pos,16,(by decide:16<=20),by cases b <;> kernel_rfl⟩)) (aq ((fun K H gd lv pos=>⟨pos,16,(by decide:16<=20),by cases b <;> kernel_rfl⟩)) (aq ((fun K H gd lv pos=>⟨pos,16,(by decide:16<=20),by cases b <;> kernel_rfl⟩)) (aq ((fun K H gd lv pos=>⟨pos,16,(by decide:16<=20),by cases b <;> kernel_rfl⟩)) (aq ((fun K H gd lv pos=>⟨pos,20,(by decide:20<=20),by cases b <;> kernel_rfl⟩)) bg))))))
theorem amd (w:World)(os:OsState):RT pr w m0 ann eJ cE ((1+(1+(1+(20+1))))+((1+((3+(7 * 3+0))+(7 * (1+(16+(1+(1+0))))+0)))+(1+3))) (dictSet d4 (.ref aiO) aiP) (st JB F0 w os) (st JC F1 w os) ():=by
 refine kL (P:=fun w=>RT pr w m0 ann eJ cE ((1+(1+(1+(20+1))))+((1+((3+(7 * 3+0))+(7 * (1+(16+(1+(1+0))))+0)))+(1+3))) (dictSet d4 (.ref aiO) aiP) (st JB F0 w os) (st JC F1 w os) ()) (fun w b=>?_) w;refine iD (h:=th (w.withFollow rw b).params "." 0) (s1:=st JB F1 (w.withFollow rw b) os) ?_ (eU (es:=alU (w.withFollow rw b).params) (n:=aiN) (fun K H gd lv pos=>⟨pos,1,A' _,by kernel_rfl⟩) (by kernel_rfl) ?_ (fun K H gd lv pos=>⟨pos,3,A' _,by kernel_rfl⟩) ?_ (fun K H gd lv pos=>⟨pos,1,A' _,by kernel_rfl⟩) ?_) (fun K H gd lv pos=>⟨pos,3,A' _,by kernel_rfl⟩)
 ·unfold pyHash pyHashByItsType;dsimp only;refine RT.bind (a:=()) (s1:=st JB F0 (w.withFollow rw b) os) (fun K H gd lv pos=>⟨pos,1,A' _,by kernel_rfl⟩) ?_;refine RT.bind (a:=some (.builtin "tuple.__hash__")) (s1:=st JB F0 (w.withFollow rw b) os) (fun K H gd lv pos=>⟨pos,1,A' _,by kernel_rfl⟩) ?_;rw[M' (by decide)];refine RT.bind (a:=some (.builtin "tuple.__hash__")) (s1:=st JB F0 (w.withFollow rw b) os) (fun K H gd lv pos=>⟨pos,1,A' _,by kernel_rfl⟩) ?_;rw[M' (by decide)];refine RT.bind (a:=some (.int (Builtin.Tuple.tupleHashOf [PyData.keyHash (w.withFollow rw b).params ".",hashInt 0]) (F0+2))) (s1:=st JB F1 (w.withFollow rw b) os) (fun K H gd lv pos=>⟨pos,20,(by decide:20<=20),by cases b <;> kernel_rfl⟩) ?_;exact b0 _
 ·exact(aq (rfl) (aq (rfl) (aq (rfl) (aq (rfl) (aq (rfl) (aq (rfl) (aq (rfl) bg)))))))
 ·exact(aq ((fun K H gd lv pos=>⟨pos,3,A' _,by kernel_rfl⟩)) (aq ((fun K H gd lv pos=>⟨pos,3,A' _,by kernel_rfl⟩)) (aq ((fun K H gd lv pos=>⟨pos,3,A' _,by kernel_rfl⟩)) (aq ((fun K H gd lv pos=>⟨pos,3,A' _,by kernel_rfl⟩)) (aq ((fun K H gd lv pos=>⟨pos,3,A' _,by kernel_rfl⟩)) (aq ((fun K H gd lv pos=>⟨pos,3,A' _,by kernel_rfl⟩)) (aq ((fun K H gd lv pos=>⟨pos,3,A' _,by kernel_rfl⟩)) bg)))))))
 ·exact(aq ((fun K H gd lv pos=>⟨pos,16,(by decide:16<=16),by cases b <;> kernel_rfl⟩)) (aq ((fun K H gd lv pos=>⟨pos,16,(by decide:16<=16),by cases b <;> kernel_rfl⟩)) (aq ((fun K H gd lv pos=>⟨pos,16,(by decide:16<=16),by cases b <;> kernel_rfl⟩)) (aq ((fun K H gd lv pos=>⟨pos,16,(by decide:16<=16),by cases b <;> kernel_rfl⟩)) (aq ((fun K H gd lv pos=>⟨pos,16,(by decide:16<=16),by cases b <;> kernel_rfl⟩)) (aq ((fun K H gd lv pos=>⟨pos,16,(by decide:16<=16),by cases b <;> kernel_rfl⟩)) (aq ((fun K H gd lv pos=>⟨pos,16,(by decide:16<=16),by cases b <;> kernel_rfl⟩)) bg)))))))
theorem ame (w:World)(os:OsState):RT pr w m0 ann eJ cE ((1+(1+(1+(20+1))))+((1+((3+(8 * 3+0))+(8 * (1+(16+(1+(1+0))))+0)))+(1+3))) (dictSet d4 (.ref aiR) aiS) (st JC F1 w os) (st JD F2 w os) ():=by
 refine kL (P:=fun w=>RT pr w m0 ann eJ cE ((1+(1+(1+(20+1))))+((1+((3+(8 * 3+0))+(8 * (1+(16+(1+(1+0))))+0)))+(1+3))) (dictSet d4 (.ref aiR) aiS) (st JC F1 w os) (st JD F2 w os) ()) (fun w b=>?_) w;refine iD (h:=th (w.withFollow rw b).params "2" 0) (s1:=st JC F2 (w.withFollow rw b) os) ?_ (eU (es:=alV (w.withFollow rw b).params) (n:=aiQ) (fun K H gd lv pos=>⟨pos,1,A' _,by kernel_rfl⟩) (by kernel_rfl) ?_ (fun K H gd lv pos=>⟨pos,3,A' _,by kernel_rfl⟩) ?_ (fun K H gd lv pos=>⟨pos,1,A' _,by kernel_rfl⟩) ?_) (fun K H gd lv pos=>⟨pos,3,A' _,by kernel_rfl⟩)
 ·unfold pyHash pyHashByItsType;dsimp only;refine RT.bind (a:=()) (s1:=st JC F1 (w.withFollow rw b) os) (fun K H gd lv pos=>⟨pos,1,A' _,by kernel_rfl⟩) ?_;refine RT.bind (a:=some (.builtin "tuple.__hash__")) (s1:=st JC F1 (w.withFollow rw b) os) (fun K H gd lv pos=>⟨pos,1,A' _,by kernel_rfl⟩) ?_;rw[M' (by decide)];refine RT.bind (a:=some (.builtin "tuple.__hash__")) (s1:=st JC F1 (w.withFollow rw b) os) (fun K H gd lv pos=>⟨pos,1,A' _,by kernel_rfl⟩) ?_;rw[M' (by decide)];refine RT.bind (a:=some (.int (Builtin.Tuple.tupleHashOf [PyData.keyHash (w.withFollow rw b).params "2",hashInt 0]) (F1+2))) (s1:=st JC F2 (w.withFollow rw b) os) (fun K H gd lv pos=>⟨pos,20,(by decide:20<=20),by cases b <;> kernel_rfl⟩) ?_;exact b0 _
 ·exact(aq (rfl) (aq (rfl) (aq (rfl) (aq (rfl) (aq (rfl) (aq (rfl) (aq (rfl) (aq (rfl) bg))))))))
 ·exact(aq ((fun K H gd lv pos=>⟨pos,3,A' _,by kernel_rfl⟩)) (aq ((fun K H gd lv pos=>⟨pos,3,A' _,by kernel_rfl⟩)) (aq ((fun K H gd lv pos=>⟨pos,3,A' _,by kernel_rfl⟩)) (aq ((fun K H gd lv pos=>⟨pos,3,A' _,by kernel_rfl⟩)) (aq ((fun K H gd lv pos=>⟨pos,3,A' _,by kernel_rfl⟩)) (aq ((fun K H gd lv pos=>⟨pos,3,A' _,by kernel_rfl⟩)) (aq ((fun K H gd lv pos=>⟨pos,3,A' _,by kernel_rfl⟩)) (aq ((fun K H gd lv pos=>⟨pos,3,A' _,by kernel_rfl⟩)) bg))))))))
 ·exact(aq ((fun K H gd lv pos=>⟨pos,16,(by decide:16<=16),by cases b <;> kernel_rfl⟩)) (aq ((fun K H gd lv pos=>⟨pos,16,(by decide:16<=16),by cases b <;> kernel_rfl⟩)) (aq ((fun K H gd lv pos=>⟨pos,16,(by decide:16<=16),by cases b <;> kernel_rfl⟩)) (aq ((fun K H gd lv pos=>⟨pos,16,(by decide:16<=16),by cases b <;> kernel_rfl⟩)) (aq ((fun K H gd lv pos=>⟨pos,16,(by decide:16<=16),by cases b <;> kernel_rfl⟩)) (aq ((fun K H gd lv pos=>⟨pos,16,(by decide:16<=16),by cases b <;> kernel_rfl⟩)) (aq ((fun K H gd lv pos=>⟨pos,16,(by decide:16<=16),by cases b <;> kernel_rfl⟩)) (aq ((fun K H gd lv pos=>⟨pos,16,(by decide:16<=16),by cases b <;> kernel_rfl⟩)) bg))))))))
theorem amf (w:World)(os:OsState):RT pr w m0 ann eJ cE ((1+(1+(1+(20+1))))+((1+((3+(9 * 3+0))+(9 * (1+(16+(1+(1+0))))+0)))+(1+3))) (dictSet d4 (.ref aiU) aiV) (st JD F2 w os) (st U5 Ij w os) ():=by
 refine kL (P:=fun w=>RT pr w m0 ann eJ cE ((1+(1+(1+(20+1))))+((1+((3+(9 * 3+0))+(9 * (1+(16+(1+(1+0))))+0)))+(1+3))) (dictSet d4 (.ref aiU) aiV) (st JD F2 w os) (st U5 Ij w os) ()) (fun w b=>?_) w;refine iD (h:=th (w.withFollow rw b).params "3" 0) (s1:=st JD Ij (w.withFollow rw b) os) ?_ (eU (es:=alW (w.withFollow rw b).params) (n:=aiT) (fun K H gd lv pos=>⟨pos,1,A' _,by kernel_rfl⟩) (by kernel_rfl) ?_ (fun K H gd lv pos=>⟨pos,3,A' _,by kernel_rfl⟩) ?_ (fun K H gd lv pos=>⟨pos,1,A' _,by kernel_rfl⟩) ?_) (fun K H gd lv pos=>⟨pos,3,A' _,by kernel_rfl⟩)
 ·unfold pyHash pyHashByItsType;dsimp only;refine RT.bind (a:=()) (s1:=st JD F2 (w.withFollow rw b) os) (fun K H gd lv pos=>⟨pos,1,A' _,by kernel_rfl⟩) ?_;refine RT.bind (a:=some (.builtin "tuple.__hash__")) (s1:=st JD F2 (w.withFollow rw b) os) (fun K H gd lv pos=>⟨pos,1,A' _,by kernel_rfl⟩) ?_;rw[M' (by decide)];refine RT.bind (a:=some (.builtin "tuple.__hash__")) (s1:=st JD F2 (w.withFollow rw b) os) (fun K H gd lv pos=>⟨pos,1,A' _,by kernel_rfl⟩) ?_;rw[M' (by decide)];refine RT.bind (a:=some (.int (Builtin.Tuple.tupleHashOf [PyData.keyHash (w.withFollow rw b).params "3",hashInt 0]) (F2+2))) (s1:=st JD Ij (w.withFollow rw b) os) (fun K H gd lv pos=>⟨pos,20,(by decide:20<=20),by cases b <;> kernel_rfl⟩) ?_;exact b0 _
 ·exact(aq (rfl) (aq (rfl) (aq (rfl) (aq (rfl) (aq (rfl) (aq (rfl) (aq (rfl) (aq (rfl) (aq (rfl) bg)))))))))
 ·exact(aq ((fun K H gd lv pos=>⟨pos,3,A' _,by kernel_rfl⟩)) (aq ((fun K H gd lv pos=>⟨pos,3,A' _,by kernel_rfl⟩)) (aq ((fun K H gd lv pos=>⟨pos,3,A' _,by kernel_rfl⟩)) (aq ((fun K H gd lv pos=>⟨pos,3,A' _,by kernel_rfl⟩)) (aq ((fun K H gd lv pos=>⟨pos,3,A' _,by kernel_rfl⟩)) (aq ((fun K H gd lv pos=>⟨pos,3,A' _,by kernel_rfl⟩)) (aq ((fun K H gd lv pos=>⟨pos,3,A' _,by kernel_rfl⟩)) (aq ((fun K H gd lv pos=>⟨pos,3,A' _,by kernel_rfl⟩)) (aq ((fun K H gd lv pos=>⟨pos,3,A' _,by kernel_rfl⟩)) bg)))))))))
 ·exact(aq ((fun K H gd lv pos=>⟨pos,16,(by decide:16<=16),by cases b <;> kernel_rfl⟩)) (aq ((fun K H gd lv pos=>⟨pos,16,(by decide:16<=16),by cases b <;> kernel_rfl⟩)) (aq ((fun K H gd lv pos=>⟨pos,16,(by decide:16<=16),by cases b <;> kernel_rfl⟩)) (aq ((fun K H gd lv pos=>⟨pos,16,(by decide:16<=16),by cases b <;> kernel_rfl⟩)) (aq ((fun K H gd lv pos=>⟨pos,16,(by decide:16<=16),by cases b <;> kernel_rfl⟩)) (aq ((fun K H gd lv pos=>⟨pos,16,(by decide:16<=16),by cases b <;> kernel_rfl⟩)) (aq ((fun K H gd lv pos=>⟨pos,16,(by decide:16<=16),by cases b <;> kernel_rfl⟩)) (aq ((fun K H gd lv pos=>⟨pos,16,(by decide:16<=16),by cases b <;> kernel_rfl⟩)) (aq ((fun K H gd lv pos=>⟨pos,16,(by decide:16<=16),by cases b <;> kernel_rfl⟩)) bg)))))))))
theorem C4 (w:World)(os:OsState):Puts pr w m0 ann eJ cE d4 (((1+(1+(1+(20+1))))+((1+((3+(0 * 3+0))+(0 * (1+(16+(1+(1+0))))+0)))+(1+3)))+(((1+(1+(1+(20+1))))+((1+((3+(1 * 3+0))+(1 * (1+(16+(1+(1+0))))+0)))+(1+3)))+(((1+(1+(1+(20+1))))+((1+((3+(2 * 3+0))+(2 * (1+(16+(1+(1+0))))+0)))+(1+3)))+(((1+(1+(1+(20+1))))+((1+((3+(3 * 3+0))+(3 * (1+(16+(1+(1+0))))+0)))+(1+3)))+(((1+(1+(1+(20+1))))+((1+((3+(4 * 3+0))+(4 * (1+(16+(1+(1+0))))+0)))+(1+3)))+(((1+(1+(1+(20+1))))+((1+((3+(5 * 3+0))+(5 * (1+(16+(1+(1+0))))+0)))+(1+3)))+(((1+(1+(1+(20+1))))+((1+((3+(6 * 3+0))+(6 * (1+(20+(1+(1+0))))+0)))+(1+3)))+(((1+(1+(1+(20+1))))+((1+((3+(7 * 3+0))+(7 * (1+(16+(1+(1+0))))+0)))+(1+3)))+(((1+(1+(1+(20+1))))+((1+((3+(8 * 3+0))+(8 * (1+(16+(1+(1+0))))+0)))+(1+3)))+(((1+(1+(1+(20+1))))+((1+((3+(9 * 3+0))+(9 * (1+(16+(1+(1+0))))+0)))+(1+3)))+0)))))))))) (st Ju Md w os) vs4 (st U5 Ij w os):=(.cons (al6 w os) (.cons (al7 w os) (.cons (al8 w os) (.cons (al9 w os) (.cons (ama w os) (.cons (amb w os) (.cons (amc w os) (.cons (amd w os) (.cons (ame w os) (.cons (amf w os) .nil))))))))))
theorem R4 (w:World)(os:OsState):RTP pr w m0 ann eJ cE (1+((1+((1+((60+((((1+(1+(1+(20+1))))+((1+((3+(0 * 3+0))+(0 * (1+(16+(1+(1+0))))+0)))+(1+3)))+(((1+(1+(1+(20+1))))+((1+((3+(1 * 3+0))+(1 * (1+(16+(1+(1+0))))+0)))+(1+3)))+(((1+(1+(1+(20+1))))+((1+((3+(2 * 3+0))+(2 * (1+(16+(1+(1+0))))+0)))+(1+3)))+(((1+(1+(1+(20+1))))+((1+((3+(3 * 3+0))+(3 * (1+(16+(1+(1+0))))+0)))+(1+3)))+(((1+(1+(1+(20+1))))+((1+((3+(4 * 3+0))+(4 * (1+(16+(1+(1+0))))+0)))+(1+3)))+(((1+(1+(1+(20+1))))+((1+((3+(5 * 3+0))+(5 * (1+(16+(1+(1+0))))+0)))+(1+3)))+(((1+(1+(1+(20+1))))+((1+((3+(6 * 3+0))+(6 * (1+(20+(1+(1+0))))+0)))+(1+3)))+(((1+(1+(1+(20+1))))+((1+((3+(7 * 3+0))+(7 * (1+(16+(1+(1+0))))+0)))+(1+3)))+(((1+(1+(1+(20+1))))+((1+((3+(8 * 3+0))+(8 * (1+(16+(1+(1+0))))+0)))+(1+3)))+(((1+(1+(1+(20+1))))+((1+((3+(9 * 3+0))+(9 * (1+(16+(1+(1+0))))+0)))+(1+3)))+0))))))))))+0))+0))+0))+7)) (exec t4 env) (st H3 k3 w os) (st H4 k4 w os) .next p4 :=
 YT (d:=d4) (s1:=⟨(H3 w.params).push { cls:=.type "dict",data:=.dict #[] },#[],drawn,k3,os⟩) (s2:=st Ju Md w os) (s3:=st U5 Ij w os) (vs:=vs4) rfl rfl (Nat.le_of_ble_eq_true (by kernel_rfl)) (HY (by kernel_rfl)) (fun K H gd lv pos=>⟨pos,1,A' _,by kernel_rfl⟩) (fun K H gd lv pos=>⟨dp4,60,A' _,by kernel_rfl⟩) (C4 w os) (fun K H gd lv pos=>⟨7,A' _,by kernel_rfl⟩)
theorem g4 (w:World)(os:OsState):segRun treeTable pr w m0 ann 1 1405 (st H3 k3 w os) (pieceOf t4 env cE p3 fr)=some (.next,st H4 k4 w os,cE,p4):=(R4 w os).piece
theorem amg (w:World)(os:OsState):RT pr w m0 ann eJ cE ((1+(1+(1+(20+1))))+((1+((3+(0 * 3+0))+(0 * (1+(16+(1+(1+0))))+0)))+(1+3))) (dictSet d5 (.ref aiX) aiY) (st JE Me w os) (st JF F3 w os) ():=by
 refine kL (P:=fun w=>RT pr w m0 ann eJ cE ((1+(1+(1+(20+1))))+((1+((3+(0 * 3+0))+(0 * (1+(16+(1+(1+0))))+0)))+(1+3))) (dictSet d5 (.ref aiX) aiY) (st JE Me w os) (st JF F3 w os) ()) (fun w b=>?_) w;refine iD (h:=th (w.withFollow rw b).params "G" 3) (s1:=st JE F3 (w.withFollow rw b) os) ?_ (eU (es:=alY (w.withFollow rw b).params) (n:=aiW) (fun K H gd lv pos=>⟨pos,1,A' _,by kernel_rfl⟩) (by kernel_rfl) ?_ (fun K H gd lv pos=>⟨pos,3,A' _,by kernel_rfl⟩) ?_ (fun K H gd lv pos=>⟨pos,1,A' _,by kernel_rfl⟩) ?_) (fun K H gd lv pos=>⟨pos,3,A' _,by kernel_rfl⟩)
 ·unfold pyHash pyHashByItsType;dsimp only;refine RT.bind (a:=()) (s1:=st JE Me (w.withFollow rw b) os) (fun K H gd lv pos=>⟨pos,1,A' _,by kernel_rfl⟩) ?_;refine RT.bind (a:=some (.builtin "tuple.__hash__")) (s1:=st JE Me (w.withFollow rw b) os) (fun K H gd lv pos=>⟨pos,1,A' _,by kernel_rfl⟩) ?_;rw[M' (by decide)];refine RT.bind (a:=some (.builtin "tuple.__hash__")) (s1:=st JE Me (w.withFollow rw b) os) (fun K H gd lv pos=>⟨pos,1,A' _,by kernel_rfl⟩) ?_;rw[M' (by decide)];refine RT.bind (a:=some (.int (Builtin.Tuple.tupleHashOf [PyData.keyHash (w.withFollow rw b).params "G",hashInt 3]) (Me+2))) (s1:=st JE F3 (w.withFollow rw b) os) (fun K H gd lv pos=>⟨pos,20,(by decide:20<=20),by cases b <;> kernel_rfl⟩) ?_;exact b0 _
 ·exact bg
 ·exact bg
 ·exact bg
theorem amh (w:World)(os:OsState):RT pr w m0 ann eJ cE ((1+(1+(1+(20+1))))+((1+((3+(1 * 3+0))+(1 * (1+(20+(1+(1+0))))+0)))+(1+3))) (dictSet d5 (.ref ai0) ai1) (st JF F3 w os) (st JG F4 w os) ():=by
 refine kL (P:=fun w=>RT pr w m0 ann eJ cE ((1+(1+(1+(20+1))))+((1+((3+(1 * 3+0))+(1 * (1+(20+(1+(1+0))))+0)))+(1+3))) (dictSet d5 (.ref ai0) ai1) (st JF F3 w os) (st JG F4 w os) ()) (fun w b=>?_) w;refine iD (h:=th (w.withFollow rw b).params "G" 2) (s1:=st JF F4 (w.withFollow rw b) os) ?_ (eU (es:=alZ (w.withFollow rw b).params) (n:=aiZ) (fun K H gd lv pos=>⟨pos,1,A' _,by kernel_rfl⟩) (by kernel_rfl) ?_ (fun K H gd lv pos=>⟨pos,3,A' _,by kernel_rfl⟩) ?_ (fun K H gd lv pos=>⟨pos,1,A' _,by kernel_rfl⟩) ?_) (fun K H gd lv pos=>⟨pos,3,A' _,by kernel_rfl⟩)
 ·unfold pyHash pyHashByItsType;dsimp only;refine RT.bind (a:=()) (s1:=st JF F3 (w.withFollow rw b) os) (fun K H gd lv pos=>⟨pos,1,A' _,by kernel_rfl⟩) ?_;refine RT.bind (a:=some (.builtin "tuple.__hash__")) (s1:=st JF F3 (w.withFollow rw b) os) (fun K H gd lv pos=>⟨pos,1,A' _,by kernel_rfl⟩) ?_;rw[M' (by decide)];refine RT.bind (a:=some (.builtin "tuple.__hash__")) (s1:=st JF F3 (w.withFollow rw b) os) (fun K H gd lv pos=>⟨pos,1,A' _,by kernel_rfl⟩) ?_;rw[M' (by decide)];refine RT.bind (a:=some (.int (Builtin.Tuple.tupleHashOf [PyData.keyHash (w.withFollow rw b).params "G",hashInt 2]) (F3+2))) (s1:=st JF F4 (w.withFollow rw b) os) (fun K H gd lv pos=>⟨pos,20,(by decide:20<=20),by cases b <;> kernel_rfl⟩) ?_;exact b0 _
 ·exact(aq (rfl) bg)
 ·exact(aq ((fun K H gd lv pos=>⟨pos,3,A' _,by kernel_rfl⟩)) bg)
 ·exact(aq ((fun K H gd lv pos=>⟨pos,20,(by decide:20<=20),by cases b <;> kernel_rfl⟩)) bg)
theorem ami (w:World)(os:OsState):RT pr w m0 ann eJ cE ((1+(1+(1+(20+1))))+((1+((3+(2 * 3+0))+(2 * (1+(16+(1+(1+0))))+0)))+(1+3))) (dictSet d5 (.ref ai3) ai4) (st JG F4 w os) (st JH F5 w os) ():=by
 refine kL (P:=fun w=>RT pr w m0 ann eJ cE ((1+(1+(1+(20+1))))+((1+((3+(2 * 3+0))+(2 * (1+(16+(1+(1+0))))+0)))+(1+3))) (dictSet d5 (.ref ai3) ai4) (st JG F4 w os) (st JH F5 w os) ()) (fun w b=>?_) w;refine iD (h:=th (w.withFollow rw b).params "D" 2) (s1:=st JG F5 (w.withFollow rw b) os) ?_ (eU (es:=al0 (w.withFollow rw b).params) (n:=ai2) (fun K H gd lv pos=>⟨pos,1,A' _,by kernel_rfl⟩) (by kernel_rfl) ?_ (fun K H gd lv pos=>⟨pos,3,A' _,by kernel_rfl⟩) ?_ (fun K H gd lv pos=>⟨pos,1,A' _,by kernel_rfl⟩) ?_) (fun K H gd lv pos=>⟨pos,3,A' _,by kernel_rfl⟩)
 ·unfold pyHash pyHashByItsType;dsimp only;refine RT.bind (a:=()) (s1:=st JG F4 (w.withFollow rw b) os) (fun K H gd lv pos=>⟨pos,1,A' _,by kernel_rfl⟩) ?_;refine RT.bind (a:=some (.builtin "tuple.__hash__")) (s1:=st JG F4 (w.withFollow rw b) os) (fun K H gd lv pos=>⟨pos,1,A' _,by kernel_rfl⟩) ?_;rw[M' (by decide)];refine RT.bind (a:=some (.builtin "tuple.__hash__")) (s1:=st JG F4 (w.withFollow rw b) os) (fun K H gd lv pos=>⟨pos,1,A' _,by kernel_rfl⟩) ?_;rw[M' (by decide)];refine RT.bind (a:=some (.int (Builtin.Tuple.tupleHashOf [PyData.keyHash (w.withFollow rw b).params "D",hashInt 2]) (F4+2))) (s1:=st JG F5 (w.withFollow rw b) os) (fun K H gd lv pos=>⟨pos,20,(by decide:20<=20),by cases b <;> kernel_rfl⟩) ?_;exact b0 _
 ·exact(aq (rfl) (aq (rfl) bg))
 ·exact(aq ((fun K H gd lv pos=>⟨pos,3,A' _,by kernel_rfl⟩)) (aq ((fun K H gd lv pos=>⟨pos,3,A' _,by kernel_rfl⟩)) bg))
 ·exact(aq ((fun K H gd lv pos=>⟨pos,16,(by decide:16<=16),by cases b <;> kernel_rfl⟩)) (aq ((fun K H gd lv pos=>⟨pos,16,(by decide:16<=16),by cases b <;> kernel_rfl⟩)) bg))
theorem amj (w:World)(os:OsState):RT pr w m0 ann eJ cE ((1+(1+(1+(20+1))))+((1+((3+(3 * 3+0))+(3 * (1+(16+(1+(1+0))))+0)))+(1+3))) (dictSet d5 (.ref ai6) ai7) (st JH F5 w os) (st adx V6 w os) ():=by
 refine kL (P:=fun w=>RT pr w m0 ann eJ cE ((1+(1+(1+(20+1))))+((1+((3+(3 * 3+0))+(3 * (1+(16+(1+(1+0))))+0)))+(1+3))) (dictSet d5 (.ref ai6) ai7) (st JH F5 w os) (st adx V6 w os) ()) (fun w b=>?_) w;refine iD (h:=th (w.withFollow rw b).params "R" 3) (s1:=st JH V6 (w.withFollow rw b) os) ?_ (eU (es:=al1 (w.withFollow rw b).params) (n:=ai5) (fun K H gd lv pos=>⟨pos,1,A' _,by kernel_rfl⟩) (by kernel_rfl) ?_ (fun K H gd lv pos=>⟨pos,3,A' _,by kernel_rfl⟩) ?_ (fun K H gd lv pos=>⟨pos,1,A' _,by kernel_rfl⟩) ?_) (fun K H gd lv pos=>⟨pos,3,A' _,by kernel_rfl⟩)
 ·unfold pyHash pyHashByItsType;dsimp only;refine RT.bind (a:=()) (s1:=st JH F5 (w.withFollow rw b) os) (fun K H gd lv pos=>⟨pos,1,A' _,by kernel_rfl⟩) ?_;refine RT.bind (a:=some (.builtin "tuple.__hash__")) (s1:=st JH F5 (w.withFollow rw b) os) (fun K H gd lv pos=>⟨pos,1,A' _,by kernel_rfl⟩) ?_;rw[M' (by decide)];refine RT.bind (a:=some (.builtin "tuple.__hash__")) (s1:=st JH F5 (w.withFollow rw b) os) (fun K H gd lv pos=>⟨pos,1,A' _,by kernel_rfl⟩) ?_;rw[M' (by decide)];refine RT.bind (a:=some (.int (Builtin.Tuple.tupleHashOf [PyData.keyHash (w.withFollow rw b).params "R",hashInt 3]) (F5+2))) (s1:=st JH V6 (w.withFollow rw b) os) (fun K H gd lv pos=>⟨pos,20,(by decide:20<=20),by cases b <;> kernel_rfl⟩) ?_;exact b0 _
 ·exact(aq (rfl) (aq (rfl) (aq (rfl) bg)))
 ·exact(aq ((fun K H gd lv pos=>⟨pos,3,A' _,by kernel_rfl⟩)) (aq ((fun K H gd lv pos=>⟨pos,3,A' _,by kernel_rfl⟩)) (aq ((fun K H gd lv pos=>⟨pos,3,A' _,by kernel_rfl⟩)) bg)))
 ·exact(aq ((fun K H gd lv pos=>⟨pos,16,(by decide:16<=16),by cases b <;> kernel_rfl⟩)) (aq ((fun K H gd lv pos=>⟨pos,16,(by decide:16<=16),by cases b <;> kernel_rfl⟩)) (aq ((fun K H gd lv pos=>⟨pos,16,(by decide:16<=16),by cases b <;> kernel_rfl⟩)) bg)))
theorem C5 (w:World)(os:OsState):Puts pr w m0 ann eJ cE d5 (((1+(1+(1+(20+1))))+((1+((3+(0 * 3+0))+(0 * (1+(16+(1+(1+0))))+0)))+(1+3)))+(((1+(1+(1+(20+1))))+((1+((3+(1 * 3+0))+(1 * (1+(20+(1+(1+0))))+0)))+(1+3)))+(((1+(1+(1+(20+1))))+((1+((3+(2 * 3+0))+(2 * (1+(16+(1+(1+0))))+0)))+(1+3)))+(((1+(1+(1+(20+1))))+((1+((3+(3 * 3+0))+(3 * (1+(16+(1+(1+0))))+0)))+(1+3)))+0)))) (st JE Me w os) vs5 (st adx V6 w os):=(.cons (amg w os) (.cons (amh w os) (.cons (ami w os) (.cons (amj w os) .nil))))
theorem R5 (w:World)(os:OsState):RTP pr w m0 ann eJ cE (1+((1+((1+((24+((((1+(1+(1+(20+1))))+((1+((3+(0 * 3+0))+(0 * (1+(16+(1+(1+0))))+0)))+(1+3)))+(((1+(1+(1+(20+1))))+((1+((3+(1 * 3+0))+(1 * (1+(20+(1+(1+0))))+0)))+(1+3)))+(((1+(1+(1+(20+1))))+((1+((3+(2 * 3+0))+(2 * (1+(16+(1+(1+0))))+0)))+(1+3)))+(((1+(1+(1+(20+1))))+((1+((3+(3 * 3+0))+(3 * (1+(16+(1+(1+0))))+0)))+(1+3)))+0))))+0))+0))+0))+7)) (exec t5 env) (st H4 k4 w os) (st H5 k5 w os) .next p5 :=
 YT (d:=d5) (s1:=⟨(H4 w.params).push { cls:=.type "dict",data:=.dict #[] },#[],drawn,k4,os⟩) (s2:=st JE Me w os) (s3:=st adx V6 w os) (vs:=vs5) rfl rfl (Nat.le_of_ble_eq_true (by kernel_rfl)) (HY (by kernel_rfl)) (fun K H gd lv pos=>⟨pos,1,A' _,by kernel_rfl⟩) (fun K H gd lv pos=>⟨dp5,24,A' _,by kernel_rfl⟩) (C5 w os) (fun K H gd lv pos=>⟨7,A' _,by kernel_rfl⟩)
theorem g5 (w:World)(os:OsState):segRun treeTable pr w m0 ann 1 299 (st H4 k4 w os) (pieceOf t5 env cE p4 fr)=some (.next,st H5 k5 w os,cE,p5):=(R5 w os).piece
theorem g6 (w:World)(os:OsState):segRun treeTable pr w m0 ann 1 n6 (st H5 k5 w os) (piecesOf s6 env cE p5 fr)=some (.next,st H6 k6 w os,cE,p6):=kL (P:=fun w=>segRun treeTable pr w m0 ann 1 n6 (st H5 k5 w os) (piecesOf s6 env cE p5 fr)=some (.next,st H6 k6 w os,cE,p6)) (fun w b=>by cases b <;> kernel_rfl) w
theorem fin (w os):topRun treeTable pr w m0 ann n7 (st H6 k6 w os) ⟨doneF .next,cE,p6,fr⟩=some (st H7 k7 w os):=by kernel_rfl
theorem r6 (w:World)(os:OsState):topRun treeTable pr w m0 ann (n6+n7) (st H5 k5 w os) (restOf (s6++[]) env cE p5 fr)=some (st H7 k7 w os):=piece_app (tb:=treeTable) (p:=pr) (w:=w) (n₀:=m0) (ann:=ann) (env:=env) (q:=eJ) (n:=n6) (N:=n7) (s:=(st H5 k5 w os)) (s':=(st H6 k6 w os)) (r:=(st H7 k7 w os)) (l:=s6) (rest:=[]) (c:=cE) (pos:=p5) (p':=p6) (g6 w os) (piece_nil (fin w os))
theorem r5 (w:World)(os:OsState):topRun treeTable pr w m0 ann (299+(n6+n7)) (st H4 k4 w os) (restOf (t5::(s6++[])) env cE p4 fr)=some (st H7 k7 w os):=piece_cons (tb:=treeTable) (p:=pr) (w:=w) (n₀:=m0) (ann:=ann) (env:=env) (q:=eJ) (n:=299) (N:=(n6+n7)) (s:=(st H4 k4 w os)) (s':=(st H5 k5 w os)) (r:=(st H7 k7 w os)) (st:=t5) (rest:=(s6++[])) (c:=cE) (pos:=p4) (p':=p5) (g5 w os) (r6 w os)
theorem r4 (w:World)(os:OsState):topRun treeTable pr w m0 ann (1405+(299+(n6+n7))) (st H3 k3 w os) (restOf (t4::(t5::(s6++[]))) env cE p3 fr)=some (st H7 k7 w os):=piece_cons (tb:=treeTable) (p:=pr) (w:=w) (n₀:=m0) (ann:=ann) (env:=env) (q:=eJ) (n:=1405) (N:=(299+(n6+n7))) (s:=(st H3 k3 w os)) (s':=(st H4 k4 w os)) (r:=(st H7 k7 w os)) (st:=t4) (rest:=(t5::(s6++[]))) (c:=cE) (pos:=p3) (p':=p4) (g4 w os) (r5 w os)
theorem r3 (w:World)(os:OsState):topRun treeTable pr w m0 ann (n3+(1405+(299+(n6+n7)))) (st H2 k2 w os) (restOf (s3++(t4::(t5::(s6++[])))) env cE p2 fr)=some (st H7 k7 w os):=piece_app (tb:=treeTable) (p:=pr) (w:=w) (n₀:=m0) (ann:=ann) (env:=env) (q:=eJ) (n:=n3) (N:=(1405+(299+(n6+n7)))) (s:=(st H2 k2 w os)) (s':=(st H3 k3 w os)) (r:=(st H7 k7 w os)) (l:=s3) (rest:=(t4::(t5::(s6++[])))) (c:=cE) (pos:=p2) (p':=p3) (g3 w os) (r4 w os)
theorem hb:pr.main.body=(s3++(t4::(t5::(s6++[])))):=by kernel_rfl
theorem r2 (w:World)(os:OsState):topRun treeTable pr w m0 ann (n2+(n3+(1405+(299+(n6+n7))))) (st H1 k1 w os) ⟨denote treeTable cE,cE,p1,fr⟩=some (st H7 k7 w os):=piece_block (tb:=treeTable) (p:=pr) (w:=w) (n₀:=m0) (ann:=ann) (env:=env) (q:=eJ) (n:=n2) (N:=(n3+(1405+(299+(n6+n7))))) (s:=(st H1 k1 w os)) (s':=(st H2 k2 w os)) (r:=(st H7 k7 w os)) (b:=pr.main.body) (c:=cE) (pos:=p1) (p':=p2) (blk w os) ((Ya' (fun l=>topRun treeTable pr w m0 ann (n3+(1405+(299+(n6+n7)))) (st H2 k2 w os) (restOf l env cE p2 fr)) hb).trans (r3 w os))
theorem r1 (w:World)(os:OsState):topRun treeTable pr w m0 ann (n1+(n2+(n3+(1405+(299+(n6+n7)))))) ⟨boot_heap w.params,Array.mk [],boot_drawn,boot_toks,os⟩ (topStub pr)=some (st H7 k7 w os):=go_top (tb:=treeTable) (p:=pr) (w:=w) (n₀:=m0) (ann:=ann) (n:=n1) (N:=n2+(n3+(1405+(299+(n6+n7))))) (s:=⟨boot_heap w.params,Array.mk [],boot_drawn,boot_toks,os⟩) (s':=(st H1 k1 w os)) (r:=(st H7 k7 w os)) (t:=topStub pr) (t':=⟨denote treeTable cE,cE,p1,fr⟩) (pre w os) (r2 w os)
noncomputable def view:Program:={ pr with main:={ pr.main with body:=[tp 1,tp 2,tp 3,tp 4,tp 5,tp 6,tp 8,tp 9,tp 10,tp 12,tp 13,tp 14,tp 15,tp 16,tp 17,tp 18,tp 19,tp 20,tp 21,tp 22,tp 24,tp 25,tp 26,tp 27,tp 28,tp 29,tp 30,tp 31,tp 32,tp 33,tp 35,tp 36,tp 37,tp 38,tp 39,tp 40,tp 42,tp 43,tp 44,tp 45,tp 46,tp 49,tp 50,tp 51,tp 52,tp 53,tp 54,tp 55,tp 56,tp 57,tp 58,tp 59,tp 60,tp 61,tp 62,tp 63,tp 64,tp 65,tp 66,tp 67,tp 68,tp 69,tp 70,tp 71,tp 72,tp 73,tp 74,tp 75] } }
noncomputable def loose:List PySem.Str:=["NEXT_COUNTS","TWOFOLD_STEPS","GREAT_STEPS","begin_state","holds"]
theorem fit (P:Params):adr=(frg P).map (·.1):=by kernel_rfl
noncomputable abbrev hook:Hook:=kHook frg adr fit
noncomputable def fuel:Nat:=5008
end Hd
end
namespace lz
open PySem L2
def top (i:Nat):Stmt:=PySem.Challenge.pw_noteworth_k29_papers_judged.main.body.getD i (.Pass ⟨0,0,0,0⟩)
abbrev kX:Stmt:=top 54
abbrev jn:Stmt:=top 62
abbrev nU:Stmt:=top 55
abbrev kY:Stmt:=top 56
abbrev tE:Stmt:=top 57
abbrev nV:Stmt:=top 58
abbrev jo:Stmt:=top 59
abbrev jq:Stmt:=top 60
abbrev nW:Stmt:=top 63
abbrev fI:Stmt:=top 64
abbrev hU:Stmt:=top 65
abbrev kZ:Stmt:=top 68
abbrev jr:Stmt:=top 72
abbrev eO:Stmt:=top 73
abbrev js:Stmt:=top 66
abbrev dr:Stmt:=top 74
abbrev nX:Stmt:=top 22
abbrev nY:Stmt:=top 27
abbrev yK:Stmt:=top 25
abbrev dg:Stmt:=top 46
abbrev nZ:Stmt:=top 43
abbrev eP:Stmt:=top 23
abbrev fJ:Stmt:=top 9
abbrev tG:Stmt:=top 5
abbrev la:Stmt:=top 6
abbrev bI:Stmt:=top 29
abbrev cL:Stmt:=top 28
abbrev fK:Stmt:=top 30
abbrev dH:Stmt:=top 26
abbrev hV:Stmt:=top 32
abbrev fL:Stmt:=top 33
abbrev dJ:Stmt:=top 31
abbrev yL:Stmt:=top 24
abbrev tH:Stmt:=top 37
abbrev dM:Stmt:=top 39
abbrev fM:Stmt:=top 40
abbrev b9:Stmt:=top 45
abbrev dh:Stmt:=top 38
abbrev bJ:Stmt:=top 44
abbrev dN:Stmt:=top 42
abbrev tI:Stmt:=top 47
abbrev hX:Stmt:=top 49
abbrev lg:Stmt:=top 50
abbrev bP:Stmt:=top 61
abbrev jt:Stmt:=top 70
abbrev hZ:Stmt:=top 69
abbrev oa:Stmt:=top 67
abbrev lh:Stmt:=top 71
abbrev ic:Stmt:=top 52
abbrev ie:Stmt:=top 51
abbrev oe:Stmt:=top 53
abbrev Ik:Stmt:=top 75
theorem Sy:aL ["_law_cell"] ["_law_cell"] (ae kX):=⟨rfl,rfl,rfl,by lk,rfl,by lk,by lk⟩
theorem m7:aL ["_law_cell","_law_told","_law_k"] ["_law_cell"] (ae jn):=⟨rfl,rfl,rfl,by lk,rfl,by lk,by lk⟩
theorem lj:aL ["_law_line_here","_law_begin_here","_law_told","_law_now","_law_at","_law_kind"] ["_law_line_here","_law_begin_here"] (ae nU):=⟨rfl,rfl,rfl,by lk,rfl,by lk,by lk⟩
theorem lA:aL ["_law_line_here","_law_begin_here","_law_told","_law_now","_law_sign"] ["_law_line_here","_law_begin_here"] (ae kY):=⟨rfl,rfl,rfl,by lk,rfl,by lk,by lk⟩
theorem og:aL ["_law_line_here","_law_told","_law_low","_law_high","_law_rest","_law_behind","_law_after","_law_left","_law_right"] ["_law_line_here","_law_told","_law_low","_law_high"] (ae tE):=⟨rfl,rfl,rfl,by lk,rfl,by lk,by lk⟩
theorem ig:aL ["_law_line_here","_law_begin_here","_law_told","_law_three_here","_law_left","_law_low","_law_high"] ["_law_line_here","_law_begin_here"] (ae nV):=⟨rfl,rfl,rfl,by lk,rfl,by lk,by lk⟩
theorem ij:aL ["_law_line_here","_law_begin_here","_law_k","_law_found","_law_low","_law_high"] ["_law_line_here","_law_begin_here"] (ae jo):=⟨rfl,rfl,rfl,by lk,rfl,by lk,by lk⟩
theorem m8:aL ["_law_line_here","_law_begin_here","_law_told","_law_sign","_law_worth"] ["_law_line_here","_law_begin_here"] (ae jq):=⟨rfl,rfl,rfl,by lk,rfl,by lk,by lk⟩
theorem Il:aL ["_law_state","_law_kind","_law_worth","_law_short"] ["_law_state","_law_kind","_law_worth"] (ae nW):=⟨rfl,rfl,rfl,by lk,rfl,by lk,by lk⟩
theorem F6:aL ["_law_state","_law_kind","_law_worth"] ["_law_state","_law_kind","_law_worth"] (ae fI):=⟨rfl,rfl,rfl,by lk,rfl,by lk,by lk⟩
theorem kT:aL ["_law_state","_law_kind","_law_worth","_law_left","_law_count","_law_shut_here"] ["_law_state","_law_kind","_law_worth"] (ae hU):=⟨rfl,rfl,rfl,by lk,rfl,by lk,by lk⟩
theorem dU:aL ["_law_state","_law_wish","_law_prices_here","_law_told","_law_menu","_law_kind","_law_worth","_law_cost","_law_onto"] ["_law_state","_law_wish","_law_prices_here"] (ae kZ):=⟨rfl,rfl,rfl,by lk,rfl,by lk,by lk⟩
theorem ik:aL ["_law_table","_law_prices_here","_law_k","_law_ahead","_law_state","_law_onto","_law_cost"] ["_law_table","_law_prices_here"] (ae jr):=⟨rfl,rfl,rfl,by lk,rfl,by lk,by lk⟩
theorem b4:aL ["_law_wishes_here","_law_prices_here","_law_begin_here","_law_table","_law_paper","_law_wish","_law_ahead","_law_state","_law_onto","_law_cost"] ["_law_wishes_here","_law_prices_here","_law_begin_here"] (ae eO):=⟨rfl,rfl,rfl,by lk,rfl,by lk,by lk⟩
theorem m9:aL ["_law_told","_law_left","_law_tail"] [] (ae js):=⟨rfl,rfl,rfl,by lk,rfl,by lk,by lk⟩
theorem j4:aL ["_law_paper","_law_way","_law_at","_law_number","_law_row","_law_place","_law_state","_law_worth"] ["_law_paper","_law_way","_law_at","_law_number"] (ae dr):=⟨rfl,rfl,rfl,by lk,rfl,by lk,by lk⟩
theorem tK:aL ["found","left","run"] [] (ae nX):=⟨rfl,rfl,rfl,by lk,rfl,by lk,by lk⟩
theorem Im:aL ["state","left","count"] ["state"] (ae nY):=⟨rfl,rfl,rfl,by lk,rfl,by lk,by lk⟩
theorem ady:aL ["state"] ["state"] (ae yK):=⟨rfl,rfl,rfl,by lk,rfl,by lk,by lk⟩
theorem oh:aL ["numbers","bound","last"] ["numbers","bound"] (ae dg):=⟨rfl,rfl,rfl,by lk,rfl,by lk,by lk⟩
theorem V7:aL ["numbers","state","most"] ["numbers","state","most"] (ae nZ):=⟨rfl,rfl,rfl,by lk,rfl,by lk,by lk⟩
theorem DN:aL ["begin"] ["begin"] (ae eP):=⟨rfl,rfl,rfl,by lk,rfl,by lk,by lk⟩
theorem jU:aL ["sign","prices","dot","dark","measure"] ["sign","prices"] (ae fJ):=⟨rfl,rfl,rfl,by lk,rfl,by lk,by lk⟩
theorem aa5:aL ["sign"] ["sign"] (ae tG):=⟨rfl,rfl,rfl,by lk,rfl,by lk,by lk⟩
theorem Sz:aL ["sign"] ["sign"] (ae la):=⟨rfl,rfl,rfl,by lk,rfl,by lk,by lk⟩
theorem oi:aL ["state"] ["state"] (ae bI):=⟨rfl,rfl,rfl,by lk,rfl,by lk,by lk⟩
theorem uh:aL ["state"] ["state"] (ae cL):=⟨rfl,rfl,rfl,by lk,rfl,by lk,by lk⟩
theorem F7:aL ["state","kind","worth"] ["state","kind","worth"] (ae fK):=⟨rfl,rfl,rfl,by lk,rfl,by lk,by lk⟩
theorem AU:aL ["state","kind","worth"] ["state","kind","worth"] (ae dH):=⟨rfl,rfl,rfl,by lk,rfl,by lk,by lk⟩
theorem JI:aL ["kind","count","worth"] ["kind","count","worth"] (ae hV):=⟨rfl,rfl,rfl,by lk,rfl,by lk,by lk⟩
theorem jV:aL ["state","kind","worth","count","last","left"] ["state","kind","worth"] (ae fL):=⟨rfl,rfl,rfl,by lk,rfl,by lk,by lk⟩
theorem AV:aL ["state","kind","worth"] ["state","kind","worth"] (ae dJ):=⟨rfl,rfl,rfl,by lk,rfl,by lk,by lk⟩
theorem adz:aL ["state","sign","worth"] ["state","sign","worth"] (ae yL):=⟨rfl,rfl,rfl,by lk,rfl,by lk,by lk⟩
theorem q5:aL ["state","signs","worth","prices","found","sign","cost","to"] ["state","signs","worth","prices"] (ae tH):=⟨rfl,rfl,rfl,by lk,rfl,by lk,by lk⟩
theorem AW:aL ["tone"] ["tone"] (ae dM):=⟨rfl,rfl,rfl,by lk,rfl,by lk,by lk⟩
theorem nt:aL ["state","wish","prices","tone","worth"] ["state","wish","prices"] (ae fM):=⟨rfl,rfl,rfl,by lk,rfl,by lk,by lk⟩
theorem bW:aL ["numbers","following","wish","prices","state","number","sign","cost","to"] ["numbers","following","wish","prices"] (ae b9):=⟨rfl,rfl,rfl,by lk,rfl,by lk,by lk⟩
theorem yM:aL ["state","prices"] ["state","prices"] (ae dh):=⟨rfl,rfl,rfl,by lk,rfl,by lk,by lk⟩
theorem bG:aL ["numbers","prices","state","number","sign","cost","to"] ["numbers","prices"] (ae bJ):=⟨rfl,rfl,rfl,by lk,rfl,by lk,by lk⟩
theorem qC:aL ["pairs","known","named"] ["pairs","known"] (ae dN):=⟨rfl,rfl,rfl,by lk,rfl,by lk,by lk⟩
theorem q9:aL ["wishes","prices","bound","paper","begin","known","lists","at","wish"] ["wishes","prices","bound","paper","begin"] (ae tI):=⟨rfl,rfl,rfl,by lk,rfl,by lk,by lk⟩
theorem JJ:aL ["_law_script","_law_k"] ["_law_script","_law_k"] (ae hX):=⟨rfl,rfl,rfl,by lk,rfl,by lk,by lk⟩
theorem ui:aL ["_law_seed","_law_k","_law_one","_law_two"] ["_law_seed","_law_k"] (ae lg):=⟨rfl,rfl,rfl,by lk,rfl,by lk,by lk⟩
theorem di:aL ["_law_script","_law_at","_law_many","_law_told","_law_k","_law_number","_law_worth","_law_tone"] ["_law_script","_law_at","_law_many"] (ae bP):=⟨rfl,rfl,rfl,by lk,rfl,by lk,by lk⟩
theorem fj:aL ["_law_paper","_law_known","_law_tables_here","_law_row","_law_table","_law_state","_law_number"] ["_law_paper"] (ae jt):=⟨rfl,rfl,rfl,by lk,rfl,by lk,by lk⟩
theorem pH:aL ["_law_number","_law_moves_here","_law_table","_law_onto","_law_cost"] ["_law_number","_law_moves_here","_law_table"] (ae hZ):=⟨rfl,rfl,rfl,by lk,rfl,by lk,by lk⟩
theorem V8:aL ["_law_state"] ["_law_state"] (ae oa):=⟨rfl,rfl,rfl,by lk,rfl,by lk,by lk⟩
theorem ju:aL ["_law_wishes_here","_law_prices_here","_law_bound","_law_paper","_law_begin_here","_law_tables_here","_law_first","_law_k","_law_state","_law_number"] ["_law_wishes_here","_law_prices_here","_law_bound","_law_paper","_law_begin_here"] (ae lh):=⟨rfl,rfl,rfl,by lk,rfl,by lk,by lk⟩
theorem wj:aL ["_law_number","_law_kind"] ["_law_number"] (ae ic):=⟨rfl,rfl,rfl,by lk,rfl,by lk,by lk⟩
theorem iI:aL ["_law_script","_law_at","_law_many","_law_seed","_law_left","_law_row"] ["_law_script","_law_at","_law_many"] (ae ie):=⟨rfl,rfl,rfl,by lk,rfl,by lk,by lk⟩
theorem V9:aL ["_law_script","_law_at","_law_many"] ["_law_script","_law_at","_law_many"] (ae oe):=⟨rfl,rfl,rfl,by lk,rfl,by lk,by lk⟩
theorem eR:aL ["_law_script","_law_way","_law_begin_here","_law_costs","_law_size","_law_line_here","_law_wishes_here","_law_paper","_law_least","_law_bound","_law_handed","_law_lent","_law_found"] ["_law_script"] (ae Ik):=⟨rfl,rfl,rfl,by lk,rfl,by lk,by lk⟩
theorem DO:(["_law_paper","_law_way","_law_at","_law_number","","_law_place","_law_state","_law_worth"]:List Str).Nodup:=by lk
theorem F8:(["_law_row","_law_paper","_law_way","_law_at","_law_number","","_law_place","_law_state","_law_worth"]:List Str).Nodup:=by lk
theorem lB:(["state","number","numbers","bound","last"]:List Str).Nodup:=by lk
theorem uj:(["number","numbers","bound","last"]:List Str).Nodup:=by lk
theorem wk:(["kind","tone"]:List Str).Nodup:=by lk
theorem nc:(["state","number","pairs","known","named"]:List Str).Nodup:=by lk
theorem wm:(["state","pairs","known","named"]:List Str).Nodup:=by lk
theorem DP:(["pairs","wishes","prices","bound","paper","begin","known","lists","at","wish"]:List Str).Nodup:=by lk
theorem DQ:(["state","number","pairs","wishes","prices","bound","paper","begin","known","lists","at","wish"]:List Str).Nodup:=by lk
theorem SA:(["numbers","wishes","prices","bound","paper","begin","known","lists","at","wish"]:List Str).Nodup:=by lk
theorem AX:(["_law_k","_law_script","_law_at","_law_many","_law_seed","_law_left","_law_row"]:List Str).Nodup:=by lk
theorem JK:(["_law_number","_law_script","_law_at","_law_many"]:List Str).Nodup:=by lk
theorem Wa:(["_law_k","_law_script","_law_way","_law_begin_here","_law_costs","_law_size","_law_line_here","_law_wishes_here","_law_paper","_law_least","_law_bound","_law_handed","_law_lent","_law_found"]:List Str).Nodup:=by lk
theorem Wb:(["_law_state","_law_k","_law_script","_law_way","_law_begin_here","_law_costs","_law_size","_law_line_here","_law_wishes_here","_law_paper","_law_least","_law_bound","_law_handed","_law_lent","_law_found"]:List Str).Nodup:=by lk
theorem Io:(["_law_state","_law_number","_law_script","_law_way","_law_begin_here","_law_costs","_law_size","_law_line_here","_law_wishes_here","_law_paper","_law_least","_law_bound","_law_handed","_law_lent","_law_found"]:List Str).Nodup:=by lk
theorem Wc:(["_law_row","_law_script","_law_way","_law_begin_here","_law_costs","_law_size","_law_line_here","_law_wishes_here","_law_paper","_law_least","_law_bound","_law_handed","_law_lent","_law_found"]:List Str).Nodup:=by lk
def F9:List (Str×Pos):=[("0o",⟨318,26,318,30⟩),("0s",⟨318,32,318,36⟩),("1o",⟨318,38,318,42⟩),("1s",⟨318,44,318,48⟩),("2S",⟨318,50,318,54⟩),("2o",⟨318,56,318,60⟩),("2s",⟨318,62,318,66⟩)]
def Ga:List (Str×Pos):=[("3t1s",⟨408,33,408,39⟩),("",⟨408,41,408,43⟩),("2",⟨408,45,408,48⟩),("3n0",⟨408,50,408,55⟩),("3n2S-",⟨408,57,408,64⟩),("3t0s",⟨408,66,408,72⟩),("2G-",⟨408,74,408,79⟩),("x",⟨408,81,408,84⟩)]
def dm:List (Int×Pos):=[(1,⟨258,22,258,23⟩),(2,⟨258,25,258,26⟩),(1,⟨258,28,258,29⟩),(3,⟨258,31,258,32⟩),(1,⟨258,34,258,35⟩),(2,⟨258,37,258,38⟩),(2,⟨258,40,258,41⟩)]
set_option genInjectivity false in
set_option genSizeOf false in
structure Adr where
 jv:Addr
 yN:FuncData
 gQ:Addr
 uk:FuncData
 lC:Addr
 DR:FuncData
 jw:Addr
 yO:FuncData
 pI:Addr
 JL:FuncData
 lD:Addr
 DS:FuncData
 gR:Addr
 um:FuncData
 gS:Addr
 uo:FuncData
 lE:Addr
 DT:FuncData
 dW:Addr
 pJ:FuncData
 fk:Addr
 rf:FuncData
 jx:Addr
 yP:FuncData
 gT:Addr
 uq:FuncData
 du:Addr
 nu:FuncData
 gU:Addr
 ur:FuncData
 gW:Addr
 uu:FuncData
 lF:Addr
 DU:FuncData
 lG:Addr
 DV:FuncData
 uv:Addr
 SD:FuncData
 cQ:Addr
 kj:FuncData
 lH:Addr
 DW:FuncData
 dv:Addr
 jW:FuncData
 iJ:Addr
 eK:Tok
 dX:Addr
 pK:FuncData
 pL:Addr
 JM:FuncData
 jy:Addr
 yQ:FuncData
 bu:Addr
 dY:FuncData
 b5:Addr
 iK:FuncData
 dZ:Addr
 pM:FuncData
 c7:Addr
 lI:FuncData
 fo:Addr
 rg:FuncData
 d8:Addr
 pN:FuncData
 c8:Addr
 lJ:FuncData
 uw:Addr
 SE:FuncData
 pO:Addr
 JN:FuncData
 c9:Addr
 lK:FuncData
 d9:Addr
 pP:FuncData
 bN:Addr
 gv:FuncData
 cR:Addr
 km:FuncData
 bx:Addr
 ed:FuncData
 dc:Addr
 lL:FuncData
 pQ:Addr
 Df:FuncData
 wq:Addr
 oj:Tok
 fq:Addr
 rh:FuncData
 jz:Addr
 yR:FuncData
 de:Addr
 lM:FuncData
 gX:Addr
 ux:FuncData
 fu:Addr
 rj:FuncData
 lN:Addr
 DX:FuncData
 jA:Addr
 yS:FuncData
 fz:Addr
 rl:FuncData
 fA:Addr
 rm:FuncData
 lO:Addr
 DY:FuncData
 DZ:Addr
 aa6:FuncData
 dw:Addr
 cS:Addr
 cT:Addr
 cq:Addr
 ef:Addr
 ng:Tok
 bK:Addr
 gL:Tok
 eW:Tok
 cZ:Tok
 wt:Tok
 cU:Addr
 cV:Addr
 c5:Addr
 cg:Addr
 c6:Addr
 cW:Addr
 cM:Addr
 cN:Addr
 cO:Addr
 ei:Addr
 dO:Addr
 dP:Addr
structure Txt (K:Frag)(w:World)(mg:Str->Option Value)(t:Adr):Prop where
 om:jj K "_law_begin" "_law_begin" kX t.jv t.yN
 yT:Binds K t.yN ["_law_cell"] []
 SF:mg "_law_begin"=some (.ref t.jv)
 lP:jj K "_law_prices" "_law_prices" jn t.gQ t.uk
 uy:Binds K t.uk ["_law_cell"] []
 Mf:mg "_law_prices"=some (.ref t.gQ)
 rp:jj K "_law_base" "_law_base" nU t.lC t.DR
 D0:Binds K t.DR ["_law_line_here","_law_begin_here"] []
 Wd:mg "_law_base"=some (.ref t.lC)
 oq:jj K "_law_three" "_law_three" kY t.jw t.yO
 yU:Binds K t.yO ["_law_line_here","_law_begin_here"] []
 SH:mg "_law_three"=some (.ref t.jw)
 wu:jj K "_law_run" "_law_run" tE t.pI t.JL
 JO:Binds K t.JL ["_law_line_here","_law_told","_law_low","_law_high"] []
 aa7:mg "_law_run"=some (.ref t.pI)
 ot:jj K "_law_read" "_law_read" nV t.lD t.DS
 wx:Binds K t.DS ["_law_line_here","_law_begin_here"] []
 Ip:mg "_law_read"=some (.ref t.lD)
 lQ:jj K "_law_firmed" "_law_firmed" jo t.gR t.um
 uz:Binds K t.um ["_law_line_here","_law_begin_here"] []
 Mg:mg "_law_firmed"=some (.ref t.gR)
 lR:jj K "_law_wishes" "_law_wishes" jq t.gS t.uo
 uA:Binds K t.uo ["_law_line_here","_law_begin_here"] []
 Mh:mg "_law_wishes"=some (.ref t.gS)
 rq:jj K "_law_shut" "_law_shut" nW t.lE t.DT
 D1:Binds K t.DT ["_law_state","_law_kind","_law_worth"] []
 We:mg "_law_shut"=some (.ref t.lE)
 iL:jj K "_law_step_two" "_law_step_two" fI t.dW t.pJ
 pR:Binds K t.pJ ["_law_state","_law_kind","_law_worth"] []
 Gb:mg "_law_step_two"=some (.ref t.dW)
 j5:jj K "_law_step_by" "_law_step_by" hU t.fk t.rf
 rA:Binds K t.rf ["_law_state","_law_kind","_law_worth"] []
 JP:mg "_law_step_by"=some (.ref t.fk)
 ip:jj K "_law_moves" "_law_moves" kZ t.jx t.yP
 lq:Binds K t.yP ["_law_state","_law_wish","_law_prices_here"] []
 pS:mg "_law_moves"=some (.ref t.jx)
 jB:jj K "_law_spread" "_law_spread" jr t.gT t.uq
 pT:Binds K t.uq ["_law_table","_law_prices_here"] []
 AF:mg "_law_spread"=some (.ref t.gT)
 gJ:jj K "_law_own_paper" "_law_own_paper" eO t.du t.nu
 nv:Binds K t.nu ["_law_wishes_here","_law_prices_here","_law_begin_here"] []
 D3:mg "_law_own_paper"=some (.ref t.du)
 gY:jj K "_law_states" "_law_states" js t.gU t.ur
 lT:Binds K t.ur [] []
 rB:mg "_law_states"=some (.ref t.gU)
 lU:jj K "_law_spoilt" "_law_spoilt" dr t.gW t.uu
 uB:Binds K t.uu ["_law_paper","_law_way","_law_at","_law_number"] []
 Mi:mg "_law_spoilt"=some (.ref t.gW)
 rC:jj K "states" "states" nX t.lF t.DU
 D4:Binds K t.DU [] []
 Wf:mg "states"=some (.ref t.lF)
 lV:jj K "closes" "closes" nY t.lG t.DV
 rD:Binds K t.DV ["state"] []
 yV:mg "closes"=some (.ref t.lG)
 D5:jj K "ends" "ends" yK t.uv t.SD
 SI:Binds K t.SD ["state"] []
 adA:mg "ends"=some (.ref t.uv)
 eL:jj K "reaches_bound" "reaches_bound" dg t.cQ t.kj
 ko:Binds K t.kj ["numbers","bound"] []
 yW:mg "reaches_bound"=some (.ref t.cQ)
 lW:jj K "bounds" "bounds" nZ t.lH t.DW
 rE:Binds K t.DW ["numbers","state","most"] []
 yX:mg "bounds"=some (.ref t.lH)
 eQ:N9 K "begin_state" "begin_state" eP t.dv t.jW (.ref t.iJ)
 rF:Binds K t.jW ["begin"] [.int 3 t.eK]
 ny:Binds K t.jW ["begin"] []
 D6:mg "begin_state"=some (.ref t.dv)
 iM:jj K "sign_price" "sign_price" fJ t.dX t.pK
 pU:Binds K t.pK ["sign","prices"] []
 Gd:mg "sign_price"=some (.ref t.dX)
 wz:jj K "small" "small" tG t.pL t.JM
 JQ:Binds K t.JM ["sign"] []
 aa8:mg "small"=some (.ref t.pL)
 ou:jj K "parting" "parting" la t.jy t.yQ
 yY:Binds K t.yQ ["sign"] []
 SJ:mg "parting"=some (.ref t.jy)
 b6:jj K "closes_by_right_note" "closes_by_right_note" bI t.bu t.dY
 ej:Binds K t.dY ["state"] []
 ow:mg "closes_by_right_note"=some (.ref t.bu)
 dn:jj K "closes_by_great" "closes_by_great" cL t.b5 t.iK
 iN:Binds K t.iK ["state"] []
 uC:mg "closes_by_great"=some (.ref t.b5)
 iO:jj K "great_step" "great_step" fK t.dZ t.pM
 pV:Binds K t.pM ["state","kind","worth"] []
 Ge:mg "great_step"=some (.ref t.dZ)
 fB:jj K "twofold_step" "twofold_step" dH t.c7 t.lI
 lX:Binds K t.lI ["state","kind","worth"] []
 AY:mg "twofold_step"=some (.ref t.c7)
 j6:jj K "told_last" "told_last" hV t.fo t.rg
 rG:Binds K t.rg ["kind","count","worth"] []
 JR:mg "told_last"=some (.ref t.fo)
 iP:jj K "small_step" "small_step" fL t.d8 t.pN
 pW:Binds K t.pN ["state","kind","worth"] []
 Gg:mg "small_step"=some (.ref t.d8)
 fD:jj K "parting_step" "parting_step" dJ t.c8 t.lJ
 lY:Binds K t.lJ ["state","kind","worth"] []
 AZ:mg "parting_step"=some (.ref t.c8)
 D7:jj K "step" "step" yL t.uw t.SE
 SK:Binds K t.SE ["state","sign","worth"] []
 adB:mg "step"=some (.ref t.uw)
 tL:jj K "moves" "moves" tH t.pO t.JN
 Dg:Binds K t.JN ["state","signs","worth","prices"] []
 Mj:mg "moves"=some (.ref t.pO)
 fE:jj K "wished_signs" "wished_signs" dM t.c9 t.lK
 lZ:Binds K t.lK ["tone"] []
 A0:mg "wished_signs"=some (.ref t.c9)
 iQ:jj K "wish_moves" "wish_moves" fM t.d9 t.pP
 pX:Binds K t.pP ["state","wish","prices"] []
 Gh:mg "wish_moves"=some (.ref t.d9)
 cX:jj K "bounds_wish_moves" "bounds_wish_moves" b9 t.bN t.gv
 gw:Binds K t.gv ["numbers","following","wish","prices"] []
 rH:mg "bounds_wish_moves"=some (.ref t.bN)
 eM:jj K "parting_moves" "parting_moves" dh t.cR t.km
 kq:Binds K t.km ["state","prices"] []
 yZ:mg "parting_moves"=some (.ref t.cR)
 b7:jj K "bounds_parting_moves" "bounds_parting_moves" bJ t.bx t.ed
 eo:Binds K t.ed ["numbers","prices"] []
 oz:mg "bounds_parting_moves"=some (.ref t.bx)
 fF:jj K "names_states" "names_states" dN t.dc t.lL
 l5:Binds K t.lL ["pairs","known"] []
 A1:mg "names_states"=some (.ref t.dc)
 pY:N9 K "holds" "holds" tI t.pQ t.Df (.ref t.wq)
 D8:Binds K t.Df ["wishes","prices","bound","paper","begin"] [.int 3 t.oj]
 JS:Binds K t.Df ["wishes","prices","bound","paper","begin"] []
 Ml:mg "holds"=some (.ref t.pQ)
 aV:jj K "_law_cell_at" "_law_cell_at" hX t.fq t.rh
 a8:Binds K t.rh ["_law_script","_law_k"] []
 a7:mg "_law_cell_at"=some (.ref t.fq)
 jC:jj K "_law_mixed" "_law_mixed" lg t.jz t.yR
 oA:Binds K t.yR ["_law_seed","_law_k"] []
 uD:mg "_law_mixed"=some (.ref t.jz)
 fG:jj K "_law_any_wishes" "_law_any_wishes" bP t.de t.lM
 l6:Binds K t.lM ["_law_script","_law_at","_law_many"] []
 A2:mg "_law_any_wishes"=some (.ref t.de)
 l8:jj K "_law_tables" "_law_tables" jt t.gX t.ux
 uE:Binds K t.ux ["_law_paper"] []
 Mm:mg "_law_tables"=some (.ref t.gX)
 iq:jj K "_law_carried" "_law_carried" hZ t.fu t.rj
 nh:Binds K t.rj ["_law_number","_law_moves_here","_law_table"] []
 wA:mg "_law_carried"=some (.ref t.fu)
 oB:jj K "_law_ends" "_law_ends" oa t.lN t.DX
 wB:Binds K t.DX ["_law_state"] []
 Iq:mg "_law_ends"=some (.ref t.lN)
 oC:jj K "_law_holds" "_law_holds" lh t.jA t.yS
 y3:Binds K t.yS ["_law_wishes_here","_law_prices_here","_law_bound","_law_paper","_law_begin_here"] []
 SN:mg "_law_holds"=some (.ref t.jA)
 j7:jj K "_law_sign_by" "_law_sign_by" ic t.fz t.rl
 rJ:Binds K t.rl ["_law_number"] []
 JT:mg "_law_sign_by"=some (.ref t.fz)
 j8:jj K "_law_numbers" "_law_numbers" ie t.fA t.rm
 rK:Binds K t.rm ["_law_script","_law_at","_law_many"] []
 JU:mg "_law_numbers"=some (.ref t.fA)
 rL:jj K "_law_line" "_law_line" oe t.lO t.DY
 D9:Binds K t.DY ["_law_script","_law_at","_law_many"] []
 Wg:mg "_law_line"=some (.ref t.lO)
 U6:jj K "law" "law" Ik t.DZ t.aa6
 ae9:Binds K t.aa6 ["_law_script"] []
 amk:mg "law"=some (.ref t.DZ)
 JV:mg "all"=none
 adC:mg "bool"=none
 adD:mg "dict"=none
 JW:mg "enumerate"=none
 y4:mg "int"=none
 Gi:mg "isinstance"=none
 dQ:mg "len"=none
 ni:mg "list"=none
 agD:mg "max"=none
 JX:mg "min"=none
 j9:mg "range"=none
 agE:mg "set"=none
 tM:mg "sorted"=none
 agF:mg "str"=none
 aa9:mg "tuple"=none
 agG:mg "zip"=none
 Gj:mg "SMALL_KINDS"=some (.ref t.dw)
 Gk:∀ H,dz K H t.dw [.str "s",.str "d",.str "r"]
 A3:mg "PARTING_KINDS"=some (.ref t.cS)
 A4:∀ H,dz K H t.cS [.str ".",.str "3",.str "2"]
 A5:mg "MEASURE_KINDS"=some (.ref t.cT)
 A6:∀ H,dz K H t.cT [.str "3",.str "2"]
 y6:mg "SOUNDING_KINDS"=some (.ref t.cq)
 oD:∀ H,dz K H t.cq [.str "G",.str "D",.str "s",.str "d"]
 JY:mg "DARK_KINDS"=some (.ref t.ef)
 JZ:∀ H,dz K H t.ef [.str "D",.str "d"]
 Mn:mg "REST_TONE"=some (.int (-1) t.ng)
 jD:mg "TWOFOLD_STATES"=some (.ref t.bK)
 jE:∀ H,dz K H t.bK [.str "2-",.str "2g",.str "2G"]
 qD:mg "TWOFOLD_BEGIN"=some (.str "2-" t.gL)
 nj:mg "THREEFOLD_BEGIN"=some (.str "3n0-" t.eW)
 ez:mg "SHORTENED_FROM_AHEAD"=some (.str "3t0-" t.cZ)
 aba:mg "NO_RUN"=some (.str "0-" t.wt)
 A7:mg "RUNS_GOING_ON"=some (.ref t.cU)
 qE:∀ H,dz K H t.cU [.str "0s",.str "0o",.str "1s",.str "1o",.str "2s",.str "2S",.str "2o"]
 A8:mg "LEFTS_OF_RUNS"=some (.ref t.cV)
 qF:∀ H,dz K H t.cV [.str "n",.str "w",.str "h"]
 Gn:mg "NEXT_COUNTS"=some (.ref t.c5)
 Eb:KD K w t.c5 [("0",.str "1"),("1",.str "2"),("2",.str "0")]
 A9:mg "TWOFOLD_STEPS"=some (.ref t.cg)
 y8:KP K w t.cg [(("s",1),.str "2-"),(("d",1),.str "2-"),(("r",1),.str "2-"),(("D",2),.str "2-"),(("R",2),.str "2-"),(("G",2),.str "2g"),(("G",3),.str "2G"),((".",0),.str "2-"),(("2",0),.str "2-"),(("3",0),.str "3n0-")]
 Gp:mg "GREAT_STEPS"=some (.ref t.c6)
 Ec:KP K w t.c6 [(("G",3),.str "3w0-"),(("G",2),.str "3h0-"),(("D",2),.str "3n0-"),(("R",3),.str "3n0-")]
 Ba:mg "PARTING_SIGNS"=some (.ref t.cW)
 Bb:∀ H,dz K H t.cW [.ref t.cM,.ref t.cN,.ref t.cO]
 wC:∀ H,dz K H t.cM [.str ".",.int 0]
 wD:∀ H,dz K H t.cN [.str "3",.int 0]
 wF:∀ H,dz K H t.cO [.str "2",.int 0]
 J0:mg "REST_SIGNS"=some (.ref t.ei)
 J1:∀ H,dz K H t.ei [.ref t.dO,.ref t.dP]
 Ed:∀ H,dz K H t.dO [.str "R",.int 0]
 Ee:∀ H,dz K H t.dP [.str "r",.int 0]
def SO:Sp:=fun vs H Q _=>∃ c:Int,vs=[.int c]/\∀ b:Int,(b=3\/b=2)->Q (.int b) H
variable {P:Program} {w:World} {K:Frag} {mg:Str->Option Value} {base:Heap} {t:Adr}
theorem SQ (T:Txt K w mg t):bV P w K mg base iw (0+1) t.jv t.yN ["_law_cell"] SO:=by
 refine T.om.ok Sy (fun vs H Q E h=>?_) (fun cdv A outer s H vs Q E hr h=>?_)
 ·obtain⟨_,rfl,_⟩:=h;rfl
 ·obtain⟨c,rfl,q⟩:=h;refine aT (ai (ay (aF iB ah (b8 (kW.or eN) rfl T.y4 yB (aa (bj (aI.or (aB (au hr))) (aF bF (pv 0) ah) ah (av _)) aj))))) ?_;tm_up;refine .inl (.inr ⟨_,rfl,?_⟩);tm_up;refine q _ ?_
  try dsimp only
  split
  ·exact .inr rfl
  ·exact .inl rfl
def aml:q0->List V:=fun c=>[eV c.1,eV c.2.1,eV c.2.2]
def Mo:Sp:=fun vs H Q _=>∃ n:Int,vs=[.int n]/\∀(c:q0)(z:Addr)(H':Hp),ax H H'->H z=none->H' z=some (.tup (aml c))->Q (.ref z) H'
theorem Mp (T:Txt K w mg t):bV P w K mg base iw (0+1) t.gQ t.uk ["_law_cell"] Mo:=by
 refine T.lP.ok m7 (fun vs H Q E h=>?_) (fun cdv A outer s H vs Q E hr h=>?_)
 ·obtain⟨_,rfl,_⟩:=h;rfl
 ·obtain⟨n,rfl,q⟩:=h;refine aT (af (aH (i:=1) m7.nd rfl (Or.inl rfl) (cm aj)) (af (cj PassesOwn.never rfl (g9 rfl T.j9 (aa ah aj)) (aG (i:=2) m7.nd rfl (Or.inl rfl)) (af (bQ (e8 Zh' Zg' Zf' bf (pv 1) (aa (bB (bA (ar HH (aF bF (pv 0) ah) ah (av _)) bL (aF (aX.or (aD.or a5)) (aF bF (pv 0) ah) ah))) aj))) (ai (aH (i:=0) m7.nd rfl (Or.inl rfl) (aF fH (pv 0) ah))))) (ai (ay (bT (aa (aK aE (pv 1) ah (fun _ _=>rfl)) (aa (aK aE (pv 1) ah (fun _ _=>rfl)) (aa (aK aE (pv 1) ah (fun _ _=>rfl)) aj)))))))) ?_;refine⟨big (by show 0<=1000;omega),fun f hf=>?_⟩;tm_up;refine⟨by decide,by decide,kU (n:=3) (fun i σ H'=>∃(m:Int)(v:Option V)(cs:List (Option Int)),σ=[some (.int m),some (.ref f),v]/\H'=upd H f (.lst (cs.map eV))/\cs.length=i)
   ⟨n,none,[],rfl,rfl,rfl⟩ ?_ ?_⟩
  ·rintro i σ H' hi ⟨m,v,cs,rfl,rfl,hl⟩;tm_up;refine⟨.inl ⟨rfl,_,aR.of ag⟩,?_⟩;refine⟨fun v H2=>(∃ o,v=eV o)/\H2=upd H f (.lst (cs.map eV)),?_,?_⟩
   ·tm_up;refine aJ (fun _=>?_) (fun _=>?_)
    ·exact⟨⟨none,rfl⟩,rfl⟩
    ·tm_up;exact⟨⟨some _,rfl⟩,rfl⟩
   ·rintro _ _ ⟨⟨o,rfl⟩,rfl⟩;refine⟨_,_,_,rfl,rfl,ag,by rw[K'];exact aQ (by omega),?_⟩;tm_up;exact⟨_,_,cs++[o],rfl,by rw[iy,map_append];rfl,by simp[hl]⟩
  ·rintro σ H' ⟨m,v,cs,rfl,rfl,hl⟩
   match cs,hl with
   |[a,b,c],_ =>
    tm_up;refine .inl ⟨f,_,0,_,rfl,rfl,aR.of ag,rfl,?_⟩;tm_up;refine .inl ⟨f,_,1,_,rfl,rfl,aR.of ag,rfl,?_⟩;tm_up;refine .inl ⟨f,_,2,_,rfl,rfl,aR.of ag,rfl,?_⟩;refine⟨by show 3<=sizeLine;decide,fun z hz=>?_⟩;exact q (a,b,c) z _ ((ax.upd hf).trans (ax.upd hz)) ((ax.upd hf).free hz) ag
theorem agH {k:Kd}(h:k.meas=true)(m:Int):intText? k.str=some (nm m k)/\k.str.length<=640:=by
 cases k <;> first|(cases h;done)|exact⟨by first|exact(show intText? Kd.three.str=some 3 by lk)|exact(show intText? Kd.two.str=some 2 by lk),by lk⟩
theorem ai8 {k:Kd}(h:¬ k.meas=true)(m:Int):nm m k=m:=by
 cases k <;> first|rfl|exact j' rfl h
theorem Mq (k:Kd):k.meas=(decide (k=.three)||decide (k=.two)):=by cases k <;> rfl
theorem U7 (k:Kd):tN k.str ".32" = k.parting:=by cases k <;> decide +kernel
theorem wG (k:Kd):tN k.str "sdr"=k.small:=by cases k <;> decide +kernel
theorem adE {k:Kd}(h:k.parting=true)(m:Int)(n:Option Kd):bw m k n=0:=by cases k <;> first|(cases h;done)|(unfold bw;rw[M' (by rintro⟨_,z,_⟩;cases z)];rfl)
theorem abb {k:Kd}(h:k.small=true)(m:Int)(n:Option Kd):bw m k n=1:=by cases k <;> first|(cases h;done)|(unfold bw;rw[M' (by rintro⟨_,z,_⟩;cases z)];rfl)
theorem amm (m:Int)(n:Option Kd):bw m .D n=2:=by unfold bw;rw[M' (by rintro⟨_,z,_⟩;cases z)];rfl
theorem adF {k:Kd}{m:Int}{n:Option Kd}(hm:Ms m)(h1:k.parting=false)(h2:k.small=false)(h3:k≠.D)(h4:¬(m=2/\k=.G/\n=some .dot)):bw m k n=m:=by
 unfold bw;rw[M' h4];rcases hm with rfl|rfl <;> cases k <;> first|(cases h1;done)|(cases h2;done)|rfl|exact j' rfl h3
def Wh (K:Frag):Sp:=fun vs H Q _=>∃(l:Addr)(b:Int)(xs:List V)(ss:List Sg),vs=[.ref l,.int b]/\Ms b/\aR K H l xs/\we K H xs ss/\ss.length<=5000 /\
 ∀(f:Addr)(H':Hp),ax H H'->H f=none->H' f=some (.lst ((iE b (df ss)).map V.int))->Q (.ref f) H'
theorem Wi (T:Txt K w mg t):bV P w K mg base iw (0+1) t.lC t.DR ["_law_line_here","_law_begin_here"] (Wh K):=by
 refine T.rp.ok lj (fun vs H Q E h=>?_) (fun cdv A outer s H vs Q E hr h=>?_)
 ·obtain⟨_,_,_,_,rfl,_⟩:=h;rfl
 ·obtain⟨l,b,xs,ss,rfl,hMs,hS,hg,hn,q⟩:=h;have p62:(2:Int) ^ 62=4611686018427387904:=by decide
  refine aT (af (aH (i:=2) lj.nd rfl (Or.inl rfl) (cm aj)) (af (aH (i:=3) lj.nd rfl (Or.inl rfl) (pv 1)) (af (cj PassesOwn.never rfl (g9 rfl T.j9 (aa (aU (aY.or aZ) rfl T.dQ dF (aa (pv 0) aj)) aj)) (aG (i:=4) lj.nd rfl (Or.inl rfl)) (af (aH (i:=5) lj.nd rfl (Or.inl rfl) (aK aE (aK aE (pv 0) (pv 4) (fun _ _=>rfl)) ah (fun _ _=>rfl))) (af (gu (aM (ba (PW.pt (iz (ar (aI.or (aB (au hr))) (pv 5) aw (av _)) (eY (ar (aI.or (aB (au hr))) (pv 5) aw (av _)))))) (ai (aH (i:=3) lj.nd rfl (Or.inl rfl) (b8 (kW.or eN) rfl T.y4 yB (aa (pv 5) aj)))) az)) (ai (aM (ar (bq.or bp) (pv 5) aw rfl) (ai (bQ (e8 Zh' Zg' Zf' bf (pv 2) (aa ah aj)))) (ai (aM (ar (bq.or bp) (pv 5) aw rfl) (ai (bQ (e8 Zh' Zg' Zf' bf (pv 2) (aa ah aj)))) (ai (aM (ar (aI.or (aB (au hr))) (pv 5) aw (av _)) (ai (bQ (e8 Zh' Zg' Zf' bf (pv 2) (aa ah aj)))) (ai (aM (ba (PW.pt (bz (ar (aI.or (aB (au hr))) (pv 3) ah (av _)) (bz (ar (aI.or (aB (au hr))) (pv 5) aw (av _)) (bz (ar qS (aF (aX.or (aD.or a5)) (pv 4) ah) (aU (aY.or aZ) rfl T.dQ dF (aa (pv 0) aj)) (av _)) (bH (ar (aI.or (aB (au hr))) (aK aE (aK aE (pv 0) (aF (aX.or (aD.or a5)) (pv 4) ah) (fun _ _=>rfl)) ah (fun _ _=>rfl)) aw (av _)))))))) (ai (bQ (e8 Zh' Zg' Zf' bf (pv 2) (aa ah aj)))) (ai (bQ (e8 Zh' Zg' Zf' bf (pv 2) (aa (pv 3) aj))))))))))))))) (ai (ay (pv 2)))))) ?_;refine⟨big (by show 0<=1000;omega),fun f hf=>?_⟩;tm_up;refine .inl ⟨_,_,rfl,.inl (vR hS hf),?_⟩;rw[bO hg];refine⟨(ss.length:Int),rfl,by rw[p62];omega,by rw[p62];omega,?_⟩;refine kU (n:=((ss.length:Int)).toNat) (fun i σ H'=>∃(m:Int)(v w:Option V)(fs:List Int),σ=[some (.ref l),some (.int b),some (.ref f),some (.int m),v,w]/\Ms m/\H'=upd H f (.lst (fs.map V.int))/\fs++iE m ((df ss).drop i)=iE b (df ss))
   ⟨b,none,none,[],rfl,hMs,rfl,rfl⟩ ?_ ?_
  ·rintro i σ H' hi ⟨m,v,w,fs,rfl,hm3,rfl,hm⟩;have hil:i<ss.length:=by omega
   have hd:=wc (DG (f:=Prod.fst) (C' hil));rw[hd]at hm;have hS':aR K (upd H f (.lst (fs.map V.int))) l xs:=vR hS hf;have hg':we K (upd H f (.lst (fs.map V.int))) xs ss:=hg.same (ax.upd hf);have hl:=Ya' List.length hm;simp only [Zj',iE,Zp',yH,K']at hl;simp only [iE,head_drop]at hm;tm_up;refine DM hS' hg' (n:=i) (by omega) (C' hil) fun p hp=>?_;generalize hk:(ss[i]).1=k at hm hp;tm_up;refine acV [some (.ref l),some (.int b),some (.ref f),some (.int (nm m k)),some (.int (0+(i:Int))),some (.str k.str)] (upd H f (.lst (fs.map V.int))) ?_ ?_
   ·refine dS k.meas ?_ ?_
    ·tm_up;rw[UT];refine aJ (fun h=>?_) (fun h=>?_)
     ·exact bE (by rw[Mq,h];rfl)
     ·tm_up;rw[aeK];exact bE (by rw[Mq,O'.mpr h];rfl)
    refine aJ (fun h=>?_) (fun h=>?_)
    ·obtain⟨e1,e2⟩:=agH h m;tm_up;exact .inr ⟨_,_,rfl,e1,e2,rfl,rfl⟩
    ·rw[ai8 h];exact⟨rfl,rfl⟩
   have hm4:=hm3.nm k;have fin:∀(z:Int),z=bw (nm m k) k (df ss)[i+1]?->∃(m':Int)(v w:Option V)(fs':List Int),[some (V.ref l),some (V.int b),some (V.ref f),some (V.int (nm m k)),some (V.int (0+(i:Int))),some (V.str k.str)]=[some (.ref l),some (.int b),some (.ref f),some (.int m'),v,w]/\Ms m'/\upd (upd H f (.lst (fs.map V.int))) f (.lst (fs.map V.int++[V.int z]))=upd H f (.lst (fs'.map V.int))/\fs'++iE m' ((df ss).drop (i+1))=iE b (df ss):=by
    intro z hz;exact⟨nm m k,_,_,fs++[z],rfl,hm4,by rw[iy,map_append];rfl,by rw[List.append_assoc,hz];exact hm⟩
   tm_up;refine aJ (fun h=>?_) (fun h=>?_)
   ·have h':k.parting=true:=by rw[<-U7];exact h
    tm_up;refine⟨.inl ⟨rfl,_,aR.of ag⟩,?_⟩;refine⟨_,_,_,rfl,rfl,ag,by rw[K'];exact hI (by omega),fin 0 (adE h' ..).symm⟩
   ·have h1:k.parting=false:=by rw[<-U7];exact O'.mpr h
    tm_up;refine aJ (fun h=>?_) (fun h=>?_)
    ·have h':k.small=true:=by rw[<-wG];exact h
     tm_up;refine⟨.inl ⟨rfl,_,aR.of ag⟩,?_⟩;refine⟨_,_,_,rfl,rfl,ag,by rw[K'];exact hI (by omega),fin 1 (abb h' ..).symm⟩
    ·have h2:k.small=false:=by rw[<-wG];exact O'.mpr h
     tm_up;rw[k_D];refine aJ (fun h=>?_) (fun h=>?_)
     ·have h':k=.D:=J' h;tm_up;refine⟨.inl ⟨rfl,_,aR.of ag⟩,?_⟩;refine⟨_,_,_,rfl,rfl,ag,by rw[K'];exact hI (by omega),fin 2 (by rw[h'];exact(amm ..).symm)⟩
     ·have h3:k≠.D:=fun z=>h (W' z);refine dS (decide (nm m k=2/\k=.G/\(df ss)[i+1]? = some .dot)) ?_ ?_
      ·tm_up;rw[qW];refine aJ (fun h=>?_) (fun h=>?_)
       ·have e1:=J' h;tm_up;rw[k_G];refine aJ (fun h=>?_) (fun h=>?_)
        ·have e2:=J' h;tm_up;refine .inl ⟨_,_,rfl,.inl hS',?_⟩;rw[bO hg];tm_up;refine aJ (fun h=>?_) (fun h=>?_)
         ·have hlt:i+1<ss.length:=by have:=J' h;omega
          tm_up;refine DM hS' hg' (n:=i+1) (by omega) (C' hlt) fun p2 hp2=>?_;tm_up;rw[aeJ];refine bE ?_;have e3:(df ss)[i+1]? = some (ss[i+1]).1:=DG (C' hlt);rw[e3];subst e2;simp[e1]
         ·refine bE ?_;have e3:(df ss)[i+1]? = none:=List.getElem?_eq_none (by rw[K'];have:¬(0+(i:Int)+1<ss.length):=fun z=>h (W' z);omega);rw[e3];simp
        ·refine bE ?_;have e2:k≠.G:=fun z=>h (W' z);simp[e2]
       ·refine bE ?_;have e1:nm m k≠2:=fun z=>h (W' z);simp[e1]
      ·refine aJ (fun h=>?_) (fun h=>?_)
       ·have h':=J' h;tm_up;refine⟨.inl ⟨rfl,_,aR.of ag⟩,?_⟩;refine⟨_,_,_,rfl,rfl,ag,by rw[K'];exact hI (by omega),fin 3 (by unfold bw;rw[S' h'])⟩
       ·have h':¬(nm m k=2/\k=.G/\(df ss)[i+1]? = some .dot):=fun z=>h (W' z);tm_up;refine⟨.inl ⟨rfl,_,aR.of ag⟩,?_⟩;tm_up;refine⟨_,_,_,rfl,rfl,ag,by rw[K'];exact hI (by omega),fin _ (adF hm4 h1 h2 h3 h').symm⟩
  ·rintro σ H' ⟨m,v,w,fs,rfl,_,rfl,hm⟩;have e0:((ss.length:Int)).toNat=ss.length:=by omega
   rw[e0,List.drop_eq_nil_of_le (by rw[K'];exact A' _)]at hm;tm_up;have e:fs=iE b (df ss):=by rw[<-hm];simp[iE]
   subst e;exact q f _ (ax.upd hf) hf ag
def SR (K:Frag):Sp:=fun vs H Q _=>∃(l:Addr)(b:Int)(xs:List V)(ss:List Sg),vs=[.ref l,.int b]/\aR K H l xs/\we K H xs ss/\ss.length<=5000 /\
 ∀(f:Addr)(H':Hp),ax H H'->H f=none->H' f=some (.lst ((gO b (df ss)).map V.bl))->Q (.ref f) H'
theorem aja {k:Kd}(h:k.meas=true)(m:Int):intText? k.str=some (nm m k)/\k.str.length<=640:=by
 cases k <;> first|(cases h;done)|exact⟨by first|exact(show intText? Kd.three.str=some 3 by lk)|exact(show intText? Kd.two.str=some 2 by lk),by lk⟩
theorem amn {k:Kd}(h:¬ k.meas=true)(m:Int):nm m k=m:=by
 cases k <;> first|rfl|exact j' rfl h
theorem U8 (k:Kd):k.meas=(decide (k=.three)||decide (k=.two)):=by cases k <;> rfl
theorem SS (T:Txt K w mg t):bV P w K mg base iw (0+1) t.jw t.yO ["_law_line_here","_law_begin_here"] (SR K):=by
 refine T.oq.ok lA (fun vs H Q E h=>?_) (fun cdv A outer s H vs Q E hr h=>?_)
 ·obtain⟨_,_,_,_,rfl,_⟩:=h;rfl
 ·obtain⟨l,b,xs,ss,rfl,hS,hg,hn,q⟩:=h;refine aT (af (aH (i:=2) lA.nd rfl (Or.inl rfl) (cm aj)) (af (aH (i:=3) lA.nd rfl (Or.inl rfl) (pv 1)) (af (cj PassesOwn.never rfl (bR (pv 0)) (aG (i:=4) lA.nd rfl (Or.inl rfl)) (af (gu (aM (ba (PW.pt (iz (ar (aI.or (aB (au hr))) (aK aE (pv 4) ah (fun _ _=>rfl)) aw (av _)) (eY (ar (aI.or (aB (au hr))) (aK aE (pv 4) ah (fun _ _=>rfl)) aw (av _)))))) (ai (aH (i:=3) lA.nd rfl (Or.inl rfl) (b8 (kW.or eN) rfl T.y4 yB (aa (aK aE (pv 4) ah (fun _ _=>rfl)) aj)))) az)) (ai (bQ (e8 Zh' Zg' Zf' bf (pv 2) (aa (bj (aI.or (aB (au hr))) (pv 3) ah (av _)) aj)))))) (ai (ay (pv 2)))))) ?_;refine⟨big (by show 0<=1000;omega),fun f hf=>?_⟩;tm_up;refine⟨⟨xs,vR hS hf⟩,dE (K:=K) (xs:=xs) (fun i σ H'=>∃(m:Int)(v:Option V)(fs:List Bool),σ=[some (.ref l),some (.int b),some (.ref f),some (.int m),v]/\H'=upd H f (.lst (fs.map V.bl))/\fs++gO m ((df ss).drop i)=gO b (df ss))
   ⟨b,none,[],rfl,rfl,rfl⟩ ?_ ?_ ?_⟩
  ·rintro i σ H' _ ⟨m,v,fs,rfl,rfl,_⟩;exact vR hS hf
  ·rintro i x σ H' hx ⟨m,v,fs,rfl,rfl,hm⟩;obtain⟨s,hs,p,rfl,hp⟩:=dq hg hx;have hd:=wc (DG (f:=Prod.fst) hs);rw[hd]at hm;have hp':SgT K (upd H f (.lst (fs.map V.bl))) p s.1 s.2:=hp.same (ax.upd hf);have hl:=Ya' List.length hm;simp only [Zj',gO,Zp',Ot,K']at hl;refine acV [some (.ref l),some (.int b),some (.ref f),some (.int (nm m s.1)),some (.ref p)] (upd H f (.lst (fs.map V.bl))) ?_ ?_
   ·refine dS s.1.meas ?_ ?_
    ·tm_up;rw[UT];refine aJ (fun h=>?_) (fun h=>?_)
     ·exact bE (by rw[U8,h];rfl)
     ·tm_up;rw[aeK];exact bE (by rw[U8,O'.mpr h];rfl)
    refine aJ (fun h=>?_) (fun h=>?_)
    ·obtain⟨e1,e2⟩:=aja h m;tm_up;exact .inr ⟨_,_,rfl,e1,e2,rfl,rfl⟩
    ·rw[amn h];exact⟨rfl,rfl⟩
   ·tm_up;refine⟨.inl ⟨rfl,_,aR.of ag⟩,?_⟩;tm_up;rw[qW];refine⟨_,_,_,rfl,rfl,ag,by rw[K'];exact hI (by omega),?_⟩;exact⟨_,_,fs++[decide (nm m s.1=3)],rfl,by rw[iy,map_append];rfl,by rw[List.append_assoc];exact hm⟩
  ·rintro σ H' ⟨m,v,fs,rfl,rfl,hm⟩;rw[List.drop_eq_nil_of_le (by rw[K',bO hg];exact A' _)]at hm;tm_up;have e:fs=gO b (df ss):=by rw[<-hm];simp[gO]
   subst e;exact q f _ (ax.upd hf) hf ag
def amo (K:Frag)(g:List Kd->List Int->Nat->Nat->Bool×List Int):Sp:=fun vs H Q _=>∃(l f:Addr)(a z:Nat)(xs:List V)(ss:List Sg)(fs:List Int),vs=[.ref l,.ref f,.int (a:Int),.int (z:Int)]/\aR K H l xs/\we K H xs ss/\l≠f/\H f=some (.lst (fs.map V.int))/\fs.length=ss.length/\a<z/\z<=ss.length /\
 Q (.bl (g (df ss) fs a z).1) (upd H f (.lst ((g (df ss) fs a z).2.map V.int)))
theorem Ef (k:Kd):tN k.str "GDR"=k.great:=by cases k <;> decide +kernel
theorem y9 (o:Option Kd):(o.getD .dot).great=pD o:=by cases o <;> rfl
theorem amq (o:Option Kd):decide (o.getD .dot=.G)=decide (o=some .G):=by
 cases o with
 |none=>decide
 |some k=>simp
theorem Wj {ks:List Kd}{f:List Int}{a z:Nat}{r:Nat}(hr:(z-a) % 3=r)(hr3:r<3) :
  settle ks f a z=if decide (r=2)&&(pD ks[z]? && decide (ks[z-1]? = some .s)) then(true,f.set (z-1) 2) else
   (decide (r=0)||((decide (r=1)&&(kM ks f a||iF ks z))||(decide (r=2)&&(kM ks f a&&iF ks z))),
    let g:=if(decide (r=1)&&kM ks f a)||(decide (r=2)&&(kM ks f a&&iF ks z)) then f.set (a-1) 2 else f
    if(decide (r=1)&&(iF ks z && !kM ks f a))||(decide (r=2)&&(kM ks f a&&iF ks z)) then g.set z 2 else g):=by
 unfold settle C8 C9;rw[hr];have:r=0\/r=1\/r=2:=by omega
 rcases this with rfl|rfl|rfl <;> cases kM ks f a <;> cases iF ks z <;> cases pD ks[z]? <;> cases decide (ks[z-1]? = some .s) <;> rfl
theorem abc (T:Txt K w mg t):bV P w K mg base iw (0+1) t.pI t.JL ["_law_line_here","_law_told","_law_low","_law_high"] (amo K settle):=by
 refine T.wu.ok og (fun vs H Q E h=>?_) (fun cdv A outer s H vs Q E hr h=>?_)
 ·obtain⟨_,_,_,_,_,_,_,rfl,_⟩:=h;rfl
 ·obtain⟨l,f,a,z,xs,ss,fs,rfl,hS,hg,hlf,hf,hl,haz,hz,q⟩:=h;obtain⟨r,hrr⟩:∃ r:Nat,(z-a) % 3=r:=⟨_,rfl⟩;have hr3:r<3:=by omega
  rw[Wj hrr hr3]at q;have hri:((z:Int)-(a:Int)) % 3=(r:Int):=by omega
  have dI:∀ n:Nat,decide (V.int (((z:Int)-(a:Int)) % 3)=V.int (n:Int))=decide (r=n):=fun n=>by
   rw[hri,qW]
   by_cases e:r=n
   ·simp[e]
   ·have:¬((r:Int)=(n:Int)):=by omega
    simp[e,this]
  have d0:decide (V.int (((z:Int)-(a:Int)) % 3)=V.int 0)=decide (r=0):=dI 0;have d1:decide (V.int (((z:Int)-(a:Int)) % 3)=V.int 1)=decide (r=1):=dI 1;have d2:decide (V.int (((z:Int)-(a:Int)) % 3)=V.int 2)=decide (r=2):=dI 2;refine aT (af (aH (i:=4) og.nd rfl (Or.inl rfl) (aF bF (aF iB (pv 3) (pv 2)) ah)) (af (aH (i:=5) og.nd rfl (Or.inl rfl) (bB (bA (ar qS (pv 3) (aU (aY.or aZ) rfl T.dQ dF (aa (pv 0) aj)) (av _)) (aK aE (aK aE (pv 0) (pv 3) (fun _ _=>rfl)) ah (fun _ _=>rfl)) aw))) (af (aH (i:=6) og.nd rfl (Or.inl rfl) (bB (bA (ar qS (aF (aX.or (aD.or a5)) (pv 3) ah) (aU (aY.or aZ) rfl T.dQ dF (aa (pv 0) aj)) (av _)) (aK aE (aK aE (pv 0) (aF (aX.or (aD.or a5)) (pv 3) ah) (fun _ _=>rfl)) ah (fun _ _=>rfl)) aw))) (af (aH (i:=7) og.nd rfl (Or.inl rfl) (bB (kf (bj HH (pv 2) ah (av _)) (kf (bj (aI.or (aB (au hr))) (aK aE (aK aE (pv 0) (aF iB (pv 2) ah) (fun _ _=>rfl)) ah (fun _ _=>rfl)) aw (av _)) (jg (bj (aI.or (aB (au hr))) (aK aE (pv 1) (aF iB (pv 2) ah) (fun _ _=>rfl)) ah (av _))))))) (af (aH (i:=8) og.nd rfl (Or.inl rfl) (bB (kf (bj (aI.or (aB (au hr))) (pv 5) aw (av _)) (jg (bj (vP.or vQ) (pv 6) aw rfl))))) (af (aM (ba (PW.pt (bz (ar (aI.or (aB (au hr))) (pv 4) ah (av _)) (bz (ar (bq.or bp) (pv 5) aw rfl) (bH (ar (aI.or (aB (au hr))) (aK aE (aK aE (pv 0) (aF iB (pv 3) ah) (fun _ _=>rfl)) ah (fun _ _=>rfl)) aw (av _))))))) (af (lx ah (ua (pv 1) (aF iB (pv 3) ah) set_list)) (ai (ay jd))) az) (af (gu (aM (ba (PW.pt (iz (ba (PW.pt (bz (ar (aI.or (aB (au hr))) (pv 4) ah (av _)) (bH (bZ (pv 7)))))) (eY (ba (PW.pt (bz (ar (aI.or (aB (au hr))) (pv 4) ah (av _)) (bz (bZ (pv 7)) (bH (bZ (pv 8))))))))))) (ai (lx ah (ua (pv 1) (aF iB (pv 2) ah) set_list))) az)) (af (gu (aM (ba (PW.pt (iz (ba (PW.pt (bz (ar (aI.or (aB (au hr))) (pv 4) ah (av _)) (bz (bZ (pv 8)) (bH (ke (bZ (pv 7)))))))) (eY (ba (PW.pt (bz (ar (aI.or (aB (au hr))) (pv 4) ah (av _)) (bz (bZ (pv 7)) (bH (bZ (pv 8))))))))))) (ai (lx ah (ua (pv 1) (pv 3) set_list))) az)) (ai (ay (bB (Uz (bj (aI.or (aB (au hr))) (pv 4) ah (av _)) (Uz (bB (kf (bj (aI.or (aB (au hr))) (pv 4) ah (av _)) (jg (bB (Uz (pv 7) (jg (pv 8))))))) (jg (bB (kf (bj (aI.or (aB (au hr))) (pv 4) ah (av _)) (kf (pv 7) (jg (pv 8))))))))))))))))))) ?_;tm_up;refine eX (.str ((df ss)[z]?.getD .dot).str) ?_ ?_
  ·tm_up;refine .inl ⟨_,_,rfl,.inl hS,?_⟩;rw[bO hg];tm_up;refine aJ (fun h=>?_) (fun h=>?_)
   ·have hlt:z<ss.length:=by have:=J' h;omega
    tm_up;refine DM hS hg (n:=z) rfl (C' hlt) fun p hp=>?_;tm_up;refine bD ?_;rw[Zi',C' hlt];rfl
   ·refine bD ?_;have hge:¬ z<ss.length:=fun c=>h (W' (by omega));rw[List.getElem?_eq_none (by rw[K'];omega)];rfl
  refine eX (.str ((df ss)[z+1]?.getD .dot).str) ?_ ?_
  ·tm_up;refine .inl ⟨_,_,rfl,.inl hS,?_⟩;rw[bO hg];tm_up;refine aJ (fun h=>?_) (fun h=>?_)
   ·have hlt:z+1<ss.length:=by have:=J' h;omega
    tm_up;refine DM hS hg (n:=z+1) (by omega) (C' hlt) fun p hp=>?_;tm_up;refine bD ?_;rw[Zi',C' hlt];rfl
   ·refine bD ?_;have hge:¬ z+1<ss.length:=fun c=>h (W' (by omega));rw[List.getElem?_eq_none (by rw[K'];omega)];rfl
  refine eX (.bl (kM (df ss) fs a)) ?_ ?_
  ·tm_up;refine aJ (fun h=>?_) (fun h=>?_)
   ·have hp:0<a:=by have:=J' h;omega
    have hlt:a-1<ss.length:=by omega
    have ek:kAt (df ss) ((a:Int)-1)=some (ss[a-1]).1:=by
     have:(a:Int)-1=((a-1:Nat):Int):=by omega
     rw[this,ada,Zi',C' hlt];rfl
    tm_up;refine DM hS hg (n:=a-1) (by omega) (C' hlt) fun p hp=>?_;tm_up;rw[k_G];refine aJ (fun h2=>?_) (fun h2=>?_)
    ·tm_up;refine alA (aR.of hf) (n:=a-1) (by omega) (C' (by omega)) ?_;tm_up;rw[qW];refine bD ?_;unfold kM;rw[ek,J' h2,T',C' (by omega)];simp
    ·refine bD ?_;unfold kM;rw[ek];have:(ss[a-1]).1≠.G:=fun c=>h2 (W' c);simp[this]
   ·refine bD ?_;have hp:a=0:=by
     have:¬ 0<a:=fun c=>h (W' (by omega));omega
    subst hp;unfold kM kAt;simp
  refine eX (.bl (iF (df ss) z)) ?_ ?_
  ·tm_up;rw[k_G,amq];refine aJ (fun h=>?_) (fun h=>?_)
   ·tm_up;refine bD ?_;unfold iF;rw[h];show V.bl (!tN _ _)=_;rw[Ef,y9];rfl
   ·refine bD ?_;unfold iF;rw[O'.mpr h];rfl
  generalize hL:kM (df ss) fs a=L at q;generalize hR:iF (df ss) z=R at q;refine dS (decide (r=2)&&(pD (df ss)[z]? && decide ((df ss)[z-1]? = some .s))) ?_ ?_
  ·tm_up;rw[d2];refine aJ (fun h=>?_) (fun h=>?_)
   ·rw[h];tm_up;refine aJ (fun h2=>?_) (fun h2=>?_)
    ·have h2':pD (df ss)[z]? = true:=by
      have:tN ((df ss)[z]?.getD .dot).str "GDR"=true:=h2
      rwa [Ef,y9]at this
     rw[h2'];tm_up;have hlt:z-1<ss.length:=by omega
     refine DM hS hg (n:=z-1) (by omega) (C' hlt) fun p hp=>?_;tm_up;rw[k_s];refine bE ?_;rw[Zi',C' hlt];simp
    ·have h2':pD (df ss)[z]? = false:=by
      have:tN ((df ss)[z]?.getD .dot).str "GDR"=false:=O'.mpr h2
      rwa [Ef,y9]at this
     rw[h2'];exact bE rfl
   ·exact bE (by rw[O'.mpr h];rfl)
  refine aJ (fun h=>?_) (fun h=>?_)
  ·rw[S' h]at q;tm_up;refine⟨_,_,_,_,rfl,rfl,hf,Jr (j:=z-1) (by omega) (by rw[K'];omega),?_⟩;rw[Js];exact q
  ·rw[M' h]at q;dsimp only at q;have hLp:L=true->1<=a/\a-1<ss.length:=fun e=>by
    have:=VT (hL.trans e)
    rwa [K']at this
   have hRp:R=true->z<ss.length:=fun e=>by
    have:=Oq (hR.trans e)
    rwa [K']at this
   generalize hg1:(if(decide (r=1)&&L||decide (r=2)&&(L&&R))=true then fs.set (a-1) 2 else fs)=g1 at q;have g1l:g1.length=ss.length:=by rw[<-hg1];split <;> simp[hl]
   refine acV [some (.ref l),some (.ref f),some (.int (a:Int)),some (.int (z:Int)),some (.int (((z:Int)-(a:Int)) % 3)),some (.str ((df ss)[z]?.getD .dot).str),some (.str ((df ss)[z+1]?.getD .dot).str),some (.bl L),some (.bl R)] (upd H f (.lst (g1.map V.int))) ?_ ?_
   ·refine dS (decide (r=1)&&L||decide (r=2)&&(L&&R)) ?_ ?_
    ·refine dS (decide (r=1)&&L) ?_ ?_
     ·tm_up;rw[d1];refine aJ (fun h=>?_) (fun h=>?_)
      ·tm_up;exact bE (by rw[h];rfl)
      ·exact bE (by rw[O'.mpr h];rfl)
     ·refine aJ (fun h=>bE (by rw[h];rfl)) (fun h=>?_);rw[O'.mpr h,Bool.false_or];refine dS (decide (r=2)&&(L&&R)) ?_ (bE rfl);tm_up;rw[d2];refine aJ (fun h=>?_) (fun h=>?_)
      ·tm_up;refine aJ (fun h2=>?_) (fun h2=>?_)
       ·tm_up;exact bE (by rw[h,h2];rfl)
       ·exact bE (by rw[h,O'.mpr h2];rfl)
      ·exact bE (by rw[O'.mpr h];rfl)
    ·refine aJ (fun h=>?_) (fun h=>?_)
     ·rw[S' h]at hg1;have hp:=hLp (by cases L <;> simp_all);tm_up;refine⟨_,_,_,_,rfl,rfl,hf,Jr (j:=a-1) (by omega) (by rw[K'];omega),?_⟩;rw[Js,hg1];exact⟨rfl,rfl⟩
     ·rw[M' h]at hg1;subst hg1;rw[Y6 hf];exact⟨rfl,rfl⟩
   generalize hg2:(if(decide (r=1)&&(R && !L)||decide (r=2)&&(L&&R))=true then g1.set z 2 else g1)=g2 at q;refine acV [some (.ref l),some (.ref f),some (.int (a:Int)),some (.int (z:Int)),some (.int (((z:Int)-(a:Int)) % 3)),some (.str ((df ss)[z]?.getD .dot).str),some (.str ((df ss)[z+1]?.getD .dot).str),some (.bl L),some (.bl R)] (upd H f (.lst (g2.map V.int))) ?_ ?_
   ·refine dS (decide (r=1)&&(R && !L)||decide (r=2)&&(L&&R)) ?_ ?_
    ·refine dS (decide (r=1)&&(R && !L)) ?_ ?_
     ·tm_up;rw[d1];refine aJ (fun h=>?_) (fun h=>?_)
      ·tm_up;refine aJ (fun h2=>?_) (fun h2=>?_)
       ·tm_up;exact bE (by rw[h,h2];rfl)
       ·exact bE (by rw[h,O'.mpr h2];rfl)
      ·exact bE (by rw[O'.mpr h];rfl)
     ·refine aJ (fun h=>bE (by rw[h];rfl)) (fun h=>?_);rw[O'.mpr h,Bool.false_or];refine dS (decide (r=2)&&(L&&R)) ?_ (bE rfl);tm_up;rw[d2];refine aJ (fun h=>?_) (fun h=>?_)
      ·tm_up;refine aJ (fun h2=>?_) (fun h2=>?_)
       ·tm_up;exact bE (by rw[h,h2];rfl)
       ·exact bE (by rw[h,O'.mpr h2];rfl)
      ·exact bE (by rw[O'.mpr h];rfl)
    ·refine aJ (fun h=>?_) (fun h=>?_)
     ·rw[S' h]at hg2;have hp:=hRp (by cases R <;> simp_all);tm_up;refine⟨_,_,_,_,rfl,rfl,ag,Jr (j:=z) rfl (by rw[K'];omega),?_⟩;rw[Js,hg2,iy];exact⟨rfl,rfl⟩
     ·rw[M' h]at hg2;subst hg2;exact⟨rfl,rfl⟩
   refine eX (.bl (decide (r=0)||(decide (r=1)&&(L||R)||decide (r=2)&&(L&&R)))) ?_ q;tm_up;rw[d0];refine aJ (fun h=>bD (by rw[h];rfl)) (fun h=>?_);rw[O'.mpr h,Bool.false_or];refine eX (.bl (decide (r=1)&&(L||R))) ?_ ?_
   ·tm_up;rw[d1];refine aJ (fun h=>?_) (fun h=>bD (by rw[O'.mpr h];rfl));refine eX (.bl (L||R)) ?_ (bD (by rw[h];rfl));tm_up;refine aJ (fun h=>bD (by rw[h];rfl)) (fun h=>?_);tm_up;exact bD (by rw[O'.mpr h];rfl)
   ·refine⟨_,rfl,?_⟩;refine aJ (fun h=>bD (by rw[h];rfl)) (fun h=>?_);rw[O'.mpr h,Bool.false_or];refine eX (.bl (decide (r=2)&&(L&&R))) ?_ (bD rfl);tm_up;rw[d2];refine aJ (fun h=>?_) (fun h=>bD (by rw[O'.mpr h];rfl));tm_up;refine aJ (fun h2=>?_) (fun h2=>?_)
    ·tm_up;exact bD (by rw[h,h2];rfl)
    ·exact bD (by rw[h,O'.mpr h2];rfl)
def Wk (K:Frag):Sp:=fun vs H Q _=>∃(l:Addr)(b:Int)(xs:List V)(ss:List Sg),vs=[.ref l,.int b]/\Ms b/\H l=some (.lst xs)/\we K H xs ss/\ss.length<=5000 /\
 ∀(p f lo:Addr)(ys:List V)(H':Hp),ax H H'->H f=none->H lo=none->f≠lo->H' p=some (.tup [.ref f,.ref lo])->H' f=some (.lst ((j1 b (df ss)).1.map V.int))->H' lo=some (.lst ys)->Prs H' ys (j1 b (df ss)).2->Q (.ref p) H'
theorem Ir (T:Txt K w mg t):bV P w K mg base iw (0+2) t.lD t.DS ["_law_line_here","_law_begin_here"] (Wk K):=by
 have abd:=Wi (P:=P) (base:=base) T;have Wl:=SS (P:=P) (base:=base) T;have adG:=abc (P:=P) (base:=base) T;refine T.ot.ok ig (fun vs H Q E h=>?_) (fun cdv A outer s H vs Q E hr h=>?_)
 ·obtain⟨_,_,_,_,rfl,_⟩:=h;rfl
 ·obtain⟨l,b,xs,ss,rfl,hMs,hS,hg,hn,q⟩:=h;refine aT (af (aH (i:=2) ig.nd rfl (Or.inl rfl) (aC abd (hr.mono (by decide)) rfl T.Wd T.rp.kp T.D0 .nil aO (aa (pv 0) (aa (pv 1) aj)))) (af (aH (i:=3) ig.nd rfl (Or.inl rfl) (aC Wl (hr.mono (by decide)) rfl T.SH T.oq.kp T.yU .nil aO (aa (pv 0) (aa (pv 1) aj)))) (af (aH (i:=4) ig.nd rfl (Or.inl rfl) (cm aj)) (af (aH (i:=5) ig.nd rfl (Or.inl rfl) ah) (af (Dk PassesOwn.never (ar qS (pv 5) (aU (aY.or aZ) rfl T.dQ dF (aa (pv 0) aj)) (av _)) (af (aH (i:=6) ig.nd rfl (Or.inl rfl) (pv 5)) (af (Dk PassesOwn.never (ba (PW.pt (bz (ar qS (pv 6) (aU (aY.or aZ) rfl T.dQ dF (aa (pv 0) aj)) (av _)) (bz (ar (bq.or bp) (aK aE (aK aE (pv 0) (pv 6) (fun _ _=>rfl)) ah (fun _ _=>rfl)) aw rfl) (bH (bZ (aK aE (pv 3) (pv 6) (fun _ _=>rfl)))))))) (ai (aH (i:=6) ig.nd rfl (Or.inl rfl) (aF (aX.or (aD.or a5)) (pv 6) ah)))) (af (gu (aM (ba (PW.pt (bz (ar HH (pv 6) (pv 5) (av _)) (bH (ke (bZ (aC adG (hr.mono (by decide)) rfl T.aa7 T.wu.kp T.JO .nil aO (aa (pv 0) (aa (pv 2) (aa (pv 5) (aa (pv 6) aj))))))))))) (ai (bQ (e8 Zh' Zg' Zf' bf (pv 4) (aa (bT (aa (pv 5) (aa (pv 6) aj))) aj)))) az)) (ai (aH (i:=5) ig.nd rfl (Or.inl rfl) (aU (Vo rfl) rfl T.agD afW (aa (pv 6) (aa (aF (aX.or (aD.or a5)) (pv 5) ah) aj))))))))) (ai (ay (bT (aa (pv 2) (aa (pv 4) aj)))))))))) ?_;tm_up;refine⟨l,b,xs,ss,rfl,hMs,aR.of hS,hg,hn,fun f H1 s1 n1 h1=>?_⟩;tm_up;refine⟨l,b,xs,ss,rfl,aR.of (s1 _ _ hS),hg.same s1,hn,fun th H2 s2 n2 h2=>?_⟩;refine⟨big (by show 0<=1000;omega),fun lo hlo=>?_⟩;have s3:=s2.trans (ax.upd (o:=.lst []) hlo);have ajb:H lo=none:=s1.free (s2.free hlo);have nfl:f≠lo:=aP (s2 _ _ h1) hlo;have ntl:th≠lo:=aP h2 hlo;have ntf:th≠f:=fun e=>by rw[e,h1]at n2;cases n2
  have nlf:l≠f:=aP hS n1;have bl:(iE b (df ss)).length=ss.length:=by rw[yH,K']
  have cnt:(DD b (df ss)).length<=5001:=by
   have:=qZ (jc b (df ss)) 0 0;rw[qY,K']at this;exact Zk' this (by omega)
  tm_up;refine⟨fun mm σ H'=>∃(low:Nat)(v:Option V)(c:RdS)(ys:List V),mm=ss.length-low/\low<=ss.length/\σ=[some (.ref l),some (.int b),some (.ref f),some (.ref th),some (.ref lo),some (.int (low:Int)),v]/\ax H H'/\H' f=some (.lst (c.1.map V.int))/\H' lo=some (.lst ys)/\Prs H' ys c.2/\H' th=some (.lst ((gO b (df ss)).map V.bl))/\c.1.length=ss.length/\c.2.length+(dk low low ((jc b (df ss)).drop low)).length<=5001/\(dk low low ((jc b (df ss)).drop low)).foldl (ki (df ss)) c=j1 b (df ss),
   ⟨_,0,none,(iE b (df ss),[]),[],rfl,X' _,rfl,s1.trans s3,s3 _ _ h1,ag,.nil,by rw[aA ntl];exact h2,bl,by show 0+(DD b (df ss)).length<=5001;omega,rfl⟩,?_⟩
  rintro mm σ H' ⟨low,v,c,ys,rfl,hlow,rfl,s4,hf4,abe,hys,hth,hcl,ajd,Eg⟩;have hl4:=s4 _ _ hS;have hg4:=hg.same s4;tm_up;refine .inl ⟨_,_,rfl,.inl (aR.of hl4),?_⟩;rw[bO hg];tm_up;refine aJ (fun h=>?_) (fun h=>?_)
  ·have hlt:low<ss.length:=by have:=J' h;omega
   refine⟨fun σ' Wm=>∃ m',m'<ss.length-low/\∃(low:Nat)(v:Option V)(c:RdS)(ys:List V),m'=ss.length-low/\low<=ss.length/\σ'=[some (.ref l),some (.int b),some (.ref f),some (.ref th),some (.ref lo),some (.int (low:Int)),v]/\ax H Wm/\Wm f=some (.lst (c.1.map V.int))/\Wm lo=some (.lst ys)/\Prs Wm ys c.2/\Wm th=some (.lst ((gO b (df ss)).map V.bl))/\c.1.length=ss.length/\c.2.length+(dk low low ((jc b (df ss)).drop low)).length<=5001/\(dk low low ((jc b (df ss)).drop low)).foldl (ki (df ss)) c=j1 b (df ss),fun _ _ h=>h,?_⟩;generalize hn':lead ((jc b (df ss)).drop low)=n;have hnle:n<=ss.length-low:=by
    have:=UW ((jc b (df ss)).drop low);rw[length_drop,qY,K',hn']at this;exact this
   tm_up;refine⟨fun mm σ Wm=>∃ j:Nat,mm=n-j/\j<=n/\σ=[some (.ref l),some (.int b),some (.ref f),some (.ref th),some (.ref lo),some (.int (low:Int)),some (.int ((low+j:Nat):Int))]/\Wm=H',⟨n,0,rfl,X' _,rfl,rfl⟩,?_⟩;rintro mm σ Wm ⟨j,rfl,hj,rfl,rfl⟩;have hla:=UY ((jc b (df ss)).drop low) j (by rw[hn'];exact hj);rw[hn',agr]at hla;refine dS (decide (j<n)) ?_ ?_
   ·tm_up;refine .inl ⟨_,_,rfl,.inl (aR.of hl4),?_⟩;rw[bO hg];tm_up;refine aJ (fun h=>?_) (fun h=>?_)
    ·have hjl:low+j<ss.length:=by have:=J' h;omega
     have hk:(df ss)[low+j]? = some (ss[low+j]).1:=DG (C' hjl);obtain⟨tb,ht1,ht2⟩:=UX hMs (df ss) (low+j) _ hk;rw[ht2]at hla;tm_up;refine DM (aR.of hl4) hg4 (n:=low+j) rfl (C' hjl) fun p hp=>?_;tm_up;refine aJ (fun h=>?_) (fun h=>?_)
     ·have h':(ss[low+j]).1.small=true:=by rw[<-wG];exact h
      rw[h',Bool.true_and]at hla;tm_up;refine Ia (aR.of hth) (n:=low+j) rfl (DG ht1) ?_;tm_up;refine bE ?_;cases tb with
      |true=>exact(W' (hla.mpr rfl)).symm
      |false=>exact(Zb' (fun z=>by have:=hla.mp z;cases this)).symm
     ·have h':(ss[low+j]).1.small=false:=by rw[<-wG];exact O'.mpr h
      rw[h',Bool.false_and]at hla;exact bE (Zb' (fun z=>by have:=hla.mp z;cases this)).symm
    ·have hjl:¬ low+j<ss.length:=fun z=>h (W' (by omega));exact bE (Zb' (by omega)).symm
   refine aJ (fun h=>?_) (fun h=>?_)
   ·have hjn:=J' h;refine⟨fun σ' Hx=>∃ m',m'<n-j/\∃ j:Nat,m'=n-j/\j<=n/\σ'=[some (.ref l),some (.int b),some (.ref f),some (.ref th),some (.ref lo),some (.int (low:Int)),some (.int ((low+j:Nat):Int))]/\Hx=Wm,fun _ _ h=>h,?_⟩;tm_up;exact⟨n-(j+1),by omega,j+1,rfl,by omega,rfl,rfl⟩
   ·have hjn:j=n:=by
     have:¬ j<n:=fun z=>h (W' z);omega
    subst hjn;have hrf:=DH ((jc b (df ss)).drop low) low low (by rw[hn'];omega) (A' _);rw[hn',List.drop_drop]at hrf;refine⟨fun σ1 H1=>σ1=[some (.ref l),some (.int b),some (.ref f),some (.ref th),some (.ref lo),some (.int (low:Int)),some (.int ((low+j:Nat):Int))]/\∃(c:RdS)(ys:List V),ax H H1/\H1 f=some (.lst (c.1.map V.int))/\H1 lo=some (.lst ys)/\Prs H1 ys c.2/\H1 th=some (.lst ((gO b (df ss)).map V.bl))/\c.1.length=ss.length/\c.2.length+(dk (low+j) (low+j) ((jc b (df ss)).drop (low+j))).length<=5001/\(dk (low+j) (low+j) ((jc b (df ss)).drop (low+j))).foldl (ki (df ss)) c=j1 b (df ss),?_,?_⟩
    ·by_cases hj0:j=0
     ·subst hj0;refine dS false ?_ ?_
      ·tm_up;rw[Zb' (show ¬((low:Int)<((low+0:Nat):Int)) by omega)];exact bE rfl
      ·exact dA ⟨rfl,c,ys,s4,hf4,abe,hys,hth,hcl,ajd,Eg⟩
     ·have hlt2:low<low+j:=by omega
      rw[S' hlt2,List.singleton_append]at hrf;rw[hrf,List.foldl_cons]at Eg;rw[hrf,Zp']at ajd;have s5:ax H (upd Wm f (.lst ((settle (df ss) c.1 low (low+j)).2.map V.int))):=bC s4 n1;have agJ:upd Wm f (.lst ((settle (df ss) c.1 low (low+j)).2.map V.int)) lo=some (.lst ys):=by rw[aA nfl.symm];exact abe
      have aje:upd Wm f (.lst ((settle (df ss) c.1 low (low+j)).2.map V.int)) th=some (.lst ((gO b (df ss)).map V.bl)):=by rw[aA ntf];exact hth
      have ajf:(settle (df ss) c.1 low (low+j)).2.length=ss.length:=by rw[DE];exact hcl
      refine⟨fun bb H3=>bb = !(settle (df ss) c.1 low (low+j)).1/\H3=upd Wm f (.lst ((settle (df ss) c.1 low (low+j)).2.map V.int)),?_,?_⟩
      ·tm_up;rw[W' (show((low:Int)<((low+j:Nat):Int)) by omega)];refine dj ?_;tm_up;refine⟨l,f,low,low+j,xs,ss,c.1,rfl,aR.of hl4,hg4,nlf,hf4,hcl,hlt2,by omega,?_⟩;tm_up;exact⟨rfl,rfl⟩
      ·rintro bb H3 ⟨rfl,rfl⟩;refine aJ (fun h=>?_) (fun h=>?_)
       ·have hst:(settle (df ss) c.1 low (low+j)).1=false:=by
         cases e:(settle (df ss) c.1 low (low+j)).1
         ·rfl
         ·rw[e]at h;cases h
        tm_up;refine⟨.inl ⟨rfl,_,aR.of agJ⟩,?_⟩;tm_up;refine⟨by show 2<=sizeLine;decide,fun z hz=>?_⟩;have sz:=ax.upd (o:=.tup [.int (low:Int),.int ((low+j:Nat):Int)]) hz;have Wn:=sz _ _ agJ;refine⟨_,_,_,rfl,rfl,Wn,by rw[bO hys];exact hI (by omega),?_⟩;refine⟨rfl,((settle (df ss) c.1 low (low+j)).2,c.2++[(low,low+j)]),_,bC (s5.trans sz) ajb,by rw[aA nfl];exact sz _ _ ag,ag,j0 (Oo Wn (Jq sz (Oo hf4 hys))) (aeO Wn ⟨z,rfl,ag⟩),
         by rw[aA ntl];exact sz _ _ aje,ajf,by simp only [Zj',List.length_singleton];omega,?_⟩
        rw[<-Eg];unfold ki;rw[hst];rfl
       ·have hst:(settle (df ss) c.1 low (low+j)).1=true:=by
         cases e:(settle (df ss) c.1 low (low+j)).1
         ·rw[e]at h;exact j' rfl h
         ·rfl
        refine⟨rfl,((settle (df ss) c.1 low (low+j)).2,c.2),ys,s5,ag,agJ,Oo hf4 hys,aje,ajf,by show c.2.length+_<=5001;omega,?_⟩;rw[<-Eg];unfold ki;rw[hst];rfl
    ·rintro σ1 H1 ⟨rfl,c',ys',s6,hf6,Wn,ajg,ajh,aji,U9,J2⟩;tm_up;refine⟨_,_,rfl,?_⟩
     by_cases hj0:j=0
     ·subst hj0;have hbl:(jc b (df ss))[low]? = some false:=by
       have h1:low<(jc b (df ss)).length:=by rw[qY,K'];exact hlt
       have h2:¬(jc b (df ss))[low+0]? = some true:=fun z=>Nat.lt_irrefl _ (hla.mpr z);rw[Nat.add_zero,C' h1]at h2;rw[C' h1];cases e:(jc b (df ss))[low]
       ·rfl
       ·rw[e]at h2;exact j' rfl h2
      rw[Nat.add_zero,wc hbl]at J2 U9;have er:dk low low (false::(jc b (df ss)).drop (low+1))=dk (low+1) (low+1) ((jc b (df ss)).drop (low+1)):=by
       show(if low<low then [(low,low)] else [])++dk (low+1) (low+1) ((jc b (df ss)).drop (low+1))=_;rw[M' (Nat.lt_irrefl _),nil_append]
      rw[er]at J2 U9;have em:(if(low:Int)+1 > ((low+0:Nat):Int) then(low:Int)+1 else((low+0:Nat):Int))=((low+1:Nat):Int):=by rw[S' (by omega)];rfl
      rw[em];exact⟨ss.length-(low+1),by omega,low+1,_,c',ys',rfl,by omega,rfl,s6,hf6,Wn,ajg,ajh,aji,U9,J2⟩
     ·have em:(if(low:Int)+1 > ((low+j:Nat):Int) then(low:Int)+1 else((low+j:Nat):Int))=((low+j:Nat):Int):=by
       split <;> omega
      rw[em];exact⟨ss.length-(low+j),by omega,low+j,_,c',ys',rfl,by omega,rfl,s6,hf6,Wn,ajg,ajh,aji,U9,J2⟩
  ·have hlt:low=ss.length:=by
    have:¬ low<ss.length:=fun z=>h (W' (by omega));omega
   subst hlt;rw[List.drop_eq_nil_of_le (by rw[qY,K'];exact A' _)]at Eg;have e:c=j1 b (df ss):=by
    have:dk ss.length ss.length []=[]:=by unfold dk;rw[M' (Nat.lt_irrefl _)]
    rw[this]at Eg;exact Eg
   subst e;tm_up;refine⟨by show 2<=sizeLine;decide,fun z hz=>?_⟩;have sz:=ax.upd (o:=.tup [.ref f,.ref lo]) hz;exact q z f lo ys _ (s4.trans sz) n1 ajb nfl ag (sz _ _ hf4) (sz _ _ abe) (Jq sz hys)
def Mr (K:Frag):Sp:=fun vs H Q _=>∃(l:Addr)(b:Int)(xs:List V)(ss:List Sg),vs=[.ref l,.int b]/\Ms b/\H l=some (.lst xs)/\VQ H xs ss/\ss.length<=400 /\
 ∀(l2:Addr)(Gq:List V)(Gr:List Sg)(H':Hp),ax H H'->(l2=l\/H l2=none)->H' l2=some (.lst Gq)->VQ H' Gq Gr->Gr.length<=ss.length->(∀ s∈Gr,s∈ss)->(j1 b (df Gr)).2=[]->Q (.ref l2) H'
theorem adH (ks:List Kd)(rs:List (Nat×Nat))(c:RdS)(n:Nat)(h1:∀ p∈rs,p.1<p.2/\p.2<=n)(h2:∀ p∈c.2,p.1<p.2/\p.2<=n):∀ p∈(rs.foldl (ki ks) c).2,p.1<p.2/\p.2<=n:=by
 induction rs generalizing c with
 |nil=>exact h2
 |cons r t ih =>
  refine ih _ (fun p hp=>h1 p (Zl' _ hp)) fun p hp=>?_;unfold ki at hp;dsimp only at hp;split at hp
  ·exact h2 p hp
  ·rcases Zq'.mp hp with z|z
   ·exact h2 p z
   ·have:p=r:=by simpa using z
    rw[this];exact h1 r mem_cons_self
theorem abf (m:Int)(ks:List Kd):∀ p∈(j1 m ks).2,p.1<p.2/\p.2<=ks.length:=adH _ _ _ _ (Y5 m ks) (fun p hp=>by cases hp)
theorem Wo (ks:List Kd)(rs:List (Nat×Nat))(c:RdS)(h2:∀ p∈c.2,(p.2-p.1) % 3≠0):∀ p∈(rs.foldl (ki ks) c).2,(p.2-p.1) % 3≠0:=by
 induction rs generalizing c with
 |nil=>exact h2
 |cons r t ih =>
  refine ih _ fun p hp=>?_;unfold ki at hp;dsimp only at hp;split at hp
  ·exact h2 p hp
  ·rename_i hs
   rcases Zq'.mp hp with z|z
   ·exact h2 p z
   ·have:p=r:=by simpa using z
    rw[this];intro e;apply hs;unfold settle;rw[M' (by omega),M' (by omega)]
theorem Wq (m:Int)(ks:List Kd):∀ p∈(j1 m ks).2,(p.2-p.1) % 3≠0:=Wo _ _ _ (fun p hp=>by cases hp)
theorem Mt (T:Txt K w mg t):bV P w K mg base iw (0+3) t.gR t.um ["_law_line_here","_law_begin_here"] (Mr K):=by
 have Eh:=Ir (P:=P) (base:=base) T;refine T.lQ.ok ij (fun vs H Q E h=>?_) (fun cdv A outer s H vs Q E hr h=>?_)
 ·obtain⟨_,_,_,_,rfl,_⟩:=h;rfl
 ·obtain⟨l,b,xs,ss,rfl,hMs,hS,hg,hn,q⟩:=h;have p62:(2:Int) ^ 62=4611686018427387904:=by decide
  refine aT (af (cj PassesOwn.never rfl (g9 rfl T.j9 (aa (aF (aX.or (aD.or a5)) (aU (aY.or aZ) rfl T.dQ dF (aa (pv 0) aj)) ah) aj)) (aG (i:=2) ij.nd rfl (Or.inl rfl)) (af (aH (i:=3) ij.nd rfl (Or.inl rfl) (aK aE (aC Eh (hr.mono (by decide)) rfl T.Ip T.ot.kp T.wx .nil aO (aa (pv 0) (aa (pv 1) aj))) ah (fun _ _=>rfl))) (af (aM (ar (Ji (au hr)) (pv 3) (cm aj) (av _)) (ai (ay (pv 0))) az) (af (lx (aK aE (pv 3) ah (fun _ _=>rfl)) (dC rfl (aN (aG (i:=4) ij.nd rfl (Or.inl rfl)) (aN (aG (i:=5) ij.nd rfl (Or.inl rfl)) cK)))) (ai (aH (i:=0) ij.nd rfl (Or.inl rfl) (aF (aX.or (aD.or a5)) (vM (C2.or (IU.or Jd)) (pv 0) C0 (C1 (aF iB (pv 5) (aF bF (aF iB (pv 5) (pv 4)) ah)))) (vM (C2.or (IU.or Jd)) (pv 0) (C1 (pv 5)) C0)))))))) (ai (ay (pv 0)))) ?_;tm_up;refine .inl ⟨_,_,rfl,.inl (aR.of hS),?_⟩;rw[bO hg];tm_up;refine⟨by rw[p62];omega,by rw[p62];omega,?_⟩;refine kU (n:=((ss.length:Int)+1).toNat) (fun i σ H'=>∃(l2:Addr)(Gq:List V)(Gr:List Sg)(u v w z:Option V),σ=[some (.ref l2),some (.int b),u,v,w,z]/\ax H H'/\(l2=l\/H l2=none)/\H' l2=some (.lst Gq)/\VQ H' Gq Gr/\Gr.length+i<=ss.length/\∀ s∈Gr,s∈ss)
   ⟨l,xs,ss,none,none,none,none,rfl,ax.refl _,.inl rfl,hS,hg,A' _,fun _ h=>h⟩ ?_ ?_
  ·rintro i σ H' hi ⟨l2,Gq,Gr,u,v,w,z,rfl,s2,hl2,h2,g2,agK,adI⟩;tm_up;refine⟨l2,b,Gq,Gr,rfl,hMs,h2,we.of g2,by omega,fun p f lo ys H3 s3 _ nlo _ hp _ hlo hpr=>?_⟩;tm_up;refine⟨big (by show 0<=1000;omega),fun e he=>?_⟩;have se:=ax.upd (o:=.lst []) he;refine⟨_,_,ys,rfl,rfl,aR.of (se _ _ hlo),aR.of ag,?_⟩;have s4:=s3.trans se;refine⟨_,rfl,?_⟩;generalize upd H3 e (.lst [])=H4 at se s4;have abe:=se _ _ hlo;have adJ:=Jq se hpr;have h24:=s4 _ _ h2;have g24:=g2.same s4;cases hR:(j1 b (df Gr)).2 with
   |nil =>
    rw[hR]at adJ;cases adJ;refine dj ?_;tm_up;exact q l2 Gq Gr _ (s2.trans s4) hl2 h24 g24 (by omega) adI hR
   |cons r t =>
    have hin:=abf b (df Gr) r (by rw[hR];exact mem_cons_self);have hmd:=Wq b (df Gr) r (by rw[hR];exact mem_cons_self);rw[K']at hin;rw[hR]at adJ
    match ys,adJ with
    |_::_,.cons ⟨pr,e1,amu⟩ hrest =>
     subst e1;refine dA ?_;tm_up;refine Ia (aR.of abe) (n:=0) rfl rfl ?_;refine⟨pr,_,rfl,dz.of amu,rfl,_,_,rfl,_,_,rfl,rfl,?_⟩;tm_up;refine .inl ⟨l2,Gq,rfl,aR.of h24,fun c1 hc1=>?_⟩;have em:(r.2:Int)-((r.2:Int)-(r.1:Int)) % 3=((r.2-(r.2-r.1) % 3:Nat):Int):=by omega
     rw[em,aeP];have sc1:=ax.upd (o:=.lst (Gq.take (r.2-(r.2-r.1) % 3))) hc1;tm_up;refine .inl ⟨l2,Gq,rfl,aR.of (sc1 _ _ h24),fun c2 hc2=>?_⟩;rw[adb Gq r.2 (by rw[bO g2];exact hin.2)];have sc2:=ax.upd (o:=.lst (Gq.drop r.2)) hc2;have hle:(Gq.take (r.2-(r.2-r.1) % 3)).length+(Gq.drop r.2).length<Gq.length:=by
      rw[Zn',length_drop,bO g2];omega
     refine .inr (.inr ⟨c1,c2,_,_,rfl,rfl,sc2 _ _ ag,ag,?_,fun c3 hc3=>?_⟩)
     ·have:=bO g2;exact big (by omega)
     ·have sc3:=ax.upd (o:=.lst (Gq.take (r.2-(r.2-r.1) % 3)++Gq.drop r.2)) hc3;have s5:=s4.trans ((sc1.trans sc2).trans sc3);refine⟨c3,_,Gr.take (r.2-(r.2-r.1) % 3)++Gr.drop r.2,_,_,_,_,rfl,s2.trans s5,.inr (s2.free (s4.free ((sc1.trans sc2).free hc3))),ag,aij (UU _ (g2.same s5)) (aeL _ (g2.same s5)),?_,fun s hs=>?_⟩
      ·rw[Zj',Zn',length_drop];omega
      ·rcases Zq'.mp hs with z|z
       ·exact adI s (List.mem_of_mem_take z)
       ·exact adI s (List.mem_of_mem_drop z)
  ·rintro σ H' ⟨l2,Gq,Gr,u,v,w,z,rfl,s2,hl2,h2,g2,agK,adI⟩;have:((ss.length:Int)+1).toNat=ss.length+1:=by omega
   rw[this]at agK;exact j' agK (by omega)
theorem afb (k:Kd):tN k.str "Rr"=(decide (k=.R)||decide (k=.r)):=by cases k <;> decide +kernel
def Mu (K:Frag):Sp:=fun vs H Q _=>∃(l:Addr)(b:Int)(xs:List V)(ss:List Sg),vs=[.ref l,.int b]/\Ms b/\H l=some (.lst xs)/\we K H xs ss/\ss.length<=5000 /\
 ∀(f:Addr)(ys:List V)(H':Hp),ax H H'->H f=none->H' f=some (.lst ys)->uf H' ys (iG ss (j1 b (df ss)).1)->Q (.ref f) H'
theorem Mw (T:Txt K w mg t):bV P w K mg base iw (0+3) t.gS t.uo ["_law_line_here","_law_begin_here"] (Mu K):=by
 have Eh:=Ir (P:=P) (base:=base) T;refine T.lR.ok m8 (fun vs H Q E h=>?_) (fun cdv A outer s H vs Q E hr h=>?_)
 ·obtain⟨_,_,_,_,rfl,_⟩:=h;rfl
 ·obtain⟨l,b,xs,ss,rfl,hMs,hS,hg,hn,q⟩:=h;refine aT (af (aH (i:=2) m8.nd rfl (Or.inl rfl) (cm aj)) (af (cj PassesOwn.never rfl (af2 rfl T.agG (pv 0) (aK aE (aC Eh (hr.mono (by decide)) rfl T.Ip T.ot.kp T.wx .nil aO (aa (pv 0) (aa (pv 1) aj))) ah (fun _ _=>rfl))) (dC rfl (aN (aG (i:=3) m8.nd rfl (Or.inl rfl)) (aN (aG (i:=4) m8.nd rfl (Or.inl rfl)) cK))) (ai (aM (ar (bq.or bp) (aK aE (pv 3) ah (fun _ _=>rfl)) aw rfl) (ai (bQ (e8 Zh' Zg' Zf' bf (pv 2) (aa (bT (aa (aK aE (pv 3) ah (fun _ _=>rfl)) (aa (pv 4) aj))) aj)))) (ai (aM (ar (bq.or bp) (aK aE (pv 3) ah (fun _ _=>rfl)) aw rfl) (ai (bQ (e8 Zh' Zg' Zf' bf (pv 2) (aa (bT (aa (Az qR ah) (aa (pv 4) aj))) aj)))) az))))) (ai (ay (pv 2))))) ?_;refine⟨big (by show 0<=1000;omega),fun D hD=>?_⟩;have s0:=ax.upd (o:=.lst []) hD;tm_up;refine⟨l,b,xs,ss,rfl,hMs,s0 _ _ hS,hg.same s0,hn,fun pp f lo yl H1 s1 nf _ _ hpp h1 _ _=>?_⟩;have hD1:H1 D=some (.lst []):=s1 _ _ ag;have s01:=s0.trans s1;tm_up;refine⟨⟨_,aR.of (s01 _ _ hS)⟩,⟨_,aR.of h1⟩,?_⟩;have wl:(j1 b (df ss)).1.length=ss.length:=by rw[VR,K']
  generalize hW:(j1 b (df ss)).1=W at h1 wl;rw[hW]at q;have nDf:f≠D:=fun e=>by rw[e,ag]at nf;cases nf
  refine acU (K:=K) (xs:=xs) (ys:=W.map V.int) (fun i σ H'=>∃(u v:Option V)(zs:List V)(qs:List (Int×Int)),σ=[some (.ref l),some (.int b),some (.ref D),u,v]/\ax H H'/\H' D=some (.lst zs)/\H' f=some (.lst (W.map V.int))/\uf H' zs qs/\qs++iG (ss.drop i) (W.drop i)=iG ss W)
   (by rw[K',wl];exact bO hg) ⟨none,none,[],[],rfl,s01,hD1,h1,.nil,rfl⟩ ?_ ?_ ?_
  ·rintro i σ H' ⟨u,v,zs,qs,rfl,s2,_,hf2,_⟩;exact⟨aR.of (s2 _ _ hS),aR.of hf2⟩
  ·rintro i x y t σ H' hx hy ⟨u,v,zs,qs,rfl,s2,hDl,hf2,pq,hm⟩ ht;obtain⟨s,hs,p,rfl,hp⟩:=dq hg hx;obtain⟨w,hw,rfl⟩:=Y3 hy;rw[wc hs,wc hw]at hm;simp only [iG]at hm;have sT:ax H' (upd H' t (.tup [.ref p,.int w])):=ax.upd ht;have hp2:=hp.same (s2.trans sT);have hD2:=sT _ _ hDl;have hf3:=sT _ _ hf2;have pq2:=fc sT pq;refine⟨t,_,rfl,dz.of ag,rfl,_,_,rfl,_,_,rfl,rfl,?_⟩;generalize upd H' t (.tup [.ref p,.int w])=H3 at sT hp2 hD2 pq2 hf3;have s3:=s2.trans sT;have zl:zs.length<sizeLine:=by
    rw[bO pq];have h1:=Ya' List.length hm;have h2:=yI ss W;simp only [Zj']at h1;exact hI (by omega)
   have fin:∀ n:Int,s.1.parting=false->n=DL s->∀ z,H3 z=none->∃(u v:Option V)(qP:List V)(qs':List (Int×Int)),[some (V.ref l),some (V.int b),some (V.ref D),some (V.ref p),some (V.int w)]=[some (.ref l),some (.int b),some (.ref D),u,v]/\ax H (upd (upd H3 z (.tup [.int n,.int w])) D (.lst (zs++[V.ref z])))/\(upd (upd H3 z (.tup [.int n,.int w])) D (.lst (zs++[V.ref z]))) D=some (.lst qP)/\(upd (upd H3 z (.tup [.int n,.int w])) D (.lst (zs++[V.ref z]))) f=some (.lst (W.map V.int))/\uf (upd (upd H3 z (.tup [.int n,.int w])) D (.lst (zs++[V.ref z]))) qP qs'/\qs'++iG (ss.drop (i+1)) (W.drop (i+1))=iG ss W:=by
    intro n hpt hnn z hz;have sz:=ax.upd (o:=.tup [.int n,.int w]) hz;have hD4:=sz _ _ hD2;rw[hpt]at hm;refine⟨_,_,_,qs++[(n,w)],rfl,bC (s3.trans sz) hD,ag,by rw[aA nDf];exact sz _ _ hf3,j0 (UZ hD4 (fc sz pq2)) (Ou hD4 ⟨z,rfl,ag⟩),?_⟩;rw[List.append_assoc,hnn];exact hm
   tm_up;refine aJ (fun h=>?_) (fun h=>?_)
   ·have h':s.1.kh=true:=by rw[<-Ii];exact h
    tm_up;refine⟨.inl ⟨rfl,_,aR.of hD2⟩,?_⟩;tm_up;refine⟨by show 2<=sizeLine;decide,fun z hz=>?_⟩;have sz:=ax.upd (o:=.tup [.int s.2,.int w]) hz;refine⟨_,_,_,rfl,rfl,sz _ _ hD2,zl,fin s.2 ?_ ?_ z hz⟩
    ·revert h';cases s.1 <;> decide
    ·unfold DL;rw[S' h']
   ·have h':s.1.kh=false:=by rw[<-Ii];exact O'.mpr h
    tm_up;refine aJ (fun h2=>?_) (fun h2=>?_)
    ·have h2':(decide (s.1=.R)||decide (s.1=.r))=true:=by rw[<-afb];exact h2
     tm_up;refine⟨.inl ⟨rfl,_,aR.of hD2⟩,?_⟩;tm_up;refine⟨by show 2<=sizeLine;decide,fun z hz=>?_⟩;have sz:=ax.upd (o:=.tup [.int (-1),.int w]) hz;refine⟨_,_,_,rfl,rfl,sz _ _ hD2,zl,fin (-1) ?_ ?_ z hz⟩
     ·revert h2';cases s.1 <;> decide
     ·unfold DL;rw[h'];rfl
    ·have h2':¬(decide (s.1=.R)||decide (s.1=.r))=true:=by rw[<-afb];exact h2
     have hpt:s.1.parting=true:=by
      revert h' h2'
      cases s.1 <;> decide
     rw[hpt]at hm;exact⟨_,_,zs,qs,rfl,s3,hD2,hf3,pq2,hm⟩
  ·rintro σ H' ⟨u,v,zs,qs,rfl,s2,hDl,hf2,pq,hm⟩;rw[bO hg,List.drop_length]at hm;have e:qs=iG ss W:=by
    rw[<-hm];simp[iG]
   subst e;tm_up;exact q D zs H' s2 hD hDl pq
def Wr:Sp:=fun vs H Q _=>∃(z:Str)(k:Kd)(n:Int)(l c e:Nat),vs=[.str z,.str k.str,.int n]/\z.cps.toList=[51,l,c,e]/\z.length<=4/\Q (.str (shS z k.str n)) H
theorem Ws (T:Txt K w mg t):bV P w K mg base iw (0+1) t.lE t.DT ["_law_state","_law_kind","_law_worth"] Wr:=by
 refine T.rq.ok Il (fun vs H Q E h=>?_) (fun cdv A outer s H vs Q E hr h=>?_)
 ·obtain⟨_,_,_,_,_,_,rfl,_⟩:=h;rfl
 ·obtain⟨z,k,n,l,c,e,rfl,hz,hl,q⟩:=h;have hl':z.length<=sizeLine:=nr (by omega);refine aT (af (aH (i:=3) Il.nd rfl (Or.inl rfl) (bB (kf (bj (aI.or (aB (au hr))) (pv 1) aw (av _)) (jg (bj (aI.or (aB (au hr))) (pv 2) ah (av _)))))) (af (aM (ar (aI.or (aB (au hr))) (aK aE (pv 0) ah (fun _ _=>rfl)) aw (av _)) (ai (ay (bB (bA (ba (PW.pt (iz (ar (aI.or (aB (au hr))) (aK aE (pv 0) ah (fun _ _=>rfl)) aw (av _)) (eY (ba (PW.pt (bz (ar (aI.or (aB (au hr))) (aK aE (pv 0) ah (fun _ _=>rfl)) aw (av _)) (bH (ar (bq.or bp) (pv 1) aw rfl))))))))) aw aw)))) az) (af (aM (ar (aI.or (aB (au hr))) (aK aE (pv 0) ah (fun _ _=>rfl)) aw (av _)) (af (aM (ba (PW.pt (bz (ar (aI.or (aB (au hr))) (aK aE (pv 0) ah (fun _ _=>rfl)) aw (av _)) (bH (bZ (pv 3)))))) (ai (ay aw)) az) (ai (ay (bB (bA (ar (aI.or (aB (au hr))) (aK aE (pv 0) ah (fun _ _=>rfl)) aw (av _)) aw aw))))) az) (af (aM (ba (PW.pt (iz (ar (bq.or bp) (pv 1) aw rfl) (eY (ar (aI.or (aB (au hr))) (aK aE (pv 0) ah (fun _ _=>rfl)) aw (av _)))))) (ai (ay aw)) az) (af (aM (ar (aI.or (aB (au hr))) (aK aE (pv 0) ah (fun _ _=>rfl)) aw (av _)) (ai (ay (bB (bA (ar (aI.or (aB (au hr))) (aK aE (pv 0) ah (fun _ _=>rfl)) aw (av _)) aw aw)))) az) (ai (ay (bB (bA (ba (PW.pt (bz (ar (aI.or (aB (au hr))) (aK aE (pv 0) ah (fun _ _=>rfl)) aw (av _)) (bH (bZ (pv 3)))))) aw aw))))))))) ?_;have e3:z.cps.toList.getD 3 0=e:=by rw[hz];rfl
  have e2:z.cps.toList.getD 2 0=c:=by rw[hz];rfl
  have e1:z.cps.toList.getD 1 0=l:=by rw[hz];rfl
  unfold shS at q;rw[e1,e2,e3]at q;dsimp only at q;refine eX (.bl (decide (k.str = "G")&&decide (n=2))) ?_ ?_
  ·tm_up;rw[j2];cases decide (k.str = "G") with
   |false=>exact bD rfl
   |true =>
    refine dj ?_;tm_up;rw[intD];exact bD rfl
  tm_up;refine .inr (.inr ⟨_,_,c,rfl,rfl,hl',by rw[hz];rfl,?_⟩);tm_up;rw[b3 c 48 (by lk)];refine aJ (fun h=>?_) (fun h=>?_)
  ·rw[S' h]at q;refine eX (.str (if(decide (l=104)||(decide (l=116)&&tN k.str "GDR"))=true then "" else "g")) ?_ q;refine dS (decide (l=104)||(decide (l=116)&&tN k.str "GDR")) ?_ ?_
   ·tm_up;refine .inr (.inr ⟨_,_,l,rfl,rfl,hl',by rw[hz];rfl,?_⟩);tm_up;rw[b3 l 104 (by lk)];cases decide (l=104) with
    |true=>exact bE rfl
    |false =>
     refine dA ?_;refine dS (decide (l=116)&&tN k.str "GDR") ?_ (bE rfl);tm_up;refine .inr (.inr ⟨_,_,l,rfl,rfl,hl',by rw[hz];rfl,?_⟩);tm_up;rw[b3 l 116 (by lk)];cases decide (l=116) with
     |false=>exact bE rfl
     |true =>
      refine dj ?_;tm_up;exact bE rfl
   refine aJ (fun h=>?_) (fun h=>?_)
   ·tm_up;exact bD (by rw[S' h] <;> rfl)
   ·tm_up;exact bD (by rw[M' h])
  rw[M' h]at q;tm_up;refine .inr (.inr ⟨_,_,c,rfl,rfl,hl',by rw[hz];rfl,?_⟩);tm_up;rw[b3 c 49 (by lk)];refine aJ (fun h=>?_) (fun h=>?_)
  ·rw[S' h]at q;refine dS (decide (l=110)&&(decide (k.str = "G")&&decide (n=2))) ?_ ?_
   ·tm_up;refine .inr (.inr ⟨_,_,l,rfl,rfl,hl',by rw[hz];rfl,?_⟩);tm_up;rw[b3 l 110 (by lk)];cases decide (l=110) with
    |false=>exact bE rfl
    |true =>
     refine dj ?_;tm_up;exact bE rfl
   refine aJ (fun h=>?_) (fun h=>?_)
   ·rw[S' h]at q;tm_up;exact q
   rw[M' h]at q;refine eX (.str (if decide (l=104)=true then "g" else "")) ?_ q;tm_up;refine .inr (.inr ⟨_,_,l,rfl,rfl,hl',by rw[hz];rfl,?_⟩);tm_up;rw[b3 l 104 (by lk)];refine aJ (fun h=>?_) (fun h=>?_)
   ·tm_up;exact bD (by rw[S' h])
   ·tm_up;exact bD (by rw[M' h] <;> rfl)
  rw[M' h]at q;refine dS (tN k.str ".32" || decide (e=115)) ?_ ?_
  ·tm_up;refine aJ (fun h=>?_) (fun h=>?_)
   ·have h:tN k.str ".32" = true:=h;exact bE (by rw[h];rfl)
   ·have h:¬ tN k.str ".32" = true:=h;tm_up;refine .inr (.inr ⟨_,_,e,rfl,rfl,hl',by rw[hz];rfl,?_⟩);tm_up;rw[b3 e 115 (by lk)];exact bE (by rw[O'.mpr h];rfl)
  refine aJ (fun h=>?_) (fun h=>?_)
  ·rw[S' h]at q;tm_up;exact q
  rw[M' h]at q;tm_up;refine .inr (.inr ⟨_,_,e,rfl,rfl,hl',by rw[hz];rfl,?_⟩);tm_up;rw[b3 e 83 (by lk)];refine aJ (fun h=>?_) (fun h=>?_)
  ·rw[S' h]at q;refine eX (.str (if decide (l=104)=true then "" else "g")) ?_ q;tm_up;refine .inr (.inr ⟨_,_,l,rfl,rfl,hl',by rw[hz];rfl,?_⟩);tm_up;rw[b3 l 104 (by lk)];refine aJ (fun h=>?_) (fun h=>?_)
   ·tm_up;exact bD (by rw[S' h] <;> rfl)
   ·tm_up;exact bD (by rw[M' h])
  rw[M' h]at q;refine eX (.str (if(decide (l=104)&&(decide (k.str = "G")&&decide (n=2)))=true then "t" else "")) ?_ q;refine dS (decide (l=104)&&(decide (k.str = "G")&&decide (n=2))) ?_ ?_
  ·tm_up;refine .inr (.inr ⟨_,_,l,rfl,rfl,hl',by rw[hz];rfl,?_⟩);tm_up;rw[b3 l 104 (by lk)];cases decide (l=104) with
   |false=>exact bE rfl
   |true =>
    refine dj ?_;tm_up;exact bE rfl
  refine aJ (fun h=>?_) (fun h=>?_)
  ·tm_up;exact bD (by rw[S' h])
  ·tm_up;exact bD (by rw[M' h] <;> rfl)
def Gs:Sp:=fun vs H Q _=>∃(z:Str)(k:Kd)(n:Int),vs=[.str z,.str k.str,.int n]/\Q (l2S z k.str n) H
theorem Gu (T:Txt K w mg t):bV P w K mg base iw (0+1) t.dW t.pJ ["_law_state","_law_kind","_law_worth"] Gs:=by
 refine T.iL.ok F6 (fun vs H Q E h=>?_) (fun cdv A outer s H vs Q E hr h=>?_)
 ·obtain⟨_,_,_,rfl,_⟩:=h;rfl
 ·obtain⟨z,k,n,rfl,q⟩:=h;refine aT (af (aM (ba (PW.pt (iz (ar (aI.or (aB (au hr))) (pv 0) aw (av _)) (eY (ar (aI.or (aB (au hr))) (pv 1) aw (av _)))))) (ai (ay (bB (bA (ba (PW.pt (bz (ar (aI.or (aB (au hr))) (pv 1) aw (av _)) (bz (ar (aI.or (aB (au hr))) (pv 2) ah (av _)) (bH (ar (jY.or (e9 (au hr))) (pv 0) aw (av _))))))) aw bL)))) az) (af (aM (ar (bq.or bp) (pv 1) aw rfl) (ai (ay (bB (bA (ar (jY.or (e9 (au hr))) (pv 2) ah (av _)) bL (bB (bA (ar (aI.or (aB (au hr))) (pv 1) aw (av _)) aw aw)))))) az) (af (aM (ar (bq.or bp) (pv 1) aw rfl) (ai (ay (bB (bA (ar (aI.or (aB (au hr))) (pv 2) ah (av _)) aw bL)))) az) (af (aM (ba (PW.pt (bz (ar (aI.or (aB (au hr))) (pv 1) aw (av _)) (bH (ar (aI.or (aB (au hr))) (pv 2) ah (av _)))))) (ai (ay aw)) az) (af (aM (ar (jY.or (e9 (au hr))) (pv 2) ah (av _)) (ai (ay bL)) az) (ai (ay (bB (bA (ar (aI.or (aB (au hr))) (pv 1) aw (av _)) aw aw))))))))) ?_;unfold l2S at q;refine dS (decide (z = "2G")||decide (k.str = ".")) ?_ ?_
  ·tm_up;rw[j2];cases decide (z = "2G") with
   |true=>exact bE rfl
   |false =>
    refine dA ?_;tm_up;rw[j2];exact bE rfl
  refine aJ (fun h=>?_) (fun h=>?_)
  ·rw[S' h]at q;refine eX (if(decide (k.str = ".")&&(decide (n=0) && !decide (z = "2g")))=true then .str "2-" else .non) ?_ q;refine dS (decide (k.str = ".")&&(decide (n=0) && !decide (z = "2g"))) ?_ ?_
   ·tm_up;rw[j2];cases decide (k.str = ".") with
    |false=>exact bE rfl
    |true =>
     refine dj ?_;tm_up;rw[intD];cases decide (n=0) with
     |false=>exact bE rfl
     |true =>
      refine dj ?_;tm_up;rw[j2];exact bE rfl
   refine aJ (fun h=>?_) (fun h=>?_)
   ·tm_up;exact bD (by rw[S' h])
   ·tm_up;exact bD (by rw[M' h])
  rw[M' h]at q;tm_up;refine aJ (fun h=>?_) (fun h=>?_)
  ·have h:tN k.str "32"=true:=h;rw[S' h]at q;refine eX (if(!decide (n=0))=true then .non else if decide (k.str = "3")=true then .str "3n0-" else .str "2-") ?_ q;tm_up;rw[intD];refine aJ (fun h=>?_) (fun h=>?_)
   ·tm_up;exact bD (by rw[S' h])
   refine eX (if decide (k.str = "3")=true then .str "3n0-" else .str "2-") ?_ (bD (by rw[M' h]));tm_up;rw[j2];refine aJ (fun h=>?_) (fun h=>?_)
   ·tm_up;exact bD (by rw[S' h])
   ·tm_up;exact bD (by rw[M' h])
  have h:¬ tN k.str "32"=true:=h;rw[M' h]at q;tm_up;refine aJ (fun h=>?_) (fun h=>?_)
  ·have h:tN k.str "sdr"=true:=h;rw[S' h]at q;refine eX (if decide (n=1)=true then .str "2-" else .non) ?_ q;tm_up;rw[intD];refine aJ (fun h=>?_) (fun h=>?_)
   ·tm_up;exact bD (by rw[S' h])
   ·tm_up;exact bD (by rw[M' h])
  have h:¬ tN k.str "sdr"=true:=h;rw[M' h]at q;tm_up;refine dS (decide (k.str = "G")&&decide (n=3)) ?_ ?_
  ·tm_up;rw[j2];cases decide (k.str = "G") with
   |false=>exact bE rfl
   |true =>
    refine dj ?_;tm_up;rw[intD];exact bE rfl
  refine aJ (fun h=>?_) (fun h=>?_)
  ·rw[S' h]at q;tm_up;exact q
  rw[M' h]at q;tm_up;rw[intD];refine aJ (fun h=>?_) (fun h=>?_)
  ·rw[S' h]at q;tm_up;exact q
  rw[M' h]at q;refine eX (if decide (k.str = "G")=true then .str "2g" else .str "2-") ?_ q;tm_up;rw[j2];refine aJ (fun h=>?_) (fun h=>?_)
  ·tm_up;exact bD (by rw[S' h])
  ·tm_up;exact bD (by rw[M' h])
def J3:Sp:=fun vs H Q _=>∃(z:Str)(k:Kd)(n:Int),vs=[.str z,.str k.str,.int n]/\z∈ST/\Q (lbS z k.str n) H
theorem J4 (T:Txt K w mg t):bV P w K mg base iw (0+2) t.fk t.rf ["_law_state","_law_kind","_law_worth"] J3:=by
 have abg:=Ws (P:=P) (base:=base) T;have J5:=Gu (P:=P) (base:=base) T;refine T.j5.ok kT (fun vs H Q E h=>?_) (fun cdv A outer s H vs Q E hr h=>?_)
 ·obtain⟨_,_,_,rfl,_⟩:=h;rfl
 ·obtain⟨z,k,n,rfl,hS,q⟩:=h;have hl:=Dc hS;have hl':z.length<=sizeLine:=nr (by omega);obtain⟨d0,r0,h0⟩:=Y7 hS;refine aT (af (aM (ar (aI.or (aB (au hr))) (aK aE (pv 0) ah (fun _ _=>rfl)) aw (av _)) (ai (ay (aC J5 (hr.mono (by decide)) rfl T.Gb T.iL.kp T.pR .nil aO (aa (pv 0) (aa (pv 1) (aa (pv 2) aj)))))) az) (af (aM (ba (PW.pt (bz (ar (bq.or bp) (pv 1) aw rfl) (bH (ar (aI.or (aB (au hr))) (aK aE (pv 0) ah (fun _ _=>rfl)) aw (av _)))))) (ai (ay bL)) az) (af (aM (ar (bq.or bp) (pv 1) aw rfl) (af (aH (i:=3) kT.nd rfl (Or.inl rfl) (bB (bA (ar (aI.or (aB (au hr))) (aK aE (pv 0) ah (fun _ _=>rfl)) aw (av _)) aw (aK aE (pv 0) ah (fun _ _=>rfl))))) (af (aH (i:=4) kT.nd rfl (Or.inl rfl) (aF bF (aF (aX.or (aD.or a5)) (b8 (kW.or eN) rfl T.y4 yB (aa (aK aE (pv 0) ah (fun _ _=>rfl)) aj)) ah) ah)) (af (aM (ba (PW.pt (bz (ar (aI.or (aB (au hr))) (pv 2) ah (av _)) (bz (ar (aI.or (aB (au hr))) (pv 1) aw (av _)) (bH (ar (aI.or (aB (au hr))) (pv 4) ah (av _))))))) (ai (ay (aF (aX.or (aD.or a5)) (aF (aX.or (aD.or a5)) aw (pv 3)) aw))) az) (ai (ay (bB (bA (ar (aI.or (aB (au hr))) (pv 2) ah (av _)) (aF (aX.or (aD.or a5)) (aF (aX.or (aD.or a5)) (aF (aX.or (aD.or a5)) aw (pv 3)) (b8 IT rfl T.agF afY (aa (pv 4) aj))) (bB (bA (ar (aI.or (aB (au hr))) (pv 1) aw (av _)) aw aw))) bL))))))) az) (af (aH (i:=5) kT.nd rfl (Or.inl rfl) (aC abg (hr.mono (by decide)) rfl T.We T.rq.kp T.D1 .nil aO (aa (pv 0) (aa (pv 1) (aa (pv 2) aj))))) (af (aM (ar (aI.or (aB (au hr))) (pv 5) aw (av _)) (ai (ay bL)) az) (af (aM (ar (bq.or bp) (pv 1) aw rfl) (ai (ay (bB (bA (ar (jY.or (e9 (au hr))) (pv 2) ah (av _)) bL (bB (bA (ar (aI.or (aB (au hr))) (pv 1) aw (av _)) aw aw)))))) az) (af (aM (ba (PW.pt (iz (ar (aI.or (aB (au hr))) (pv 1) aw (av _)) (eY (ar (aI.or (aB (au hr))) (pv 1) aw (av _)))))) (ai (ay (bB (bA (ar (aI.or (aB (au hr))) (pv 2) (aF (aX.or (aD.or a5)) (b8 (kW.or eN) rfl T.y4 yB (aa (bj (aI.or (aB (au hr))) (pv 1) aw (av _)) aj)) ah) (av _)) aw bL)))) az) (af (aM (ar (aI.or (aB (au hr))) (pv 5) aw (av _)) (ai (ay aw)) az) (ai (ay (bB (bA (ar (aI.or (aB (au hr))) (pv 2) ah (av _)) aw (bB (bA (ar (aI.or (aB (au hr))) (pv 2) ah (av _)) aw bL)))))))))))))) ?_;unfold lbS at q;tm_up;refine .inr (.inr ⟨_,_,d0,rfl,rfl,hl',by rw[h0];exact vN (j:=0) rfl,?_⟩);tm_up;rw[b3 d0 50 (by lk)];have et:decide (d0=50)=ug z:=by unfold ug;rw[h0];by_cases h:d0=50 <;> simp[h]
  rw[et];refine aJ (fun h=>?_) (fun h=>?_)
  ·rw[S' h]at q;tm_up;exact⟨z,k,n,rfl,q⟩
  rw[M' h]at q;obtain⟨l,c,e,hz⟩:=wd hS h;have hc:=aim hS hz;have e3:z.cps.toList.getD 3 0=e:=by rw[hz];rfl
  have e2:z.cps.toList.getD 2 0=c:=by rw[hz];rfl
  have e1:z.cps.toList.getD 1 0=l:=by rw[hz];rfl
  rw[e2,e3]at q;refine dS (tN k.str "sdr" && decide (e=83)) ?_ ?_
  ·tm_up;refine aJ (fun h=>?_) (fun h=>?_)
   ·have h:tN k.str "sdr"=true:=h;tm_up;refine .inr (.inr ⟨_,_,e,rfl,rfl,hl',by rw[hz];rfl,?_⟩);tm_up;rw[b3 e 83 (by lk)];exact bE (by rw[h] <;> rfl)
   ·have h:¬ tN k.str "sdr"=true:=h;exact bE (by rw[O'.mpr h] <;> rfl)
  refine aJ (fun h=>?_) (fun h=>?_)
  ·rw[S' h]at q;tm_up;exact q
  rw[M' h]at q;tm_up;refine aJ (fun h=>?_) (fun h=>?_)
  ·have h:tN k.str "sdr"=true:=h;rw[S' h]at q;refine eX (.str (lfZ z)) ?_ ?_
   ·tm_up;refine .inr (.inr ⟨_,_,l,rfl,rfl,hl',by rw[hz];rfl,?_⟩);tm_up;rw[b3 l 116 (by lk)];unfold lfZ chr;rw[e1];refine aJ (fun h=>?_) (fun h=>?_)
    ·tm_up;exact bD (by rw[S' h])
    ·tm_up;refine .inr (.inr ⟨_,_,l,rfl,rfl,hl',by rw[hz];rfl,?_⟩);exact bD (by rw[M' h])
   tm_up;obtain⟨m,hm,hm2,hm3,hm4⟩:∃ m:Int,intText? ⟨#[c]⟩=some m/\decide ((m+1) % 3=2)=decide (X1 c = "2")/\(toString ((m+1) % 3):Str)=X1 c/\((m+1) % 3).natAbs.log2<1920:=by
    rcases hc with rfl|rfl|rfl
    ·exact⟨0,by lk,by lk,by lk,by lk⟩
    ·exact⟨1,by lk,by lk,by lk,by lk⟩
    ·exact⟨2,by lk,by lk,by lk,by lk⟩
   refine .inr (.inr ⟨_,_,c,rfl,rfl,hl',by rw[hz];rfl,?_⟩);refine .inr ⟨_,m,rfl,hm,by show 1<=640;decide,?_⟩;tm_up;generalize (m+1) % 3=cv at hm2 hm3 hm4;refine dS (decide (n=2)&&(decide (k.str = "s")&&decide (X1 c = "2"))) ?_ ?_
   ·tm_up;rw[intD];cases decide (n=2) with
    |false=>exact bE rfl
    |true =>
     refine dj ?_;tm_up;rw[j2];cases decide (k.str = "s") with
     |false=>exact bE rfl
     |true =>
      refine dj ?_;tm_up;rw[intD,hm2];exact bE rfl
   have ll:=U1 z;have l3:("3":Str).length=1:=Ig _ (.inr (.inr (.inr (.inl rfl))));refine aJ (fun h=>?_) (fun h=>?_)
   ·rw[S' h]at q;tm_up;have l2:("2S":Str).length=2:=by lk
    refine .inr (.inl ⟨_,_,rfl,rfl,nr (by omega),.inr (.inl ⟨_,_,rfl,rfl,nr (by rw[q4];omega),q⟩)⟩)
   rw[M' h]at q;refine eX (if decide (n=1)=true then .str ("3" ++ lfZ z++X1 c++(if decide (k.str = "s")=true then "s" else "o")) else .non) ?_ q;tm_up;rw[intD];refine aJ (fun h=>?_) (fun h=>?_)
   ·tm_up;refine .inr (.inl ⟨_,_,rfl,rfl,nr (by omega),?_⟩);tm_up;refine⟨hm4,?_⟩;have cl:=U0 c;rw[hm3];refine .inr (.inl ⟨_,_,rfl,rfl,nr (by rw[q4];omega),?_⟩);have hs:(if decide (k.str = "s")=true then("s":Str) else "o").length=1:=by split <;> decide +kernel
    refine eX (.str (if decide (k.str = "s")=true then "s" else "o")) ?_ ?_
    ·tm_up;rw[j2];refine aJ (fun h=>?_) (fun h=>?_)
     ·tm_up;exact bD (by rw[S' h])
     ·tm_up;exact bD (by rw[M' h])
    refine .inr (.inl ⟨_,_,rfl,rfl,nr (by rw[q4,q4];omega),?_⟩);exact bD (by rw[S' h];cases decide (k.str = "s") <;> rfl)
   ·tm_up;exact bD (by rw[M' h])
  have h:¬ tN k.str "sdr"=true:=h;rw[M' h]at q;tm_up;refine⟨z,k,n,l,c,e,rfl,hz,hl,?_⟩;tm_up;rw[j2];refine aJ (fun h=>?_) (fun h=>?_)
  ·rw[S' h]at q;tm_up;exact q
  rw[M' h]at q;tm_up;refine aJ (fun h=>?_) (fun h=>?_)
  ·have h:tN k.str ".32" = true:=h;rw[S' h]at q;refine eX (if(!decide (n=0))=true then .non else if decide (k.str = "2")=true then .str "2-" else .str "3n0-") ?_ q;tm_up;rw[intD];refine aJ (fun h=>?_) (fun h=>?_)
   ·tm_up;exact bD (by rw[S' h])
   refine eX (if decide (k.str = "2")=true then .str "2-" else .str "3n0-") ?_ (bD (by rw[M' h]));tm_up;rw[j2];refine aJ (fun h=>?_) (fun h=>?_)
   ·tm_up;exact bD (by rw[S' h])
   ·tm_up;exact bD (by rw[M' h])
  have h:¬ tN k.str ".32" = true:=h;rw[M' h]at q;refine dS (decide (k.str = "D")||decide (k.str = "R")) ?_ ?_
  ·tm_up;rw[j2];cases decide (k.str = "D") with
   |true=>exact bE rfl
   |false =>
    refine dA ?_;tm_up;rw[j2];exact bE rfl
  refine aJ (fun h=>?_) (fun h=>?_)
  ·rw[S' h]at q;refine eX (if decide (n=(if decide (k.str = "R")=true then 1 else 0)+2)=true then .str "3n0-" else .non) ?_ q;tm_up;refine .inl (.inr ⟨_,rfl,?_⟩);tm_up;rw[j2,intD];refine aJ (fun h=>?_) (fun h=>?_)
   ·tm_up;exact bD (by rw[S' h])
   ·tm_up;exact bD (by rw[M' h])
  rw[M' h]at q;tm_up;rw[j2];refine aJ (fun h=>?_) (fun h=>?_)
  ·rw[S' h]at q;tm_up;exact q
  rw[M' h]at q;refine eX (if decide (n=3)=true then .str "3w0-" else if decide (n=2)=true then .str "3h0-" else .non) ?_ q;tm_up;rw[intD];refine aJ (fun h=>?_) (fun h=>?_)
  ·tm_up;exact bD (by rw[S' h])
  refine eX (if decide (n=2)=true then .str "3h0-" else .non) ?_ (bD (by rw[M' h]));tm_up;rw[intD];refine aJ (fun h=>?_) (fun h=>?_)
  ·tm_up;exact bD (by rw[S' h])
  ·tm_up;exact bD (by rw[M' h])
theorem bY {a b:TS}{D:Ends}{σ:St}{H:Hp}(h:∀ N:St->Hp->Prop,(∀ σ H,b D σ H->N σ H)->a { D with nx:=N } σ H):acD a b D σ H:=h (b D) fun _ _ z=>z
theorem jf {a b:TS}{D:Ends}{σ:St}{H:Hp}{rt:VK}{bk ct:St->Hp->Prop}(h:acD a b D σ H):Ends.nx { nx:=acD a b D,rt:=rt,bk:=bk,ct:=ct } σ H:=h
def OcK (H:Hp)(y:V)(m:Str×Int):Prop:=∃ p,y=.ref p/\H p=some (.tup [.str m.1,.int m.2])
def SU:Option (Int×Int)->List Kd
 |none=>[.dot,.three,.two]
 |some q=>if q.1<0 then [.R,.r] else [.G,.s,.D,.d]
def Wu:Option (Int×Int)->Int
 |none=>0
 |some q=>q.2
def qM (c:q0)(z:Str)(n:Int)(k:Kd):Option (Str×Int):=match costOf c k,stQ z k n with
 |some x,some y=>some (y,x)
 |_,_=>none
def lmL (c:q0)(z:Str)(w:Option (Int×Int)):List (Str×Int):=(SU w).filterMap (qM c z (Wu w))
def Mx (c:q0)(n:Int)(H:Hp)(y:V)(k:Kd):Prop:=∃ p,y=.ref p/\H p=some (.tup [.str k.str,.int n,eV (costOf c k)])
theorem Mx.same {c:q0}{n:Int}{H H':Hp}(s:ax H H'){y:V}{k:Kd}(h:Mx c n H y k):Mx c n H' y k:=by
 obtain⟨p,e,h⟩:=h;exact⟨p,e,s _ _ h⟩
def WhV (H:Hp)(v:V)(w:Option (Int×Int)):Prop:=match w with
 |none=>v=.non
 |some q=>∃ p,v=.ref p/\H p=some (.tup [.int q.1,.int q.2])/\0<=q.2/\q.2<=9
def SV (K:Frag):Sp:=fun vs H Q _=>∃(z:Str)(v:V)(pz:Addr)(w:Option (Int×Int)) (c:q0),vs=[.str z,v,.ref pz]/\z∈ST/\WhV H v w/\H pz=some (.tup [eV c.1,eV c.2.1,eV c.2.2]) /\
 ∀(l:Addr)(xs:List V)(H':Hp),ax H H'->H l=none->H' l=some (.lst xs)->Paired (OcK H') xs (lmL c z w)->Q (.ref l) H'
theorem uF (T:Txt K w mg t):bV P w K mg base iw (0+3) t.jx t.yP ["_law_state","_law_wish","_law_prices_here"] (SV K):=by
 have My:=J4 (P:=P) (base:=base) T;refine T.ip.ok dU (fun vs H Q E h=>?_) (fun cdv A outer s H vs Q E hr h=>?_)
 ·obtain⟨_,_,_,_,_,rfl,_⟩:=h;rfl
 ·obtain⟨z,v,pz,w',c,rfl,hz,hw,hpz,q⟩:=h;refine aT (af (aH (i:=3) dU.nd rfl (Or.inl rfl) (cm aj)) (af (aH (i:=4) dU.nd rfl (Or.inl rfl) (cm (aa (bT (aa aw (aa ah (aa (aK aE (pv 2) ah (fun _ _=>rfl)) aj)))) (aa (bT (aa aw (aa ah (aa (aK aE (pv 2) ah (fun _ _=>rfl)) aj)))) (aa (bT (aa aw (aa ah (aa (aK aE (pv 2) ah (fun _ _=>rfl)) aj)))) aj))))) (af (gu (aM (ba (PW.pt (bz (ar tj (pv 1) bL (av _)) (bH (ar qS (aK aE (pv 1) ah (fun _ _=>rfl)) ah (av _)))))) (ai (aH (i:=4) dU.nd rfl (Or.inl rfl) (cm (aa (bT (aa aw (aa (aK aE (pv 1) ah (fun _ _=>rfl)) (aa ah aj)))) (aa (bT (aa aw (aa (aK aE (pv 1) ah (fun _ _=>rfl)) (aa ah aj)))) aj))))) az)) (af (gu (aM (ba (PW.pt (bz (ar tj (pv 1) bL (av _)) (bH (ar aen (aK aE (pv 1) ah (fun _ _=>rfl)) ah (av _)))))) (ai (aH (i:=4) dU.nd rfl (Or.inl rfl) (cm (aa (bT (aa aw (aa (aK aE (pv 1) ah (fun _ _=>rfl)) (aa ah aj)))) (aa (bT (aa aw (aa (aK aE (pv 1) ah (fun _ _=>rfl)) (aa ah aj)))) (aa (bT (aa aw (aa (aK aE (pv 1) ah (fun _ _=>rfl)) (aa (aK aE (pv 2) ah (fun _ _=>rfl)) aj)))) (aa (bT (aa aw (aa (aK aE (pv 1) ah (fun _ _=>rfl)) (aa (aK aE (pv 2) ah (fun _ _=>rfl)) aj)))) aj))))))) az)) (af (cj PassesOwn.never rfl (bR (pv 4)) (dC rfl (aN (aG (i:=5) dU.nd rfl (Or.inl rfl)) (aN (aG (i:=6) dU.nd rfl (Or.inl rfl)) (aN (aG (i:=7) dU.nd rfl (Or.inl rfl)) cK)))) (af (aH (i:=8) dU.nd rfl (Or.inl rfl) (aC My (hr.mono (by decide)) rfl T.JP T.j5.kp T.rA .nil aO (aa (pv 0) (aa (pv 5) (aa (pv 6) aj))))) (ai (aM (ba (PW.pt (bz (ar tj (pv 7) bL (av _)) (bH (ar tj (pv 8) bL (av _)))))) (ai (bQ (e8 Zh' Zg' Zf' bf (pv 3) (aa (bT (aa (pv 8) (aa (pv 7) aj))) aj)))) az)))) (ai (ay (pv 3)))))))) ?_;refine⟨big (by show 0<=1000;omega),fun f hf=>?_⟩;have s0:=ax.upd (o:=.lst []) hf;have ajk:=s0 _ _ hpz;have hf0:=ag (H:=H) (a:=f) (o:=.lst []);show Ends.nx _ _ (upd H f (.lst []));generalize upd H f (.lst [])=H0 at s0 ajk hf0;refine jf ?_;refine bY fun N hN=>?_
  suffices hN':∀(mn:Addr)(ys:List V)(H':Hp),ax H H'->H' f=some (.lst [])->H' mn=some (.lst ys)->mn≠f->Paired (Mx c 0 H') ys [.dot,.three,.two]->N [some (.str z),some v,some (.ref pz),some (.ref f),some (.ref mn),none,none,none,none] H' by
   tm_up;refine .inr (.inl ⟨pz,_,0,_,rfl,rfl,dz.of ajk,rfl,?_⟩);tm_up;refine⟨by show 3<=sizeLine;decide,fun a1 g1=>?_⟩;have s1:=ax.upd (o:=.tup [.str (Str.ofString "."),.int 0,eV c.1]) g1;have m1:Mx c 0 (upd H0 a1 (.tup [.str (Str.ofString "."),.int 0,eV c.1])) (.ref a1) .dot:=⟨a1,rfl,ag⟩;show Dl _ _ _ (upd H0 a1 (.tup [.str (Str.ofString "."),.int 0,eV c.1])) _;generalize upd H0 a1 (.tup [.str (Str.ofString "."),.int 0,eV c.1])=H1 at s1 m1;have S1:=s0.trans s1;have ajl:=S1 _ _ hpz;tm_up;refine .inr (.inl ⟨pz,_,2,_,rfl,rfl,dz.of ajl,rfl,?_⟩);tm_up;refine⟨by show 3<=sizeLine;decide,fun a2 g2=>?_⟩;have s2:=ax.upd (o:=.tup [.str (Str.ofString "3"),.int 0,eV c.2.2]) g2;have m2:Mx c 0 (upd H1 a2 (.tup [.str (Str.ofString "3"),.int 0,eV c.2.2])) (.ref a2) .three:=⟨a2,rfl,ag⟩;show Dl _ _ _ (upd H1 a2 (.tup [.str (Str.ofString "3"),.int 0,eV c.2.2])) _;generalize upd H1 a2 (.tup [.str (Str.ofString "3"),.int 0,eV c.2.2])=H2 at s2 m2;have S2:=S1.trans s2;have amA:=S2 _ _ hpz;tm_up;refine .inr (.inl ⟨pz,_,2,_,rfl,rfl,dz.of amA,rfl,?_⟩);tm_up;refine⟨by show 3<=sizeLine;decide,fun a3 g3=>?_⟩;have s3:=ax.upd (o:=.tup [.str (Str.ofString "2"),.int 0,eV c.2.2]) g3;have m3:Mx c 0 (upd H2 a3 (.tup [.str (Str.ofString "2"),.int 0,eV c.2.2])) (.ref a3) .two:=⟨a3,rfl,ag⟩;tm_up;refine⟨by show 3<=sizeLine;decide,fun mn gm=>?_⟩;have sm:=ax.upd (o:=.lst [.ref a1,.ref a2,.ref a3]) gm;have SM:=S2.trans (s3.trans sm);have fm:=sm _ _ (s3 _ _ (s2 _ _ (s1 _ _ hf0)));exact hN' mn _ _ SM fm ag (fun e=>by rw[e,s3 _ _ (s2 _ _ (s1 _ _ hf0))]at gm;cases gm) (.cons (m1.same (s2.trans (s3.trans sm))) (.cons (m2.same (s3.trans sm)) (.cons (m3.same sm) .nil)))
  intro mn ys H1 s1 f1 h1 nmf p1;refine hN _ _ ?_;clear hN N;refine⟨fun σ H'=>∃(mn:Addr)(ys:List V),σ=[some (.str z),some v,some (.ref pz),some (.ref f),some (.ref mn),none,none,none,none]/\ax H H'/\H' f=some (.lst [])/\H' mn=some (.lst ys)/\mn≠f/\((∀ q,w'=some q->q.1<0)->Paired (Mx c (Wu w') H') ys (SU w')),?_,?_⟩
  ·cases w' with
   |none =>
    have hv:v=.non:=hw;subst hv;refine dS false ?_ (dA ⟨mn,ys,rfl,s1,f1,h1,nmf,fun _=>p1⟩);tm_up;exact⟨rfl,_,rfl,dA (bE rfl)⟩
   |some qq =>
    obtain⟨p,rfl,hp,h0,h9⟩:=hw;have hp1:=s1 _ _ hp;refine dS (decide (qq.1<0)) ?_ ?_
    ·tm_up;refine⟨rfl,_,rfl,dj ?_⟩;tm_up;exact⟨rfl,rfl⟩
    ·refine aJ (fun h=>?_) (fun h=>⟨mn,ys,rfl,s1,f1,h1,nmf,fun k=>j' (k qq rfl) (fun z=>h (W' z))⟩);have h:qq.1<0:=J' h;have hz1:=s1 _ _ hpz;tm_up;tm_up;refine⟨by show 3<=sizeLine;decide,fun a1 g1=>?_⟩;have e1:=ax.upd (o:=.tup [.str (Str.ofString "R"),.int qq.2,.int 0]) g1;have m1:Mx c qq.2 (upd H1 a1 (.tup [.str (Str.ofString "R"),.int qq.2,.int 0])) (.ref a1) .R:=⟨a1,rfl,ag⟩;show Dl _ _ _ (upd H1 a1 (.tup [.str (Str.ofString "R"),.int qq.2,.int 0])) _;generalize upd H1 a1 (.tup [.str (Str.ofString "R"),.int qq.2,.int 0])=G1 at e1 m1;have hp2:=e1 _ _ hp1;have hz2:=e1 _ _ hz1;tm_up;tm_up;refine⟨by show 3<=sizeLine;decide,fun a2 g2=>?_⟩;have e2:=ax.upd (o:=.tup [.str (Str.ofString "r"),.int qq.2,.int 0]) g2;have m2:Mx c qq.2 (upd G1 a2 (.tup [.str (Str.ofString "r"),.int qq.2,.int 0])) (.ref a2) .r:=⟨a2,rfl,ag⟩;show Yk _ (upd G1 a2 (.tup [.str (Str.ofString "r"),.int qq.2,.int 0])) _;generalize upd G1 a2 (.tup [.str (Str.ofString "r"),.int qq.2,.int 0])=G2 at e2 m2;have hp3:=e2 _ _ hp2;have hz3:=e2 _ _ hz2;tm_up;refine⟨by show 2<=sizeLine;decide,fun mm gm=>?_⟩;have em:=ax.upd (o:=.lst [.ref a1,.ref a2]) gm;have ff:=((e1.trans e2).trans em) _ _ f1;refine⟨mm,_,rfl,s1.trans ((e1.trans e2).trans em),ff,ag,(fun e=>by rw[e,(e1.trans e2) _ _ f1]at gm;cases gm),fun _=>?_⟩;show Paired (Mx c qq.2 _) _ (if qq.1<0 then _ else _);rw[S' h];exact(.cons (m1.same (e2.trans em)) (.cons (m2.same em) .nil))
  rintro σ H2 ⟨mn,ys,rfl,s1,f1,h1,nmf,p1⟩;refine jf ?_;refine⟨fun σ H'=>∃(mn:Addr)(ys:List V),σ=[some (.str z),some v,some (.ref pz),some (.ref f),some (.ref mn),none,none,none,none]/\ax H H'/\H' f=some (.lst [])/\H' mn=some (.lst ys)/\mn≠f/\Paired (Mx c (Wu w') H') ys (SU w'),?_,?_⟩
  ·cases w' with
   |none =>
    have hv:v=.non:=hw;subst hv;refine dS false ?_ (dA ⟨mn,ys,rfl,s1,f1,h1,nmf,p1 (fun _ e=>nomatch e)⟩);tm_up;exact⟨rfl,_,rfl,dA (bE rfl)⟩
   |some qq =>
    obtain⟨p,rfl,hp,h0,h9⟩:=hw;have hp1:=s1 _ _ hp;refine dS (decide (0<=qq.1)) ?_ ?_
    ·tm_up;refine⟨rfl,_,rfl,dj ?_⟩;tm_up;exact⟨rfl,rfl⟩
    ·refine aJ (fun h=>?_) (fun h=>⟨mn,ys,rfl,s1,f1,h1,nmf,p1 fun k e=>by cases e;have:¬ 0<=qq.1:=fun z=>h (W' z);omega⟩);have h:¬ qq.1<0:=by have:=J' h;omega
     clear h1 nmf p1;generalize H2=H1 at s1 f1 hp1;have hz1:=s1 _ _ hpz;tm_up;tm_up;refine⟨by show 3<=sizeLine;decide,fun a1 g1=>?_⟩;have e1:=ax.upd (o:=.tup [.str (Str.ofString "G"),.int qq.2,.int 0]) g1;have m1:Mx c qq.2 (upd H1 a1 (.tup [.str (Str.ofString "G"),.int qq.2,.int 0])) (.ref a1) .G:=⟨a1,rfl,ag⟩;show Dl _ _ _ (upd H1 a1 (.tup [.str (Str.ofString "G"),.int qq.2,.int 0])) _;generalize upd H1 a1 (.tup [.str (Str.ofString "G"),.int qq.2,.int 0])=G1 at e1 m1;have hp2:=e1 _ _ hp1;have hz2:=e1 _ _ hz1;tm_up;tm_up;refine⟨by show 3<=sizeLine;decide,fun a2 g2=>?_⟩;have e2:=ax.upd (o:=.tup [.str (Str.ofString "s"),.int qq.2,.int 0]) g2;have m2:Mx c qq.2 (upd G1 a2 (.tup [.str (Str.ofString "s"),.int qq.2,.int 0])) (.ref a2) .s:=⟨a2,rfl,ag⟩;show Dl _ _ _ (upd G1 a2 (.tup [.str (Str.ofString "s"),.int qq.2,.int 0])) _;generalize upd G1 a2 (.tup [.str (Str.ofString "s"),.int qq.2,.int 0])=G2 at e2 m2;have hp3:=e2 _ _ hp2;have hz3:=e2 _ _ hz2;tm_up;tm_up;refine .inr (.inl ⟨pz,_,1,_,rfl,rfl,dz.of hz3,rfl,?_⟩);tm_up;refine⟨by show 3<=sizeLine;decide,fun a3 g3=>?_⟩;have e3:=ax.upd (o:=.tup [.str (Str.ofString "D"),.int qq.2,eV c.2.1]) g3;have m3:Mx c qq.2 (upd G2 a3 (.tup [.str (Str.ofString "D"),.int qq.2,eV c.2.1])) (.ref a3) .D:=⟨a3,rfl,ag⟩;show Dl _ _ _ (upd G2 a3 (.tup [.str (Str.ofString "D"),.int qq.2,eV c.2.1])) _;generalize upd G2 a3 (.tup [.str (Str.ofString "D"),.int qq.2,eV c.2.1])=G3 at e3 m3;have hp4:=e3 _ _ hp3;have hz4:=e3 _ _ hz3;tm_up;tm_up;refine .inr (.inl ⟨pz,_,1,_,rfl,rfl,dz.of hz4,rfl,?_⟩);tm_up;refine⟨by show 3<=sizeLine;decide,fun a4 g4=>?_⟩;have e4:=ax.upd (o:=.tup [.str (Str.ofString "d"),.int qq.2,eV c.2.1]) g4;have m4:Mx c qq.2 (upd G3 a4 (.tup [.str (Str.ofString "d"),.int qq.2,eV c.2.1])) (.ref a4) .d:=⟨a4,rfl,ag⟩;show Yk _ (upd G3 a4 (.tup [.str (Str.ofString "d"),.int qq.2,eV c.2.1])) _;generalize upd G3 a4 (.tup [.str (Str.ofString "d"),.int qq.2,eV c.2.1])=G4 at e4 m4;have hp5:=e4 _ _ hp4;have hz5:=e4 _ _ hz4;tm_up;refine⟨by show 4<=sizeLine;decide,fun mm gm=>?_⟩;have em:=ax.upd (o:=.lst [.ref a1,.ref a2,.ref a3,.ref a4]) gm;have ff:=((((e1.trans e2).trans e3).trans e4).trans em) _ _ f1;refine⟨mm,_,rfl,s1.trans ((((e1.trans e2).trans e3).trans e4).trans em),ff,ag,(fun e=>by rw[e,(((e1.trans e2).trans e3).trans e4) _ _ f1]at gm;cases gm),?_⟩;show Paired (Mx c qq.2 _) _ (if qq.1<0 then _ else _);rw[M' h];exact(.cons (m1.same (((e2.trans e3).trans e4).trans em)) (.cons (m2.same ((e3.trans e4).trans em)) (.cons (m3.same (e4.trans em)) (.cons (m4.same em) .nil))))
  rintro σ H3 ⟨mn,ys,rfl,s1,f1,h1,nmf,p1⟩;refine jf ?_;have hn:0<=Wu w'/\Wu w'<=9:=by
   cases w' with
   |none=>exact⟨by decide,by decide⟩
   |some qq=>obtain⟨p,_,_,h0,h9⟩:=hw;exact⟨h0,h9⟩
  have kl:(SU w').length<=4:=by
   cases w' with
   |none=>decide
   |some qq=>unfold SU;dsimp only;split <;> decide
  have q:∀(xs:List V)(H':Hp),ax H H'->H' f=some (.lst xs)->Paired (OcK H') xs ((SU w').filterMap (qM c z (Wu w')))->Q (.ref f) H':=fun xs H' s=>q f xs H' s hf;clear hw;generalize Wu w'=n at hn q p1;generalize SU w'=ks at kl q p1;refine⟨_,rfl,mn,rfl,⟨_,aR.of h1⟩,dE (K:=K) (xs:=ys) (fun i σ H'=>∃(v1 v2 v3 v4:Option V)(xs:List V),σ=[some (.str z),some v,some (.ref pz),some (.ref f),some (.ref mn),v1,v2,v3,v4]/\ax H H'/\(∀ b o,b≠f->H3 b=some o->H' b=some o)/\H' f=some (.lst xs)/\Paired (OcK H') xs ((ks.take i).filterMap (qM c z n))/\i<=ks.length)
   ⟨none,none,none,none,[],rfl,s1,fun _ _ _ e=>e,f1,.nil,X' _⟩ ?_ ?_ ?_⟩
  ·rintro i σ H' _ ⟨v1,v2,v3,v4,xs,rfl,_,fr,_⟩;exact aR.of (fr _ _ nmf h1)
  ·rintro i x σ H' hx ⟨v1,v2,v3,v4,xs,rfl,s4,fr,f4,p4,il⟩;obtain⟨k,hk,p,rfl,hp⟩:=dq p1 hx;have FG:i<ks.length:=(B'.mp hk).1;have hp4:=fr _ _ (fun e=>by rw[e,f1]at hp;cases hp) hp;have xl:xs.length<=4:=by
    rw[bO p4];exact Zk' (List.length_filterMap_le ..) (by rw[Zn'];omega)
   have ht:(ks.take (i+1)).filterMap (qM c z n)=(ks.take i).filterMap (qM c z n)++(match qM c z n k with|some m=>[m]|none=>[]):=by
    rw[take_succ,hk,List.filterMap_append]
    congr 1
    show List.filterMap (qM c z n) [k]=_;rw[List.filterMap_cons];cases qM c z n k <;> rfl
   unfold qM at ht;have e22:=agx hz k hn.1 hn.2;refine⟨p,_,rfl,dz.of hp4,rfl,_,_,rfl,_,_,rfl,_,_,rfl,rfl,?_⟩;tm_up;refine⟨z,k,n,rfl,hz,?_⟩;rw[<-e22];rcases Y9 hz k hn.1 hn.2 with ⟨e1,e2⟩|⟨y,hy,e1,e2⟩
   ·rw[e2]at ht;have ht:(ks.take (i+1)).filterMap (qM c z n)=(ks.take i).filterMap (qM c z n):=by
     refine ht.trans ?_;cases costOf c k <;> exact append_nil _
    rw[e1];refine⟨fun b H3=>H3=H'/\b=false,?_,?_⟩
    ·cases costOf c k with
     |none =>
      tm_up;exact⟨rfl,_,rfl,dA ⟨rfl,rfl⟩⟩
     |some m =>
      tm_up;refine⟨rfl,_,rfl,dj ?_⟩;tm_up;exact⟨rfl,_,rfl,rfl,rfl⟩
    ·rintro _ _ ⟨rfl,rfl⟩;exact dA ⟨_,_,_,_,xs,rfl,s4,fr,f4,by rw[ht];exact p4,FG⟩
   ·rw[e2]at ht;rw[e1];cases ec:costOf c k with
    |none =>
     rw[ec]at ht;have ht:(ks.take (i+1)).filterMap (qM c z n)=(ks.take i).filterMap (qM c z n):=ht.trans (append_nil _);refine⟨fun b H3=>H3=H'/\b=false,?_,?_⟩
     ·tm_up;exact⟨rfl,_,rfl,dA ⟨rfl,rfl⟩⟩
     ·rintro _ _ ⟨rfl,rfl⟩;exact dA ⟨_,_,_,_,xs,rfl,s4,fr,f4,by rw[ht];exact p4,FG⟩
    |some m =>
     rw[ec]at ht;refine⟨fun b H3=>H3=H'/\b=true,?_,?_⟩
     ·tm_up;refine⟨rfl,_,rfl,dj ?_⟩;tm_up;exact⟨rfl,_,rfl,rfl,rfl⟩
     ·rintro _ _ ⟨rfl,rfl⟩;refine dj ?_;tm_up;refine⟨.inl ⟨rfl,_,aR.of f4⟩,?_⟩;tm_up;refine⟨by show 2<=sizeLine;decide,fun tp htp=>?_⟩;have sT:=ax.upd (o:=.tup [.str y,.int m]) htp;have fT:=sT _ _ f4;refine⟨f,xs,_,rfl,rfl,fT,aQ (by omega),?_⟩;refine⟨_,_,_,_,_,rfl,bC (s4.trans sT) hf,fun b o hb e=>by rw[aA hb];exact sT _ _ (fr b o hb e),ag,?_,FG⟩;have ht:(ks.take (i+1)).filterMap (qM c z n)=(ks.take i).filterMap (qM c z n)++[(y,m)]:=ht;rw[ht];exact j0 (bh (fun _ _ ⟨p,e,h⟩=>⟨p,e,by rw[aA (fun z=>by rw[z,f4]at h;cases h)];exact sT _ _ h⟩) p4) ⟨tp,rfl,by rw[aA (fun z=>by rw[z,f4]at htp;cases htp)];exact ag⟩
  ·rintro σ H' ⟨v1,v2,v3,v4,xs,rfl,s4,fr,f4,p4,_⟩;rw[bO p1,take_length]at p4;tm_up;exact q xs H' s4 f4 p4
def Mz (t:Nb):Prop:=(t.map (·.1)).Nodup/\∀ p∈t,p.1∈ST
theorem Mz.len {t:Nb}(h:Mz t):t.length<=28:=by
 have:=Za (t.map (·.1)) ST h.1 fun x hx=>by
  obtain⟨w,hw,rfl⟩:=mem_map.mp hx;exact h.2 w hw
 rwa [K']at this
theorem Ei {σ:St}{H:Hp}{k:List V->Hp->Prop}(h:k [] H):Yk σ H k:=h
theorem Mz.ints (t:Nb):L3 (dB t):=fun kv h=>by
 obtain⟨p,_,rfl⟩:=mem_map.mp h;exact⟨_,rfl⟩
def putN (t:Nb)(y:Str)(m:Int):Nb:=if(gN t y).isSome=true then t.map (fun p=>if p.1=y then(p.1,m) else p) else t++[(y,m)]
theorem Va (t:Nb)(y:Str)(m:Int):putK (dB t) (Sum.inr y) (.int m)=dB (putN t y m):=by
 unfold putK putN;rw[vV,kO,Option.isSome_map];split
 ·unfold dB;rw[List.map_map,List.map_map];refine List.map_congr_left fun p _=>?_;show(if(Sum.inr p.1:Key)=Sum.inr y then _ else _)=_
  by_cases e:p.1=y
  ·rw[S' (Ya' Sum.inr e)];show _=(Sum.inr (if p.1=y then(p.1,m) else p).1,V.int (if p.1=y then(p.1,m) else p).2);rw[S' e]
  ·rw[M' (fun q=>e (Sum.inr.inj q))];show _=(Sum.inr (if p.1=y then(p.1,m) else p).1,V.int (if p.1=y then(p.1,m) else p).2);rw[M' e]
 ·unfold dB;rw[map_append];rfl
theorem Ej (t:Nb)(y:Str)(m:Int):((putN t y m).map (·.1)=t.map (·.1)/\y∈t.map (·.1))\/((putN t y m).map (·.1)=t.map (·.1)++[y]/\y ∉ t.map (·.1)):=by
 unfold putN;split
 ·rename_i h
  refine .inl ⟨?_,?_⟩
  ·rw[List.map_map];refine List.map_congr_left fun p _=>?_;show(if p.1=y then(p.1,m) else p).1=p.1;split <;> rfl
  ·refine Classical.byContradiction fun q=>?_;rw[jT.mpr q]at h;cases h
 ·rename_i h
  refine .inr ⟨by rw[map_append];rfl,jT.mp ?_⟩;cases e:gN t y with
  |none=>rfl
  |some n=>rw[e]at h;exact j' rfl h
theorem Mz.put {t:Nb}(h:Mz t){y:Str}(hy:y∈ST)(m:Int):Mz (putN t y m):=by
 have all:∀ z∈t.map (·.1),z∈ST:=fun z hz=>by
  obtain⟨p,hp,rfl⟩:=mem_map.mp hz;exact h.2 p hp
 rcases Ej t y m with ⟨e,_⟩|⟨e,n⟩
 ·refine⟨by rw[e];exact h.1,fun p hp=>all _ ?_⟩;rw[<-e];exact mem_map.mpr ⟨p,hp,rfl⟩
 ·refine⟨by rw[e];exact Jl h.1 n,fun p hp=>?_⟩;have:p.1∈t.map (·.1)++[y]:=by
   rw[<-e];exact mem_map.mpr ⟨p,hp,rfl⟩
  rcases Zq'.mp this with q|q
  ·exact all _ q
  ·rw[Zo'.mp q];exact hy
theorem abh {t:Nb}{y:Str}{m:Int}{z:Str}(h:gN t z≠none):gN (putN t y m) z≠none:=fun e=>by
 refine h (jT.mpr fun q=>jT.mp e ?_);rcases Ej t y m with ⟨e,_⟩|⟨e,_⟩
 ·rw[e];exact q
 ·rw[e];exact List.mem_append_left _ q
theorem MA (t:Nb):((dB t).map fun kv=>kV kv.1)=t.map fun p=>V.str p.1:=by
 unfold dB;rw[List.map_map];rfl
theorem ajn {t:Nb}{z:Str}{n:Int}{H:Hp}{d:Addr}(h:H d=some (.dK (dB t)))(e:gN t z=some n):nq H d (.str z) (some (.int n)):=by
 have g:=nq.k (k:=Sum.inr z) h;rw[kO,e]at g;exact g
theorem aff {t:Nb}{z:Str}{H:Hp}{d:Addr}(h:H d=some (.dK (dB t))):nq H d (.str z) ((gN t z).map V.int):=by
 have g:=nq.k (k:=Sum.inr z) h;rw[kO]at g;exact g
def tO (d:Addr)(H H':Hp):Prop:=∀ b o,b≠d->H b=some o->H' b=some o
theorem tO.refl (d:Addr)(H:Hp):tO d H H:=fun _ _ _ e=>e
theorem tO.trans {d:Addr}{H H1 H2:Hp}(a:tO d H H1)(b:tO d H1 H2):tO d H H2:=fun c o n e=>b c o n (a c o n e)
theorem tO.put {d:Addr}{H:Hp}{o:HO}:tO d H (upd H d o):=fun b u n e=>by rw[aA n];exact e
theorem _root_.L2.ax.kpD {d:Addr}{H H':Hp}(s:ax H H'):tO d H H':=fun b o _ e=>s b o e
theorem tO.same {d:Addr}{H0 H H':Hp}(k:tO d H H')(s:ax H0 H)(hd:H0 d=none):ax H0 H':=fun b o e=>k b o (aP e hd) (s b o e)
theorem afg {c:q0}{z:Str}(hz:z∈ST){w:Option (Int×Int)}(hw:∀ q,w=some q->0<=q.2/\q.2<=9){m:Str×Int}(hm:m∈lmL c z w):m.1∈ST:=by
 obtain⟨k,_,e⟩:=List.mem_filterMap.mp hm;have hn:0<=Wu w/\Wu w<=9:=by
  cases w with
  |none=>exact⟨by decide,by decide⟩
  |some q=>exact hw q rfl
 unfold qM at e;cases e1:costOf c k with
 |none=>rw[e1]at e;cases e
 |some x =>
  rw[e1]at e;rcases Y9 hz k hn.1 hn.2 with ⟨_,e2⟩|⟨y,hy,_,e2⟩
  ·rw[e2]at e;cases e
  ·rw[e2]at e;cases e;exact hy
def MB (K:Frag):Sp:=fun vs H Q _=>∃(d pz:Addr)(c:q0)(t:Nb),vs=[.ref d,.ref pz]/\H d=some (.dK (dB t))/\Mz t/\H pz=some (.tup [eV c.1,eV c.2.1,eV c.2.2]) /\
 ∀(t':Nb)(H':Hp),Mz t'->tO d H H'->H' d=some (.dK (dB t'))->Q .non H'
theorem MC (T:Txt K w mg t):bV P w K mg base iw (0+4) t.gT t.uq ["_law_table","_law_prices_here"] (MB K):=by
 have lr:=uF (P:=P) (base:=base) T;refine T.jB.ok ik (fun vs H Q E h=>?_) (fun cdv A outer s H vs Q E hr h=>?_)
 ·obtain⟨_,_,_,_,rfl,_⟩:=h;rfl
 ·obtain⟨d,pz,c,t0,rfl,hd,ht,hpz,q⟩:=h;refine aT (ai (cj PassesOwn.never rfl (g9 rfl T.j9 (aa ah aj)) (aG (i:=2) ik.nd rfl (Or.inl rfl)) (af (aH (i:=3) ik.nd rfl (Or.inl rfl) (b8 Od rfl T.adD acS (aa (pv 0) aj))) (af (cj PassesOwn.never rfl (bR (b8 Dy rfl T.ni mX (aa (pv 0) aj))) (aG (i:=4) ik.nd rfl (Or.inl rfl)) (ai (cj PassesOwn.never rfl (bR (aC lr (hr.mono (by decide)) rfl T.pS T.ip.kp T.lq .nil aO (aa (pv 4) (aa bL (aa (pv 1) aj))))) (dC rfl (aN (aG (i:=5) ik.nd rfl (Or.inl rfl)) (aN (aG (i:=6) ik.nd rfl (Or.inl rfl)) cK))) (ai (Jk (je hr) (pv 0) (pv 5) (aU (yx rfl) rfl T.JX Je (aa (Dx (je hr) (pv 0) (pv 5) (aF (aX.or (aD.or a5)) (tw (je hr) (pv 0) (pv 4) (fun _ _=>rfl)) (pv 6)) ⟨rfl,rfl,rfl,rfl⟩) (aa (aF (aX.or (aD.or a5)) (tw (je hr) (pv 0) (pv 4) (fun _ _=>rfl)) (pv 6)) aj))) rfl))))) (ai (aM (ar (agm (Nat.lt_of_succ_lt (je hr))) (pv 0) (pv 3) (av _)) (ai acE) az)))))) ?_;have npz:pz≠d:=HF hpz hd (by intro z;cases z);tm_up;refine⟨by decide,by decide,kU (n:=28) (fun i σ H'=>∃(v2 v3 v4 v5 v6:Option V)(t:Nb),σ=[some (.ref d),some (.ref pz),v2,v3,v4,v5,v6]/\Mz t/\tO d H H'/\H' d=some (.dK (dB t)))
   ⟨none,none,none,none,none,t0,rfl,ht,tO.refl _ _,hd⟩ ?_ ?_⟩
  ·rintro i σ H1 hi ⟨v2,v3,v4,v5,v6,t1,rfl,ht1,k1,hd1⟩;have ajl:=k1 _ _ npz hpz;tm_up;refine⟨d,_,rfl,.inl hd1,fun a ha=>?_⟩;have s2:=ax.upd (o:=.dK (dB t1)) ha;have ha2:=ag (H:=H1) (a:=a) (o:=.dK (dB t1));have nad:a≠d:=fun z=>by rw[z,hd1]at ha;cases ha
   show Ends.nx _ _ (upd H1 a (.dK (dB t1)));generalize upd H1 a (.dK (dB t1))=H2 at s2 ha2;have hd2:=s2 _ _ hd1;have k2:=k1.trans s2.kpD;refine jf ?_;tm_up;refine Ei ⟨rfl,d,_,rfl,.inl hd2,fun L hL=>?_⟩;have s3:=ax.upd (o:=.lst ((dB t1).map fun kv=>kV kv.1)) hL;have hL3:=ag (H:=H2) (a:=L) (o:=.lst ((dB t1).map fun kv=>kV kv.1));generalize upd H2 L (.lst ((dB t1).map fun kv=>kV kv.1))=H3 at s3 hL3;rw[MA]at hL3;have hd3:=s3 _ _ hd2;have ha3:=s3 _ _ ha2;have k3:=k2.trans s3.kpD;have nLd:L≠d:=fun z=>by rw[z,hd2]at hL;cases hL
   refine⟨L,rfl,⟨_,aR.of hL3⟩,dE (K:=K) (xs:=t1.map fun p=>V.str p.1) (fun j σ H'=>∃(v4 v5 v6:Option V)(t:Nb),σ=[some (.ref d),some (.ref pz),some (.int (0+(i:Int))),some (.ref a),v4,v5,v6]/\Mz t/\tO d H H'/\tO d H3 H'/\H' d=some (.dK (dB t))/\∀ p∈t1,gN t p.1≠none)
    ⟨v4,v5,v6,t1,rfl,ht1,k3,tO.refl _ _,hd3,fun p hp e=>jT.mp e (mem_map.mpr ⟨p,hp,rfl⟩)⟩ ?_ ?_ ?_⟩
   ·rintro j σ H' _ ⟨v4,v5,v6,t,rfl,_,_,k,_⟩;exact aR.of (k _ _ nLd hL3)
   ·rintro j x σ H4 hx ⟨v4,v5,v6,t4,rfl,ht4,k4,k34,hd4,ajp⟩;obtain⟨p,hp,rfl⟩:∃ p∈t1,x=V.str p.1:=by
     rw[Zi']at hx;obtain⟨p,h1,h2⟩:=Option.map_eq_some_iff.mp hx;exact⟨p,V' h1,h2.symm⟩
    have hz:=ht1.2 p hp;tm_up;refine⟨p.1,_,pz,none,c,rfl,hz,rfl,k4 _ _ npz hpz,fun l xs H5 s5 n5 h5 p5=>?_⟩;have nld:l≠d:=fun z=>by rw[z,hd4]at n5;cases n5
    refine⟨l,rfl,⟨_,aR.of h5⟩,dE (K:=K) (xs:=xs) (fun m σ H'=>∃(v5 v6:Option V)(t:Nb),σ=[some (.ref d),some (.ref pz),some (.int (0+(i:Int))),some (.ref a),some (.str p.1),v5,v6]/\Mz t/\tO d H H'/\tO d H3 H'/\tO d H5 H'/\H' d=some (.dK (dB t))/\∀ p∈t1,gN t p.1≠none)
     ⟨v5,v6,t4,rfl,ht4,k4.trans s5.kpD,k34.trans s5.kpD,tO.refl _ _,s5 _ _ hd4,ajp⟩ ?_ ?_ ?_⟩
    ·rintro m σ H' _ ⟨v5,v6,t,rfl,_,_,_,k,_⟩;exact aR.of (k _ _ nld h5)
    ·rintro m y σ H6 hy ⟨v5,v6,t6,rfl,ht6,k6,k36,k56,hd6,adL⟩;obtain⟨mm,hm,tp,rfl,htp⟩:=dq p5 hy;have hmz:=afg (c:=c) hz (w:=none) (fun _ z=>nomatch z) (V' hm);have ntp:tp≠d:=fun z=>by rw[z,s5 _ _ hd4]at htp;cases htp
     obtain⟨n,hn⟩:∃ n,gN t6 p.1=some n:=by
      cases e:gN t6 p.1 with
      |none=>exact j' e (adL p hp)
      |some n=>exact⟨n,rfl⟩
     have g1:=ajn hd6 hn;refine⟨tp,_,rfl,dz.of (k56 _ _ ntp htp),rfl,_,_,rfl,_,_,rfl,rfl,?_⟩;tm_up;refine⟨.inl ⟨_,.inl hd6⟩,?_⟩;tm_up;refine⟨d,_,rfl,g1,?_⟩;tm_up;refine⟨_,aff hd6,?_⟩;obtain⟨m1,hm1⟩:∃ m1,((gN t6 mm.1).map V.int).getD (.int (n+mm.2))=V.int m1:=by
      cases gN t6 mm.1 with
      |none=>exact⟨_,rfl⟩
      |some x=>exact⟨x,rfl⟩
     rw[hm1];tm_up;refine⟨d,_,rfl,g1,?_⟩;tm_up;refine⟨m1,_,rfl,?_⟩;generalize (if n+mm.2<m1 then n+mm.2 else m1)=mv;tm_up;refine⟨d,_,rfl,Ob.k (k:=Sum.inr mm.1) hd6 (aQ (by rw[gK];have:=ht6.len;omega)),?_⟩;rw[Va];exact⟨_,_,putN t6 mm.1 mv,rfl,ht6.put hmz _,k6.trans tO.put,k36.trans tO.put,k56.trans tO.put,ag,fun p hp=>abh (adL p hp)⟩
    ·rintro σ H6 ⟨v5,v6,t6,rfl,ht6,k6,k36,k56,hd6,adL⟩;exact⟨_,_,_,t6,rfl,ht6,k6,k36,hd6,adL⟩
   ·rintro σ H4 ⟨v4,v5,v6,t4,rfl,ht4,k4,k34,hd4,ajp⟩;refine⟨_,rfl,_,rfl,d,a,_,_,rfl,rfl,hd4,k34 _ _ nad ha3,Mz.ints _,Mz.ints _,fun r=>?_⟩;refine⟨_,rfl,aJ (fun _=>?_) (fun _=>?_)⟩
    ·exact q t4 H4 ht4 k4 hd4
    ·exact⟨_,_,_,_,_,t4,rfl,ht4,k4,hd4⟩
  ·rintro σ H1 ⟨v2,v3,v4,v5,v6,t1,rfl,ht1,k1,hd1⟩;tm_up;exact q t1 H1 ht1 k1 hd1
theorem rowOf {H1 H2:Hp}:∀{as:List Addr} {t:Nb},Paired (fun a kv=>H1 a=none/\H2 a=some (.tup [kV kv.1,kv.2])) as (dB t)->Paired (PsI H2) (as.map V.ref) t
 |[],[],_=>.nil
 |a::as,p::t,.cons h r=>.cons ⟨a,rfl,h.2⟩ (rowOf r)
 |[],_::_,h=>nomatch h
 |_::_,[],h=>nomatch h
theorem SW {H:Hp}{ys:List V}{ps:Nb}(h:Paired (PsI H) ys ps):∀{zs:List V},(∀ z∈zs,z∈ys)->∃ t:Nb,Paired (nR H) zs t/\∀ p∈t,p∈ps
 |[],_=>⟨[],.nil,fun _ h=>nomatch h⟩
 |z::zs,hz=>by
  obtain⟨t,h1,h2⟩:=SW h (zs:=zs) fun x hx=>hz x (Zl' _ hx);obtain⟨i,hi⟩:=List.mem_iff_getElem?.mp (hz z mem_cons_self);obtain⟨p,hp,hc⟩:=dq h hi;refine⟨p::t,.cons hc h1,fun q hq=>?_⟩;rcases List.mem_cons.mp hq with rfl|hq
  ·exact V' hp
  ·exact h2 q hq
def Wv (t:Nb):Prop:=t.length<=28/\∀ p∈t,p.1∈ST
theorem tO.kn {d:Addr}{H H':Hp}{kvs:List (Key×V)}(hd:H d=some (.dK kvs))(k:tO d H H'):Kn H H':=fun b o e n=>k b o (fun z=>by rw[z,hd]at e;cases e;cases n) e
def Ek (K:Frag):Sp:=fun vs H Q _=>∃(wl pz:Addr)(b:Int)(c:q0)(ws:List V)(qs:List (Int×Int)),vs=[.ref wl,.ref pz,.int b]/\H wl=some (.lst ws)/\uf H ws qs/\Wsh qs/\qs.length<=800/\H pz=some (.tup [eV c.1,eV c.2.1,eV c.2.2]) /\
 ∀(l:Addr)(xs:List V)(ts:List Nb)(H':Hp),ax H H'->H l=none->H' l=some (.lst xs)->Paired (Ih l H') xs ts->ts.length=qs.length+1->(∀ t∈ts,Wv t)->Q (.ref l) H'
theorem El (T:Txt K w mg t):bV P w K mg base iw (0+5) t.du t.nu ["_law_wishes_here","_law_prices_here","_law_begin_here"] (Ek K):=by
 have Em:=MC (P:=P) (base:=base) T;have lr:=uF (P:=P) (base:=base) T;refine T.gJ.ok b4 (fun vs H Q E h=>?_) (fun cdv A outer s H vs Q E hr h=>?_)
 ·obtain⟨_,_,_,_,_,_,rfl,_⟩:=h;rfl
 ·obtain⟨wl,pz,b,c,ws,qs,rfl,hwl,hqs,hW,ql,hpz,q⟩:=h;refine aT (af (aH (i:=3) b4.nd rfl (Or.inl rfl) (ac3 (YN (bB (bA (ar (aI.or (aB (au hr))) (pv 2) ah (av _)) aw aw)) ah ac2) rfl rfl (List.cons_ne_nil _ _) (by decide))) (af (bQ (aC Em (hr.mono (by decide)) rfl T.AF T.jB.kp T.pT .nil aO (aa (pv 3) (aa (pv 1) aj)))) (af (aH (i:=4) b4.nd rfl (Or.inl rfl) (cm (aa (aU wb rfl T.tM tu (aa (wa (hv:=mX) rfl (pv 3) rfl T.ni) aj)) aj))) (af (cj PassesOwn.never rfl (bR (pv 0)) (aG (i:=5) b4.nd rfl (Or.inl rfl)) (af (aH (i:=6) b4.nd rfl (Or.inl rfl) LW) (af (cj PassesOwn.never rfl (bR (b8 Dy rfl T.ni mX (aa (pv 3) aj))) (aG (i:=7) b4.nd rfl (Or.inl rfl)) (ai (cj PassesOwn.never rfl (bR (aC lr (hr.mono (by decide)) rfl T.pS T.ip.kp T.lq .nil aO (aa (pv 7) (aa (pv 5) (aa (pv 1) aj))))) (dC rfl (aN (aG (i:=8) b4.nd rfl (Or.inl rfl)) (aN (aG (i:=9) b4.nd rfl (Or.inl rfl)) cK))) (ai (Jk (je hr) (pv 6) (pv 8) (aU (yx rfl) rfl T.JX Je (aa (Dx (je hr) (pv 6) (pv 8) (aF (aX.or (aD.or a5)) (tw (je hr) (pv 3) (pv 7) (fun _ _=>rfl)) (pv 9)) ⟨rfl,rfl,rfl,rfl⟩) (aa (aF (aX.or (aD.or a5)) (tw (je hr) (pv 3) (pv 7) (fun _ _=>rfl)) (pv 9)) aj))) rfl))))) (af (aH (i:=3) b4.nd rfl (Or.inl rfl) (pv 6)) (af (bQ (aC Em (hr.mono (by decide)) rfl T.AF T.jB.kp T.pT .nil aO (aa (pv 3) (aa (pv 1) aj)))) (ai (bQ (e8 Zh' Zg' Zf' bf (pv 4) (aa (aU wb rfl T.tM tu (aa (wa (hv:=mX) rfl (pv 3) rfl T.ni) aj)) aj))))))))) (ai (ay (pv 4))))))) ?_;refine fun d0 hd0=>?_;have sa:=ax.upd (o:=.dK []) hd0;have hda:=ag (H:=H) (a:=d0) (o:=.dK []);generalize upd H d0 (.dK [])=Ha at sa hda;obtain⟨z0,hz0,amH⟩:∃ z0:Str,z0=(if b=2 then "2-" else "3n0-")/\z0∈ST:=⟨_,rfl,by split <;> decide +kernel⟩;refine eX (.str z0) ?_ ?_
  ·tm_up;rw[intD];refine aJ (fun h=>?_) (fun h=>?_)
   ·tm_up;exact bD (by rw[hz0,S' (J' h)])
   ·tm_up;exact bD (by rw[hz0,M' (fun z=>h (W' z))])
  tm_up;refine⟨hda,[(Sum.inr z0,.int 0)],rfl,by show 1<=15;decide,?_⟩;have sb:=bC (o:=.dK (dB [(z0,0)])) sa hd0;have hdb:=ag (H:=Ha) (a:=d0) (o:=.dK (dB [(z0,0)]));show Ends.nx _ _ (upd Ha d0 (.dK (dB [(z0,0)])));generalize upd Ha d0 (.dK (dB [(z0,0)]))=Hb at sb hdb;have t0:Mz [(z0,0)]:=⟨by simp,fun p hp=>by rw[Zo'.mp hp];exact amH⟩;refine jf ?_;refine bY fun N hN=>?_;tm_up;refine⟨d0,pz,c,_,rfl,hdb,t0,sb _ _ hpz,fun t1 H1 ht1 k1 hd1=>?_⟩;refine hN _ _ ?_;clear hN N;have s1:=k1.same sb hd0;clear t0 hdb sb k1 sa hda;refine bY fun N hN=>?_;tm_up;refine⟨d0,_,rfl,hd1,fun l1 as1 H2 s2 n2 h2 p2=>?_⟩;tm_up;refine⟨l1,_,t1,rfl,aR.of h2,rowOf p2,by rw[K',bO p2,gK];have:=ht1.len;omega,fun l2 zs zl zm n3=>?_⟩;obtain⟨r0,hr0,hm0⟩:=SW (rowOf p2) zm;have rn0:Wv r0:=⟨by rw[<-bO hr0,zl,K',bO p2,gK];exact ht1.len,fun p hp=>ht1.2 p (hm0 p hp)⟩;have s3:=ax.upd (o:=.lst zs) n3;have h3:=ag (H:=H2) (a:=l2) (o:=.lst zs);generalize upd H2 l2 (.lst zs)=H3 at s3 h3;tm_up;refine⟨by show 1<=sizeLine;decide,fun l hl=>?_⟩;have s4:=ax.upd (o:=.lst [.ref l2]) hl;have h4:=ag (H:=H3) (a:=l) (o:=.lst [.ref l2]);have n4:H l=none:=s1.free (s2.free (s3.free hl));have p4:Paired (Ih l (upd H3 l (.lst [.ref l2]))) [.ref l2] [r0]:=.cons ⟨l2,zs,rfl,aP h3 hl,s4 _ _ h3,bh (fun _ _ h=>nR.kn (s3.trans s4).kn h) hr0⟩ .nil;refine hN _ _ ?_;clear hN N;generalize upd H3 l (.lst [.ref l2])=H4 at s4 h4 p4;have S4:=((s1.trans s2).trans s3).trans s4;have hd4:=s4 _ _ (s3 _ _ (s2 _ _ hd1));clear s1 s2 s3 s4 h2 p2 h3 n3 n2 hl hd1 zm hr0 hm0;refine⟨_,rfl,wl,rfl,⟨_,aR.of (S4 _ _ hwl)⟩,dE (K:=K) (xs:=ws) (fun i σ H'=>∃(v5 v6 v7 v8 v9:Option V)(d:Addr)(t:Nb)(xs:List V)(ts:List Nb),σ=[some (.ref wl),some (.ref pz),some (.int b),some (.ref d),some (.ref l),v5,v6,v7,v8,v9]/\ax H H'/\H d=none/\H' d=some (.dK (dB t))/\Mz t/\H' l=some (.lst xs)/\Paired (Ih l H') xs ts/\ts.length=i+1/\∀ t∈ts,Wv t)
   ⟨none,none,none,none,none,d0,t1,_,[r0],rfl,S4,hd0,hd4,ht1,h4,p4,rfl,fun t ht=>by rw[Zo'.mp ht];exact rn0⟩ ?_ ?_ ?_⟩
  ·rintro i σ H' _ ⟨v5,v6,v7,v8,v9,d,t,xs,ts,rfl,s,_⟩;exact aR.of (s _ _ hwl)
  ·rintro i x σ H5 hx ⟨v5,v6,v7,v8,v9,d,t,xs,ts,rfl,s5,nd,Iu,ht5,h5,p5,tl5,rn5⟩;obtain⟨qq,hq,wp,rfl,hwp⟩:=dq hqs hx;have hqq:=hW qq (V' hq);have il:i<qs.length:=(B'.mp hq).1;tm_up;refine fun a ha=>?_;have s6:=ax.upd (o:=.dK (dB [])) ha;have ha6:=ag (H:=H5) (a:=a) (o:=.dK (dB []));have na:H a=none:=s5.free ha;show Ends.nx _ _ (upd H5 a (.dK (dB [])));generalize upd H5 a (.dK (dB []))=H6 at s6 ha6;have hd6:=s6 _ _ Iu;have nda:d≠a:=aP Iu ha;refine jf ?_;refine bY fun N hN=>?_;tm_up;refine Ei ⟨rfl,d,_,rfl,.inl hd6,fun L hL=>?_⟩;have s7:=ax.upd (o:=.lst ((dB t).map fun kv=>kV kv.1)) hL;have hL7:=ag (H:=H6) (a:=L) (o:=.lst ((dB t).map fun kv=>kV kv.1));generalize upd H6 L (.lst ((dB t).map fun kv=>kV kv.1))=H7 at s7 hL7;rw[MA]at hL7;have nLa:L≠a:=fun z=>by rw[z,ha6]at hL;cases hL
   have kp7:Kn H5 H7:=(s6.trans s7).kn;refine⟨L,rfl,⟨_,aR.of hL7⟩,dE (K:=K) (xs:=t.map fun p=>V.str p.1) (fun j σ H'=>∃(v7 v8 v9:Option V)(t':Nb),σ=[some (.ref wl),some (.ref pz),some (.int b),some (.ref d),some (.ref l),some (.ref wp),some (.ref a),v7,v8,v9]/\tO a H7 H'/\H' a=some (.dK (dB t'))/\Mz t')
    ⟨v7,v8,v9,[],rfl,tO.refl _ _,s7 _ _ ha6,⟨by simp,fun _ h=>nomatch h⟩⟩ ?_ ?_ ?_⟩
   ·rintro j σ H' _ ⟨v7,v8,v9,t',rfl,k,_⟩;exact aR.of (k _ _ nLa hL7)
   ·rintro j x σ H8 hx ⟨v7,v8,v9,t8,rfl,k8,ha8,ht8⟩;obtain⟨p,hp,rfl⟩:∃ p∈t,x=V.str p.1:=by
     rw[Zi']at hx;obtain⟨p,h1,h2⟩:=Option.map_eq_some_iff.mp hx;exact⟨p,V' h1,h2.symm⟩
    have hz:=ht5.2 p hp;have S8:ax H5 H8:=k8.same (s6.trans s7) ha;have hd8:=S8 _ _ Iu;tm_up;refine⟨p.1,_,pz,some qq,c,rfl,hz,⟨wp,rfl,S8 _ _ (s5 _ _ hwp),hqq.1,hqq.2⟩,S8 _ _ (s5 _ _ hpz),fun lm xm H9 s9 n9 h9 p9=>?_⟩;have nla:lm≠a:=fun z=>by rw[z,ha8]at n9;cases n9
    refine⟨lm,rfl,⟨_,aR.of h9⟩,dE (K:=K) (xs:=xm) (fun m σ H'=>∃(v8 v9:Option V)(t':Nb),σ=[some (.ref wl),some (.ref pz),some (.int b),some (.ref d),some (.ref l),some (.ref wp),some (.ref a),some (.str p.1),v8,v9]/\tO a H7 H'/\tO a H9 H'/\H' a=some (.dK (dB t'))/\Mz t')
     ⟨v8,v9,t8,rfl,k8.trans s9.kpD,tO.refl _ _,s9 _ _ ha8,ht8⟩ ?_ ?_ ?_⟩
    ·rintro m σ H' _ ⟨v8,v9,t',rfl,_,k,_⟩;exact aR.of (k _ _ nla h9)
    ·rintro m y σ X2 hy ⟨v8,v9,t10,rfl,k10,k90,abj,adM⟩;obtain⟨mm,hm,tp,rfl,htp⟩:=dq p9 hy;have hmz:=afg (c:=c) hz (w:=some qq) (fun _ z=>by cases z;exact hqq) (V' hm);have ntp:tp≠a:=fun z=>by rw[z,s9 _ _ ha8]at htp;cases htp
     obtain⟨n,hn⟩:∃ n,gN t p.1=some n:=by
      cases e:gN t p.1 with
      |none=>exact j' (mem_map.mpr ⟨p,hp,rfl⟩) (jT.mp e)
      |some n=>exact⟨n,rfl⟩
     have amK:=k90 _ _ nda (s9 _ _ hd8);have g1:=ajn amK hn;refine⟨tp,_,rfl,dz.of (k90 _ _ ntp htp),rfl,_,_,rfl,_,_,rfl,rfl,?_⟩;tm_up;refine⟨.inl ⟨_,.inl abj⟩,?_⟩;tm_up;refine⟨d,_,rfl,g1,?_⟩;tm_up;refine⟨_,aff abj,?_⟩;obtain⟨m1,hm1⟩:∃ m1,((gN t10 mm.1).map V.int).getD (.int (n+mm.2))=V.int m1:=by
      cases gN t10 mm.1 with
      |none=>exact⟨_,rfl⟩
      |some x=>exact⟨x,rfl⟩
     rw[hm1];tm_up;refine⟨d,_,rfl,g1,?_⟩;tm_up;refine⟨m1,_,rfl,?_⟩;generalize (if n+mm.2<m1 then n+mm.2 else m1)=mv;tm_up;refine⟨a,_,rfl,Ob.k (k:=Sum.inr mm.1) abj (aQ (by rw[gK];have:=adM.len;omega)),?_⟩;rw[Va];exact⟨_,_,putN t10 mm.1 mv,rfl,k10.trans tO.put,k90.trans tO.put,ag,adM.put hmz _⟩
    ·rintro σ X2 ⟨v8,v9,t10,rfl,k10,k90,abj,adM⟩;exact⟨_,_,_,t10,rfl,k10,abj,adM⟩
   ·rintro σ H8 ⟨v7,v8,v9,t8,rfl,k8,ha8,ht8⟩;refine hN _ _ ?_;clear hN N;have S8:ax H5 H8:=k8.same (s6.trans s7) ha;have h8:=S8 _ _ h5;have p8:=bh (fun _ _ h=>Ih.kn S8.kn h) p5;have s8:=s5.trans S8;clear k8 hL7 s7 hL s6 ha6 hd6 kp7 nLa;tm_up;refine⟨a,pz,c,_,rfl,ha8,ht8,s8 _ _ hpz,fun t9 H9 ht9 k9 ha9=>?_⟩;have S9:ax H5 H9:=k9.same S8 ha;have s9:=s5.trans S9;have h9:=S9 _ _ h5;have p9:=bh (fun _ _ h=>Ih.kn (k9.kn ha8) h) p8;tm_up;refine⟨.inl ⟨rfl,_,aR.of h9⟩,?_⟩;tm_up;refine⟨a,_,rfl,ha9,fun l1 as1 X2 Iv n10 h10 p10=>?_⟩;tm_up;refine⟨l1,_,t9,rfl,aR.of h10,rowOf p10,by rw[K',bO p10,gK];have:=ht9.len;omega,fun l2 zs zl zm n11=>?_⟩;obtain⟨r9,hr9,hm9⟩:=SW (rowOf p10) zm;have rn9:Wv r9:=⟨by rw[<-bO hr9,zl,K',bO p10,gK];exact ht9.len,fun p hp=>ht9.2 p (hm9 p hp)⟩;have vG:=ax.upd (o:=.lst zs) n11;have h11:=ag (H:=X2) (a:=l2) (o:=.lst zs);generalize upd X2 l2 (.lst zs)=H11 at vG h11;have S11:=Iv.trans vG;have agM:=S11 _ _ h9;have nl2:l2≠l:=fun z=>by rw[z,Iv _ _ h9]at n11;cases n11
    tm_up;refine⟨l,xs,_,rfl,rfl,agM,aQ (by rw[bO p9,tl5];omega),?_⟩;refine⟨_,_,_,_,_,a,t9,_,ts++[r9],rfl,bC (s9.trans S11) n4,na,by rw[aA (HF (S11 _ _ ha9) agM (by intro z;cases z))];exact S11 _ _ ha9,ht9,ag,bh (fun _ _ h=>Ih.write agM h) (j0 (bh (fun _ _ h=>Ih.kn S11.kn h) p9) ⟨l2,zs,rfl,nl2,h11,bh (fun _ _ h=>nR.kn vG.kn h) hr9⟩),by rw[Zj',tl5];rfl,fun t' ht'=>?_⟩;rcases Zq'.mp ht' with h|h
    ·exact rn5 t' h
    ·rw[Zo'.mp h];exact rn9
  ·rintro σ H' ⟨v5,v6,v7,v8,v9,d,t,xs,ts,rfl,s5,nd,Iu,ht5,h5,p5,tl5,rn5⟩;tm_up;exact q l xs ts H' s5 n4 h5 p5 (by rw[tl5,bO hqs]) rn5
def MD:Sp:=fun vs H Q _=>vs=[]/\∀(f:Addr)(H':Hp),ax H H'->H f=none->H' f=some (.lst (ST.map V.str))->Q (.ref f) H'
theorem abk {l r:Str}(hl:l.length<=1)(hr:r.length<=2):("3":Str).length+l.length<=sizeLine/\("3" ++ l:Str).length+r.length<=sizeLine:=by
 have e1:("3":Str).length=1:=by lk
 have e2:∀ a b:Str,(a++b).length=a.length+b.length:=fun a b=>by
  show(a.cps++b.cps).size=_;rw[Array.size_append];rfl
 refine⟨nr (by rw[e1];omega),nr (by rw[e2,e1];omega)⟩
theorem rM (T:Txt K w mg t):bV P w K mg base iw (0+1) t.gU t.ur [] MD:=by
 refine T.gY.ok m9 (fun vs H Q E h=>?_) (fun cdv A outer s H vs Q E hr h=>?_)
 ·obtain⟨rfl,_⟩:=h;rfl
 ·obtain⟨rfl,q⟩:=h;refine aT (af (aH (i:=0) m9.nd rfl (Or.inl rfl) (cm (aa aw (aa aw (aa aw aj))))) (af (cj PassesOwn.never rfl (afV aw) (aG (i:=1) m9.nd rfl (Or.inl rfl)) (af (bQ (e8 Zh' Zg' Zf' bf (pv 0) (aa (aF (aX.or (aD.or a5)) (aF (aX.or (aD.or a5)) aw (pv 1)) aw) aj))) (ai (cj PassesOwn.never rfl (bR (cm (YH F9))) (aG (i:=2) m9.nd rfl (Or.inl rfl)) (ai (aM (ar (jY.or (e9 (au hr))) (pv 1) aw (av _)) (ai (bQ (e8 Zh' Zg' Zf' bf (pv 0) (aa (aF (aX.or (aD.or a5)) (aF (aX.or (aD.or a5)) aw (pv 1)) (pv 2)) aj)))) az)))))) (ai (ay (aU AE rfl T.tM tu (aa (pv 0) aj)))))) ?_;refine⟨by show 3<=sizeLine;decide,fun f hf=>?_⟩;refine⟨_,rfl,ade (z:=Str.ofString "nwht") (fun i σ H'=>∃ v w,σ=[some (.ref f),v,w]/\∃ g,ax H g/\g f=none/\H'=upd g f (.lst ((FT i).map V.str))) ⟨none,none,rfl,H,ax.refl _,hf,rfl⟩ ?_ ?_⟩
  ·rintro i c σ H' hc ⟨v,w,rfl,g,sg,gf,rfl⟩;have hl:=alD hc;generalize (⟨#[c]⟩:Str)=l at hl;have hi:=ail hl;have hal:=Ma (i:=i) (by omega);have hll:l.length<=1:=agu hl;obtain⟨z1,z2⟩:=abk (l:=l) (r:="0-") hll (by lk);tm_up;refine⟨.inl ⟨rfl,_,aR.of ag⟩,?_⟩;refine⟨_,rfl,.inr (.inl ⟨_,_,rfl,rfl,z1,.inr (.inl ⟨_,_,rfl,rfl,z2,?_⟩)⟩)⟩;refine⟨_,_,_,rfl,rfl,ag,aQ (by rw[K'];omega),?_⟩;rw[iy];refine⟨by show 7<=sizeLine;decide,fun m hm=>?_⟩;have mf:m≠f:=fun z=>by rw[z,ag]at hm;cases hm
   have gm:g m=none:=by rw[aA mf]at hm;exact hm
   refine⟨_,rfl,⟨_,aR.of ag⟩,dE (K:=K) (xs:=QN.map V.str) (fun j σ H'=>∃ w,σ=[some (.ref f),some (.str l),w]/\∃ G,ax H G/\G f=none/\G m=some (.lst (QN.map V.str))/\H'=upd G f (.lst ((FT i++g3 l "0-" :: (if l = "t" then [] else(QN.take j).map (g3 l))).map V.str)))
    ⟨w,rfl,upd g m (.lst (QN.map V.str)),sg.trans (ax.upd gm),by rw[aA (Yb' mf)];exact gf,ag,?_⟩ ?_ ?_ ?_⟩
   ·funext b
    by_cases h1:b=f
    ·subst h1;rw[ag,aA (Yb' mf),ag]
     congr 2
     rw[map_append]
     by_cases hlt:l = "t"
     ·simp[hlt,g3]
     ·simp[hlt,g3]
    ·by_cases h2:b=m
     ·subst h2;rw[ag,aA h1,ag];rfl
     ·rw[aA h2,aA h1,aA h1,aA h2]
   ·rintro j σ H' _ ⟨w,rfl,G,_,Gf,Gm,rfl⟩;exact aR.of (by rw[aA mf];exact Gm)
   ·rintro j x σ H' hy ⟨w,rfl,G,SG,Gf,Gm,rfl⟩;obtain⟨r,hr',rfl⟩:=Dd hy;have hrl:=agv hr';have hj:j<7:=(B'.mp hr').1;obtain⟨z1,z2⟩:=abk (l:=l) (r:=r) hll hrl;tm_up;rw[Ov];refine aJ (fun h=>?_) (fun h=>?_)
    ·have hlt:l ≠ "t":=J' h;tm_up;refine⟨.inl ⟨rfl,_,aR.of ag⟩,?_⟩;refine⟨_,rfl,.inr (.inl ⟨_,_,rfl,rfl,z1,_,rfl,.inr (.inl ⟨_,_,rfl,rfl,z2,?_⟩)⟩)⟩;refine⟨_,_,_,rfl,rfl,ag,aQ (by rw[K',Zj',Zp',M' hlt,K',Zn'];omega),?_⟩;refine⟨_,rfl,G,SG,Gf,Gm,?_⟩;rw[iy,M' hlt,M' hlt,List.take_add_one,hr']
     congr 2
     simp[g3]
    ·have hlt:l = "t":=by
      by_cases e:l = "t"
      ·exact e
      ·exact j' (W' e) h
     refine⟨_,rfl,G,SG,Gf,Gm,?_⟩;rw[S' hlt,S' hlt]
   ·rintro σ H' ⟨w,rfl,G,SG,Gf,Gm,rfl⟩;refine⟨_,_,rfl,G,SG,Gf,?_⟩;rw[VZ hl];rfl
  ·rintro σ H' ⟨v,w,rfl,g,sg,gf,rfl⟩;refine⟨_,rfl,_,_,ST,rfl,aR.of ag,?_,VY,Ie,fun k hk=>?_⟩
   ·show(FT 4).length<64;have:=Ma (i:=4) (by omega);omega
   ·have sm:=sg.trans (ax.upd (o:=.lst ((FT 4).map V.str)) gf);exact q k _ (sm.trans (ax.upd hk)) (sm.free hk) ag
def FH (H:Hp)(y:V)(t:Nb):Prop:=∃ l zs,y=.ref l/\H l=some (.lst zs)/\Paired (nR H) zs t
theorem FH.same {H H':Hp}(s:ax H H'){y:V}{t:Nb}(h:FH H y t):FH H' y t:=by
 obtain⟨l,zs,e,h1,h2⟩:=h;exact⟨l,zs,e,s _ _ h1,bh (fun _ _ ⟨p,e,h⟩=>⟨p,e,s _ _ h⟩) h2⟩
def agN (v:List Expr)(s:Stmt):Stmt:=match s with
 |.If t [.Assign tg (.Tuple (.Subscript (.List _ p1) i p2::r) k p3) p4] o p5=>.If t [.Assign tg (.Tuple (.Subscript (.List v p1) i p2::r) k p3) p4] o p5
 |s=>s
structure J6 (H:Hp)(l:Addr)(as:List Addr)(ts:List Nb):Prop where
 li:H l=some (.lst (as.map V.ref))
 nd:as.Nodup
 no:l ∉ as
 pr:Paired (fun a t=>∃ zs,H a=some (.lst zs)/\Paired (nR H) zs t) as ts
theorem J6.rw {H:Hp}{l:Addr}{as:List Addr}{ts:List Nb}(h:J6 H l as ts):Paired (FH H) (as.map V.ref) ts:=by
 have:=h.pr;clear h
 induction this with
 |nil=>exact .nil
 |cons h _ ih=>obtain⟨zs,h1,h2⟩:=h;exact .cons ⟨_,zs,rfl,h1,h2⟩ ih
theorem J6.same {H H':Hp}{l:Addr}{as:List Addr}{ts:List Nb}(h:J6 H l as ts)(s:ax H H'):J6 H' l as ts :=
 ⟨s _ _ h.li,h.nd,h.no,bh (fun _ _ ⟨zs,h1,h2⟩=>⟨zs,s _ _ h1,bh (fun _ _ q=>nR.kn s.kn q) h2⟩) h.pr⟩
theorem J6.write {H:Hp}{l:Addr}{as:List Addr}{ts:List Nb}(h:J6 H l as ts){k:Nat}{a:Addr}{zs qP:List V}{t':Nb}(ha:as[k]? = some a)(hz:H a=some (.lst zs))(hp:Paired (nR H) qP t'):J6 (upd H a (.lst qP)) l as (ts.set k t'):=by
 have hal:l≠a:=fun e=>h.no (by rw[e];exact V' ha);refine⟨by rw[aA hal];exact h.li,h.nd,h.no,?_⟩;have e:as.length=ts.length:=bO h.pr;refine qX (by rw[List.length_set];exact e) fun i b t h1 h2=>?_
 by_cases hi:i=k
 ·subst hi;rw[ha]at h1;cases h1;have lt:i<ts.length:=by rw[<-e];exact(B'.mp ha).1
  rw[List.getElem?_set_self lt]at h2;cases h2;exact⟨qP,ag,bh (fun _ _ q=>nR.write hz q) hp⟩
 ·rw[List.getElem?_set_ne (fun z=>hi z.symm)]at h2;obtain⟨t2,e2,ys,g1,g2⟩:=dq h.pr h1;rw[h2]at e2;cases e2;have hb:b≠a:=fun z=>by
   rw[z]at h1;obtain⟨l1,q1⟩:=B'.mp h1;obtain⟨l2,q2⟩:=B'.mp ha;exact hi ((List.getElem_inj h.nd).mp (q1.trans q2.symm))
  exact⟨ys,by rw[aA hb];exact g1,bh (fun _ _ q=>nR.write hz q) g2⟩
theorem agO (xs:List V):∃ n,yz xs none (some (-1))=xs.take n:=by
 unfold yz;rw[HT.Dm,List.drop_zero];exact⟨_,rfl⟩
theorem J6.row {H:Hp}{l:Addr}{as:List Addr}{ts:List Nb}(h:J6 H l as ts){k:Nat}{t:Nb}(ht:ts[k]? = some t):∃ a zs,as[k]? = some a/\H a=some (.lst zs)/\Paired (nR H) zs t:=by
 obtain⟨a,ha,zs,h1,h2⟩:=Y2 h.pr ht;exact⟨a,zs,ha,h1,h2⟩
def Iw (way k:Int)(B:Nat)(l:Addr)(as:List Addr)(ts:List Nb)(H:Hp):Prop:=J6 H l as ts\/(way<=k/\∃ ts',J6 H l as ts'/\ts'.length=ts.length/\∀ t∈ts',t.length<=B+1)
theorem Iw.step {way k:Int}{B:Nat}{l:Addr}{as:List Addr}{ts:List Nb}{H:Hp}(h:Iw way k B l as ts H):Iw way (k+1) B l as ts H:=h.imp id fun⟨h1,h2⟩=>⟨by omega,h2⟩
theorem Iw.now {way k:Int}{B:Nat}{l:Addr}{as:List Addr}{ts:List Nb}{H:Hp}(h:Iw way k B l as ts H)(e:way=k+1):J6 H l as ts:=by
 rcases h with h|⟨h,_⟩
 ·exact h
 ·omega
theorem Iw.write {way k:Int}{B:Nat}{l:Addr}{as:List Addr}{ts:List Nb}{H:Hp}(h:J6 H l as ts)(e:way=k)(hB:∀ t∈ts,t.length<=B){j:Nat}{a:Addr}{zs qP:List V}{t':Nb}(ha:as[j]? = some a)(hz:H a=some (.lst zs))(hp:Paired (nR H) qP t')(hl:t'.length<=B+1):Iw way k B l as ts (upd H a (.lst qP)):=by
 refine .inr ⟨by omega,_,h.write ha hz hp,List.length_set ..,fun t ht=>?_⟩;rcases List.mem_or_eq_of_mem_set ht with q|q
 ·exact Nat.le_succ_of_le (hB t q)
 ·rw[q];exact hl
theorem Iw.any {way k:Int}{B:Nat}{l:Addr}{as:List Addr}{ts:List Nb}{H:Hp}(h:Iw way k B l as ts H)(hB:∀ t∈ts,t.length<=B):∃ ts',J6 H l as ts'/\ts'.length=ts.length/\∀ t∈ts',t.length<=B+1:=by
 rcases h with h|⟨_,h⟩
 ·exact⟨ts,h,rfl,fun t ht=>Nat.le_succ_of_le (hB t ht)⟩
 ·exact h
theorem agP {H:Hp}{zs:List V}{t:Nb}(h:Paired (nR H) zs t)(k:Nat){y:V}{q:Str×Int}(hy:nR H y q):Paired (nR H) (zs.set k y) (t.set k q):=by
 refine qX (by rw[List.length_set,List.length_set];exact bO h) fun i a b h1 h2=>?_
 by_cases hi:k=i
 ·subst hi;have l1:k<zs.length:=by have:=(B'.mp h1).1;rwa [List.length_set]at this
  have l2:k<t.length:=by have:=(B'.mp h2).1;rwa [List.length_set]at this
  rw[List.getElem?_set_self l1]at h1;rw[List.getElem?_set_self l2]at h2;cases h1;cases h2;exact hy
 ·rw[List.getElem?_set_ne hi]at h1 h2;obtain⟨b',e,hc⟩:=dq h h1;rw[h2]at e;cases e;exact hc
theorem ME {H:Hp}:∀{zs:List V} {t:Nb} (k:Nat),Paired (nR H) zs t->Paired (nR H) (zs.eraseIdx k) (t.eraseIdx k)
 |_,_,_,.nil=>.nil
 |_,_,0,.cons _ r=>r
 |_,_,k+1,.cons h r=>.cons h (ME k r)
def MF (K:Frag):Sp:=fun vs H Q _=>∃(pl:Addr)(way at' num:Int)(xs:List V)(ts:List Nb)(B:Nat),vs=[.ref pl,.int way,.int at',.int num]/\H pl=some (.lst xs)/\Paired (FH H) xs ts/\ts.length<=800/\B<=800/\(∀ t∈ts,t.length<=B) /\
 ∀(l:Addr)(xs':List V)(ts':List Nb)(H':Hp),ax H H'->H l=none->H' l=some (.lst xs')->Paired (FH H') xs' ts'->ts'.length<=ts.length+1->(∀ t∈ts',t.length<=B+1)->Q (.ref l) H'
theorem MG (T:Txt K w mg t):bV P w K mg base iw (0+2) t.gW t.uu ["_law_paper","_law_way","_law_at","_law_number"] (MF K):=by
 have l9:=rM (P:=P) (base:=base) T;refine T.lU.ok j4 (fun vs H Q E h=>?_) (fun cdv A outer s H vs Q E hr h=>?_)
 ·obtain⟨_,_,_,_,_,_,_,rfl,_⟩:=h;rfl
 ·obtain⟨pl,way,at',num,xs,ts,B,rfl,hpl,hxs,tl,hB,hrow,q⟩:=h;obtain⟨cJ,ma⟩:∃ v:List (Str×Pos),v=Ga:=⟨_,rfl⟩;have hbody:ak dr=(ak dr).take 10++agN (cJ.map fun c=>Expr.Constant (.str c.1) 0 c.2) ((ak dr).getD 10 (.Pass ⟨0,0,0,0⟩))::(ak dr).drop 11:=by subst ma;rfl
  rw[hbody];refine aT (af (acW 4 ["_law_paper","_law_way","_law_at","_law_number","","_law_place","_law_state","_law_worth"] (jm (i:=0) DO rfl rfl (cn:=["_law_row"]) rfl (bS.of rfl) (bR (pv 0)) (fun _=>(aG (i:=0) F8 rfl (Or.inl rfl))) (fun _=>iC) (fun _=>(b8 kN rfl T.ni mX (aa (pv 0) aj))))) (af (aM (ba (PW.pt (iz (ar (Ji (au hr)) (pv 0) (cm aj) (av _)) (eY (ar (aI.or (aB (au hr))) (pv 1) ah (av _)))))) (ai (ay (vM (C2.or (IU.or Jd)) (pv 0) C0 (C1 (Az qR ah))))) az) (af (aM (ar (aI.or (aB (au hr))) (pv 1) ah (av _)) (ai (ay (aF (aX.or (aD.or a5)) (pv 0) (cm (aa (cm (aa (bT (aa aw (aa (aF bF (pv 3) ah) aj))) aj)) aj))))) az) (af (aH (i:=4) j4.nd rfl (Or.inl rfl) (aK aE (pv 0) (aF bF (pv 2) (aU (aY.or aZ) rfl T.dQ dF (aa (pv 0) aj))) (fun _ _=>rfl))) (af (aM (ar (Ji (au hr)) (pv 4) (cm aj) (av _)) (ai (ay (pv 0))) az) (af (aH (i:=5) j4.nd rfl (Or.inl rfl) (aF bF (aF fH (pv 2) ah) (aU (aY.or aZ) rfl T.dQ dF (aa (pv 4) aj)))) (af (lx (aK aE (pv 4) (pv 5) (fun _ _=>rfl)) (dC rfl (aN (aG (i:=6) j4.nd rfl (Or.inl rfl)) (aN (aG (i:=7) j4.nd rfl (Or.inl rfl)) cK)))) (af (gu (aM (ar (aI.or (aB (au hr))) (pv 1) ah (av _)) (ai (lx (bT (aa (pv 6) (aa (aF (aX.or (aD.or a5)) (aF (aX.or (aD.or a5)) (pv 7) ah) (aF bF (pv 3) ah)) aj))) (ua (pv 4) (pv 5) set_list))) az)) (af (gu (aM (ar (aI.or (aB (au hr))) (pv 1) ah (av _)) (ai (lx (bT (aa (pv 6) (aa (aF iB (aF iB (pv 7) ah) (aF bF (pv 3) ah)) aj))) (ua (pv 4) (pv 5) set_list))) az)) (af (gu (aM (ar (aI.or (aB (au hr))) (pv 1) ah (av _)) (ai (bQ (e8 Zh' PySem.F.slot_list_pop PySem.F.type_list_pop Yu (pv 4) (aa (pv 5) aj)))) az)) (af (gu (aM (ar (aI.or (aB (au hr))) (pv 1) ah (av _)) (ai (lx (bT (aa (aK aE (cm (YH cJ)) (aF bF (pv 3) ah) (fun _ _=>rfl)) (aa (pv 7) aj))) (ua (pv 4) (pv 5) set_list))) az)) (af (gu (aM (ar (aI.or (aB (au hr))) (pv 1) ah (av _)) (ai (bQ (e8 Zh' Zg' Zf' bf (pv 4) (aa (bT (aa (pv 6) (aa (aF iB (pv 7) (aF bF (pv 3) ah)) aj))) aj)))) az)) (af (gu (aM (ar (aI.or (aB (au hr))) (pv 1) ah (av _)) (ai (lx (bT (aa (aK aE (vK l9 (hr.mono (by decide)) rfl T.rB T.gY.kp T.lT .nil aO) (aF bF (pv 3) ah) (fun _ _=>rfl)) (aa (pv 7) aj))) (ua (pv 4) (pv 5) set_list))) az)) (ai (ay (pv 0)))))))))))))))) ?_;have xl:xs.length=ts.length:=bO hxs;refine bY fun N hN=>?_
  suffices hN':∀(l:Addr)(as:List Addr)(H':Hp),ax H H'->H l=none->(∀ a∈as,H a=none)->J6 H' l as ts->N [some (.ref l),some (.int way),some (.int at'),some (.int num),none,none,none,none] H' by
   refine⟨rfl,_,rfl,pl,rfl,⟨_,aR.of hpl⟩,fun D b hD=>?_⟩;have s1:=ax.upd (o:=.lst []) hD;refine dG (K:=K) (xs:=xs) (fun i ys σ H'=>∃(v:Option V)(as:List Addr),σ=[v,some (.ref pl),some (.int way),some (.int at'),some (.int num),none,none,none,none]/\ax H H'/\ys=as.map V.ref/\(∀ a∈as,H a=none)/\i<=ts.length/\J6 H' D as (ts.take i)) ⟨none,[],rfl,s1,rfl,(fun _ h=>(nomatch h)),X' _,⟨ag,by simp,by simp,.nil⟩⟩ ?_ ?_ ?_
   ·rintro i ys σ H' ⟨v,as,rfl,s,_⟩;exact aR.of (s _ _ hpl)
   ·rintro i ys x σ H2 hx ⟨v,as,rfl,s2,rfl,na2,il,r2⟩ N hN;obtain⟨t0,ht,l0,zs,rfl,hl0,hzs⟩:=dq hxs hx;have FG:i<ts.length:=(B'.mp ht).1;tm_up;refine Ei ⟨l0,zs,rfl,.inl (aR.of (s2 _ _ hl0)),fun r hr=>?_⟩;have s3:=ax.upd (o:=.lst zs) hr;have h3:=ag (H:=H2) (a:=r) (o:=.lst zs);generalize upd H2 r (.lst zs)=H3 at s3 h3;have r3:=r2.same s3;have al:as.length=i:=by rw[bO r2.pr,Zn'];omega
    have nrD:r≠D:=fun z=>by rw[z,r2.li]at hr;cases hr
    have nra:r ∉ as:=fun z=>by
     obtain⟨j,hj⟩:=List.mem_iff_getElem?.mp z;obtain⟨_,_,_,g,_⟩:=dq r2.pr hj;rw[hr]at g;cases g
    refine⟨r3.li,aQ (by rw[K'];omega),hN _ _ _ ⟨_,as++[r],rfl,bC (s2.trans s3) hD,by rw[map_append];rfl,fun a ha=>?_,FG,?_⟩⟩
    ·rcases Zq'.mp ha with h|h
     ·exact na2 a h
     ·rw[Zo'.mp h];exact s2.free hr
    ·refine⟨by rw[ag,map_append];rfl,Jl r2.nd nra,fun z=>?_,?_⟩
     ·rcases Zq'.mp z with h|h
      ·exact r2.no h
      ·exact nrD (Zo'.mp h).symm
     ·rw[take_succ,ht];have up:∀{a:Addr} {t:Nb},a≠D->(∃ zs,H3 a=some (.lst zs)/\Paired (nR H3) zs t)->∃ zs,upd H3 D (.lst (as.map V.ref++[.ref r])) a=some (.lst zs)/\Paired (nR (upd H3 D (.lst (as.map V.ref++[.ref r])))) zs t:=fun {a t} n ⟨zs,g1,g2⟩=>⟨zs,by rw[aA n];exact g1,bh (fun _ _ q=>nR.write r3.li q) g2⟩;refine j0 ?_ (up nrD ⟨zs,h3,bh (fun _ _ q=>nR.kn (s2.trans s3).kn q) hzs⟩);refine qX (bO r3.pr) fun j a t g1 g2=>?_;obtain⟨t',e1,e2⟩:=dq r3.pr g1;rw[g2]at e1;cases e1;exact up (fun z=>r3.no (by rw[<-z];exact V' g1)) e2
   ·rintro ys σ H2 ⟨v,as,rfl,s2,rfl,na2,il,r2⟩;rw[xl,take_length]at r2;refine⟨rfl,?_⟩;exact hN' D as H2 s2 hD na2 r2
  intro l as H1 s1 nl na r1;refine hN _ _ ?_;clear hN N;have al:as.length=ts.length:=bO r1.pr;refine bY fun N hN=>?_;refine⟨fun x H'=>x=(ts.isEmpty||decide (way=1))/\ax H1 H',?_,?_⟩
  ·tm_up;refine⟨big (by show 0<=1000;omega),fun e0 he0=>?_⟩;have s2:=ax.upd (o:=.lst []) he0;refine⟨l,e0,_,rfl,rfl,aR.of (s2 _ _ r1.li),aR.of ag,?_⟩;have ee:(as.map V.ref).isEmpty=ts.isEmpty:=by
    cases as <;> cases ts <;> first|rfl|(simp at al)
   refine⟨_,rfl,?_⟩;show(if(as.map V.ref).isEmpty=true then _ else _);rw[ee];refine aJ (fun h=>⟨by rw[h];rfl,s2⟩) (fun h=>?_);tm_up;rw[intD,O'.mpr h];exact⟨rfl,s2⟩
  rintro _ H2 ⟨rfl,s2⟩;have r2:=r1.same s2;have S2:=s1.trans s2;refine aJ (fun _=>?_) (fun hne=>?_)
  ·tm_up;refine .inl ⟨l,_,rfl,aR.of r2.li,fun k hk=>?_⟩;obtain⟨n,hn⟩:=agO (as.map V.ref);show Q (.ref k) (upd H2 k (.lst (yz (as.map V.ref) none (some (-1)))));rw[hn];have s3:=ax.upd (o:=.lst ((as.map V.ref).take n)) hk;exact q k _ (ts.take n) _ (S2.trans s3) (S2.free hk) ag (UU n (bh (fun _ _ h=>FH.same s3 h) r2.rw)) (by rw[Zn'];omega) fun t ht=>Nat.le_succ_of_le (hrow t (List.mem_of_mem_take ht))
  refine hN _ _ ?_;clear hN N;have tne:ts≠[]:=fun z=>hne (by rw[z];rfl);have tpos:0<ts.length:=List.length_pos_iff.mpr tne;tm_up;refine aJ (fun _=>?_) (fun _=>?_)
  ·tm_up;refine⟨by show 2<=sizeLine;decide,fun tp htp=>?_⟩;have s3:=ax.upd (o:=.tup [.str "2-",.int (num % 9)]) htp;have h3:=ag (H:=H2) (a:=tp) (o:=.tup [.str "2-",.int (num % 9)]);generalize upd H2 tp (.tup [.str "2-",.int (num % 9)])=H3 at s3 h3;refine⟨by show 1<=sizeLine;decide,fun r hr=>?_⟩;have s4:=ax.upd (o:=.lst [.ref tp]) hr;have h4:=ag (H:=H3) (a:=r) (o:=.lst [.ref tp]);generalize upd H3 r (.lst [.ref tp])=H4 at s4 h4;refine⟨by show 1<=sizeLine;decide,fun e he=>?_⟩;have s5:=ax.upd (o:=.lst [.ref r]) he;have h5:=ag (H:=H4) (a:=e) (o:=.lst [.ref r]);generalize upd H4 e (.lst [.ref r])=H5 at s5 h5;have S5:=(s3.trans s4).trans s5;refine .inr (.inr ⟨l,e,_,_,rfl,rfl,S5 _ _ r2.li,h5,big (by rw[K'];show _+1<=1000;omega),fun k hk=>?_⟩);have s6:=ax.upd (o:=.lst (as.map V.ref++[.ref r])) hk;have S6:=S5.trans s6;refine q k _ (ts++[([(("2-":Str),num % 9)]:Nb)]) _ (S2.trans S6) ((S2.trans S5).free hk) ag (j0 (bh (fun _ _ h=>FH.same S6 h) r2.rw) ⟨r,_,rfl,s6 _ _ (s5 _ _ h4),.cons ⟨tp,rfl,s6 _ _ (s5 _ _ (s4 _ _ h3))⟩ .nil⟩) (by rw[Zj'];exact A' _) fun t ht=>?_;rcases Zq'.mp ht with h|h
   ·exact Nat.le_succ_of_le (hrow t h)
   ·rw[Zo'.mp h];show 1<=B+1;omega
  refine jf ?_;refine bY fun N hN=>?_;tm_up;refine .inl ⟨l,_,rfl,.inl (aR.of r2.li),?_⟩;tm_up;obtain⟨k0,hk0,hk1⟩:∃ k0:Nat,at' % ((as.map V.ref).length:Int)=(k0:Int)/\k0<ts.length:=by
   rw[K',al];have e1:=Int.emod_nonneg at' (show((ts.length:Nat):Int)≠0 by omega);have e2:=Int.emod_lt_of_pos at' (show 0<((ts.length:Nat):Int) by omega);exact⟨(at' % (ts.length:Int)).toNat,by omega,by omega⟩
  refine⟨by rw[K',al];show(0:Int)<_;omega,?_⟩;rw[hk0];obtain⟨a,zs,ha,hz2,hc2⟩:=r2.row (C' hk1);refine Ia (aR.of r2.li) (n:=k0) rfl (by rw[Zi',ha];rfl) ?_;refine hN _ _ ?_;clear hN N;have na':H a=none:=na a (V' ha);generalize ht0:ts[k0]=t0 at hc2;have t0B:t0.length<=B:=hrow t0 (by rw[<-ht0];exact List.getElem_mem hk1);have zl:zs.length=t0.length:=bO hc2;refine bY fun N hN=>?_;tm_up;refine⟨big (by show 0<=1000;omega),fun e0 he0=>?_⟩;have s3:=ax.upd (o:=.lst []) he0;have h3e:=ag (H:=H2) (a:=e0) (o:=.lst []);generalize upd H2 e0 (.lst [])=H3 at s3 h3e;have r3:=r2.same s3;have hz3:=s3 _ _ hz2;have hc3:=bh (fun _ _ q=>nR.kn s3.kn q) hc2;have S3:=S2.trans s3;refine⟨a,e0,_,rfl,rfl,aR.of hz3,aR.of h3e,?_⟩;refine⟨_,rfl,aJ (fun _=>?_) (fun hz=>?_)⟩
  ·tm_up;exact q l _ ts _ S3 nl r3.li r3.rw (Nat.le_succ _) fun t ht=>Nat.le_succ_of_le (hrow t ht)
  refine hN _ _ ?_;clear hN N;have apo:0<zs.length:=by
   cases zs with
   |nil=>exact j' rfl hz
   |cons x r=>exact Nat.succ_pos _
  refine bY fun N hN=>?_;tm_up;refine .inl ⟨a,_,rfl,.inl (aR.of hz3),?_⟩;tm_up;obtain⟨p0,hp0,hp1⟩:∃ p0:Nat,at' / 61 % (zs.length:Int)=(p0:Int)/\p0<zs.length:=by
   have e1:=Int.emod_nonneg (at' / 61) (show((zs.length:Nat):Int)≠0 by omega);have e2:=Int.emod_lt_of_pos (at' / 61) (show 0<((zs.length:Nat):Int) by omega);exact⟨(at' / 61 % (zs.length:Int)).toNat,by omega,by omega⟩
  refine⟨by show(0:Int)<_;omega,?_⟩;rw[hp0];refine hN _ _ ?_;clear hN N;refine bY fun N hN=>?_;obtain⟨⟨st0,vH⟩,hq0,y0,hy0,hy1⟩:=dq hc3 (C' hp1);have hy2:zs[p0]? = some (.ref y0):=by rw[C' hp1,hy0]
  tm_up;refine Ia (aR.of hz3) (n:=p0) rfl hy2 ?_;tm_up;refine⟨y0,_,rfl,dz.of hy1,rfl,_,_,rfl,_,_,rfl,rfl,?_⟩;refine hN _ _ ?_;clear hN N;have rowAt:∀{H':Hp},J6 H' l as ts->∃ qP,H' a=some (.lst qP)/\Paired (nR H') qP t0/\qP.length=t0.length:=fun {H'} r=>by
   obtain⟨a',qP,e1,e2,e3⟩:=r.row (C' hk1);rw[ha]at e1;cases e1;rw[ht0]at e3;exact⟨qP,e2,e3,bO e3⟩
  have p0t:p0<t0.length:=by rw[<-zl];exact hp1
  have J7:Iw way 2 B l as ts H3:=.inl r3;clear r2 s2 r1 s1 hz2 hc2 he0 s3 h3e hz3 hc3 hy2 hy1 hy0 hne S2;have wy:∀{k:Int},decide (V.int way=V.int k)=true->way=k:=fun {k} h=>by
   have:=J' h
   injection this
  have ixP:∀{n:Nat},p0<n->UI n (p0:Int)=some p0:=fun {n} h=>by
   unfold UI;rw[S' (by omega),S' (by omega)];rfl
  have setAt:∀{H4:Hp} {k:Int} {v:Str×Int} {y:V},J6 H4 l as ts->way=k->nR H4 y v->∃ qP,H4 a=some (.lst qP)/\UI qP.length (p0:Int)=some p0/\Iw way k B l as ts (upd H4 a (.lst (qP.set p0 y))):=fun {H4 k v y} r hw hy=>by
   obtain⟨qP,e1,e2,e3⟩:=rowAt r;exact⟨qP,e1,ixP (by omega),Iw.write r hw hrow ha e1 (agP e2 p0 hy) (by rw[List.length_set];omega)⟩
  refine⟨fun σ H'=>σ=[some (.ref l),some (.int way),some (.int at'),some (.int num),some (.ref a),some (.int (p0:Int)),some (.str st0),some (.int vH)]/\ax H H'/\Iw way 3 B l as ts H',?_,?_⟩
  ·tm_up;refine aJ (fun h=>?_) (fun _=>⟨rfl,S3,J7.step⟩);have hw:=wy h;have r:=J7.now hw;tm_up;obtain⟨H4,hH4,s4⟩:∃ H4:Hp,H3=H4/\ax H3 H4:=⟨H3,rfl,ax.refl _⟩;rw[hH4];refine⟨by show 2<=sizeLine;decide,fun tp htp=>?_⟩;have sT:=ax.upd (o:=.tup [.str st0,.int (vH+1+num % 5)]) htp;have hT:=ag (H:=H4) (a:=tp) (o:=.tup [.str st0,.int (vH+1+num % 5)]);show Yb (FJ 4) (FJ 5) LO (V.ref tp) _ (upd H4 tp (.tup [.str st0,.int (vH+1+num % 5)])) _;generalize upd H4 tp (.tup [.str st0,.int (vH+1+num % 5)])=H5 at sT hT;obtain⟨qP,g1,g2,g3⟩:=setAt (v:=(st0,(vH+1+num % 5))) (r.same (s4.trans sT)) hw ⟨tp,rfl,hT⟩;refine⟨_,rfl,_,rfl,a,qP,p0,p0,rfl,rfl,g1,g2,?_⟩;exact⟨rfl,bC (S3.trans (s4.trans sT)) na',g3⟩
  rintro _ H3 ⟨rfl,S3,J7⟩;refine jf ?_;refine⟨fun σ H'=>σ=[some (.ref l),some (.int way),some (.int at'),some (.int num),some (.ref a),some (.int (p0:Int)),some (.str st0),some (.int vH)]/\ax H H'/\Iw way 4 B l as ts H',?_,?_⟩
  ·tm_up;refine aJ (fun h=>?_) (fun _=>⟨rfl,S3,J7.step⟩);have hw:=wy h;have r:=J7.now hw;tm_up;obtain⟨H4,hH4,s4⟩:∃ H4:Hp,H3=H4/\ax H3 H4:=⟨H3,rfl,ax.refl _⟩;rw[hH4];refine⟨by show 2<=sizeLine;decide,fun tp htp=>?_⟩;have sT:=ax.upd (o:=.tup [.str st0,.int (vH-1-num % 5)]) htp;have hT:=ag (H:=H4) (a:=tp) (o:=.tup [.str st0,.int (vH-1-num % 5)]);show Yb (FJ 4) (FJ 5) LO (V.ref tp) _ (upd H4 tp (.tup [.str st0,.int (vH-1-num % 5)])) _;generalize upd H4 tp (.tup [.str st0,.int (vH-1-num % 5)])=H5 at sT hT;obtain⟨qP,g1,g2,g3⟩:=setAt (v:=(st0,(vH-1-num % 5))) (r.same (s4.trans sT)) hw ⟨tp,rfl,hT⟩;refine⟨_,rfl,_,rfl,a,qP,p0,p0,rfl,rfl,g1,g2,?_⟩;exact⟨rfl,bC (S3.trans (s4.trans sT)) na',g3⟩
  rintro _ H3 ⟨rfl,S3,J7⟩;refine jf ?_;refine⟨fun σ H'=>σ=[some (.ref l),some (.int way),some (.int at'),some (.int num),some (.ref a),some (.int (p0:Int)),some (.str st0),some (.int vH)]/\ax H H'/\Iw way 5 B l as ts H',?_,?_⟩
  ·tm_up;refine aJ (fun h=>?_) (fun _=>⟨rfl,S3,J7.step⟩);have hw:=wy h;have r:=J7.now hw;obtain⟨qP,e1,e2,e3⟩:=rowAt r;tm_up;refine⟨.inl ⟨rfl,_,aR.of e1⟩,?_⟩;tm_up;have hp:p0<qP.length:=by omega
   refine Ei ⟨a,qP,(p0:Int),p0,qP[p0],rfl,rfl,e1,by omega,by omega,(IV (ixP hp)).1,C' hp,?_⟩;exact⟨rfl,bC S3 na',Iw.write r hw hrow ha e1 (ME p0 e2) (Zk' (List.length_eraseIdx_le ..) (by omega))⟩
  rintro _ H3 ⟨rfl,S3,J7⟩;refine jf ?_;refine⟨fun σ H'=>σ=[some (.ref l),some (.int way),some (.int at'),some (.int num),some (.ref a),some (.int (p0:Int)),some (.str st0),some (.int vH)]/\ax H H'/\Iw way 6 B l as ts H',?_,?_⟩
  ·tm_up;refine aJ (fun h=>?_) (fun _=>⟨rfl,S3,J7.step⟩);have hw:=wy h;have r:=J7.now hw;tm_up;refine⟨big (by rw[K',ma];show 8<=1000;decide),fun L hL=>?_⟩;have s4:=ax.upd (o:=.lst (cJ.map fun c=>V.str c.1)) hL;have hL4:=ag (H:=H3) (a:=L) (o:=.lst (cJ.map fun c=>V.str c.1));generalize upd H3 L (.lst (cJ.map fun c=>V.str c.1))=H4 at s4 hL4;have vl:cJ.length=8:=by rw[ma];rfl
   have n8:(num % 8).toNat<cJ.length:=by omega
   obtain⟨sx,hsx⟩:∃ sx:Str,(cJ.map fun c=>V.str c.1)[(num % 8).toNat]? = some (.str sx):=⟨_,by rw[Zi',C' n8];rfl⟩;tm_up;refine Ia (aR.of hL4) (n:=(num % 8).toNat) (by omega) hsx ?_;tm_up;refine⟨by show 2<=sizeLine;decide,fun tp htp=>?_⟩;have sT:=ax.upd (o:=.tup [.str sx,.int vH]) htp;have hT:=ag (H:=H4) (a:=tp) (o:=.tup [.str sx,.int vH]);show Yb (FJ 4) (FJ 5) LO (V.ref tp) _ (upd H4 tp (.tup [.str sx,.int vH])) _;generalize upd H4 tp (.tup [.str sx,.int vH])=H5 at sT hT;obtain⟨qP,g1,g2,g3⟩:=setAt (v:=(sx,vH)) (r.same (s4.trans sT)) hw ⟨tp,rfl,hT⟩;refine⟨_,rfl,_,rfl,a,qP,p0,p0,rfl,rfl,g1,g2,?_⟩;exact⟨rfl,bC (S3.trans (s4.trans sT)) na',g3⟩
  rintro _ H3 ⟨rfl,S3,J7⟩;refine jf ?_;refine⟨fun σ H'=>σ=[some (.ref l),some (.int way),some (.int at'),some (.int num),some (.ref a),some (.int (p0:Int)),some (.str st0),some (.int vH)]/\ax H H'/\Iw way 7 B l as ts H',?_,?_⟩
  ·tm_up;refine aJ (fun h=>?_) (fun _=>⟨rfl,S3,J7.step⟩);have hw:=wy h;have r:=J7.now hw;obtain⟨qP,e1,e2,e3⟩:=rowAt r;tm_up;refine⟨.inl ⟨rfl,_,aR.of e1⟩,?_⟩;tm_up;refine⟨by show 2<=sizeLine;decide,fun tp htp=>?_⟩;have sT:=ax.upd (o:=.tup [.str st0,.int (vH-num % 3)]) htp;have hT:=ag (H:=H3) (a:=tp) (o:=.tup [.str st0,.int (vH-num % 3)]);generalize upd H3 tp (.tup [.str st0,.int (vH-num % 3)])=H5 at sT hT;refine⟨a,qP,_,rfl,rfl,sT _ _ e1,aQ (by omega),?_⟩;exact⟨rfl,bC (S3.trans sT) na',Iw.write (r.same sT) hw hrow ha (sT _ _ e1) (j0 (bh (fun _ _ q=>nR.kn sT.kn q) e2) (⟨tp,rfl,hT⟩:nR H5 (.ref tp) (st0,vH-num % 3))) (by rw[Zj'];show t0.length+1<=B+1;omega)⟩
  rintro _ H3 ⟨rfl,S3,J7⟩;refine jf ?_;refine⟨fun σ H'=>σ=[some (.ref l),some (.int way),some (.int at'),some (.int num),some (.ref a),some (.int (p0:Int)),some (.str st0),some (.int vH)]/\ax H H'/\Iw way 8 B l as ts H',?_,?_⟩
  ·tm_up;refine aJ (fun h=>?_) (fun _=>⟨rfl,S3,J7.step⟩);have hw:=wy h;have r:=J7.now hw;tm_up;refine⟨rfl,fun L H4 s4 nL hL4=>?_⟩;have n28:(num % 28).toNat<ST.length:=by
    have:ST.length=28:=by lk
    omega
   obtain⟨sx,hsx⟩:∃ sx:Str,(ST.map V.str)[(num % 28).toNat]? = some (.str sx):=⟨_,by rw[Zi',C' n28];rfl⟩;tm_up;refine Ia (aR.of hL4) (n:=(num % 28).toNat) (by omega) hsx ?_;tm_up;refine⟨by show 2<=sizeLine;decide,fun tp htp=>?_⟩;have sT:=ax.upd (o:=.tup [.str sx,.int vH]) htp;have hT:=ag (H:=H4) (a:=tp) (o:=.tup [.str sx,.int vH]);show Yb (FJ 4) (FJ 5) LO (V.ref tp) _ (upd H4 tp (.tup [.str sx,.int vH])) _;generalize upd H4 tp (.tup [.str sx,.int vH])=H5 at sT hT;obtain⟨qP,g1,g2,g3⟩:=setAt (v:=(sx,vH)) (r.same (s4.trans sT)) hw ⟨tp,rfl,hT⟩;refine⟨_,rfl,_,rfl,a,qP,p0,p0,rfl,rfl,g1,g2,?_⟩;exact⟨rfl,bC (S3.trans (s4.trans sT)) na',g3⟩
  rintro _ H3 ⟨rfl,S3,J7⟩;tm_up;obtain⟨ts',g1,g2,g3⟩:=J7.any hrow;exact q l _ ts' H3 S3 nl g1.li g1.rw (by omega) g3
def Ww:Sp:=fun vs H Q _=>vs=[]/\∀(f:Addr)(H':Hp),ax H H'->H f=none->H' f=some (.lst (ST.map V.str))->Q (.ref f) H'
theorem abl {l r:Str}(hl:l.length<=1)(hr:r.length<=2):(Str.empty ++ "3":Str).length<=sizeLine/\(Str.empty ++ "3" ++ l:Str).length<=sizeLine/\(f3 l r).length<=sizeLine:=by
 have e1:(Str.empty ++ "3":Str).length=1:=by lk
 have e2:∀ a b:Str,(a++b).length=a.length+b.length:=fun a b=>by
  show(a.cps++b.cps).size=_;rw[Array.size_append];rfl
 refine⟨nr (by rw[e1];decide),nr (by rw[e2,e1];omega),nr (by unfold f3;rw[e2,e2,e1];omega)⟩
theorem Wx (T:Txt K w mg t):bV P w K mg base iw (0+1) t.lF t.DU [] Ww:=by
 refine T.rC.ok tK (fun vs H Q E h=>?_) (fun cdv A outer s H vs Q E hr h=>?_)
 ·obtain⟨rfl,_⟩:=h;rfl
 ·obtain⟨rfl,q⟩:=h;refine aT (af (aH (i:=0) tK.nd rfl (Or.inl rfl) (b8 kN rfl T.ni mX (aa (bX (v:=.ref t.bK) rfl T.jD rfl) aj))) (af (bQ (e8 Zh' Zg' Zf' bf (pv 0) (aa (bX (v:=.str "3t0-") rfl T.ez ⟨_,rfl⟩) aj))) (af (cj PassesOwn.never rfl (IP (bX (v:=.ref t.cV) rfl T.A8 rfl)) (aG (i:=1) tK.nd rfl (Or.inl rfl)) (af (bQ (e8 Zh' Zg' Zf' bf (pv 0) (aa (Jc (gB Dq (gB (ue (pv 1)) (gB (ue (bX (v:=.str "0-") rfl T.aba ⟨_,rfl⟩)) Jb)))) aj))) (ai (cj PassesOwn.never rfl (IP (bX (v:=.ref t.cU) rfl T.A7 rfl)) (aG (i:=2) tK.nd rfl (Or.inl rfl)) (ai (bQ (e8 Zh' Zg' Zf' bf (pv 0) (aa (Jc (gB Dq (gB (ue (pv 1)) (gB (ue (pv 2)) Jb)))) aj)))))))) (ai (ay (aU AE rfl T.tM tu (aa (pv 0) aj))))))) ?_;refine⟨_,_,rfl,.inr (T.jE _),fun f hf=>?_⟩;tm_up;refine⟨.inl ⟨rfl,_,aR.of ag⟩,?_⟩;refine⟨_,_,_,rfl,rfl,ag,aQ (by decide),?_⟩;rw[iy];refine⟨_,rfl,⟨_,T.qF _⟩,IQ (K:=K) (xs:=LF.map V.str) (fun i σ H'=>∃ v w,σ=[some (.ref f),v,w]/\H'=upd H f (.lst ((FR i).map V.str))) ⟨none,none,rfl,rfl⟩ ?_ ?_ ?_⟩
  ·rintro i σ H' _ ⟨v,w,rfl,rfl⟩;exact T.qF _
  ·rintro i x σ H' hx ⟨v,w,rfl,rfl⟩;obtain⟨l,hl,rfl⟩:=Dd hx;have hi:=aik hl;have hal:=L9 (i:=i) (by omega);have hll:=ags hl;obtain⟨z1,z2,z3⟩:=abl (l:=l) (r:="0-") hll (by lk);tm_up;refine⟨.inl ⟨rfl,_,aR.of ag⟩,?_⟩;refine⟨z1,_,rfl,.inl ⟨_,rfl,nr (by omega),z2,.inl ⟨_,rfl,nr (by lk),z3,z3,?_⟩⟩⟩;refine⟨_,_,_,rfl,rfl,ag,aQ (by rw[K'];omega),?_⟩;rw[iy];refine⟨_,rfl,⟨_,T.qE _⟩,IQ (K:=K) (xs:=RN.map V.str) (fun j σ H'=>∃ w,σ=[some (.ref f),some (.str l),w]/\H'=upd H f (.lst ((FR i++f3 l "0-" :: (RN.take j).map (f3 l)).map V.str))) ⟨w,rfl,?_⟩ ?_ ?_ ?_⟩
   ·rw[map_append];rfl
   ·rintro j σ H' _ ⟨w,rfl,rfl⟩;exact T.qE _
   ·rintro j x σ H' hy ⟨w,rfl,rfl⟩;obtain⟨r,hr',rfl⟩:=Dd hy;have hrl:=agt hr';have hj:j<7:=(B'.mp hr').1;obtain⟨z1,z2,z3⟩:=abl (l:=l) (r:=r) hll hrl;tm_up;refine⟨.inl ⟨rfl,_,aR.of ag⟩,?_⟩;refine⟨z1,_,rfl,.inl ⟨_,rfl,nr (by omega),z2,_,rfl,.inl ⟨_,rfl,nr (by omega),z3,z3,?_⟩⟩⟩;refine⟨_,_,_,rfl,rfl,ag,aQ (by rw[K',Zj',Zp',K',Zn'];omega),?_⟩;refine⟨_,rfl,?_⟩;rw[iy,List.take_add_one,hr']
    congr 2
    simp[f3]
   ·rintro σ H' ⟨w,rfl,rfl⟩;refine⟨_,_,rfl,?_⟩;rw[VX hl];rfl
  ·rintro σ H' ⟨v,w,rfl,rfl⟩;refine⟨_,rfl,_,_,ST,rfl,aR.of ag,?_,VW,Ie,fun g hg=>?_⟩
   ·show(FR 3).length<64;have:=L9 (i:=3) (by omega);omega
   ·have sm:=ax.upd (o:=.lst ((FR 3).map V.str)) hf;exact q g _ (sm.trans (ax.upd hg)) (sm.free hg) ag
def Wz:Sp:=fun vs H Q _=>∃(z:Str)(l c t:Nat),vs=[.str z]/\z.cps.toList=[51,l,c,t]/\z.length<=4/\Q (.bl (mZ l c)) H
theorem za (T:Txt K w mg t):bV P w K mg base iw (0+1) t.lG t.DV ["state"] Wz:=by
 refine T.lV.ok Im (fun vs H Q E h=>?_) (fun cdv A outer s H vs Q E hr h=>?_)
 ·obtain⟨_,_,_,_,rfl,_⟩:=h;rfl
 ·obtain⟨z,l,c,t,rfl,hz,hl,q⟩:=h;have hl':z.length<=sizeLine:=nr (by omega);refine aT (af (afA (i:=1) (j:=2) rfl Im.nd rfl rfl (by decide) rfl rfl (aa (aK aE (pv 0) ah (fun _ _=>rfl)) (aa (aK aE (pv 0) ah (fun _ _=>rfl)) aj)) rfl) (af (aM (ar (aI.or (aB (au hr))) (pv 2) aw (av _)) (ai (ay (bj (jY.or (e9 (au hr))) (pv 1) aw (av _)))) az) (ai (ay (bB (kf (bj (aI.or (aB (au hr))) (pv 2) aw (av _)) (jg (bj (aI.or (aB (au hr))) (pv 1) aw (av _))))))))) ?_;refine⟨_,rfl,.inr (.inr ⟨_,_,l,rfl,rfl,hl',by rw[hz];rfl,?_⟩)⟩;refine⟨_,rfl,.inr (.inr ⟨_,_,c,rfl,rfl,hl',by rw[hz];rfl,?_⟩)⟩;refine⟨_,_,rfl,?_⟩;tm_up;rw[b3 c 48 (by lk)];unfold mZ at q;refine aJ (fun h=>?_) (fun h=>?_)
  ·tm_up;rw[S' h]at q;rw[Y8 l 104 (by lk)];exact q
  ·rw[M' h]at q;refine eX (.bl (decide (c=49)&&decide (l=104))) ?_ ?_
   ·tm_up;rw[b3 c 49 (by lk)];refine aJ (fun h=>?_) (fun h=>?_)
    ·tm_up;rw[b3 l 104 (by lk)];exact bD (by rw[h];rfl)
    ·exact bD (by rw[O'.mpr h];rfl)
   ·exact q
def adN:Sp:=fun vs H Q _=>∃(z:Str),vs=[.str z]/\z∈ST/\Q (.bl (m6 z)) H
theorem adO (T:Txt K w mg t):bV P w K mg base iw (0+2) t.uv t.SD ["state"] adN:=by
 have rN:=za (P:=P) (base:=base) T;refine T.D5.ok ady (fun vs H Q E h=>?_) (fun cdv A outer s H vs Q E hr h=>?_)
 ·obtain⟨_,rfl,_⟩:=h;rfl
 ·obtain⟨z,rfl,hz,q⟩:=h;refine aT (af (aM (ar (bq.or bp) (pv 0) (bX (v:=.ref t.bK) rfl T.jD rfl) rfl) (ai (ay (bj (jY.or (e9 (au hr))) (pv 0) aw (av _)))) az) (ai (ay (aC rN (hr.mono (by decide)) rfl T.yV T.lV.kp T.rD .nil aO (aa (pv 0) aj))))) ?_;refine⟨_,rfl,.inl ⟨_,_,rfl,.inr (T.jE _),rfl,rfl,_,rfl,?_⟩⟩;show(if(inV (.str z) [.str "2-",.str "2g",.str "2G"])=true then _ else _);rw[aeQ hz];unfold m6 at q;refine aJ (fun h=>?_) (fun h=>?_)
  ·rw[S' h]at q;tm_up;rw[Ov];exact q
  ·rw[M' h]at q;obtain⟨l,c,t,e⟩:=wd hz h;rw[e]at q;tm_up;exact⟨_,_,_,_,rfl,e,Dc hz,q⟩
def zb (K:Frag):Sp:=fun vs H Q _=>∃(d:Addr)(o:Option Int)(t:Nb),vs=[.ref d,eV o]/\H d=some (.dK (dB t))/\(∀ p∈t,p.1∈ST)/\t.length<=900/\∀ H',ax H H'->Q (.bl (rcB t o)) H'
theorem abm {t:Nb}{i:Nat}{p:Str×Int}(h:t[i]? = some p):j3 (t.take (i+1))=j3 (t.take i)++(if m6 p.1=true then [p.2] else []):=by
 unfold j3;rw[take_succ,h,List.filter_append,map_append]
 congr 1
 show List.map _ (List.filter _ [p])=_;rw[List.filter_cons];split <;> rfl
theorem abn (t:Nb):(j3 t).length<=t.length:=by unfold j3;rw[K'];exact List.length_filter_le ..
theorem zc (T:Txt K w mg t):bV P w K mg base iw (0+3) t.cQ t.kj ["numbers","bound"] (zb K):=by
 have agQ:=adO (P:=P) (base:=base) T;refine T.eL.ok oh (fun vs H Q E h=>?_) (fun cdv A outer s H vs Q E hr h=>?_)
 ·obtain⟨_,_,_,rfl,_⟩:=h;rfl
 ·obtain⟨d,bo,t',rfl,hd,hst,tl,q⟩:=h;refine aT (af (C7 (jm (i:=2) oh.nd rfl rfl (cn:=["state","number"]) rfl (bS.of rfl) (vX (pv 0)) (fun _=>(dC rfl (aN (aG (i:=0) lB rfl (Or.inl rfl)) (aN (aG (i:=1) lB rfl (Or.inl rfl)) cK)))) (fun _=>(Yz (bZ (aC agQ (hr.mono (by decide)) rfl T.adA T.D5.kp T.SI .nil aO (aa (pv 0) aj))))) (fun _=>(pv 1)))) (af (aM (ar IS (pv 1) bL (av _)) (ai (ay (bj (Ji (au hr)) (pv 2) (cm aj) (av _)))) az) (ai (ay (aU vS rfl T.JV Jg (aa (mW (cn:=["number"]) rfl (bS.of rfl) (bR (pv 2)) (fun _=>(aG (i:=0) uj rfl (Or.inl rfl))) (fun _=>iC) (fun _=>(bj aen (pv 0) (pv 2) (av _)))) aj)))))) ?_;refine⟨_,rfl,d,_,rfl,hd,fun o D b' hD=>?_⟩;have sx0:∀ b u,b≠d->H b=some u->upd H d (.ix o (.dK (dB t'))) b=some u:=fun b u hb e=>by rw[aA hb];exact e
  have hd1:=ag (H:=H) (a:=d) (o:=.ix o (.dK (dB t')));have nDd:D≠d:=fun e=>by rw[e,hd1]at hD;cases hD
  generalize upd H d (.ix o (.dK (dB t')))=H1 at sx0 hd1 hD;refine Oj (fun i zs σ H'=>∃(v1 v2 v3:Option V),σ=[v1,v2,some (.ref d),some (eV bo),v3]/\ax H1 H'/\H' D=some (.lst zs)/\zs=(j3 (t'.take i)).map V.int/\i<=t'.length)
   ⟨none,none,none,rfl,ax.upd hD,ag,rfl,X' _⟩ ?_ ?_ ?_
  ·rintro i zs σ H' ⟨v1,v2,v3,rfl,s6,_⟩;exact s6 _ _ hd1
  ·rintro i zs kv tt σ H6 hkv ⟨v1,v2,v3,rfl,s6,hD6,p6,il6⟩ htt N hN;obtain⟨⟨z,n⟩,hw,rfl⟩:=De hkv;have FG:i<t'.length:=(B'.mp hw).1;have hz:z∈ST:=hst _ (V' hw);have st:=ax.upd (o:=.tup [kV (Sum.inr z),.int n]) htt;have h7:=ag (H:=H6) (a:=tt) (o:=.tup [kV (Sum.inr z),.int n]);show _;generalize upd H6 tt (.tup [kV (Sum.inr z),.int n])=H7 at st h7;have et:=abm hw;have zl:zs.length<=900:=by
    rw[p6,K'];exact Zk' (abn _) (by rw[Zn'];omega)
   refine⟨tt,_,rfl,dz.of h7,rfl,_,_,rfl,_,_,rfl,rfl,?_⟩;refine⟨_,rfl,z,rfl,hz,_,rfl,?_⟩;refine aJ (fun h=>?_) (fun h=>?_)
   ·rw[S' h]at et;refine⟨_,rfl,st _ _ hD6,aQ (by omega),hN _ _ _ ⟨_,_,_,rfl,bC (s6.trans st) hD,ag,?_,FG⟩⟩;rw[et,p6,map_append];rfl
   ·rw[M' h,append_nil]at et;exact hN _ _ _ ⟨_,_,_,rfl,s6.trans st,st _ _ hD6,by rw[et];exact p6,FG⟩
  ·rintro zs σ H6 ⟨v1,v2,v3,rfl,s6,hD6,p6,_⟩;rw[gK,take_length]at p6;have hd6:=s6 _ _ hd1;refine⟨d,o,_,hd6,fun o' v' e=>?_,?_⟩
   ·have e:H d=some (.ix o' v'):=e;rw[hd]at e;cases e
   have s7:ax H (upd H6 d (.dK (dB t'))):=fun b u e=>by
    by_cases hb:b=d
    ·subst hb;rw[hd]at e;cases e;exact ag
    ·rw[aA hb];exact s6 _ _ (sx0 b u hb e)
   have hD7:upd H6 d (.dK (dB t')) D=some (.lst zs):=by rw[aA nDd];exact hD6
   generalize upd H6 d (.dK (dB t'))=H7 at s7 hD7;subst p6;cases bo with
   |none =>
    tm_up;refine⟨rfl,_,rfl,dj ?_⟩;tm_up;refine⟨big (by show 0<=1000;omega),fun e0 he0=>?_⟩;have s8:=ax.upd (o:=.lst []) he0;refine⟨D,e0,_,rfl,rfl,aR.of (s8 _ _ hD7),aR.of ag,?_⟩;have:=q _ (s7.trans s8);unfold rcB at this;rw[List.isEmpty_map];exact this
   |some m =>
    tm_up;refine⟨rfl,_,rfl,dA ?_⟩;refine⟨_,rfl,_,rfl,⟨_,aR.of hD7⟩,fun D2 b2 hD2=>?_⟩;refine dG (K:=K) (xs:=(j3 t').map V.int) (fun i ys σ H'=>∃ v,σ=[v,some (.ref d),some (.int m),some (.ref D)]/\ax H7 H'/\H' D2=some (.lst ys)/\ys=(((j3 t').take i).map fun n=>decide (m<=n)).map V.bl) ⟨none,rfl,ax.upd hD2,ag,rfl⟩ ?_ ?_ ?_
    ·rintro i ys σ H' ⟨v,rfl,s8,_⟩;exact aR.of (s8 _ _ hD7)
    ·rintro i ys x σ H' hx ⟨v,rfl,s8,h8,rfl⟩ N hN;rw[Zi']at hx;obtain⟨n,hn,rfl⟩:=Option.map_eq_some_iff.mp hx;have il:i<(j3 t').length:=(B'.mp hn).1;have ll:=abn t';refine fb ?_;tm_up;refine⟨h8,aQ (by rw[K',K',Zn'];omega),hN _ _ _ ⟨_,rfl,bC s8 hD2,ag,?_⟩⟩;rw[take_succ,hn,map_append,map_append];rfl
    ·rintro ys σ H8 ⟨v,rfl,s8,h8,rfl⟩;rw[K',take_length]at h8;refine⟨rfl,D2,_,rfl,aR.of h8,?_⟩;rw[List.all_map];exact q _ (s7.trans s8)
def WA:Sp:=fun vs H Q _=>∃(d:Addr)(z:Str)(m:Int)(t:Nb),vs=[.ref d,.str z,.int m]/\Rd H d (.dK (dB t))/\Q (.bl (AQ t z m)) H
theorem zd (T:Txt K w mg t):bV P w K mg base iw (0+1) t.lH t.DW ["numbers","state","most"] WA:=by
 refine T.lW.ok V7 (fun vs H Q E h=>?_) (fun cdv A outer s H vs Q E hr h=>?_)
 ·obtain⟨_,_,_,_,rfl,_⟩:=h;rfl
 ·obtain⟨d,z,m,t',rfl,hd,q⟩:=h;refine aT (ai (ay (bB (kf (afy (YM (je hr) (pv 1) (pv 0))) (jg (bj ahG (tw (je hr) (pv 0) (pv 1) (fun _ _=>rfl)) (pv 2) (av _))))))) ?_;have g:nq H d (.str z) (qL (dB t') (Sum.inr z)):=.inl ⟨_,Sum.inr z,hd,rfl,rfl⟩;rw[kO]at g;unfold AQ at q;refine eX _ ?_ q;refine⟨_,rfl,_,rfl,d,_,rfl,g,?_⟩;cases e:gN t' z with
  |none =>
   refine⟨_,rfl,dA ?_⟩;exact bD rfl
  |some n =>
   rw[e]at g;refine⟨_,rfl,dj ?_⟩;refine⟨_,rfl,_,rfl,d,_,rfl,g,?_⟩;tm_up;exact bD rfl
def En:Sp:=fun vs H Q _=>∃(b:Int),vs=[.int b]/\Q (.str (if b=3 then "3n0-" else "2-")) H
theorem Eo (T:Txt K w mg t):bV P w K mg base iw (0+1) t.dv t.jW ["begin"] En:=by
 refine T.eQ.ok DN (fun vs H Q E h=>?_) (fun cdv A outer s H vs Q E hr h=>?_)
 ·obtain⟨_,rfl,_⟩:=h;rfl
 ·obtain⟨b,rfl,q⟩:=h;refine aT (af (aM (ar (aI.or (aB (au hr))) (pv 0) ah (av _)) (ai (ay (bX (v:=.str "3n0-") rfl T.nj ⟨_,rfl⟩))) az) (ai (ay (bX (v:=.str "2-") rfl T.qD ⟨_,rfl⟩)))) ?_;tm_up;rw[qW];refine aJ (fun h=>?_) (fun h=>?_)
  ·rw[S' (J' h)]at q;exact q
  ·rw[M' (fun z=>h (W' z))]at q;exact q
def Gv (K:Frag):Sp:=fun vs H Q _=>∃(p z:Addr)(s:Sg)(c:q0),vs=[.ref p,.ref z]/\dz K H p [.str s.1.str,.int s.2]/\H z=some (.tup [eV c.1,eV c.2.1,eV c.2.2])/\Q (eV (costOf c s.1)) H
theorem ajx (k:Kd):inV (.str k.str) [.str "D",.str "d"]=(decide (k=.D)||decide (k=.d)):=by cases k <;> decide +kernel
theorem ajy (k:Kd):inV (.str k.str) [.str "3",.str "2"]=(decide (k=.three)||decide (k=.two)):=by cases k <;> decide +kernel
theorem Gw (T:Txt K w mg t):bV P w K mg base iw (0+1) t.dX t.pK ["sign","prices"] (Gv K):=by
 refine T.iM.ok jU (fun vs H Q E h=>?_) (fun cdv A outer s H vs Q E hr h=>?_)
 ·obtain⟨_,_,_,_,rfl,_⟩:=h;rfl
 ·obtain⟨p,z,s,c,rfl,hp,hz,q⟩:=h;refine aT (af (lx (pv 1) (dC rfl (aN (aG (i:=2) jU.nd rfl (Or.inl rfl)) (aN (aG (i:=3) jU.nd rfl (Or.inl rfl)) (aN (aG (i:=4) jU.nd rfl (Or.inl rfl)) cK))))) (af (aM (ar (aI.or (aB (au hr))) (aK aE (pv 0) ah (fun _ _=>rfl)) aw (av _)) (ai (ay (pv 2))) az) (af (aM (ar (bq.or bp) (aK aE (pv 0) ah (fun _ _=>rfl)) (bX (v:=.ref t.ef) rfl T.JY rfl) rfl) (ai (ay (pv 3))) az) (af (aM (ar (bq.or bp) (aK aE (pv 0) ah (fun _ _=>rfl)) (bX (v:=.ref t.cT) rfl T.A5 rfl) rfl) (ai (ay (pv 4))) az) (ai (ay ah)))))) ?_;refine⟨_,rfl,z,_,rfl,dz.of hz,rfl,_,_,rfl,_,_,rfl,_,_,rfl,rfl,?_⟩;tm_up;refine Jt hp ?_;tm_up;rw[aeJ];refine aJ (fun h=>?_) (fun h=>?_)
  ·rw[J' h]at q;exact⟨_,rfl,q⟩
  ·have h1:s.1≠.dot:=fun e=>h (W' e);tm_up;refine Jt hp ?_;tm_up;refine .inl ⟨_,_,rfl,.inr (T.JZ _),rfl,rfl,_,rfl,?_⟩;rw[ajx];refine aJ (fun h=>?_) (fun h=>?_)
   ·have e:costOf c s.1=c.2.1:=by revert h;cases s.1 <;> first|(intro h;rfl)|(intro h;exact j' h (by decide))
    rw[e]at q;exact⟨_,rfl,q⟩
   ·tm_up;refine Jt hp ?_;tm_up;refine .inl ⟨_,_,rfl,.inr (T.A6 _),rfl,rfl,_,rfl,?_⟩;rw[ajy];refine aJ (fun h2=>?_) (fun h2=>?_)
    ·have e:costOf c s.1=c.2.2:=by revert h2;cases s.1 <;> first|(intro h;rfl)|(intro h;exact j' h (by decide))
     rw[e]at q;exact⟨_,rfl,q⟩
    ·have e:costOf c s.1=some 0:=by
      revert h1 h h2
      cases s.1 <;> first|(intro _ _ _;rfl)|(intro a _ _;exact j' rfl a)|(intro _ a _;exact j' rfl a)|(intro _ _ a;exact j' rfl a)
     rw[e]at q;exact q
def abp (K:Frag):Sp:=fun vs H Q _=>∃(p:Addr)(s:Sg),vs=[.ref p]/\dz K H p [.str s.1.str,.int s.2]/\Q (.bl s.1.small) H
theorem wH (k:Kd):inV (.str k.str) [.str "s",.str "d",.str "r"]=k.small:=by cases k <;> decide +kernel
theorem abq (T:Txt K w mg t):bV P w K mg base iw (0+1) t.pL t.JM ["sign"] (abp K):=by
 refine T.wz.ok aa5 (fun vs H Q E h=>?_) (fun cdv A outer s H vs Q E hr h=>?_)
 ·obtain⟨_,_,rfl,_⟩:=h;rfl
 ·obtain⟨p,s,rfl,hp,q⟩:=h;rw[<-wH]at q;refine aT (ai (ay (bj (bq.or bp) (aK aE (pv 0) ah (fun _ _=>rfl)) (bX (v:=.ref t.dw) rfl T.Gj rfl) rfl))) ?_;tm_up;refine Jt hp ?_;tm_up;exact .inl ⟨_,_,rfl,.inr (T.Gk _),rfl,rfl,q⟩
def SX (K:Frag):Sp:=fun vs H Q _=>∃(p:Addr)(s:Sg),vs=[.ref p]/\dz K H p [.str s.1.str,.int s.2]/\Q (.bl s.1.parting) H
theorem adP (k:Kd):inV (.str k.str) [.str ".",.str "3",.str "2"]=k.parting:=by cases k <;> decide +kernel
theorem SY (T:Txt K w mg t):bV P w K mg base iw (0+1) t.jy t.yQ ["sign"] (SX K):=by
 refine T.ou.ok Sz (fun vs H Q E h=>?_) (fun cdv A outer s H vs Q E hr h=>?_)
 ·obtain⟨_,_,rfl,_⟩:=h;rfl
 ·obtain⟨p,s,rfl,hp,q⟩:=h;rw[<-adP]at q;refine aT (ai (ay (bj (bq.or bp) (aK aE (pv 0) ah (fun _ _=>rfl)) (bX (v:=.ref t.cS) rfl T.A3 rfl) rfl))) ?_;tm_up;refine Jt hp ?_;tm_up;exact .inl ⟨_,_,rfl,.inr (T.A4 _),rfl,rfl,q⟩
def oE:Sp:=fun vs H Q _=>∃(z:Str),vs=[.str z]/\∀ H',ax H H'->Q (.bl (rnZ z)) H'
theorem oF (T:Txt K w mg t):bV P w K mg base iw (0+1) t.bu t.dY ["state"] oE:=by
 refine T.b6.ok oi (fun vs H Q E h=>?_) (fun cdv A outer s H vs Q E hr h=>?_)
 ·obtain⟨_,rfl,_⟩:=h;rfl
 ·obtain⟨z,rfl,q⟩:=h;refine aT (ai (ay (bj (bq.or bp) (pv 0) (bT (aa aw (aa aw (aa aw aj)))) rfl))) ?_;tm_up;refine⟨by show 3<=sizeLine;decide,fun p hp=>?_⟩;exact .inl ⟨p,_,rfl,.inr (dz.of ag),rfl,rfl,q _ (ax.upd hp)⟩
def uG:Sp:=fun vs H Q _=>∃(z:Str),vs=[.str z]/\∀ H',ax H H'->Q (.bl (bgZ z)) H'
theorem uH (T:Txt K w mg t):bV P w K mg base iw (0+1) t.b5 t.iK ["state"] uG:=by
 refine T.dn.ok uh (fun vs H Q E h=>?_) (fun cdv A outer s H vs Q E hr h=>?_)
 ·obtain⟨_,rfl,_⟩:=h;rfl
 ·obtain⟨z,rfl,q⟩:=h;refine aT (ai (ay (bj (bq.or bp) (pv 0) (bT (aa aw (aa aw aj))) rfl))) ?_;tm_up;refine⟨by show 2<=sizeLine;decide,fun p hp=>?_⟩;exact .inl ⟨p,_,rfl,.inr (dz.of ag),rfl,rfl,q _ (ax.upd hp)⟩
def Gx:Sp:=fun vs H Q _=>∃(z k:Str)(n:Int)(l c e:Nat),vs=[.str z,.str k,.int n]/\z.cps.toList=[51,l,c,e]/\z.length<=4/\∀ H',ax H H'->Q (grS z k n) H'
theorem Gy (T:Txt K w mg t):bV P w K mg base iw (0+2) t.dZ t.pM ["state","kind","worth"] Gx:=by
 have pZ:=oF (P:=P) (base:=base) T;have rN:=za (P:=P) (base:=base) T;have wI:=uH (P:=P) (base:=base) T;refine T.iO.ok F7 (fun vs H Q E h=>?_) (fun cdv A outer s H vs Q E hr h=>?_)
 ·obtain⟨_,_,_,_,_,_,rfl,_⟩:=h;rfl
 ·obtain⟨z,k,n,l,c,e,rfl,hz,hl,q⟩:=h;refine aT (af (aM (ar (aI.or (aB (au hr))) (pv 0) (bX (v:=.str "3t0-") rfl T.ez ⟨_,rfl⟩) (av _)) (ai (ay bL)) az) (af (aM (ba (PW.pt (bz (bZ (aC pZ (hr.mono (by decide)) rfl T.ow T.b6.kp T.ej .nil aO (aa (pv 0) aj))) (bz (ar (aI.or (aB (au hr))) (pv 1) aw (av _)) (bH (ar (aI.or (aB (au hr))) (pv 2) ah (av _))))))) (ai (ay (bX (v:=.str "3t0-") rfl T.ez ⟨_,rfl⟩))) az) (af (aM (ba (PW.pt (iz (bZ (aC rN (hr.mono (by decide)) rfl T.yV T.lV.kp T.rD .nil aO (aa (pv 0) aj))) (eY (bZ (aC wI (hr.mono (by decide)) rfl T.uC T.dn.kp T.iN .nil aO (aa (pv 0) aj))))))) (ai (ay (LZ (je hr) (bX (v:=.ref t.c6) rfl T.Gp rfl) (bT (aa (pv 1) (aa (pv 2) aj)))))) az) (ai (ay bL))))) ?_;unfold grS at q;tm_up;rw[j2];refine aJ (fun h=>?_) (fun h=>?_)
  ·rw[S' h]at q;tm_up;exact q _ (ax.refl _)
  rw[M' h]at q;tm_up;refine⟨fun b H'=>b=(rnZ z&&(decide (k = "G")&&decide (n=2)))/\ax H H',?_,?_⟩
  ·tm_up;intro H1 S1;tm_up;cases rnZ z with
   |false=>exact dA ⟨rfl,S1⟩
   |true =>
    refine dj ?_;tm_up;rw[j2];cases decide (k = "G") with
    |false=>exact dA ⟨rfl,S1⟩
    |true =>
     refine dj ?_;tm_up;rw[intD];exact⟨rfl,S1⟩
  rintro _ H1 ⟨rfl,S1⟩;refine aJ (fun h=>?_) (fun h=>?_)
  ·rw[S' h]at q;tm_up;exact q _ S1
  rw[M' h]at q;tm_up;refine⟨fun b H'=>b=(clZ z||bgZ z)/\ax H H',?_,?_⟩
  ·tm_up;refine⟨z,l,c,e,rfl,hz,hl,?_⟩;have ec:clZ z=mZ l c:=by unfold clZ;rw[hz];rfl
   rw[<-ec];tm_up;cases clZ z with
   |true=>exact dj ⟨rfl,S1⟩
   |false =>
    refine dA ?_;tm_up;intro H2 S2;exact⟨_,rfl,rfl,S1.trans S2⟩
  rintro _ H2 ⟨rfl,S2⟩;refine aJ (fun h=>?_) (fun h=>?_)
  ·rw[S' h]at q;tm_up;refine⟨_,_,rfl,T.Ec,?_⟩;tm_up;refine⟨by show 2<=sizeLine;decide,fun p hp=>?_⟩;exact⟨p,k,n,rfl,ag,q _ (S2.trans (ax.upd hp))⟩
  rw[M' h]at q;tm_up;exact q _ S2
def Bc:Sp:=fun vs H Q _=>∃(z k:Str)(n:Int),vs=[.str z,.str k,.int n]/\∀ H',ax H H'->Q (twS z k n) H'
theorem Bd (T:Txt K w mg t):bV P w K mg base iw (0+1) t.c7 t.lI ["state","kind","worth"] Bc:=by
 refine T.fB.ok AU (fun vs H Q E h=>?_) (fun cdv A outer s H vs Q E hr h=>?_)
 ·obtain⟨_,_,_,rfl,_⟩:=h;rfl
 ·obtain⟨z,k,n,rfl,q⟩:=h;refine aT (af (aM (ba (PW.pt (bz (ar (aI.or (aB (au hr))) (pv 0) aw (av _)) (bH (ar (jY.or (e9 (au hr))) (pv 1) aw (av _)))))) (ai (ay bL)) az) (af (aM (ba (PW.pt (bz (ar (aI.or (aB (au hr))) (pv 0) aw (av _)) (bH (ar (aI.or (aB (au hr))) (pv 1) aw (av _)))))) (ai (ay bL)) az) (ai (ay (LZ (je hr) (bX (v:=.ref t.cg) rfl T.A9 rfl) (bT (aa (pv 1) (aa (pv 2) aj)))))))) ?_;refine dS (decide (z = "2G") && !decide (k = ".")) ?_ ?_
  ·tm_up;rw[j2];cases decide (z = "2G") with
   |false=>exact bE rfl
   |true =>
    refine dj ?_;tm_up;rw[j2];exact bE rfl
  unfold twS at q;refine aJ (fun h=>?_) (fun h=>?_)
  ·rw[S' h]at q;tm_up;exact q H (ax.refl _)
  rw[M' h]at q;refine dS (decide (z = "2g")&&decide (k = ".")) ?_ ?_
  ·tm_up;rw[j2];cases decide (z = "2g") with
   |false=>exact bE rfl
   |true =>
    refine dj ?_;tm_up;rw[j2];exact bE rfl
  refine aJ (fun h=>?_) (fun h=>?_)
  ·rw[S' h]at q;tm_up;exact q H (ax.refl _)
  rw[M' h]at q;tm_up;refine⟨_,_,rfl,T.y8,?_⟩;tm_up;refine⟨by show 2<=sizeLine;decide,fun p hp=>?_⟩;exact⟨p,k,n,rfl,ag,q _ (ax.upd hp)⟩
def J8:Sp:=fun vs H Q _=>∃(k c:Str)(n:Int),vs=[.str k,.str c,.int n]/\Q (tlS k c n) H
theorem J9 (T:Txt K w mg t):bV P w K mg base iw (0+1) t.fo t.rg ["kind","count","worth"] J8:=by
 refine T.j6.ok JI (fun vs H Q E h=>?_) (fun cdv A outer s H vs Q E hr h=>?_)
 ·obtain⟨_,_,_,rfl,_⟩:=h;rfl
 ·obtain⟨k,c,n,rfl,q⟩:=h;refine aT (af (aM (ar (aI.or (aB (au hr))) (pv 2) ah (av _)) (ai (ay (bB (bA (ar (aI.or (aB (au hr))) (pv 0) aw (av _)) aw aw)))) az) (af (aM (ba (PW.pt (bz (ar (aI.or (aB (au hr))) (pv 2) ah (av _)) (bz (ar (aI.or (aB (au hr))) (pv 0) aw (av _)) (bH (ar (aI.or (aB (au hr))) (pv 1) aw (av _))))))) (ai (ay aw)) az) (ai (ay bL)))) ?_;unfold tlS at q;tm_up;rw[intD];refine aJ (fun h=>?_) (fun h=>?_)
  ·rw[S' h]at q;refine eX (if decide (k = "s")=true then .str "s" else .str "o") ?_ q;tm_up;rw[j2];refine aJ (fun h=>?_) (fun h=>?_)
   ·tm_up;exact bD (by rw[S' h])
   ·tm_up;exact bD (by rw[M' h])
  rw[M' h]at q;refine dS (decide (n=2)&&(decide (k = "s")&&decide (c = "2"))) ?_ ?_
  ·tm_up;rw[intD];cases decide (n=2) with
   |false=>exact bE rfl
   |true =>
    refine dj ?_;tm_up;rw[j2];cases decide (k = "s") with
    |false=>exact bE rfl
    |true =>
     refine dj ?_;tm_up;rw[j2];exact bE rfl
  refine aJ (fun h=>?_) (fun h=>?_)
  ·rw[S' h]at q;tm_up;exact q
  rw[M' h]at q;tm_up;exact q
def Gz:Sp:=fun vs H Q _=>∃(z k:Str)(n:Int)(l c e:Nat),vs=[.str z,.str k,.int n]/\z.cps.toList=[51,l,c,e]/\(c=48\/c=49\/c=50)/\z.length<=4/\Q (smS z k n) H
theorem GA (T:Txt K w mg t):bV P w K mg base iw (0+2) t.d8 t.pN ["state","kind","worth"] Gz:=by
 have MH:=J9 (P:=P) (base:=base) T;refine T.iP.ok jV (fun vs H Q E h=>?_) (fun cdv A outer s H vs Q E hr h=>?_)
 ·obtain⟨_,_,_,_,_,_,rfl,_⟩:=h;rfl
 ·obtain⟨z,k,n,l,c,e,rfl,hz,hc,hl,q⟩:=h;have hl':z.length<=sizeLine:=nr (by omega);refine aT (af (aM (ar (aI.or (aB (au hr))) (aK aE (pv 0) ah (fun _ _=>rfl)) aw (av _)) (ai (ay bL)) az) (af (aH (i:=3) jV.nd rfl (Or.inl rfl) (aK ah3 (bX (v:=.ref t.c5) rfl T.Gn rfl) (aK aE (pv 0) ah (fun _ _=>rfl)) (fun _ _=>rfl))) (af (aH (i:=4) jV.nd rfl (Or.inl rfl) (aC MH (hr.mono (by decide)) rfl T.JR T.j6.kp T.rG .nil aO (aa (pv 1) (aa (pv 3) (aa (pv 2) aj))))) (af (aM (ar IS (pv 4) bL (av _)) (ai (ay bL)) az) (af (aH (i:=5) jV.nd rfl (Or.inl rfl) (bB (bA (ar (aI.or (aB (au hr))) (aK aE (pv 0) ah (fun _ _=>rfl)) aw (av _)) aw (aK aE (pv 0) ah (fun _ _=>rfl))))) (ai (ay (Jc (gB Dq (gB (ue (pv 5)) (gB (ue (pv 3)) (gB (ue (pv 4)) Jb)))))))))))) ?_;unfold smS at q;tm_up;refine .inr (.inr ⟨_,_,e,rfl,rfl,hl',by rw[hz];rfl,?_⟩);tm_up;rw[b3 e 83 (by lk)];have e3:z.cps.toList.getD 3 0=e:=by rw[hz];rfl
  have e2:z.cps.toList.getD 2 0=c:=by rw[hz];rfl
  have e1:z.cps.toList.getD 1 0=l:=by rw[hz];rfl
  rw[e3,e2]at q;refine aJ (fun h=>?_) (fun h=>?_)
  ·rw[S' h]at q;tm_up;exact q
  rw[M' h]at q;tm_up;refine .inr (.inr ⟨_,_,c,rfl,rfl,hl',by rw[hz];rfl,?_⟩);refine⟨_,_,_,.str (X1 c),rfl,rfl,T.Eb,by rcases hc with rfl|rfl|rfl <;> decide +kernel,?_⟩;tm_up;refine⟨k,X1 c,n,rfl,?_⟩;tm_up;have cl:=U0 c;have ll:=U1 z;have l3:("3":Str).length=1:=Ig _ (.inr (.inr (.inr (.inl rfl))));have ls:=Ig "s" (.inl rfl);have lo:=Ig "o" (.inr (.inl rfl));have lS:=Ig "S" (.inr (.inr (.inl rfl)));generalize X1 c=cc at q cl;rcases V0 k cc n with ht|ht|ht|ht <;> rw[ht]at q ⊢
  ·refine⟨rfl,_,rfl,dj ?_⟩;tm_up;exact q
  all_goals
   refine⟨rfl,_,rfl,dA ?_⟩;refine eX (.str (lfZ z)) ?_ ?_
   ·tm_up;refine .inr (.inr ⟨_,_,l,rfl,rfl,hl',by rw[hz];rfl,?_⟩);tm_up;rw[b3 l 116 (by lk)];unfold lfZ chr;rw[e1];refine aJ (fun h=>?_) (fun h=>?_)
    ·tm_up;exact bD (by rw[S' h])
    ·tm_up;refine .inr (.inr ⟨_,_,l,rfl,rfl,hl',by rw[hz];rfl,?_⟩);exact bD (by rw[M' h])
   refine⟨?_,_,rfl,.inl ⟨_,rfl,?_,?_,_,rfl,.inl ⟨_,rfl,?_,?_,_,rfl,.inl ⟨_,rfl,?_,?_,?_,?_⟩⟩⟩⟩
   all_goals first
    |exact nr (by omega)
    |exact nr (by simp only [PySem.Str.empty_append,q4];omega)
    |(rw[PySem.Str.empty_append];exact q)
def Be:Sp:=fun vs H Q _=>∃(z k:Str)(n:Int)(l c e:Nat),vs=[.str z,.str k,.int n]/\z.cps.toList=[51,l,c,e]/\z.length<=4/\Q (ptS z k n) H
theorem Bf (T:Txt K w mg t):bV P w K mg base iw (0+2) t.c8 t.lJ ["state","kind","worth"] Be:=by
 have rN:=za (P:=P) (base:=base) T;refine T.fD.ok AV (fun vs H Q E h=>?_) (fun cdv A outer s H vs Q E hr h=>?_)
 ·obtain⟨_,_,_,_,_,_,rfl,_⟩:=h;rfl
 ·obtain⟨z,k,n,l,c,e,rfl,hz,hl,q⟩:=h;refine aT (af (aM (ba (PW.pt (iz (ar (jY.or (e9 (au hr))) (pv 2) ah (av _)) (eY (ke (bZ (aC rN (hr.mono (by decide)) rfl T.yV T.lV.kp T.rD .nil aO (aa (pv 0) aj)))))))) (ai (ay bL)) az) (af (aM (ar (aI.or (aB (au hr))) (pv 1) aw (av _)) (ai (ay (bX (v:=.str "2-") rfl T.qD ⟨_,rfl⟩))) az) (ai (ay (bX (v:=.str "3n0-") rfl T.nj ⟨_,rfl⟩))))) ?_;refine dS (!decide (n=0) || !clZ z) ?_ ?_
  ·tm_up;rw[intD];cases hn:decide (n=0) with
   |false=>exact bE rfl
   |true =>
    refine dA ?_;tm_up;refine⟨z,l,c,e,rfl,hz,hl,?_⟩;have ec:clZ z=mZ l c:=by unfold clZ;rw[hz];rfl
    rw[<-ec];exact⟨_,rfl,rfl,rfl⟩
  unfold ptS at q;refine aJ (fun h=>?_) (fun h=>?_)
  ·rw[S' h]at q;tm_up;exact q
  rw[M' h]at q;tm_up;rw[j2];refine aJ (fun h=>?_) (fun h=>?_)
  ·rw[S' h]at q;tm_up;exact q
  rw[M' h]at q;tm_up;exact q
def adQ (K:Frag):Sp:=fun vs H Q _=>∃(z:Str)(p:Addr)(g:Sg)(n:Int),vs=[.str z,.ref p,.int n]/\z∈ST/\dz K H p [.str g.1.str,.int g.2]/\∀ H',ax H H'->Q (stS z g.1 n) H'
theorem adR (T:Txt K w mg t):bV P w K mg base iw (0+3) t.uw t.SE ["state","sign","worth"] (adQ K):=by
 have adS:=abq (P:=P) (base:=base) T;have WB:=SY (P:=P) (base:=base) T;have Ka:=Gy (P:=P) (base:=base) T;have Ep:=Bd (P:=P) (base:=base) T;have Kb:=GA (P:=P) (base:=base) T;have Er:=Bf (P:=P) (base:=base) T;refine T.D7.ok adz (fun vs H Q E h=>?_) (fun cdv A outer s H vs Q E hr h=>?_)
 ·obtain⟨_,_,_,_,rfl,_⟩:=h;rfl
 ·obtain⟨z,p,g,n,rfl,hz,hp,q⟩:=h;have hl:=Dc hz;refine aT (af (aM (ar (bq.or bp) (pv 0) (bX (v:=.ref t.bK) rfl T.jD rfl) rfl) (ai (ay (aC Ep (hr.mono (by decide)) rfl T.AY T.fB.kp T.lX .nil aO (aa (pv 0) (aa (aK aE (pv 1) ah (fun _ _=>rfl)) (aa (pv 2) aj)))))) az) (af (aM (bZ (aC adS (hr.mono (by decide)) rfl T.aa8 T.wz.kp T.JQ .nil aO (aa (pv 1) aj))) (ai (ay (aC Kb (hr.mono (by decide)) rfl T.Gg T.iP.kp T.pW .nil aO (aa (pv 0) (aa (aK aE (pv 1) ah (fun _ _=>rfl)) (aa (pv 2) aj)))))) az) (af (aM (bZ (aC WB (hr.mono (by decide)) rfl T.SJ T.ou.kp T.yY .nil aO (aa (pv 1) aj))) (ai (ay (aC Er (hr.mono (by decide)) rfl T.AZ T.fD.kp T.lY .nil aO (aa (pv 0) (aa (aK aE (pv 1) ah (fun _ _=>rfl)) (aa (pv 2) aj)))))) az) (ai (ay (aC Ka (hr.mono (by decide)) rfl T.Ge T.iO.kp T.pV .nil aO (aa (pv 0) (aa (aK aE (pv 1) ah (fun _ _=>rfl)) (aa (pv 2) aj))))))))) ?_;unfold stS at q;tm_up;refine .inl ⟨_,_,rfl,.inr (T.jE _),rfl,rfl,?_⟩;rw[aeQ hz];tm_up;refine aJ (fun h=>?_) (fun h=>?_)
  ·have h:ug z=true:=h;rw[S' h]at q;refine⟨_,rfl,_,rfl,Jt hp ⟨_,rfl,z,g.1.str,n,rfl,q⟩⟩
  have h:¬ ug z=true:=h;obtain⟨l,c,e,h3⟩:=wd hz h;rw[M' h]at q;refine⟨_,rfl,p,g,rfl,hp,_,rfl,?_⟩;refine aJ (fun h=>?_) (fun h=>?_)
  ·rw[S' h]at q;exact⟨_,rfl,_,rfl,Jt hp ⟨_,rfl,z,g.1.str,n,l,c,e,rfl,h3,aim hz h3,hl,q H (ax.refl _)⟩⟩
  rw[M' h]at q;refine⟨_,rfl,p,g,rfl,hp,_,rfl,?_⟩;refine aJ (fun h=>?_) (fun h=>?_)
  ·rw[S' h]at q;exact⟨_,rfl,_,rfl,Jt hp ⟨_,rfl,z,g.1.str,n,l,c,e,rfl,h3,hl,q H (ax.refl _)⟩⟩
  rw[M' h]at q;exact⟨_,rfl,_,rfl,Jt hp ⟨_,rfl,z,g.1.str,n,l,c,e,rfl,h3,hl,q⟩⟩
def abr (K:Frag):Sp:=fun vs H Q _=>∃(z:Str)(sg:Addr)(n:Int)(pz:Addr)(ys:List V)(ss:List Sg)(c:q0),vs=[.str z,.ref sg,.int n,.ref pz]/\z∈ST/\0<=n/\n<=9/\dz K H sg ys/\Paired (Mc K H) ys ss/\ss.length<=10/\H pz=some (.tup [eV c.1,eV c.2.1,eV c.2.2]) /\
 ∀(l:Addr)(xs:List V)(H':Hp),ax H H'->H l=none->H' l=some (.lst xs)->Paired (Oy K H') xs (cI c z n ss)->Q (.ref l) H'
theorem MI (T:Txt K w mg t):bV P w K mg base iw (0+4) t.pO t.JN ["state","signs","worth","prices"] (abr K):=by
 have Kc:=Gw (P:=P) (base:=base) T;have agR:=adR (P:=P) (base:=base) T;refine T.tL.ok q5 (fun vs H Q E h=>?_) (fun cdv A outer s H vs Q E hr h=>?_)
 ·obtain⟨_,_,_,_,_,_,_,rfl,_⟩:=h;rfl
 ·obtain⟨z,sg,n,pz,ys,ss,c,rfl,hz,h0,h9,hsg,hss,hl,hpz,q⟩:=h;refine aT (af (aH (i:=4) q5.nd rfl (Or.inl rfl) (cm aj)) (af (cj PassesOwn.never rfl (IP (pv 1)) (aG (i:=5) q5.nd rfl (Or.inl rfl)) (af (aH (i:=6) q5.nd rfl (Or.inl rfl) (aC Kc (hr.mono (by decide)) rfl T.Gd T.iM.kp T.pU .nil aO (aa (pv 5) (aa (pv 3) aj)))) (af (aH (i:=7) q5.nd rfl (Or.inl rfl) (aC agR (hr.mono (by decide)) rfl T.adB T.D7.kp T.SK .nil aO (aa (pv 0) (aa (pv 5) (aa (pv 2) aj))))) (ai (aM (ba (PW.pt (bz (ar tj (pv 6) bL (av _)) (bH (ar tj (pv 7) bL (av _)))))) (ai (bQ (e8 Zh' Zg' Zf' bf (pv 4) (aa (bT (aa (pv 5) (aa (pv 6) (aa (pv 7) aj)))) aj)))) az))))) (ai (ay (pv 4))))) ?_;refine⟨big (by show 0<=1000;omega),fun f hf=>?_⟩;have s0:=ax.upd (o:=.lst []) hf;tm_up;refine⟨⟨ys,s0.tup hsg⟩,IQ (K:=K) (xs:=ys) (fun i σ H'=>∃(u v w:Option V)(xs:List V),σ=[some (.str z),some (.ref sg),some (.int n),some (.ref pz),some (.ref f),u,v,w]/\ax H H'/\H' f=some (.lst xs)/\Paired (Oy K H') xs (cI c z n (ss.take i))/\i<=ss.length)
   ⟨none,none,none,[],rfl,s0,ag,.nil,X' _⟩ ?_ ?_ ?_⟩
  ·rintro i σ H' _ ⟨u,v,w,xs,rfl,s1,_⟩;exact s1.tup hsg
  ·rintro i x σ H' hx ⟨u,v,w,xs,rfl,s1,hf1,p1,il⟩;obtain⟨s,hs,p,rfl,hp⟩:=dq hss hx;have FG:i<ss.length:=(B'.mp hs).1;have hp1:=s1.tup hp;have xl:xs.length<=10:=by
    rw[bO p1];exact Zk' (V1 _ _ _ _) (by rw[Zn'];omega)
   have ht:=Ox (c:=c) (z:=z) (n:=n) hs;unfold Ow at ht;tm_up;refine⟨p,pz,s,c,rfl,hp1,s1 _ _ hpz,?_⟩;tm_up;refine⟨z,p,s,n,rfl,hz,hp1,fun H2 s2=>?_⟩;have sF:=s1.trans s2;have pF:=bh (fun _ _ q=>Oy.kn s2.kn q) p1;have hfF:=s2 _ _ hf1;rcases Y9 hz s.1 h0 h9 with ⟨e1,e2⟩|⟨y,hy,e1,e2⟩
   ·rw[e2]at ht;have ht:cI c z n (ss.take (i+1))=cI c z n (ss.take i):=by
     rw[ht];cases costOf c s.1 <;> exact append_nil _
    rw[e1];refine⟨fun b H3=>H3=H2/\b=false,?_,?_⟩
    ·cases costOf c s.1 with
     |none =>
      tm_up;exact⟨rfl,_,rfl,dA ⟨rfl,rfl⟩⟩
     |some m =>
      tm_up;refine⟨rfl,_,rfl,dj ?_⟩;tm_up;exact⟨rfl,_,rfl,rfl,rfl⟩
    ·rintro _ _ ⟨rfl,rfl⟩;exact dA ⟨_,_,_,xs,rfl,sF,hfF,by rw[ht];exact pF,FG⟩
   ·rw[e2]at ht;rw[e1];cases ec:costOf c s.1 with
    |none =>
     rw[ec]at ht;have ht:cI c z n (ss.take (i+1))=cI c z n (ss.take i):=by rw[ht];exact append_nil _
     refine⟨fun b H3=>H3=H2/\b=false,?_,?_⟩
     ·tm_up;exact⟨rfl,_,rfl,dA ⟨rfl,rfl⟩⟩
     ·rintro _ _ ⟨rfl,rfl⟩;exact dA ⟨_,_,_,xs,rfl,sF,hfF,by rw[ht];exact pF,FG⟩
    |some m =>
     rw[ec]at ht;refine⟨fun b H3=>H3=H2/\b=true,?_,?_⟩
     ·tm_up;refine⟨rfl,_,rfl,dj ?_⟩;tm_up;exact⟨rfl,_,rfl,rfl,rfl⟩
     ·rintro _ _ ⟨rfl,rfl⟩;refine dj ?_;tm_up;refine⟨.inl ⟨rfl,_,aR.of hfF⟩,?_⟩;tm_up;refine⟨by show 3<=sizeLine;decide,fun tp htp=>?_⟩;have sT:=ax.upd (o:=.tup [.ref p,.int m,.str y]) htp;have hfT:=sT _ _ hfF;refine⟨f,xs,_,rfl,rfl,hfT,aQ (by omega),?_⟩;refine⟨_,_,_,_,rfl,bC (sF.trans sT) hf,ag,?_,FG⟩;rw[ht];exact bh (fun _ _ q=>Oy.write hfT q) (j0 (bh (fun _ _ q=>Oy.kn sT.kn q) pF) ⟨tp,p,rfl,ag,(s2.trans sT).tup hp1⟩)
  ·rintro σ H' ⟨u,v,w,xs,rfl,s1,hf1,p1,_⟩;rw[bO hss,take_length]at p1;tm_up;exact q f xs H' s1 hf hf1 p1
def sKs:List Kd:=[.G,.D,.s,.d]
def Bg (K:Frag):Sp:=fun vs H Q _=>∃(n:Int),vs=[.int n]/\∀(sg:Addr)(ys:List V)(H':Hp),ax H H'->dz K H' sg ys->Paired (Mc K H') ys (gP n)->Q (.ref sg) H'
theorem Bh (T:Txt K w mg t):bV P w K mg base iw (0+1) t.c9 t.lK ["tone"] (Bg K):=by
 refine T.fE.ok AW (fun vs H Q E h=>?_) (fun cdv A outer s H vs Q E hr h=>?_)
 ·obtain⟨_,rfl,_⟩:=h;rfl
 ·obtain⟨n,rfl,q⟩:=h;unfold gP at q;refine aT (af (aM (ar (aI.or (aB (au hr))) (pv 0) (bX (v:=.int (-1)) rfl T.Mn ⟨_,rfl⟩) (av _)) (ai (ay (bX (v:=.ref t.ei) rfl T.J0 rfl))) az) (ai (ay (b8 FP rfl T.aa9 YG (aa (mW (cn:=["kind"]) rfl (bS.of rfl) (IP (bX (v:=.ref t.cq) rfl T.y6 rfl)) (fun _=>(aG (i:=0) wk rfl (Or.inl rfl))) (fun _=>iC) (fun _=>(bT (aa (pv 0) (aa (pv 1) aj))))) aj))))) ?_;tm_up;rw[intD];refine aJ (fun h=>?_) (fun h=>?_)
  ·rw[S' (J' h)]at q;exact q _ _ H (ax.refl _) (T.J1 _) (.cons ⟨_,rfl,T.Ed _⟩ (.cons ⟨_,rfl,T.Ee _⟩ .nil))
  rw[M' (fun e=>h (W' e))]at q;refine⟨_,rfl,⟨_,T.oD _⟩,fun D b hD=>?_⟩;refine YV (K:=K) (xs:=sKs.map fun k=>V.str k.str) (fun i ys σ H'=>∃(v:Option V),σ=[v,some (.int n)]/\ax H H'/\H' D=some (.lst ys)/\Paired (Mc K H') ys ((sKs.take i).map fun k=>(k,n))/\i<=4) ⟨none,rfl,ax.upd hD,ag,.nil,by decide⟩ ?_ ?_ ?_
  ·rintro i ys σ H' ⟨v,rfl,s1,_⟩;exact T.oD _
  ·rintro i ys x σ H' hx ⟨v,rfl,s1,hD1,p1,il⟩ N hN;rw[Zi']at hx;obtain⟨k,hk,rfl⟩:=Option.map_eq_some_iff.mp hx;have FG:i<4:=(B'.mp hk).1;refine fb ?_;tm_up;refine⟨by show 2<=sizeLine;decide,fun tp htp=>?_⟩;have sT:=ax.upd (o:=.tup [.str k.str,.int n]) htp;have yl:ys.length<=4:=by rw[bO p1,K',Zn'];omega
   refine⟨sT _ _ hD1,aQ (by omega),hN _ _ _ ⟨_,rfl,bC (s1.trans sT) hD,ag,?_,FG⟩⟩;rw[take_succ,hk,map_append];exact bh (fun _ _ q=>Mc.write (sT _ _ hD1) q) (j0 (Mc.kns sT.kn p1) ⟨tp,rfl,dz.of ag⟩)
  ·rintro ys σ H' ⟨v,rfl,s1,hD1,p1,_⟩;have p1:Paired (Mc K H') ys [(.G,n),(.D,n),(.s,n),(.d,n)]:=p1;refine⟨D,ys,rfl,.inl ⟨aR.of hD1,fun l hl=>?_⟩⟩;have sT:=ax.upd (o:=.tup ys) hl;exact q l ys _ (s1.trans sT) (dz.of ag) (Mc.kns sT.kn p1)
def GB (K:Frag):Sp:=fun vs H Q _=>∃(z:Str)(wp pz:Addr)(n m:Int)(c:q0),vs=[.str z,.ref wp,.ref pz]/\z∈ST/\H wp=some (.tup [.int n,.int m])/\0<=m/\m<=9/\H pz=some (.tup [eV c.1,eV c.2.1,eV c.2.2]) /\
 ∀(l:Addr)(xs:List V)(H':Hp),ax H H'->H l=none->H' l=some (.lst xs)->Paired (Oy K H') xs (cI c z m (gP n))->Q (.ref l) H'
theorem S0 (n:Int):(gP n).length<=10:=by
 unfold gP;split <;> (show _<=10;simp)
theorem GC (T:Txt K w mg t):bV P w K mg base iw (0+5) t.d9 t.pP ["state","wish","prices"] (GB K):=by
 have Ke:=MI (P:=P) (base:=base) T;have Es:=Bh (P:=P) (base:=base) T;refine T.iQ.ok nt (fun vs H Q E h=>?_) (fun cdv A outer s H vs Q E hr h=>?_)
 ·obtain⟨_,_,_,_,_,_,rfl,_⟩:=h;rfl
 ·obtain⟨z,wp,pz,n,m,c,rfl,hz,hw,h0,h9,hpz,q⟩:=h;refine aT (af (lx (pv 1) (dC rfl (aN (aG (i:=3) nt.nd rfl (Or.inl rfl)) (aN (aG (i:=4) nt.nd rfl (Or.inl rfl)) cK)))) (ai (ay (aC Ke (hr.mono (by decide)) rfl T.Mj T.tL.kp T.Dg .nil aO (aa (pv 0) (aa (aC Es (hr.mono (by decide)) rfl T.A0 T.fE.kp T.lZ .nil aO (aa (pv 3) aj)) (aa (pv 4) (aa (pv 2) aj)))))))) ?_;refine⟨_,rfl,wp,_,rfl,dz.of hw,rfl,_,_,rfl,_,_,rfl,rfl,?_⟩;tm_up;refine fun sg ys H1 s1 hsg hss=>?_;tm_up;exact⟨z,sg,m,pz,ys,_,c,rfl,hz,h0,h9,hsg,hss,S0 n,s1 _ _ hpz,fun l xs H' s2 n2 h2 p2=>q l xs H' (s1.trans s2) (s1.free n2) h2 p2⟩
def rO (K:Frag):Sp:=fun vs H Q _=>∃(d f wp pz:Addr)(n m:Int)(c:q0)(t u:Nb),vs=[.ref d,.ref f,.ref wp,.ref pz]/\H d=some (.dK (dB t))/\H f=some (.dK (dB u))/\(∀ p∈t,p.1∈ST)/\H wp=some (.tup [.int n,.int m])/\0<=m/\m<=9/\H pz=some (.tup [eV c.1,eV c.2.1,eV c.2.2]) /\
 ∀ H',ax H H'->Q (.bl (Zb c t u (n,m))) H'
theorem rP (T:Txt K w mg t):bV P w K mg base iw (0+6) t.bN t.gv ["numbers","following","wish","prices"] (rO K):=by
 have Kf:=GC (P:=P) (base:=base) T;have rQ:=zd (P:=P) (base:=base) T;refine T.cX.ok bW (fun vs H Q E h=>?_) (fun cdv A outer s H vs Q E hr h=>?_)
 ·obtain⟨_,_,_,_,_,_,_,_,_,rfl,_⟩:=h;rfl
 ·obtain⟨d,f,wp,pz,n0,m0,c,t',u',rfl,hd,hf,hst,hwp,hm0,hm9,hpz,q⟩:=h;refine aT (af (C7 (cj PassesOwn.never rfl (vX (pv 0)) (dC rfl (aN (aG (i:=4) bW.nd rfl (Or.inl rfl)) (aN (aG (i:=5) bW.nd rfl (Or.inl rfl)) cK))) (ai (cj PassesOwn.never rfl (bR (aC Kf (hr.mono (by decide)) rfl T.Gh T.iQ.kp T.pX .nil aO (aa (pv 4) (aa (pv 2) (aa (pv 3) aj))))) (dC rfl (aN (aG (i:=6) bW.nd rfl (Or.inl rfl)) (aN (aG (i:=7) bW.nd rfl (Or.inl rfl)) (aN (aG (i:=8) bW.nd rfl (Or.inl rfl)) cK)))) (ai (aM (ke (bZ (aC rQ (hr.mono (by decide)) rfl T.yX T.lW.kp T.rE .nil aO (aa (pv 1) (aa (pv 8) (aa (aF (aX.or (aD.or a5)) (pv 5) (pv 7)) aj)))))) (ai (ay jd)) az)))))) (ai (ay jd))) ?_;refine⟨_,rfl,d,_,rfl,hd,fun o=>?_⟩;have nwd:wp≠d:=fun e=>by rw[e,hd]at hwp;cases hwp
  have npd:pz≠d:=fun e=>by rw[e,hd]at hpz;cases hpz
  have sx0:∀ b u,b≠d->H b=some u->upd H d (.ix o (.dK (dB t'))) b=some u:=fun b u hb e=>by rw[aA hb];exact e
  have hd1:=ag (H:=H) (a:=d) (o:=.ix o (.dK (dB t')));have thw:∀(H1:Hp)(R:Hp->Prop),(∀ b u,b≠d->H b=some u->H1 b=some u)->H1 d=some (.ix o (.dK (dB t')))->(∀ H',ax H H'->R H')->∃ d o kvs,H1 d=some (.ix o (.dK kvs))/\(∀ o v,H d≠some (.ix o v))/\R (upd H1 d (.dK kvs)):=fun H1 R sx h1 k=>by
   refine⟨d,o,_,h1,fun o' v' e=>(by rw[hd]at e;cases e),k _ fun b u e=>?_⟩
   by_cases hb:b=d
   ·subst hb;rw[hd]at e;cases e;exact ag
   ·rw[aA hb];exact sx b u hb e
  generalize upd H d (.ix o (.dK (dB t')))=H1 at sx0 hd1;refine yE (fun i σ H'=>∃(v1 v2 v3 v4 v5:Option V),σ=[some (.ref d),some (.ref f),some (.ref wp),some (.ref pz),v1,v2,v3,v4,v5]/\(∀ b u,b≠d->H b=some u->H' b=some u)/\H' d=some (.ix o (.dK (dB t')))/\((t'.take i).all fun p=>AR u' p.2 (cI c p.1 m0 (gP n0)))=true/\i<=t'.length)
   ⟨none,none,none,none,none,rfl,sx0,hd1,rfl,X' _⟩ ?_ ?_ ?_
  ·rintro i σ H' ⟨v1,v2,v3,v4,v5,rfl,_,h2,_⟩;exact h2
  ·rintro i kv tt σ H2 hkv ⟨v1,v2,v3,v4,v5,rfl,sx2,hd2,al,il⟩ htt;obtain⟨⟨z,n⟩,hw,rfl⟩:=De hkv;have FG:i<t'.length:=(B'.mp hw).1;have hz:z∈ST:=hst _ (V' hw);have st:=ax.upd (o:=.tup [kV (Sum.inr z),.int n]) htt;have h3:=ag (H:=H2) (a:=tt) (o:=.tup [kV (Sum.inr z),.int n]);show _;generalize upd H2 tt (.tup [kV (Sum.inr z),.int n])=H3 at st h3;refine⟨tt,_,rfl,dz.of h3,rfl,_,_,rfl,_,_,rfl,rfl,?_⟩;refine⟨_,rfl,_,rfl,_,rfl,z,wp,pz,n0,m0,c,rfl,hz,st _ _ (sx2 _ _ nwd hwp),hm0,hm9,st _ _ (sx2 _ _ npd hpz),fun l4 xs4 H4 s4 n4 h4 p4=>?_⟩;have s34:=st.trans s4;have nx:(AR u' n (cI c z m0 (gP n0))=true)->((t'.take (i+1)).all fun p=>AR u' p.2 (cI c p.1 m0 (gP n0)))=true:=fun e=>pE hw al e;have no:(AR u' n (cI c z m0 (gP n0))=false)->Zb c t' u' (n0,m0)=false:=fun e=>pG hw e;generalize cI c z m0 (gP n0)=ms at p4 nx no;refine⟨l4,rfl,⟨_,aR.of h4⟩,dE (K:=K) (xs:=xs4) (fun k σ H'=>∃(v4 v5 v6:Option V),σ=[some (.ref d),some (.ref f),some (.ref wp),some (.ref pz),some (.str z),some (.int n),v4,v5,v6]/\(∀ b u,b≠d->H b=some u->H' b=some u)/\H' d=some (.ix o (.dK (dB t')))/\H' l4=some (.lst xs4)/\Paired (Oy K H') xs4 ms/\((ms.take k).all fun m=>AQ u' m.2.2 (n+m.2.1))=true/\k<=ms.length)
    ⟨v3,v4,v5,rfl,fun b u hb e=>s34 _ _ (sx2 b u hb e),s34 _ _ hd2,h4,p4,rfl,X' _⟩ ?_ ?_ ?_⟩
   ·rintro k σ H' _ ⟨v4,v5,v6,rfl,_,_,h5,_⟩;exact aR.of h5
   ·rintro k y σ H5 hy ⟨v4,v5,v6,rfl,LI,Iu,hm5,p5,NW,kl⟩;obtain⟨mm,hm,p,qq,rfl,hp,hqq⟩:=dq p5 hy;have kl2:k<ms.length:=(B'.mp hm).1;refine⟨p,_,rfl,dz.of hp,rfl,_,_,rfl,_,_,rfl,_,_,rfl,rfl,?_⟩;tm_up;refine⟨f,mm.2.2,n+mm.2.1,u',rfl,(by
     by_cases e:f=d
     ·rw[e]at hf ⊢;rw[hd]at hf;have:dB u'=dB t':=(HO.dK.inj (Zc' hf)).symm;rw[this];exact .inr ⟨o,Iu⟩
     ·exact .inl (LI _ _ e hf)),?_⟩
    tm_up;cases e:AQ u' mm.2.2 (n+mm.2.1) with
    |true =>
     refine dA ⟨_,_,_,rfl,LI,Iu,hm5,p5,pE hm NW e,kl2⟩
    |false =>
     refine dj ?_;tm_up;exact thw _ _ LI Iu fun H' s=>by
      have:=no (pG (f:=fun m:Mv=>AQ u' m.2.2 (n+m.2.1)) hm e);rw[<-this];exact q H' s
   ·rintro σ H5 ⟨v4,v5,v6,rfl,LI,Iu,hm5,p5,NW,kl⟩;rw[bO p5,take_length]at NW;exact⟨_,_,_,_,_,rfl,LI,Iu,nx NW,FG⟩
  ·rintro σ H5 ⟨v1,v2,v3,v4,v5,rfl,LI,Iu,al,_⟩;rw[gK,take_length]at al;refine thw _ _ LI Iu fun H' s=>?_;tm_up;have:=q H' s;rw[show Zb c t' u' (n0,m0)=true from al]at this;exact this
def ze (K:Frag):Sp:=fun vs H Q _=>∃(z:Str)(pz:Addr)(c:q0),vs=[.str z,.ref pz]/\z∈ST/\H pz=some (.tup [eV c.1,eV c.2.1,eV c.2.2]) /\
 ∀(l:Addr)(xs:List V)(H':Hp),ax H H'->H l=none->H' l=some (.lst xs)->Paired (Oy K H') xs (cI c z 0 tU)->Q (.ref l) H'
theorem zf (T:Txt K w mg t):bV P w K mg base iw (0+5) t.cR t.km ["state","prices"] (ze K):=by
 have Ke:=MI (P:=P) (base:=base) T;refine T.eM.ok yM (fun vs H Q E h=>?_) (fun cdv A outer s H vs Q E hr h=>?_)
 ·obtain⟨_,_,_,rfl,_⟩:=h;rfl
 ·obtain⟨z,pz,c,rfl,hz,hpz,q⟩:=h;refine aT (ai (ay (aC Ke (hr.mono (by decide)) rfl T.Mj T.tL.kp T.Dg .nil aO (aa (pv 0) (aa (bX (v:=.ref t.cW) rfl T.Ba rfl) (aa ah (aa (pv 1) aj))))))) ?_;tm_up;exact⟨z,_,0,pz,_,tU,c,rfl,hz,by decide,by decide,T.Bb _,.cons ⟨_,rfl,T.wC _⟩ (.cons ⟨_,rfl,T.wD _⟩ (.cons ⟨_,rfl,T.wF _⟩ .nil)),by decide,hpz,q⟩
def oG (K:Frag):Sp:=fun vs H Q _=>∃(d pz:Addr)(c:q0)(t:Nb),vs=[.ref d,.ref pz]/\H d=some (.dK (dB t))/\(∀ p∈t,p.1∈ST)/\H pz=some (.tup [eV c.1,eV c.2.1,eV c.2.2]) /\
 ∀ H',ax H H'->Q (.bl (bdP c t)) H'
theorem oH (T:Txt K w mg t):bV P w K mg base iw (0+6) t.bx t.ed ["numbers","prices"] (oG K):=by
 have Bi:=zf (P:=P) (base:=base) T;have rQ:=zd (P:=P) (base:=base) T;refine T.b7.ok bG (fun vs H Q E h=>?_) (fun cdv A outer s H vs Q E hr h=>?_)
 ·obtain⟨_,_,_,_,rfl,_⟩:=h;rfl
 ·obtain⟨d,pz,c,t',rfl,hd,hst,hpz,q⟩:=h;refine aT (af (C7 (cj PassesOwn.never rfl (vX (pv 0)) (dC rfl (aN (aG (i:=2) bG.nd rfl (Or.inl rfl)) (aN (aG (i:=3) bG.nd rfl (Or.inl rfl)) cK))) (ai (cj PassesOwn.never rfl (bR (aC Bi (hr.mono (by decide)) rfl T.yZ T.eM.kp T.kq .nil aO (aa (pv 2) (aa (pv 1) aj)))) (dC rfl (aN (aG (i:=4) bG.nd rfl (Or.inl rfl)) (aN (aG (i:=5) bG.nd rfl (Or.inl rfl)) (aN (aG (i:=6) bG.nd rfl (Or.inl rfl)) cK)))) (ai (aM (ke (bZ (aC rQ (hr.mono (by decide)) rfl T.yX T.lW.kp T.rE .nil aO (aa (pv 0) (aa (pv 6) (aa (aF (aX.or (aD.or a5)) (pv 3) (pv 5)) aj)))))) (ai (ay jd)) az)))))) (ai (ay jd))) ?_;refine⟨_,rfl,d,_,rfl,hd,fun o=>?_⟩;have npd:pz≠d:=fun e=>by rw[e,hd]at hpz;cases hpz
  have sx0:∀ b u,b≠d->H b=some u->upd H d (.ix o (.dK (dB t'))) b=some u:=fun b u hb e=>by rw[aA hb];exact e
  have hd1:=ag (H:=H) (a:=d) (o:=.ix o (.dK (dB t')));have thw:∀(H1:Hp)(R:Hp->Prop),(∀ b u,b≠d->H b=some u->H1 b=some u)->H1 d=some (.ix o (.dK (dB t')))->(∀ H',ax H H'->R H')->∃ d o kvs,H1 d=some (.ix o (.dK kvs))/\(∀ o v,H d≠some (.ix o v))/\R (upd H1 d (.dK kvs)):=fun H1 R sx h1 k=>by
   refine⟨d,o,_,h1,fun o' v' e=>(by rw[hd]at e;cases e),k _ fun b u e=>?_⟩
   by_cases hb:b=d
   ·subst hb;rw[hd]at e;cases e;exact ag
   ·rw[aA hb];exact sx b u hb e
  generalize upd H d (.ix o (.dK (dB t')))=H1 at sx0 hd1;refine yE (fun i σ H'=>∃(v1 v2 v3 v4 v5:Option V),σ=[some (.ref d),some (.ref pz),v1,v2,v3,v4,v5]/\(∀ b u,b≠d->H b=some u->H' b=some u)/\H' d=some (.ix o (.dK (dB t')))/\((t'.take i).all fun p=>AR t' p.2 (cI c p.1 0 tU))=true/\i<=t'.length)
   ⟨none,none,none,none,none,rfl,sx0,hd1,rfl,X' _⟩ ?_ ?_ ?_
  ·rintro i σ H' ⟨v1,v2,v3,v4,v5,rfl,_,h2,_⟩;exact h2
  ·rintro i kv tt σ H2 hkv ⟨v1,v2,v3,v4,v5,rfl,sx2,hd2,al,il⟩ htt;obtain⟨⟨z,n⟩,hw,rfl⟩:=De hkv;have FG:i<t'.length:=(B'.mp hw).1;have hz:z∈ST:=hst _ (V' hw);have st:=ax.upd (o:=.tup [kV (Sum.inr z),.int n]) htt;have h3:=ag (H:=H2) (a:=tt) (o:=.tup [kV (Sum.inr z),.int n]);show _;generalize upd H2 tt (.tup [kV (Sum.inr z),.int n])=H3 at st h3;refine⟨tt,_,rfl,dz.of h3,rfl,_,_,rfl,_,_,rfl,rfl,?_⟩;refine⟨_,rfl,_,rfl,z,pz,c,rfl,hz,st _ _ (sx2 _ _ npd hpz),fun l4 xs4 H4 s4 n4 h4 p4=>?_⟩;have s34:=st.trans s4;have nx:(AR t' n (cI c z 0 tU)=true)->((t'.take (i+1)).all fun p=>AR t' p.2 (cI c p.1 0 tU))=true:=fun e=>pE hw al e;have no:(AR t' n (cI c z 0 tU)=false)->bdP c t'=false:=fun e=>pG hw e;generalize cI c z 0 tU=ms at p4 nx no;refine⟨l4,rfl,⟨_,aR.of h4⟩,dE (K:=K) (xs:=xs4) (fun k σ H'=>∃(v4 v5 v6:Option V),σ=[some (.ref d),some (.ref pz),some (.str z),some (.int n),v4,v5,v6]/\(∀ b u,b≠d->H b=some u->H' b=some u)/\H' d=some (.ix o (.dK (dB t')))/\H' l4=some (.lst xs4)/\Paired (Oy K H') xs4 ms/\((ms.take k).all fun m=>AQ t' m.2.2 (n+m.2.1))=true/\k<=ms.length)
    ⟨v3,v4,v5,rfl,fun b u hb e=>s34 _ _ (sx2 b u hb e),s34 _ _ hd2,h4,p4,rfl,X' _⟩ ?_ ?_ ?_⟩
   ·rintro k σ H' _ ⟨v4,v5,v6,rfl,_,_,h5,_⟩;exact aR.of h5
   ·rintro k y σ H5 hy ⟨v4,v5,v6,rfl,LI,Iu,hm5,p5,NW,kl⟩;obtain⟨mm,hm,p,qq,rfl,hp,hqq⟩:=dq p5 hy;have kl2:k<ms.length:=(B'.mp hm).1;refine⟨p,_,rfl,dz.of hp,rfl,_,_,rfl,_,_,rfl,_,_,rfl,rfl,?_⟩;tm_up;refine⟨d,mm.2.2,n+mm.2.1,t',rfl,.inr ⟨o,Iu⟩,?_⟩;tm_up;cases e:AQ t' mm.2.2 (n+mm.2.1) with
    |true =>
     refine dA ⟨_,_,_,rfl,LI,Iu,hm5,p5,pE hm NW e,kl2⟩
    |false =>
     refine dj ?_;tm_up;exact thw _ _ LI Iu fun H' s=>by
      have:=no (pG (f:=fun m:Mv=>AQ t' m.2.2 (n+m.2.1)) hm e);rw[<-this];exact q H' s
   ·rintro σ H5 ⟨v4,v5,v6,rfl,LI,Iu,hm5,p5,NW,kl⟩;rw[bO p5,take_length]at NW;exact⟨_,_,_,_,_,rfl,LI,Iu,nx NW,FG⟩
  ·rintro σ H5 ⟨v1,v2,v3,v4,v5,rfl,LI,Iu,al,_⟩;rw[gK,take_length]at al;refine thw _ _ LI Iu fun H' s=>?_;tm_up;have:=q H' s;rw[show bdP c t'=true from al]at this;exact this
def Bj (K:Frag):Sp:=fun vs H Q _=>∃(l k:Addr)(xs:List V)(t:Nb),vs=[.ref l,.ref k]/\H l=some (.lst xs)/\Paired (nR H) xs t/\t.length<=900/\H k=some (.lst (ST.map V.str))/\∀ H',ax H H'->Q (.bl (FF t)) H'
theorem Bl (T:Txt K w mg t):bV P w K mg base iw (0+1) t.dc t.lL ["pairs","known"] (Bj K):=by
 refine T.fF.ok qC (fun vs H Q E h=>?_) (fun cdv A outer s H vs Q E hr h=>?_)
 ·obtain⟨_,_,_,_,rfl,_⟩:=h;rfl
 ·obtain⟨l,kn,xs,t',rfl,hl,hxs,tl,hk,q⟩:=h;refine aT (af (jm (i:=2) qC.nd rfl rfl (cn:=["state","number"]) rfl (bS.of rfl) (bR (pv 0)) (fun _=>(dC rfl (aN (aG (i:=0) nc rfl (Or.inl rfl)) (aN (aG (i:=1) nc rfl (Or.inl rfl)) cK)))) (fun _=>iC) (fun _=>(pv 0))) (ai (ay (bB (kf (bj (aI.or (aB (au hr))) (aU VM rfl T.dQ dF (aa (b8 (VL rfl) rfl T.agE agB (aa (pv 2) aj)) aj)) (aU (aY.or aZ) rfl T.dQ dF (aa (pv 2) aj)) (av _)) (jg (aU vS rfl T.JV Jg (aa (mW (cn:=["state"]) rfl (bS.of rfl) (bR (pv 2)) (fun _=>(aG (i:=0) wm rfl (Or.inl rfl))) (fun _=>iC) (fun _=>(bj (bq.or bp) (pv 0) (pv 2) rfl))) aj)))))))) ?_;refine⟨_,rfl,_,rfl,⟨_,aR.of hl⟩,fun D b hD=>?_⟩;refine dG (K:=K) (xs:=xs) (fun i ys σ H'=>∃ v1 v2 v3,σ=[v1,v2,some (.ref l),some (.ref kn),v3]/\ax H H'/\H' D=some (.lst ys)/\ys=((t'.take i).map (·.1)).map V.str) ⟨none,none,none,rfl,ax.upd hD,ag,rfl⟩ ?_ ?_ ?_
  ·rintro i ys σ H' ⟨v1,v2,v3,rfl,s8,_⟩;exact aR.of (s8 _ _ hl)
  ·rintro i ys x σ H' hx ⟨v1,v2,v3,rfl,s8,h8,rfl⟩ N hN;obtain⟨⟨z,n⟩,hn,p,rfl,hp⟩:=dq hxs hx;have il:i<t'.length:=(B'.mp hn).1;refine⟨p,_,rfl,dz.of (s8 _ _ hp),rfl,_,_,rfl,_,_,rfl,rfl,?_⟩;tm_up;refine⟨h8,aQ (by rw[K',K',Zn'];omega),hN _ _ _ ⟨_,_,_,rfl,bC s8 hD,ag,?_⟩⟩;rw[take_succ,hn,map_append,map_append];rfl
  ·rintro ys σ H1 ⟨v1,v2,v3,rfl,s1,h1,rfl⟩;rw[bO hxs,take_length]at h1;generalize hns:t'.map (·.1)=ns at h1;have nl:ns.length<=900:=by rw[<-hns,K'];exact tl
   refine⟨fun v H'=>v=.bl (FF t')/\ax H H',?_,fun v H' ⟨e,s⟩=>by rw[e];exact q H' s⟩;have e1:FF t'=(decide ns.Nodup&&ns.all fun z=>decide (z∈ST)):=by
    unfold FF;rw[<-hns,List.all_map];rfl
   refine⟨_,rfl,D,ns,rfl,aR.of h1,nl,fun a ha=>?_⟩;have s2:=ax.upd (o:=ac6 P w a ((ns.map Sum.inr).reverse)) ha;refine⟨a,_,rfl,ag,by rw[List.length_reverse,K'];exact nl,?_⟩;have h2:=s2 _ _ h1;have S2:=s1.trans s2;refine⟨_,rfl,.inl ⟨D,_,rfl,.inl (aR.of h2),.inl ⟨rfl,_,rfl,?_⟩⟩⟩;have e2:decide (V.int ((Jm ((ns.map (Sum.inr:Str->Key)).reverse)).length:Int)=V.int ((ns.map V.str).length:Int))=decide ns.Nodup:=by
    rw[intD,<-ddS ns,K',Bool.eq_iff_iff,decide_eq_true_iff,decide_eq_true_iff];exact Int.ofNat_inj
   rw[e2];refine aJ (fun h=>?_) (fun h=>⟨by rw[e1,O'.mpr h];rfl,S2⟩);rw[e1,h,Bool.true_and];refine⟨_,rfl,D,rfl,⟨_,aR.of h2⟩,fun D2 b2 hD2=>?_⟩;refine dG (K:=K) (xs:=ns.map V.str) (fun i ys σ H'=>∃ v,σ=[v,some (.ref l),some (.ref kn),some (.ref D)]/\ax _ H'/\H' D2=some (.lst ys)/\ys=((ns.take i).map fun z=>decide (z∈ST)).map V.bl) ⟨none,rfl,ax.upd hD2,ag,rfl⟩ ?_ ?_ ?_
   ·rintro i ys σ H' ⟨v,rfl,s8,_⟩;exact aR.of (s8 _ _ h2)
   ·rintro i ys x σ H' hx ⟨v,rfl,s8,h8,rfl⟩ N hN;obtain⟨z,hz,rfl⟩:=Dd hx;have il:i<ns.length:=(B'.mp hz).1;refine fb ?_;refine⟨_,rfl,_,rfl,.inl ⟨kn,_,rfl,.inl (aR.of (s8 _ _ (S2 _ _ hk))),rfl,rfl,?_⟩⟩;refine⟨h8,aQ (by rw[K',K',Zn'];omega),hN _ _ _ ⟨_,rfl,bC s8 hD2,ag,?_⟩⟩;rw[take_succ,hz,map_append,map_append];show _++[V.bl (inV (.str z) (ST.map V.str))]=_;rw[Zc];rfl
   ·rintro ys σ H8 ⟨v,rfl,s8,h8,rfl⟩;rw[K',take_length]at h8;refine⟨rfl,D2,_,rfl,aR.of h8,?_,S2.trans s8⟩;rw[List.all_map];rfl
def TbK (H0:Hp)(A:Addr->Prop)(H:Hp)(y:V)(t:Nb):Prop:=∃ d,y=.ref d/\A d/\H0 d=none/\H d=some (.dK (dB t))
theorem Vb {α:Type}{xs:List α}{j:Nat}{v:α}(h:xs[j]? = some v)(hl:xs.length=j+1):atI xs (-1)=some v:=by
 unfold atI;have e:UI xs.length (-1)=some j:=by
  unfold UI;rw[hl]
  first
  |(rw[M' (by decide),S' (by omega)];congr 1;omega)
  |(simp;omega)
 rw[e];exact h
def abt (K:Frag):Sp:=fun vs H Q _=>∃(wl pz pp:Addr)(b:Int)(c:q0)(o:Option Int)(ws xs:List V)(qs:List (Int×Int)) (ts:List Nb),vs=[.ref wl,.ref pz,eV o,.ref pp,.int b]/\H wl=some (.lst ws)/\uf H ws qs/\Wsh qs/\qs.length<=800/\H pz=some (.tup [eV c.1,eV c.2.1,eV c.2.2])/\H pp=some (.lst xs)/\Paired (FH H) xs ts/\ts.length<=900/\(∀ t∈ts,t.length<=900) /\
 ∀ H',ax H H'->Q (.bl (V4 c b o qs ts)) H'
theorem abu (T:Txt K w mg t):bV P w K mg base iw (0+7) t.pQ t.Df ["wishes","prices","bound","paper","begin"] (abt K):=by
 have abv:=Wx (P:=P) (base:=base) T;have Bm:=zc (P:=P) (base:=base) T;have rQ:=zd (P:=P) (base:=base) T;have GD:=Eo (P:=P) (base:=base) T;have tP:=rP (P:=P) (base:=base) T;have qa:=oH (P:=P) (base:=base) T;have Et:=Bl (P:=P) (base:=base) T;refine T.pY.ok q9 (fun vs H Q E h=>?_) (fun cdv A outer s H vs Q E hr h=>?_)
 ·obtain⟨_,_,_,_,_,_,_,_,_,_,rfl,_⟩:=h;rfl
 ·obtain⟨wl,pz,pp,b,c,o,ws,xs,qs,ts,rfl,hwl,hqs,hW,ql,hpz,hpp,hxs,tl,tls,q⟩:=h;refine aT (af (aH (i:=5) q9.nd rfl (Or.inr rfl) (vK abv (hr.mono (by decide)) rfl T.Wf T.rC.kp T.D4 .nil aO)) (af (aM (ba (PW.pt (iz (ar (jY.or (e9 (au hr))) (aU (aY.or aZ) rfl T.dQ dF (aa (pv 3) aj)) (aF (aX.or (aD.or a5)) (aU (aY.or aZ) rfl T.dQ dF (aa (pv 0) aj)) ah) (av _)) (eY (ke (bZ (aU vS rfl T.JV Jg (aa (mW (cn:=["pairs"]) rfl (bS.of rfl) (bR (pv 3)) (fun _=>(aG (i:=0) DP rfl (Or.inl rfl))) (fun _=>iC) (fun _=>(aC Et (hr.mono (by decide)) rfl T.A1 T.fF.kp T.l5 .nil aO (aa (pv 0) (aa (pv 6) aj))))) aj)))))))) (ai (ay jd)) az) (af (jm (i:=6) q9.nd rfl rfl (cn:=["pairs"]) rfl (bS.of rfl) (bR (pv 3)) (fun _=>(aG (i:=0) DP rfl (Or.inl rfl))) (fun _=>iC) (fun _=>(YR (cn:=["state","number"]) rfl (bS.of rfl) (bR (pv 0)) (fun _=>(dC rfl (aN (aG (i:=0) DQ rfl (Or.inl rfl)) (aN (aG (i:=1) DQ rfl (Or.inl rfl)) cK)))) (fun _=>iC) (fun _=>(pv 0)) (fun _=>(pv 1))))) (af (aM (ke (bZ (aC rQ (hr.mono (by decide)) rfl T.yX T.lW.kp T.rE .nil aO (aa (aK aE (pv 6) ah (fun _ _=>rfl)) (aa (aC GD (hr.mono (by decide)) rfl T.D6 T.eQ.kp T.ny .nil aO (aa (pv 4) aj)) (aa ah aj)))))) (ai (ay jd)) az) (af (aM (ke (bZ (aU vS rfl T.JV Jg (aa (mW (cn:=["numbers"]) rfl (bS.of rfl) (bR (pv 6)) (fun _=>(aG (i:=0) SA rfl (Or.inl rfl))) (fun _=>iC) (fun _=>(aC qa (hr.mono (by decide)) rfl T.oz T.b7.kp T.eo .nil aO (aa (pv 0) (aa (pv 2) aj))))) aj)))) (ai (ay jd)) az) (af (cj PassesOwn.never rfl (acT rfl T.JW (pv 0)) (dC rfl (aN (aG (i:=7) q9.nd rfl (Or.inl rfl)) (aN (aG (i:=8) q9.nd rfl (Or.inl rfl)) cK))) (ai (aM (ke (bZ (aC tP (hr.mono (by decide)) rfl T.rH T.cX.kp T.gw .nil aO (aa (aK aE (pv 6) (pv 7) (fun _ _=>rfl)) (aa (aK aE (pv 6) (aF (aX.or (aD.or a5)) (pv 7) ah) (fun _ _=>rfl)) (aa (pv 8) (aa (pv 1) aj))))))) (ai (ay jd)) az))) (ai (ay (aC Bm (hr.mono (by decide)) rfl T.yW T.eL.kp T.ko .nil aO (aa (aK aE (pv 6) (Az qR ah) (fun _ _=>rfl)) (aa (pv 2) aj))))))))))) ?_;refine bY fun N hN=>?_;tm_up;refine⟨rfl,fun kn H1 s1 n1 h1=>hN _ _ ?_⟩;clear hN N;have wl2:ws.length=qs.length:=bO hqs;have xl:xs.length=ts.length:=bO hxs;refine bY fun N hN=>?_;refine⟨fun b H'=>b=(!decide (ts.length=qs.length+1) || !ts.all FF)/\ax H1 H',?_,?_⟩
  ·tm_up;refine .inl ⟨pp,xs,rfl,.inl (aR.of (s1 _ _ hpp)),?_⟩;tm_up;refine .inl ⟨wl,ws,rfl,.inl (aR.of (s1 _ _ hwl)),?_⟩;tm_up;rw[intD];have el:decide ((xs.length:Int)=(ws.length:Int)+1)=decide (ts.length=qs.length+1):=by
    rw[xl,wl2,Bool.eq_iff_iff,decide_eq_true_iff,decide_eq_true_iff];omega
   rw[el];generalize decide (ts.length=qs.length+1)=lb;cases lb with
   |false=>exact dj ⟨rfl,ax.refl _⟩
   |true =>
    refine dA ?_;rw[Bool.not_true,Bool.false_or];refine⟨_,rfl,pp,rfl,⟨_,aR.of (s1 _ _ hpp)⟩,fun D b' hD=>?_⟩;refine dG (K:=K) (xs:=xs) (fun i ys σ H'=>∃ v1 v2 v3 v4,σ=[v1,some (.ref wl),some (.ref pz),some (eV o),some (.ref pp),some (.int b),some (.ref kn),v2,v3,v4]/\ax H1 H'/\H' D=some (.lst ys)/\ys=((ts.take i).map FF).map V.bl) ⟨none,none,none,none,rfl,ax.upd hD,ag,rfl⟩ ?_ ?_ ?_
    ·rintro i ys σ H' ⟨v1,v2,v3,v4,rfl,s8,_⟩;exact aR.of (s8 _ _ (s1 _ _ hpp))
    ·rintro i ys x σ H' hx ⟨v1,v2,v3,v4,rfl,s8,h8,rfl⟩ N hN;obtain⟨t',ht,r,zs,rfl,hr,hzs⟩:=dq hxs hx;have il:i<ts.length:=(B'.mp ht).1;have S8:=s1.trans s8;refine fb ?_;tm_up;refine⟨r,kn,zs,t',rfl,S8 _ _ hr,bh (fun _ _ ⟨p,e,h⟩=>⟨p,e,S8 _ _ h⟩) hzs,tls _ (V' ht),s8 _ _ h1,fun H9 s9=>?_⟩;have h9:=s9 _ _ h8;refine⟨h9,aQ (by rw[K',K',Zn'];omega),hN _ _ _ ⟨_,_,_,_,rfl,bC (s8.trans s9) hD,ag,?_⟩⟩;rw[take_succ,ht,map_append,map_append];rfl
    ·rintro ys σ H8 ⟨v1,v2,v3,v4,rfl,s8,h8,rfl⟩;rw[xl,take_length]at h8;refine⟨rfl,D,_,rfl,aR.of h8,?_⟩;tm_up;rw[List.all_map];exact⟨rfl,s8⟩
  rintro _ H2 ⟨rfl,s2⟩;refine aJ (fun h=>?_) (fun h=>hN _ _ ?_)
  ·tm_up;have e:V4 c b o qs ts=false:=by
    unfold V4;rcases Bool.or_eq_true _ _ ▸ h with h|h
    ·have:decide (ts.length=qs.length+1)=false:=by
      cases e:decide (ts.length=qs.length+1) with
      |false=>rfl
      |true=>rw[e]at h;cases h
     rw[this];rfl
    ·have:ts.all FF=false:=by
      cases e:ts.all FF with
      |false=>rfl
      |true=>rw[e]at h;cases h
     rw[this,Bool.false_and,Bool.and_false]
   rw[<-e];exact q H2 (s1.trans s2)
  clear hN N;have h:=O'.mpr h;rw[Bool.or_eq_false_iff]at h;have hl:decide (ts.length=qs.length+1)=true:=by
   cases e:decide (ts.length=qs.length+1) with
   |true=>rfl
   |false=>rw[e]at h;cases h.1
  have hal:ts.all FF=true:=by
   cases e:ts.all FF with
   |true=>rfl
   |false=>rw[e]at h;cases h.2
  clear h;have S2:=s1.trans s2;refine bY fun N hN=>?_
  suffices hN':∀(L:Addr)(ys:List V)(H':Hp),ax H H'->H' L=some (.lst ys)->Paired (TbK H (fun _=>True) H') ys ts->N [some (.ref wl),some (.ref pz),some (eV o),some (.ref pp),some (.int b),some (.ref kn),some (.ref L),none,none] H' by
   refine⟨_,rfl,pp,rfl,⟨_,aR.of (S2 _ _ hpp)⟩,fun D b' hD=>?_⟩;have nD:H D=none:=S2.free hD;refine dG (K:=K) (xs:=xs) (fun i ys σ H'=>∃ v1,σ=[v1,some (.ref wl),some (.ref pz),some (eV o),some (.ref pp),some (.int b),some (.ref kn),none,none,none]/\ax H H'/\H' D=some (.lst ys)/\Paired (TbK H (fun _=>True) H') ys (ts.take i)) ⟨none,rfl,S2.trans (ax.upd hD),ag,.nil⟩ ?_ ?_ ?_
   ·rintro i ys σ H' ⟨v1,rfl,s8,_⟩;exact aR.of (s8 _ _ hpp)
   ·rintro i ys x σ H3 hx ⟨v1,rfl,s3,h3,p3⟩ N hN;obtain⟨t',ht,r,zs,rfl,hr,hzs⟩:=dq hxs hx;have il:i<ts.length:=(B'.mp ht).1;have tl':=tls _ (V' ht);have hnm:=all_eq_true.mp hal _ (V' ht);unfold FF at hnm;rw[Bool.and_eq_true,decide_eq_true_iff]at hnm;refine fb ?_;refine⟨_,rfl,r,rfl,⟨_,aR.of (s3 _ _ hr)⟩,fun D2 b2 hD2=>?_⟩;have nD2:H D2=none:=s3.free hD2;refine Of (K:=K) (xs:=zs) (fun j σ H'=>∃ v1 v2,σ=[v1,v2,some (.ref r),some (.ref wl),some (.ref pz),some (eV o),some (.ref pp),some (.int b),some (.ref kn),none,none,none]/\(∀ b u,b≠D2->H3 b=some u->H' b=some u)/\H' D2=some (.dK (dB (t'.take j)))) ⟨none,none,rfl,fun b u hb e=>by rw[aA hb];exact e,ag⟩ ?_ ?_ ?_
    ·rintro j σ H' ⟨v1,v2,rfl,sx,_⟩;exact aR.of (sx _ _ (aP hr nD2) (s3 _ _ hr))
    ·rintro j x σ H4 hx4 ⟨v1,v2,rfl,sx4,d4⟩ N' hN';obtain⟨⟨z,n⟩,hz,p,rfl,hp⟩:=dq hzs hx4;have jl:j<t'.length:=(B'.mp hz).1;refine⟨p,_,rfl,dz.of (sx4 _ _ (aP hp nD2) (s3 _ _ hp)),rfl,_,_,rfl,_,_,rfl,rfl,?_⟩;tm_up;have hg:gN (t'.take j) z=none:=jT.mpr fun hm=>by
      have e1:t'.take (j+1)=t'.take j++[(z,n)]:=by rw[take_succ,hz];rfl
      have e2:(t'.map (·.1))=((t'.take (j+1)).map (·.1))++((t'.drop (j+1)).map (·.1)):=by rw[<-map_append,List.take_append_drop]
      have e:=hnm.1;rw[e2,e1,map_append]at e;exact(List.nodup_append.mp (List.nodup_append.mp e).1).2.2 z hm z (Zo'.mpr rfl) rfl
     refine⟨_,Sum.inr z,rfl,d4,aQ (by rw[gK,Zn'];omega),hN' _ _ ⟨_,_,rfl,fun b u hb e=>by rw[aA hb];exact sx4 b u hb e,?_⟩⟩;rw[ag,U4 hg,take_succ,hz];rfl
    ·rintro σ H4 ⟨v1,v2,rfl,sx4,d4⟩;rw[bO hzs,take_length]at d4;have nDD:D≠D2:=aP h3 hD2;have h4:=sx4 _ _ nDD h3;have s4:ax H H4:=fun b u e=>sx4 b u (aP e nD2) (s3 b u e);refine⟨h4,aQ (by rw[bO p3,Zn'];omega),hN _ _ _ ⟨_,rfl,bC s4 nD,ag,?_⟩⟩;have et:ts.take (i+1)=ts.take i++[t']:=by rw[take_succ,ht];rfl
     rw[et];exact j0 (bh (fun _ _ ⟨d',e,a,n,h⟩=>⟨d',e,trivial,n,by rw[aA (fun z=>by rw[z,h3]at h;cases h)];exact sx4 _ _ (aP h hD2) h⟩) p3) ⟨D2,rfl,trivial,nD2,by rw[aA (Yb' nDD)];exact d4⟩
   ·rintro ys σ H8 ⟨v1,rfl,s8,h8,p8⟩;rw[xl,take_length]at p8;exact hN' D ys H8 s8 h8 p8
  intro L ys H3 s3 h3 p3;refine hN _ _ ?_;clear hN N s2 S2 h1 n1 s1;have yl:ys.length=ts.length:=bO p3;have eh:V4 c b o qs ts=(AQ (ts.headD []) (bgS b) 0&&(ts.all (bdP c)&&((List.range qs.length).all (fun i=>Zb c (ts.getD i []) (ts.getD (i+1) []) (qs.getD i (0,0)))&&rcB (ts.getD qs.length []) o))):=by
   unfold V4;rw[hl,hal];rfl
  have hl:=J' hl;rw[eh]at q;clear eh;refine bY fun N hN=>?_;tm_up;obtain⟨t0,tr,ets⟩:∃ a r,ts=a::r:=by
   cases ts with
   |nil=>simp at hl
   |cons a r=>exact⟨a,r,rfl⟩
  obtain⟨y0,hy0⟩:∃ y,ys[0]? = some y:=⟨_,C' (by omega)⟩;obtain⟨t0',ht0,d0,rfl,_,nd0,hd0⟩:=dq p3 hy0;have e0:ts.headD []=t0':=by
   rw[ets]at ht0 ⊢;cases ht0;rfl
  refine Ia (aR.of h3) (n:=0) rfl hy0 ?_;tm_up;refine⟨d0,bgS b,0,t0',rfl,.inl hd0,?_⟩;tm_up;rw[e0]at q;generalize AQ t0' (bgS b) 0=cb at q;cases cb with
  |false =>
   refine dj ?_;tm_up;exact q H3 s3
  |true =>
   rw[Bool.true_and]at q;refine dA (hN _ _ ?_);clear hN N;have hst:∀ t'∈ts,∀ p∈t',p.1∈ST:=fun t' ht p hp=>by
    have:=all_eq_true.mp hal _ ht;unfold FF at this;rw[Bool.and_eq_true]at this;exact J' (all_eq_true.mp this.2 p hp)
   refine bY fun N hN=>?_;tm_up;refine⟨⟨_,aR.of h3⟩,fun D b' hD=>?_⟩;have nD:H D=none:=s3.free hD;refine dG (K:=K) (xs:=ys) (fun i zs σ H'=>∃ v1,σ=[v1,some (.ref wl),some (.ref pz),some (eV o),some (.ref pp),some (.int b),some (.ref kn),some (.ref L),none,none]/\ax H3 H'/\H' D=some (.lst zs)/\zs=((ts.take i).map (bdP c)).map V.bl) ⟨none,rfl,ax.upd hD,ag,rfl⟩ ?_ ?_ ?_
   ·rintro i zs σ H' ⟨v1,rfl,s8,_⟩;exact aR.of (s8 _ _ h3)
   ·rintro i zs x σ H4 hx ⟨v1,rfl,s4,h4,rfl⟩ N hN;obtain⟨t',ht,d,rfl,_,nd,hd⟩:=dq p3 hx;have il:i<ts.length:=(B'.mp ht).1;refine fb ?_;tm_up;refine⟨d,pz,c,t',rfl,s4 _ _ hd,hst _ (V' ht),s4 _ _ (s3 _ _ hpz),fun H9 s9=>?_⟩;have h9:=s9 _ _ h4;refine⟨h9,aQ (by rw[K',K',Zn'];omega),hN _ _ _ ⟨_,rfl,bC (s4.trans s9) hD,ag,?_⟩⟩;rw[take_succ,ht,map_append,map_append];rfl
   ·rintro zs σ H4 ⟨v1,rfl,s4,h4,rfl⟩;rw[yl,take_length]at h4;refine⟨rfl,D,_,rfl,aR.of h4,?_⟩;tm_up;rw[List.all_map];show(if(!ts.all (bdP c))=true then _ else _);generalize ts.all (bdP c)=cb at q;have S4:=s3.trans s4;cases cb with
    |false =>
     refine dj ?_;tm_up;exact q H4 S4
    |true =>
     rw[Bool.true_and]at q;refine dA (hN _ _ ?_);clear hN N;have amR:=S4 _ _ hwl;refine⟨_,rfl,wl,rfl,⟨_,aR.of amR⟩,YK (K:=K) (xs:=ws) (fun i σ H'=>∃(v1 v2:Option V),σ=[some (.ref wl),some (.ref pz),some (eV o),some (.ref pp),some (.int b),some (.ref kn),some (.ref L),v1,v2]/\ax H3 H'/\(List.range i).all (fun i=>Zb c (ts.getD i []) (ts.getD (i+1) []) (qs.getD i (0,0)))=true/\i<=qs.length)
      ⟨none,none,rfl,s4,rfl,X' _⟩ ?_ ?_ ?_⟩
     ·rintro i σ H' ⟨v1,v2,rfl,s5,_⟩;exact aR.of (s5 _ _ (s3 _ _ hwl))
     ·rintro i x τ σ H5 hx ⟨v1,v2,rfl,s5,NW,il⟩ hτ;obtain⟨qq,hq,wp,rfl,hwp⟩:=dq hqs hx;have FG:i<qs.length:=(B'.mp hq).1;have s6:=ax.upd (o:=.tup [.int (i:Int),.ref wp]) hτ;have h6:=ag (H:=H5) (a:=τ) (o:=.tup [.int (i:Int),.ref wp]);generalize upd H5 τ (.tup [.int (i:Int),.ref wp])=H6 at s6 h6;have s36:=s5.trans s6;obtain⟨y1,hy1⟩:∃ y,ys[i]? = some y:=⟨_,C' (by omega)⟩;obtain⟨t1,ht1,d1,rfl,_,nd1,hd1⟩:=dq p3 hy1;obtain⟨y2,hy2⟩:∃ y,ys[i+1]? = some y:=⟨_,C' (by omega)⟩;obtain⟨t2,ht2,d2,rfl,_,nd2,hd2⟩:=dq p3 hy2;have hWq:=hW _ (V' hq);have ee:Zb c (ts.getD i []) (ts.getD (i+1) []) (qs.getD i (0,0))=Zb c t1 t2 (qq.1,qq.2):=by
       rw[T',ht1,T',ht2,T',hq];rfl
      refine⟨τ,_,rfl,dz.of h6,rfl,_,_,rfl,_,_,rfl,rfl,?_⟩;tm_up;refine Ia (aR.of (s36 _ _ h3)) (n:=i) (by omega) hy1 ?_;tm_up;refine Ia (aR.of (s36 _ _ h3)) (n:=i+1) (by omega) hy2 ?_;tm_up;refine⟨d1,d2,wp,pz,qq.1,qq.2,c,t1,t2,rfl,s36 _ _ hd1,s36 _ _ hd2,hst _ (V' ht1),s36 _ _ (s3 _ _ hwp),hWq.1,hWq.2,s36 _ _ (s3 _ _ hpz),fun H7 s7=>?_⟩;tm_up;have S7:=s36.trans s7;cases e:Zb c t1 t2 (qq.1,qq.2) with
      |true =>
       refine dA ⟨_,_,rfl,S7,?_,FG⟩;rw[List.range_succ,List.all_append,NW];show(true&&(Zb c (ts.getD i []) (ts.getD (i+1) []) (qs.getD i (0,0))&&true))=true;rw[ee,e];rfl
      |false =>
       refine dj ?_;tm_up;have e2:(List.range qs.length).all (fun i=>Zb c (ts.getD i []) (ts.getD (i+1) []) (qs.getD i (0,0)))=false:=pG (i:=i) (x:=i) (by rw[List.getElem?_range (by omega)]) (ee.trans e);rw[e2]at q;exact q H7 (s3.trans S7)
     ·rintro σ H5 ⟨v1,v2,rfl,s5,NW,il⟩;rw[wl2]at NW;rw[NW,Bool.true_and]at q;tm_up;obtain⟨y1,hy1⟩:∃ y,ys[qs.length]? = some y:=⟨_,C' (by omega)⟩;obtain⟨t1,ht1,d1,rfl,_,nd1,hd1⟩:=dq p3 hy1;have ee:ts.getD qs.length []=t1:=by rw[T',ht1];rfl
      rw[ee]at q;refine .inl ⟨L,ys,-1,_,rfl,rfl,aR.of (s5 _ _ h3),Vb hy1 (by omega),?_⟩;tm_up;exact⟨d1,o,t1,rfl,s5 _ _ hd1,hst _ (V' ht1),tls _ (V' ht1),fun H' s'=>q H' ((s3.trans s5).trans s')⟩
def cP (ns:List Int)(k:Nat):Int:=ns.getD k 0
def Kg (K:Frag):Sp:=fun vs H Q _=>∃(a:Addr)(ns:List Int)(k:Nat),vs=[.ref a,.int (k:Int)]/\aR K H a (ns.map V.int)/\ns.length<=63/\Q (.int (cP ns k)) H
theorem qb (T:Txt K w mg t):bV P w K mg base iw (0+1) t.fq t.rh ["_law_script","_law_k"] (Kg K):=by
 refine T.aV.ok JJ (fun vs H Q E h=>?_) (fun cdv A outer s H vs Q E hr h=>?_)
 ·obtain⟨a,ns,k,rfl,_⟩:=h;rfl
 ·obtain⟨a,ns,k,rfl,hS,hl,q⟩:=h;refine aT (af (aM (ar qS (pv 1) (aU (yx rfl) rfl T.JX Je (aa ah (aa (aU (aY.or aZ) rfl T.dQ dF (aa (pv 0) aj)) aj))) (av _)) (ai (ay (aK aE (pv 0) (pv 1) (fun _ _=>rfl)))) az) (ai (ay ah))) ?_;refine⟨_,rfl,_,rfl,.inl ⟨_,_,rfl,.inl hS,_,_,rfl,_,_,rfl,rfl,_,rfl,?_⟩⟩;rw[K'];refine aJ (fun h=>?_) (fun h=>?_)
  ·have hk:k<ns.length:=by
    have:=J' h;split at this <;> omega
   have e:(ns.map V.int)[k]? = some (V.int (cP ns k)):=by
    rw[Zi',C' hk];unfold cP;rw[T',C' hk];rfl
   exact⟨_,rfl,_,rfl,.inl ⟨_,_,_,_,rfl,rfl,hS,vN e,q⟩⟩
  ·have hk:ns.length<=k:=by
    have h':¬((k:Int)<if(ns.length:Int)<63 then(ns.length:Int) else 63):=fun z=>h (W' z);split at h' <;> omega
   have e:cP ns k=0:=by
    unfold cP;rw[T',List.getElem?_eq_none hk];rfl
   rw[e]at q;exact q
def Ta:Sp:=fun vs H Q _=>∃ seed k:Int,vs=[.int seed,.int k]/\∀ r:Int,0<=r->r<65521->Q (.int r) H
theorem uI (T:Txt K w mg t):bV P w K mg base iw (0+1) t.jz t.yR ["_law_seed","_law_k"] Ta:=by
 refine T.jC.ok ui (fun vs H Q E h=>?_) (fun cdv A outer s H vs Q E hr h=>?_)
 ·obtain⟨_,_,rfl,_⟩:=h;rfl
 ·obtain⟨seed,k,rfl,q⟩:=h;refine aT (af (aH (i:=2) ui.nd rfl (Or.inl rfl) (aF bF (aF (aX.or (aD.or a5)) (aF (aX.or (aD.or a5)) (aF (uc.or ud) (aF bF (pv 0) ah) ah) (aF (uc.or ud) (pv 1) ah)) ah) ah)) (af (aH (i:=3) ui.nd rfl (Or.inl rfl) (aF bF (aF (aX.or (aD.or a5)) (aF (aX.or (aD.or a5)) (aF (uc.or ud) (pv 2) (pv 2)) (aF (uc.or ud) (pv 1) ah)) (aF bF (aF fH (pv 0) ah) ah)) ah)) (ai (ay (aF bF (aF (aX.or (aD.or a5)) (aF fH (aF (uc.or ud) (pv 3) (pv 3)) ah) (pv 3)) ah))))) ?_;have p2:(2:Int) ^ 64=18446744073709551616:=by decide
  refine⟨_,rfl,_,_,rfl,rfl,(by decide:(0:Int)<1000003),.inl ⟨_,_,rfl,rfl,.inr ⟨by decide,by decide⟩,_,rfl,.inl ⟨_,_,rfl,rfl,.inr ⟨by decide,by decide⟩,.inl ⟨_,_,rfl,rfl,.inl ⟨_,_,rfl,rfl,_,_,rfl,rfl,(by decide:(0:Int)<1000033),?_⟩⟩⟩⟩⟩;generalize hone:(seed % 1000003 * 48271+k * 30011+17) % 1000033=one;have b1:0<=one/\one<1000033:=by omega
  refine⟨_,rfl,_,rfl,.inl ⟨_,_,rfl,rfl,.inl ⟨by rw[p2];omega,by rw[p2];omega⟩,_,rfl,.inl ⟨_,_,rfl,rfl,.inr ⟨by decide,by decide⟩,.inl ⟨_,_,rfl,rfl,_,rfl,_,_,rfl,rfl,⟨by decide,by decide⟩,_,_,rfl,rfl,(by decide:(0:Int)<997),.inl ⟨_,_,rfl,rfl,_,_,rfl,rfl,(by decide:(0:Int)<999983),?_⟩⟩⟩⟩⟩;generalize apu:(one * one+k * 613+seed / 1000003 % 997) % 999983=two;have b2:0<=two/\two<999983:=by omega
  refine⟨_,rfl,_,rfl,.inl ⟨_,_,rfl,rfl,.inl ⟨by rw[p2];omega,by rw[p2];omega⟩,_,_,rfl,rfl,⟨by decide,by decide⟩,_,rfl,.inl ⟨_,_,rfl,rfl,_,_,rfl,rfl,(by decide:(0:Int)<65521),?_⟩⟩⟩;exact q _ (by omega) (by omega)
def Bn (K:Frag):Sp:=fun vs H Q _=>∃(a:Addr)(ns:List Int)(k m:Nat),vs=[.ref a,.int (k:Int),.int (m:Int)]/\aR K H a (ns.map V.int)/\ns.length<=63/\m<=60 /\
 ∀(f:Addr)(ys:List V)(qs:List (Int×Int)) (H':Hp),ax H H'->H f=none->H' f=some (.lst ys)->uf H' ys qs->Wsh qs->adh qs->qs.length=m->Q (.ref f) H'
theorem Bo (T:Txt K w mg t):bV P w K mg base iw (0+2) t.de t.lM ["_law_script","_law_at","_law_many"] (Bn K):=by
 have oI:=uI (P:=P) (base:=base) T;have a9:=qb (P:=P) (base:=base) T;refine T.fG.ok di (fun vs H Q E h=>?_) (fun cdv A outer s H vs Q E hr h=>?_)
 ·obtain⟨_,_,_,_,rfl,_⟩:=h;rfl
 ·obtain⟨a,ns,k,m,rfl,hS,hl,hm,q⟩:=h;obtain⟨md,me⟩:∃ v:List (Int×Pos),v=dm:=⟨_,rfl⟩;have hbody:ak bP=(ak bP).take 1++setIn ((ak bP).getD 1 (.Pass ⟨0,0,0,0⟩)) 1 (ac5 (md.map fun c=>Expr.Constant (.int c.1) 0 c.2) 7)::(ak bP).drop 2:=by subst me;rfl
  rw[hbody];refine aT (af (aH (i:=3) di.nd rfl (Or.inl rfl) (cm aj)) (af (cj PassesOwn.never rfl (g9 rfl T.j9 (aa (pv 2) aj)) (aG (i:=4) di.nd rfl (Or.inl rfl)) (af (aH (i:=5) di.nd rfl (Or.inl rfl) (aC oI (hr.mono (by decide)) rfl T.uD T.jC.kp T.oA .nil aO (aa (aF (aX.or (aD.or a5)) (aC a9 (hr.mono (by decide)) rfl T.a7 T.aV.kp T.a8 .nil aO (aa (pv 0) (aa (pv 1) aj))) (aF (uc.or ud) ah (aC a9 (hr.mono (by decide)) rfl T.a7 T.aV.kp T.a8 .nil aO (aa (pv 0) (aa (aF (aX.or (aD.or a5)) (aF (aX.or (aD.or a5)) (pv 1) ah) (pv 4)) aj))))) (aa (pv 4) aj)))) (af (aH (i:=6) di.nd rfl (Or.inl rfl) (aK aE (cm (aeG (aa (aF (aX.or (aD.or a5)) ah (aF bF (aF fH (pv 5) ah) ah)) aj) md)) (aF bF (pv 5) ah) (fun _ _=>rfl))) (af (aH (i:=7) di.nd rfl (Or.inl rfl) (bB (bA (ar (aI.or (aB (au hr))) (aF bF (aF fH (pv 5) ah) ah) ah (av _)) (Az qR ah) (aF iB (aF bF (aF fH (pv 5) ah) ah) ah)))) (ai (bQ (e8 Zh' Zg' Zf' bf (pv 3) (aa (bT (aa (pv 7) (aa (pv 6) aj))) aj)))))))) (ai (ay (pv 3))))) ?_;subst me;refine⟨big (by show 0<=1000;omega),fun f hf=>?_⟩;have s0:=ax.upd (o:=.lst []) hf;tm_up;refine⟨by omega,by omega,kU (n:=((m:Int)).toNat) (fun i σ H'=>∃(v1 v2 v3 v4:Option V)(zs:List V)(qs:List (Int×Int)),σ=[some (.ref a),some (.int (k:Int)),some (.int (m:Int)),some (.ref f),v1,v2,v3,v4]/\ax H H'/\H' f=some (.lst zs)/\uf H' zs qs/\Wsh qs/\adh qs/\qs.length=i)
   ⟨none,none,none,none,[],[],rfl,s0,ag,.nil,fun _ h=>(nomatch h),fun _ h=>(nomatch h),rfl⟩ ?_ ?_⟩
  ·rintro i σ H' hi ⟨v1,v2,v3,v4,zs,qs,rfl,s1,hf1,p1,w1,wt1,ql⟩;have hS1:=s1.seq hS;tm_up;refine⟨a,ns,k,rfl,hS1,hl,?_⟩;tm_up;refine⟨a,ns,k+1+i,?_,hS1,hl,?_⟩
   ·show [V.ref a,V.int ((k:Int)+1+(0+(i:Int)))]=[V.ref a,V.int ((k+1+i:Nat):Int)];have e:(k:Int)+1+(0+(i:Int))=((k+1+i:Nat):Int):=by omega
    rw[e]
   refine .inl ⟨_,_,rfl,rfl,.inl ⟨by decide,by decide⟩,?_⟩;tm_up;refine⟨_,_,rfl,fun r h0 h1=>?_⟩;tm_up;refine⟨by show 8<=sizeLine;decide,fun lp hlp=>?_⟩;have sl:=ax.upd (o:=.lst ((dm.map fun c=>V.int c.1)++[V.int (1+r / 8 % 9)])) hlp;have ajE:=ag (H:=H') (a:=lp) (o:=.lst ((dm.map fun c=>V.int c.1)++[V.int (1+r / 8 % 9)]));generalize upd H' lp (.lst ((dm.map fun c=>V.int c.1)++[V.int (1+r / 8 % 9)]))=H2 at sl ajE;tm_up;obtain⟨wo,hwo,wo1,wo9⟩:∃ wo:Int,((dm.map fun c=>V.int c.1)++[V.int (1+r / 8 % 9)])[(r % 8).toNat]? = some (.int wo)/\1<=wo/\wo<=9:=by
    have:r % 8=0\/r % 8=1\/r % 8=2\/r % 8=3\/r % 8=4\/r % 8=5\/r % 8=6\/r % 8=7:=by omega
    rcases this with e|e|e|e|e|e|e|e <;> rw[e]
    ·exact⟨1,rfl,by decide,by decide⟩
    ·exact⟨2,rfl,by decide,by decide⟩
    ·exact⟨1,rfl,by decide,by decide⟩
    ·exact⟨3,rfl,by decide,by decide⟩
    ·exact⟨1,rfl,by decide,by decide⟩
    ·exact⟨2,rfl,by decide,by decide⟩
    ·exact⟨2,rfl,by decide,by decide⟩
    ·exact⟨_,rfl,by omega,by omega⟩
   refine Ia (aR.of ajE) (n:=(r % 8).toNat) (by omega) hwo ?_;refine⟨fun v H3=>(∃ tn:Int,v=.int tn/\(tn = -1\/(0<=tn/\tn<=99)))/\H3=H2,?_,?_⟩
   ·tm_up;rw[intD];refine aJ (fun _=>?_) (fun _=>?_)
    ·exact⟨_,rfl,⟨_,rfl,.inl rfl⟩,rfl⟩
    ·tm_up;exact⟨⟨_,rfl,by omega⟩,rfl⟩
   ·rintro _ _ ⟨⟨tn,rfl,htn⟩,rfl⟩;have hf2:=sl _ _ hf1;tm_up;refine⟨.inl ⟨rfl,_,aR.of hf2⟩,?_⟩;tm_up;refine⟨by show 2<=sizeLine;decide,fun tp htp=>?_⟩;have sT:=sl.trans (ax.upd (o:=.tup [.int tn,.int wo]) htp);have hf3:=sT _ _ hf1;refine⟨f,zs,_,rfl,rfl,hf3,aQ (by rw[bO p1];omega),?_⟩;refine⟨_,_,_,_,_,qs++[(tn,wo)],rfl,bC (s1.trans sT) hf,ag,j0 (UZ hf3 (fc sT p1)) (Ou hf3 ⟨tp,rfl,ag⟩),fun q hq=>?_,fun q hq=>?_,by simp[ql]⟩
    ·rcases Zq'.mp hq with z|z
     ·exact w1 q z
     ·rw[Zo'.mp z];exact⟨by show 0<=wo;omega,wo9⟩
    ·rcases Zq'.mp hq with z|z
     ·exact wt1 q z
     ·rw[Zo'.mp z];exact htn
  ·rintro σ H' ⟨v1,v2,v3,v4,zs,qs,rfl,s1,hf1,p1,w1,wt1,ql⟩;tm_up;exact q f zs qs H' s1 hf hf1 p1 w1 wt1 (by omega)
def MJ (K:Frag):Sp:=fun vs H Q _=>∃(pp:Addr)(xs:List V)(ts:List Nb),vs=[.ref pp]/\H pp=some (.lst xs)/\Paired (FH H) xs ts/\ts.length<=900/\(∀ t∈ts,t.length<=900) /\
 (ts.all FF=true->∀(l:Addr)(ys:List V)(H':Hp),ax H H'->H l=none->H' l=some (.lst ys)->Paired (TbK H (fun _=>True) H') ys ts->Q (.ref l) H') /\
 (ts.all FF=false->∀ H',ax H H'->Q .non H')
theorem adT {t:Nb}{j:Nat}{p:Str×Int}(h:t[j]? = some p)(hn:((t.take j).map (·.1)).Nodup)(hs:∀ x∈t.take j,x.1∈ST)(hz:p.1∈ST)(hg:gN (t.take j) p.1=none):((t.take (j+1)).map (·.1)).Nodup/\∀ x∈t.take (j+1),x.1∈ST:=by
 have e:t.take (j+1)=t.take j++[p]:=by rw[take_succ,h];rfl
 rw[e];refine⟨?_,fun x hx=>?_⟩
 ·rw[map_append];refine List.nodup_append.mpr ⟨hn,by simp,fun a ha b hb e=>?_⟩;have hb:=Zo'.mp hb;exact jT.mp hg (by have e':p.1=a:=(e.trans hb).symm;rw[e'];exact ha)
 ·rcases Zq'.mp hx with hx|hx
  ·exact hs x hx
  ·rw[Zo'.mp hx];exact hz
theorem agU {t:Nb}{j:Nat}{p:Str×Int}(h:t[j]? = some p)(hb:p.1 ∉ ST\/gN (t.take j) p.1≠none):FF t=false:=by
 rw[O'];intro e;unfold FF at e;rw[Bool.and_eq_true,decide_eq_true_iff]at e;rcases hb with hb|hb
 ·exact hb (J' (all_eq_true.mp e.2 p (V' h)))
 ·refine hb (jT.mpr fun hm=>?_);have e1:t.take (j+1)=t.take j++[p]:=by rw[take_succ,h];rfl
  have e2:(t.map (·.1))=((t.take (j+1)).map (·.1))++((t.drop (j+1)).map (·.1)):=by rw[<-map_append,List.take_append_drop]
  rw[e2,e1,map_append]at e;have:=(List.nodup_append.mp (List.nodup_append.mp e.1).1).2.2;exact this p.1 hm p.1 (Zo'.mpr rfl) rfl
theorem adU {t:Nb}(hn:(t.map (·.1)).Nodup)(hs:∀ x∈t,x.1∈ST):FF t=true:=by
 unfold FF;rw[Bool.and_eq_true,decide_eq_true_iff];exact⟨hn,all_eq_true.mpr fun x hx=>W' (hs x hx)⟩
theorem MK (T:Txt K w mg t):bV P w K mg base iw (0+2) t.gX t.ux ["_law_paper"] (MJ K):=by
 have l9:=rM (P:=P) (base:=base) T;refine T.l8.ok fj (fun vs H Q E h=>?_) (fun cdv A outer s H vs Q E hr h=>?_)
 ·obtain⟨_,_,_,rfl,_⟩:=h;rfl
 ·obtain⟨pp,xs,ts,rfl,hp,hxs,tl,tls,q1,q2⟩:=h;refine aT (af (aH (i:=1) fj.nd rfl (Or.inl rfl) (vK l9 (hr.mono (by decide)) rfl T.rB T.gY.kp T.lT .nil aO)) (af (aH (i:=2) fj.nd rfl (Or.inl rfl) (cm aj)) (af (cj PassesOwn.never rfl (bR (pv 0)) (aG (i:=3) fj.nd rfl (Or.inl rfl)) (af (aH (i:=4) fj.nd rfl (Or.inl rfl) LW) (af (cj PassesOwn.never rfl (bR (pv 3)) (dC rfl (aN (aG (i:=5) fj.nd rfl (Or.inl rfl)) (aN (aG (i:=6) fj.nd rfl (Or.inl rfl)) cK))) (af (aM (ba (PW.pt (iz (ar (vP.or vQ) (pv 5) (pv 1) rfl) (eY (X8 (YM (je hr) (pv 5) (pv 4))))))) (ai (ay bL)) az) (ai (Jk (je hr) (pv 4) (pv 5) (pv 6) rfl)))) (ai (bQ (e8 Zh' Zg' Zf' bf (pv 2) (aa (pv 4) aj))))))) (ai (ay (pv 2)))))) ?_;tm_up;refine⟨rfl,fun kn H0 s0 n0 k0=>?_⟩;refine⟨big (by show 0<=1000;omega),fun l hl=>?_⟩;have s1:=s0.trans (ax.upd (o:=.lst []) hl);have k1:=ax.upd (o:=.lst []) hl _ _ k0;have nl:H l=none:=s0.free hl;have nlk:kn≠l:=aP k0 hl;have l1:=ag (H:=H0) (a:=l) (o:=.lst []);show Ends.nx _ _ (upd H0 l (.lst []));generalize upd H0 l (.lst [])=H1 at s1 k1 l1;refine⟨_,rfl,pp,rfl,⟨_,aR.of (s1 _ _ hp)⟩,dE (K:=K) (xs:=xs) (fun i σ H'=>∃(v1 v2 v3 v4:Option V)(ys:List V),σ=[some (.ref pp),some (.ref kn),some (.ref l),v1,v2,v3,v4]/\ax H H'/\H' kn=some (.lst (ST.map V.str))/\H' l=some (.lst ys)/\Paired (TbK H (fun _=>True) H') ys (ts.take i)/\(ts.take i).all FF=true/\i<=ts.length)
   ⟨none,none,none,none,[],rfl,s1,k1,l1,.nil,rfl,X' _⟩ ?_ ?_ ?_⟩
  ·rintro i σ H' _ ⟨v1,v2,v3,v4,ys,rfl,s,_⟩;exact aR.of (s _ _ hp)
  ·rintro i x σ H2 hx ⟨v1,v2,v3,v4,ys,rfl,s2,k2,l2,p2,al,il⟩;obtain⟨t',ht,r,zs,rfl,hr,hzs⟩:=dq hxs hx;have FG:i<ts.length:=(B'.mp ht).1;have tl':=tls _ (V' ht);tm_up;refine fun d hd=>?_;have nd:H d=none:=s2.free hd;have s3:=ax.upd (o:=.dK []) hd;have k3:=s3 _ _ k2;have l3:=s3 _ _ l2;have p3:Paired (TbK H (· ≠ d) (upd H2 d (.dK []))) ys (ts.take i):=bh (fun _ _ ⟨d',e,_,n,h⟩=>⟨d',e,aP h hd,n,s3 _ _ h⟩) p2;have d3:=ag (H:=H2) (a:=d) (o:=.dK []);have S3:=s2.trans s3;show Ends.nx _ _ (upd H2 d (.dK []));generalize upd H2 d (.dK [])=H3 at S3 k3 l3 p3 d3;refine jf ?_;refine⟨_,rfl,r,rfl,⟨_,aR.of (S3 _ _ hr)⟩,dE (K:=K) (xs:=zs) (fun j σ H'=>∃(v3 v4:Option V),σ=[some (.ref pp),some (.ref kn),some (.ref l),some (.ref r),some (.ref d),v3,v4]/\ax H H'/\H' kn=some (.lst (ST.map V.str))/\H' l=some (.lst ys)/\Paired (TbK H (· ≠ d) H') ys (ts.take i)/\H' d=some (.dK (dB (t'.take j)))/\((t'.take j).map (·.1)).Nodup/\(∀ x∈t'.take j,x.1∈ST)/\j<=t'.length)
    ⟨v3,v4,rfl,S3,k3,l3,p3,d3,by simp,by simp,X' _⟩ ?_ ?_ ?_⟩
   ·rintro j σ H' _ ⟨v3,v4,rfl,s,_⟩;exact aR.of (s _ _ hr)
   ·rintro j y σ H4 hy ⟨v3,v4,rfl,s4,k4,l4,p4,d4,nd4,st4,jl⟩;obtain⟨⟨z,n⟩,hz,p,rfl,hpz⟩:=dq hzs hy;have jl2:j<t'.length:=(B'.mp hz).1;have g:nq H4 d (.str z) (qL (dB (t'.take j)) (Sum.inr z)):=nq.k (k:=Sum.inr z) d4;rw[kO]at g;refine⟨p,_,rfl,dz.of (s4 _ _ hpz),rfl,_,_,rfl,_,_,rfl,rfl,?_⟩;refine dS (!decide (z∈ST)||(gN (t'.take j) z).isSome) ?_ ?_
    ·refine⟨_,rfl,_,rfl,.inl ⟨kn,_,rfl,.inl (aR.of k4),rfl,rfl,_,rfl,?_⟩⟩;show(if(!inV (.str z) (ST.map V.str))=true then _ else _);rw[Zc];refine aJ (fun h=>bE (by rw[h];rfl)) (fun h=>?_);have h':(!decide (z∈ST))=false:=O'.mpr h;refine⟨_,rfl,_,rfl,d,_,rfl,g,?_⟩;refine⟨_,rfl,bE ?_⟩;rw[h',Option.isSome_map];rfl
    ·refine aJ (fun h=>?_) (fun h=>?_)
     ·tm_up;refine q2 (pG ht (agU hz ?_)) H4 s4;rw[Bool.or_eq_true]at h;rcases h with h|h
      ·exact .inl (fun e=>by rw[W' e]at h;cases h)
      ·exact .inr (fun e=>by rw[e]at h;cases h)
     ·have h:=O'.mpr h;rw[Bool.or_eq_false_iff]at h;have hzS:z∈ST:=by
       by_cases e:z∈ST
       ·exact e
       ·rw[Zb' e]at h;cases h.1
      have hg:gN (t'.take j) z=none:=by
       cases e:gN (t'.take j) z with
       |none=>rfl
       |some _=>rw[e]at h;cases h.2
      tm_up;refine⟨d,_,rfl,Ob.k (k:=Sum.inr z) d4 (aQ (by rw[gK,Zn'];omega)),?_⟩;rw[U4 hg];have et:t'.take (j+1)=t'.take j++[(z,n)]:=by rw[take_succ,hz];rfl
      rw[<-et];obtain⟨nd5,LM⟩:=adT hz nd4 st4 hzS hg;refine⟨_,_,rfl,bC s4 nd,by rw[aA (fun z=>by rw[z,d4]at k4;cases k4)];exact k4,by rw[aA (fun z=>by rw[z,d4]at l4;cases l4)];exact l4,bh (fun _ _ ⟨d',e,a,n,h⟩=>⟨d',e,a,n,by rw[aA a];exact h⟩) p4,ag,nd5,LM,jl2⟩
   ·rintro σ H4 ⟨v3,v4,rfl,s4,k4,l4,p4,d4,nd4,st4,jl⟩;rw[bO hzs,take_length]at d4 nd4 st4;tm_up;refine⟨.inl ⟨rfl,_,aR.of l4⟩,?_⟩;tm_up;refine⟨l,ys,_,rfl,rfl,l4,aQ (by rw[bO p4,Zn'];omega),?_⟩;refine⟨_,_,_,_,_,rfl,bC s4 nl,by rw[aA nlk];exact k4,ag,?_,pE ht al (adU nd4 st4),FG⟩;have et:ts.take (i+1)=ts.take i++[t']:=by rw[take_succ,ht];rfl
    rw[et];exact j0 (bh (fun _ _ ⟨d',e,a,n,h⟩=>⟨d',e,trivial,n,by rw[aA (fun z=>by rw[z,l4]at h;cases h)];exact h⟩) p4) ⟨d,rfl,trivial,nd,by rw[aA (fun z=>by rw[z,l4]at d4;cases d4)];exact d4⟩
  ·rintro σ H' ⟨v1,v2,v3,v4,ys,rfl,s,k,l2,p2,al,_⟩;rw[bO hxs,take_length]at p2 al;tm_up;exact q1 al l ys H' s nl l2 p2
def caB (u:Nb)(n:Int)(ms:List (Str×Int)):Bool:=ms.all fun m=>AQ u m.1 (n+m.2)
def Kh (K:Frag):Sp:=fun vs H Q _=>∃(l d:Addr)(n:Int)(xs:List V)(ms:List (Str×Int)) (u:Nb),vs=[.int n,.ref l,.ref d]/\H l=some (.lst xs)/\Paired (OcK H) xs ms/\Rd H d (.dK (dB u))/\Q (.bl (caB u n ms)) H
theorem Ki (T:Txt K w mg t):bV P w K mg base iw (0+1) t.fu t.rj ["_law_number","_law_moves_here","_law_table"] (Kh K):=by
 refine T.iq.ok pH (fun vs H Q E h=>?_) (fun cdv A outer s H vs Q E hr h=>?_)
 ·obtain⟨_,_,_,_,_,_,rfl,_⟩:=h;rfl
 ·obtain⟨l,d,n,xs,ms,u,rfl,hl,hms,hd,q⟩:=h;refine aT (af (cj PassesOwn.never rfl (bR (pv 1)) (dC rfl (aN (aG (i:=3) pH.nd rfl (Or.inl rfl)) (aN (aG (i:=4) pH.nd rfl (Or.inl rfl)) cK))) (ai (aM (ba (PW.pt (iz (X8 (VA (je hr) (pv 3) (pv 2))) (eY (ar HH (tw (je hr) (pv 2) (pv 3) (fun _ _=>rfl)) (aF (aX.or (aD.or a5)) (pv 0) (pv 4)) (av _)))))) (ai (ay jd)) az))) (ai (ay jd))) ?_;refine⟨_,rfl,l,rfl,⟨_,aR.of hl⟩,dE (K:=K) (xs:=xs) (fun k σ H'=>∃(v4 v5:Option V),σ=[some (.int n),some (.ref l),some (.ref d),v4,v5]/\H'=H/\((ms.take k).all fun m=>AQ u m.1 (n+m.2))=true/\k<=ms.length)
   ⟨none,none,rfl,rfl,rfl,X' _⟩ ?_ ?_ ?_⟩
  ·rintro k σ H' _ ⟨v4,v5,rfl,rfl,_⟩;exact aR.of hl
  ·rintro k y σ H5 hy ⟨v4,v5,rfl,rfl,NW,kl⟩;obtain⟨mm,hm,p,rfl,hp⟩:=dq hms hy;have kl2:k<ms.length:=(B'.mp hm).1;have g:nq H5 d (.str mm.1) (qL (dB u) (Sum.inr mm.1)):=.inl ⟨_,Sum.inr mm.1,hd,rfl,rfl⟩;rw[kO]at g;refine⟨p,_,rfl,dz.of hp,rfl,_,_,rfl,_,_,rfl,rfl,?_⟩;refine dS (!AQ u mm.1 (n+mm.2)) ?_ ?_
   ·refine⟨_,rfl,_,rfl,d,_,rfl,g,?_⟩;unfold AQ;cases e:gN u mm.1 with
    |none=>exact⟨_,rfl,dj (bE rfl)⟩
    |some x =>
     rw[e]at g;refine⟨_,rfl,dA ?_⟩;refine⟨_,rfl,_,rfl,d,_,rfl,g,?_⟩;tm_up;refine bE ?_;show decide (n+mm.2<x) = !decide (x<=n+mm.2);rw[Bool.eq_iff_iff];simp
   ·cases e:AQ u mm.1 (n+mm.2) with
    |true=>exact dA ⟨_,_,rfl,rfl,pE hm NW e,kl2⟩
    |false =>
     refine dj ?_;tm_up;have:caB u n ms=false:=pG (f:=fun m:Str×Int=>AQ u m.1 (n+m.2)) hm e;rw[this]at q;exact q
  ·rintro σ H5 ⟨v4,v5,rfl,rfl,al,_⟩;rw[bO hms,take_length]at al;tm_up;rw[show caB u n ms=true from al]at q;exact q
def WC:Sp:=fun vs H Q _=>∃(z:Str),vs=[.str z]/\z∈ST/\Q (.bl (m6 z)) H
theorem Iy (T:Txt K w mg t):bV P w K mg base iw (0+1) t.lN t.DX ["_law_state"] WC:=by
 refine T.oB.ok V8 (fun vs H Q E h=>?_) (fun cdv A outer s H vs Q E hr h=>?_)
 ·obtain⟨_,rfl,_⟩:=h;rfl
 ·obtain⟨z,rfl,hz,q⟩:=h;have hl':z.length<=sizeLine:=nr (by have:=Dc hz;omega);obtain⟨c0,t0,e0⟩:=Y7 hz;refine aT (af (aM (ar (aI.or (aB (au hr))) (aK aE (pv 0) ah (fun _ _=>rfl)) aw (av _)) (ai (ay (bj (jY.or (e9 (au hr))) (pv 0) aw (av _)))) az) (ai (ay (bB (Uz (bB (kf (bj (aI.or (aB (au hr))) (aK aE (pv 0) ah (fun _ _=>rfl)) aw (av _)) (jg (bj (jY.or (e9 (au hr))) (aK aE (pv 0) ah (fun _ _=>rfl)) aw (av _))))) (jg (bB (kf (bj (aI.or (aB (au hr))) (aK aE (pv 0) ah (fun _ _=>rfl)) aw (av _)) (jg (bj (aI.or (aB (au hr))) (aK aE (pv 0) ah (fun _ _=>rfl)) aw (av _))))))))))) ?_;refine⟨_,rfl,.inr (.inr ⟨_,_,c0,rfl,rfl,hl',by rw[e0];exact vN (j:=0) rfl,?_⟩)⟩;tm_up;rw[b3 c0 50 (by lk),show decide (c0=50)=ug z by unfold ug;rw[e0];by_cases h:c0=50 <;> simp[h]];unfold m6 at q;refine aJ (fun h=>?_) (fun h=>?_)
  ·rw[S' h]at q;tm_up;rw[Ov];exact q
  ·rw[M' h]at q;obtain⟨l,c,t,e⟩:=wd hz h;rw[e]at q;have i1:∀{Q:VK},Q (.str ⟨#[l]⟩) H->rIx K (.str z) (.int 1) H Q:=fun q=>.inr (.inr ⟨_,_,l,rfl,rfl,hl',by rw[e];rfl,q⟩);have i2:∀{Q:VK},Q (.str ⟨#[c]⟩) H->rIx K (.str z) (.int 2) H Q:=fun q=>.inr (.inr ⟨_,_,c,rfl,rfl,hl',by rw[e];rfl,q⟩);refine eX (.bl ((decide (c=48)&&decide (l≠104))||(decide (c=49)&&decide (l=104)))) ?_ ?_
   ·refine eX (.bl (decide (c=48)&&decide (l≠104))) ?_ ?_
    ·refine⟨_,rfl,i2 ?_⟩;tm_up;rw[b3 c 48 (by lk)];refine aJ (fun h=>?_) (fun h=>?_)
     ·refine⟨_,rfl,i1 ?_⟩;tm_up;rw[Y8 l 104 (by lk)];exact bD (by rw[h];rfl)
     ·exact bD (by rw[O'.mpr h];rfl)
    ·refine⟨_,rfl,?_⟩;refine aJ (fun h=>?_) (fun h=>?_)
     ·exact bD (by rw[h];rfl)
     ·refine eX (.bl (decide (c=49)&&decide (l=104))) ?_ ?_
      ·refine⟨_,rfl,i2 ?_⟩;tm_up;rw[b3 c 49 (by lk)];refine aJ (fun h=>?_) (fun h=>?_)
       ·refine⟨_,rfl,i1 ?_⟩;tm_up;rw[b3 l 104 (by lk)];exact bD (by rw[h];rfl)
       ·exact bD (by rw[O'.mpr h];rfl)
      ·exact bD (by rw[O'.mpr h];rfl)
   ·have:((decide (c=48)&&decide (l≠104))||(decide (c=49)&&decide (l=104)))=mZ l c:=by
     unfold mZ
     by_cases h1:c=48
     ·subst h1;simp
     ·simp[h1]
    rw[this];exact q
def Iz (b:Int):Str:=if b=2 then "2-" else "3n0-"
def boB (o:Option Int)(n:Int):Bool:=match o with
 |none=>true
 |some m=>decide (n<m)
def X3 (c:q0)(o:Option Int)(qs:List (Int×Int))(ts:List Nb)(k:Nat)(p:Str×Int):Bool :=
 caB (ts.getD k []) p.2 (lmL c p.1 none)&&(if k<qs.length then caB (ts.getD (k+1) []) p.2 (lmL c p.1 (some (qs.getD k (0,0)))) else !(m6 p.1&&boB o p.2))
def tbB (c:q0)(o:Option Int)(qs:List (Int×Int))(ts:List Nb)(k:Nat):Bool:=(ts.getD k []).all (X3 c o qs ts k)
def NX (c:q0)(b:Int)(o:Option Int)(qs:List (Int×Int))(ts:List Nb):Bool :=
 ts.all FF&&(decide (ts.length=qs.length+1)&&(AQ (ts.headD []) (Iz b) 0&&(List.range ts.length).all (tbB c o qs ts)))
def Tb (K:Frag):Sp:=fun vs H Q _=>∃(wl pz pp:Addr)(b:Int)(c:q0)(o:Option Int)(ws xs:List V)(qs:List (Int×Int)) (ts:List Nb),vs=[.ref wl,.ref pz,eV o,.ref pp,.int b]/\H wl=some (.lst ws)/\uf H ws qs/\Wsh qs/\qs.length<=800/\H pz=some (.tup [eV c.1,eV c.2.1,eV c.2.2])/\H pp=some (.lst xs)/\Paired (FH H) xs ts/\ts.length<=900/\(∀ t∈ts,t.length<=900) /\
 ∀ H',ax H H'->Q (.bl (NX c b o qs ts)) H'
theorem Tc (T:Txt K w mg t):bV P w K mg base iw (0+4) t.jA t.yS ["_law_wishes_here","_law_prices_here","_law_bound","_law_paper","_law_begin_here"] (Tb K):=by
 have Td:=MK (P:=P) (base:=base) T;have AG:=Ki (P:=P) (base:=base) T;have lr:=uF (P:=P) (base:=base) T;have Eu:=Iy (P:=P) (base:=base) T;refine T.oC.ok ju (fun vs H Q E h=>?_) (fun cdv A outer s H vs Q E hr h=>?_)
 ·obtain⟨_,_,_,_,_,_,_,_,_,_,rfl,_⟩:=h;rfl
 ·obtain⟨wl,pz,pp,b,c,o,ws,xs,qs,ts,rfl,hwl,hqs,hW,ql,hpz,hpp,hxs,tl,tls,q⟩:=h;refine aT (af (aH (i:=5) ju.nd rfl (Or.inl rfl) (aC Td (hr.mono (by decide)) rfl T.Mm T.l8.kp T.uE .nil aO (aa (pv 3) aj))) (af (aH (i:=6) ju.nd rfl (Or.inl rfl) (bB (bA (ar (aI.or (aB (au hr))) (pv 4) ah (av _)) aw aw))) (af (aM (ba (PW.pt (iz (ar IS (pv 5) bL (av _)) (iz (ar (jY.or (e9 (au hr))) (aU (aY.or aZ) rfl T.dQ dF (aa (pv 5) aj)) (aF (aX.or (aD.or a5)) (aU (aY.or aZ) rfl T.dQ dF (aa (pv 0) aj)) ah) (av _)) (eY (ar HH (Dx (je hr) (aK aE (pv 5) ah (fun _ _=>rfl)) (pv 6) ah ⟨rfl,rfl,rfl,rfl⟩) ah (av _))))))) (ai (ay jd)) az) (af (cj PassesOwn.never rfl (g9 rfl T.j9 (aa (aU (aY.or aZ) rfl T.dQ dF (aa (pv 5) aj)) aj)) (aG (i:=7) ju.nd rfl (Or.inl rfl)) (ai (C7 (cj PassesOwn.never rfl (vX (aK aE (pv 5) (pv 7) (fun _ _=>rfl))) (dC rfl (aN (aG (i:=8) ju.nd rfl (Or.inl rfl)) (aN (aG (i:=9) ju.nd rfl (Or.inl rfl)) cK))) (af (aM (ke (bZ (aC AG (hr.mono (by decide)) rfl T.wA T.iq.kp T.nh .nil aO (aa (pv 9) (aa (aC lr (hr.mono (by decide)) rfl T.pS T.ip.kp T.lq .nil aO (aa (pv 8) (aa bL (aa (pv 1) aj)))) (aa (aK aE (pv 5) (pv 7) (fun _ _=>rfl)) aj)))))) (ai (ay jd)) az) (ai (aM (ar qS (pv 7) (aU (aY.or aZ) rfl T.dQ dF (aa (pv 0) aj)) (av _)) (ai (aM (ke (bZ (aC AG (hr.mono (by decide)) rfl T.wA T.iq.kp T.nh .nil aO (aa (pv 9) (aa (aC lr (hr.mono (by decide)) rfl T.pS T.ip.kp T.lq .nil aO (aa (pv 8) (aa (aK aE (pv 0) (pv 7) (fun _ _=>rfl)) (aa (pv 1) aj)))) (aa (aK aE (pv 5) (aF (aX.or (aD.or a5)) (pv 7) ah) (fun _ _=>rfl)) aj)))))) (ai (ay jd)) az)) (ai (aM (ba (PW.pt (bz (bZ (aC Eu (hr.mono (by decide)) rfl T.Iq T.oB.kp T.wB .nil aO (aa (pv 8) aj))) (bH (ba (PW.pt (iz (ar IS (pv 2) bL (av _)) (eY (ar qS (pv 9) (pv 2) (av _)))))))))) (ai (ay jd)) az))))))))) (ai (ay jd)))))) ?_;refine bY fun N hN=>?_;tm_up;refine⟨pp,xs,ts,rfl,hpp,hxs,tl,tls,fun al l ys H1 s1 n1 h1 p1=>hN _ _ ?_,fun al H1 s1=>hN _ _ ?_⟩
  ·clear hN N;refine bY fun N hN=>?_;refine eX (.str (Iz b)) ?_ (hN _ _ ?_)
   ·tm_up;rw[intD];unfold Iz;refine aJ (fun h=>?_) (fun h=>?_)
    ·tm_up;exact bD (by rw[S' (J' h)])
    ·tm_up;exact bD (by rw[M' (fun z=>h (W' z))])
   clear hN N;have yl:ys.length=ts.length:=bO p1;have wl2:ws.length=qs.length:=bO hqs;refine bY fun N hN=>?_;refine dS (!decide (ts.length=qs.length+1) || !AQ (ts.headD []) (Iz b) 0) ?_ ?_
   ·tm_up;refine⟨rfl,_,rfl,dA ?_⟩;tm_up;refine .inl ⟨l,ys,rfl,.inl (aR.of h1),?_⟩;tm_up;refine .inl ⟨wl,ws,rfl,.inl (aR.of (s1 _ _ hwl)),?_⟩;tm_up;rw[intD];have el:decide ((ys.length:Int)=(ws.length:Int)+1)=decide (ts.length=qs.length+1):=by
     rw[yl,wl2,Bool.eq_iff_iff,decide_eq_true_iff,decide_eq_true_iff];omega
    rw[el];refine aJ (fun h=>bE (by rw[h];rfl)) (fun h=>?_);have h':(!decide (ts.length=qs.length+1))=false:=O'.mpr h;rw[h',Bool.false_or];have hl:ts.length=qs.length+1:=by
     by_cases e:ts.length=qs.length+1
     ·exact e
     ·exact j' (by rw[Zb' e];rfl) h
    obtain⟨t0,tr,rfl⟩:∃ a r,ts=a::r:=by
     cases ts with
     |nil=>simp at hl
     |cons a r=>exact⟨a,r,rfl⟩
    obtain⟨y0,yr,rfl⟩:∃ a r,ys=a::r:=by
     cases ys with
     |nil=>simp at yl
     |cons a r=>exact⟨a,r,rfl⟩
    obtain⟨_,ht0,d,rfl,_,_,hd⟩:=dq p1 (i:=0) rfl;cases ht0;have g:nq H1 d (.str (Iz b)) (qL (dB t0) (Sum.inr (Iz b))):=nq.k (k:=Sum.inr (Iz b)) hd;rw[kO]at g;tm_up;refine Ia (aR.of h1) (n:=0) rfl rfl ⟨d,rfl,.inl ⟨_,.inl hd⟩,?_⟩;tm_up;refine⟨_,g,?_⟩;have e0:(t0::tr).headD []=t0:=rfl;rw[e0];unfold AQ;cases gN t0 (Iz b) with
    |none =>
     tm_up;exact⟨rfl,rfl⟩
    |some n =>
     tm_up;refine bE ?_;show decide (0<n) = !decide (n<=0);rw[Bool.eq_iff_iff];simp
   ·refine aJ (fun h=>?_) (fun h=>?_)
    ·tm_up;have e:NX c b o qs ts=false:=by
      unfold NX;rw[al];rcases Bool.or_eq_true _ _ ▸ h with h|h
      ·have:decide (ts.length=qs.length+1)=false:=by
        cases e:decide (ts.length=qs.length+1) with
        |false=>rfl
        |true=>rw[e]at h;cases h
       rw[this];rfl
      ·have:AQ (ts.headD []) (Iz b) 0=false:=by
        cases e:AQ (ts.headD []) (Iz b) 0 with
        |false=>rfl
        |true=>rw[e]at h;cases h
       rw[this,Bool.false_and,Bool.and_false];rfl
     rw[<-e];exact q H1 s1
    refine hN _ _ ?_;clear hN N;have h:=O'.mpr h;rw[Bool.or_eq_false_iff]at h;have hl:decide (ts.length=qs.length+1)=true:=by
     cases e:decide (ts.length=qs.length+1) with
     |true=>rfl
     |false=>rw[e]at h;cases h.1
    have hb:AQ (ts.headD []) (Iz b) 0=true:=by
     cases e:AQ (ts.headD []) (Iz b) 0 with
     |true=>rfl
     |false=>rw[e]at h;cases h.2
    have el:NX c b o qs ts=(List.range ts.length).all (tbB c o qs ts):=by
     unfold NX;rw[al,hl,hb];rfl
    rw[el]at q;have hl:=J' hl;clear el hb h;tm_up;refine .inl ⟨l,ys,rfl,.inl (aR.of h1),?_⟩;tm_up;have yb:ys.length<=900:=by omega
    refine⟨by omega,by omega,kU (n:=ys.length) (fun i σ H'=>∃(v1 v2 v3:Option V),σ=[some (.ref wl),some (.ref pz),some (eV o),some (.ref pp),some (.int b),some (.ref l),some (.str (Iz b)),v1,v2,v3]/\ax H1 H'/\(List.range i).all (tbB c o qs ts)=true/\i<=ts.length)
     ⟨none,none,none,rfl,ax.refl _,rfl,X' _⟩ ?_ ?_⟩
    ·rintro i σ H2 hi ⟨v1,v2,v3,rfl,s2,al2,il⟩;obtain⟨y,hy⟩:∃ y,ys[i]? = some y:=⟨_,C' hi⟩;obtain⟨t',ht,d,rfl,_,nd,hd⟩:=dq p1 hy;have hd2:=s2 _ _ hd;have hst:∀ p∈t',p.1∈ST:=fun p hp=>by
      have:=all_eq_true.mp al _ (V' ht);unfold FF at this;rw[Bool.and_eq_true]at this;exact J' (all_eq_true.mp this.2 p hp)
     have eg:ts.getD i []=t':=by rw[T',ht];rfl
     refine⟨_,rfl,_,rfl,Ia (aR.of (s2 _ _ h1)) (n:=i) (by omega) hy ?_⟩;refine⟨d,_,rfl,hd2,fun oo=>?_⟩;have thw:∀(H3:Hp)(R:Hp->Prop),(∀ b u,b≠d->H2 b=some u->H3 b=some u)->H3 d=some (.ix oo (.dK (dB t')))->(∀ H',ax H1 H'->R H')->∃ d o kvs,H3 d=some (.ix o (.dK kvs))/\(∀ o v,H d≠some (.ix o v))/\R (upd H3 d (.dK kvs)):=fun H3 R sx h3 k=>by
      refine⟨d,oo,_,h3,fun o' v' e=>(by rw[nd]at e;cases e),k _ (s2.trans fun b u e=>?_)⟩
      by_cases hb:b=d
      ·subst hb;rw[hd2]at e;cases e;exact ag
      ·rw[aA hb];exact sx b u hb e
     have sx0:∀ b u,b≠d->H2 b=some u->upd H2 d (.ix oo (.dK (dB t'))) b=some u:=fun b u hb e=>by rw[aA hb];exact e
     have d0:=ag (H:=H2) (a:=d) (o:=.ix oo (.dK (dB t')));generalize upd H2 d (.ix oo (.dK (dB t')))=H3 at sx0 d0;have nld:l≠d:=fun e=>by rw[e,hd]at h1;cases h1
     have npd:pz≠d:=aP hpz nd;have nwd:wl≠d:=aP hwl nd;refine yE (fun j σ H'=>∃(v2 v3:Option V),σ=[some (.ref wl),some (.ref pz),some (eV o),some (.ref pp),some (.int b),some (.ref l),some (.str (Iz b)),some (.int (0+(i:Int))),v2,v3]/\(∀ b u,b≠d->H2 b=some u->H' b=some u)/\H' d=some (.ix oo (.dK (dB t')))/\(t'.take j).all (X3 c o qs ts i)=true/\j<=t'.length)
      ⟨v2,v3,rfl,sx0,d0,rfl,X' _⟩ ?_ ?_ ?_
     ·rintro j σ H' ⟨v2,v3,rfl,_,h,_⟩;exact h
     ·rintro j kv tt σ H4 hkv ⟨v2,v3,rfl,sx4,d4,al4,jl⟩ htt;obtain⟨⟨z,n⟩,hw,rfl⟩:=De hkv;have jl2:j<t'.length:=(B'.mp hw).1;have hz:z∈ST:=hst _ (V' hw);have st:=ax.upd (o:=.tup [kV (Sum.inr z),.int n]) htt;have h5:=ag (H:=H4) (a:=tt) (o:=.tup [kV (Sum.inr z),.int n]);show _;generalize upd H4 tt (.tup [kV (Sum.inr z),.int n])=H5 at st h5;have LI:∀ b u,b≠d->H2 b=some u->H5 b=some u:=fun b u hb e=>st _ _ (sx4 b u hb e);have d5:=st _ _ d4;have no:X3 c o qs ts i (z,n)=false->∀(H6:Hp),(∀ b u,b≠d->H2 b=some u->H6 b=some u)->H6 d=some (.ix oo (.dK (dB t')))->∃ d o kvs,H6 d=some (.ix o (.dK kvs))/\(∀ o v,H d≠some (.ix o v))/\Q (.bl false) (upd H6 d (.dK kvs)):=fun e H6 sx h6=>by
       have e1:tbB c o qs ts i=false:=by
        unfold tbB;rw[eg];exact pG hw e
       have e2:(List.range ts.length).all (tbB c o qs ts)=false:=pG (i:=i) (x:=i) (by rw[List.getElem?_range (by omega)]) e1;rw[e2]at q;exact thw H6 _ sx h6 fun H' s=>q H' (s1.trans s)
      refine⟨tt,_,rfl,dz.of h5,rfl,_,_,rfl,_,_,rfl,rfl,?_⟩;refine bY fun N hN=>?_;tm_up;refine⟨z,.non,pz,none,c,rfl,hz,rfl,LI _ _ npd (s2 _ _ (s1 _ _ hpz)),fun l3 xs3 H6 s6 n6 h6 p6=>?_⟩;tm_up;refine Ia (aR.of (s6 _ _ (LI _ _ nld (s2 _ _ h1)))) (n:=i) (by omega) hy ?_;tm_up;refine⟨l3,d,n,xs3,_,t',rfl,h6,p6,.inr ⟨oo,s6 _ _ d5⟩,?_⟩;tm_up;have sx6:∀ b u,b≠d->H2 b=some u->H6 b=some u:=fun b u hb e=>s6 _ _ (LI b u hb e);have d6:=s6 _ _ d5;have er:X3 c o qs ts i (z,n)=(caB t' n (lmL c z none)&&(if i<qs.length then caB (ts.getD (i+1) []) n (lmL c z (some (qs.getD i (0,0)))) else !(m6 z&&boB o n))):=by
       unfold X3;rw[eg]
      rw[er]at no;have yes:X3 c o qs ts i (z,n)=true->(t'.take (j+1)).all (X3 c o qs ts i)=true:=fun e=>pE hw al4 e;rw[er]at yes;clear er;generalize caB t' n (lmL c z none)=cb at no yes;cases cb with
      |false =>
       refine dj ?_;tm_up;exact no rfl _ sx6 d6
      |true =>
       rw[Bool.true_and]at no yes;refine dA (hN _ _ ?_);clear hN N h6 p6;tm_up;refine .inl ⟨wl,ws,rfl,.inl (aR.of (sx6 _ _ nwd (s2 _ _ (s1 _ _ hwl)))),?_⟩;tm_up;have ek:decide ((0+(i:Int))<(ws.length:Int))=decide (i<qs.length):=by
        rw[wl2,Bool.eq_iff_iff,decide_eq_true_iff,decide_eq_true_iff];omega
       rw[ek];refine aJ (fun h=>?_) (fun h=>?_)
       ·have h:=J' h;rw[S' h]at no yes;obtain⟨x,hx⟩:∃ x,ws[i]? = some x:=⟨_,C' (by omega)⟩;obtain⟨qq,hq,wp,rfl,hwp⟩:=dq hqs hx;have eq:qs.getD i (0,0)=qq:=by rw[T',hq];rfl
        rw[eq]at no yes;obtain⟨y7,hy7⟩:∃ y,ys[i+1]? = some y:=⟨_,C' (by omega)⟩;obtain⟨u',hu,d',rfl,_,nd',hd'⟩:=dq p1 hy7;have eu:ts.getD (i+1) []=u':=by rw[T',hu];rfl
        rw[eu]at no yes;have hWq:=hW _ (V' hq);tm_up;refine Ia (aR.of (sx6 _ _ nwd (s2 _ _ (s1 _ _ hwl)))) (n:=i) (by omega) hx ?_;tm_up;refine⟨z,_,pz,some qq,c,rfl,hz,⟨wp,rfl,sx6 _ _ (aP hwp nd) (s2 _ _ (s1 _ _ hwp)),hWq.1,hWq.2⟩,sx6 _ _ npd (s2 _ _ (s1 _ _ hpz)),fun l7 xs7 H7 s7 n7 h7 p7=>?_⟩;tm_up;refine Ia (aR.of (s7 _ _ (sx6 _ _ nld (s2 _ _ h1)))) (n:=i+1) (by omega) hy7 ?_;tm_up;have d7:=s7 _ _ d6;refine⟨l7,d',n,xs7,_,u',rfl,h7,p7,?_,?_⟩
        ·by_cases e:d'=d
         ·rw[e]at hd' ⊢;rw[hd]at hd';have:dB u'=dB t':=(HO.dK.inj (Zc' hd')).symm;rw[this];exact .inr ⟨oo,d7⟩
         ·exact .inl (s7 _ _ (sx6 _ _ e (s2 _ _ hd')))
        tm_up;generalize caB u' n (lmL c z (some qq))=cb at no yes;cases cb with
        |false =>
         refine dj ?_;tm_up;exact no rfl _ (fun b u hb e=>s7 _ _ (sx6 b u hb e)) d7
        |true=>exact dA ⟨_,_,rfl,fun b u hb e=>s7 _ _ (sx6 b u hb e),d7,yes rfl,jl2⟩
       ·have h:¬ i<qs.length:=fun z=>h (W' z);rw[M' h]at no yes;refine dS (m6 z&&boB o n) ?_ ?_
        ·tm_up;refine⟨hz,_,rfl,?_⟩;cases m6 z with
         |false=>exact dA (bE rfl)
         |true =>
          refine dj ?_;refine dS (boB o n) ?_ (bE rfl);cases o with
          |none =>
           tm_up;exact⟨rfl,_,rfl,dj (bE rfl)⟩
          |some m =>
           tm_up;refine⟨rfl,_,rfl,dA ?_⟩;tm_up;exact bE rfl
        ·cases e:m6 z&&boB o n with
         |true =>
          rw[e]at no;refine dj ?_;tm_up;exact no rfl _ sx6 d6
         |false =>
          rw[e]at yes;exact dA ⟨_,_,rfl,sx6,d6,yes rfl,jl2⟩
     ·rintro σ H4 ⟨v2,v3,rfl,sx4,d4,al4,jl⟩;rw[gK,take_length]at al4;refine thw _ _ sx4 d4 fun H' s=>⟨_,_,_,rfl,s,?_,by omega⟩;rw[List.range_succ,List.all_append,al2];show(true&&(tbB c o qs ts i&&true))=true;unfold tbB;rw[eg,al4];rfl
    ·rintro σ H2 ⟨v1,v2,v3,rfl,s2,al2,il⟩;rw[yl]at al2;tm_up;rw[al2]at q;exact q H2 (s1.trans s2)
  ·clear hN N;refine bY fun N hN=>?_;refine eX (.str (Iz b)) ?_ (hN _ _ ?_)
   ·tm_up;rw[intD];unfold Iz;refine aJ (fun h=>?_) (fun h=>?_)
    ·tm_up;exact bD (by rw[S' (J' h)])
    ·tm_up;exact bD (by rw[M' (fun z=>h (W' z))])
   clear hN N;refine bY fun N hN=>?_;refine dS true ?_ (dj ?_)
   ·tm_up;exact⟨rfl,_,rfl,dj (bE rfl)⟩
   ·tm_up;have e:NX c b o qs ts=false:=by unfold NX;rw[al];rfl
    rw[<-e];exact q H1 s1
def l24:List Kd:=[.G,.G,.G,.G,.G,.s,.s,.s,.s,.s,.s,.s,.s,.s,.d,.d,.r,.r,.D,.R,.dot,.dot,.three,.two]
theorem ajF:(Str.ofString "GGGGGsssssssssddrrDR..32").cps.toList=l24.map Kd.cp:=by lk
theorem ML (k:Kd):tN k.str "GDsd"=k.kh:=by cases k <;> decide +kernel
def aby (s:Sg):Prop:=(s.1.kh=true->0<=s.2/\s.2<100)/\(s.1.kh=false->s.2=0)
def Kj:Sp:=fun vs H Q _=>∃ m:Int,vs=[.int m]/\∀(p:Addr)(s:Sg),aby s->H p=none->Q (.ref p) (upd H p (.tup [.str s.1.str,.int s.2]))
theorem Kk (T:Txt K w mg t):bV P w K mg base iw (0+1) t.fz t.rl ["_law_number"] Kj:=by
 refine T.j7.ok wj (fun vs H Q E h=>?_) (fun cdv A outer s H vs Q E hr h=>?_)
 ·obtain⟨_,rfl,_⟩:=h;rfl
 ·obtain⟨m,rfl,q⟩:=h;refine aT (af (aH (i:=1) wj.nd rfl (Or.inl rfl) (aK aE aw (aF bF (pv 0) ah) (fun _ _=>rfl))) (af (aM (ar (bq.or bp) (pv 1) aw rfl) (ai (ay (bT (aa (pv 1) (aa (aF bF (aF fH (pv 0) ah) ah) aj))))) az) (ai (ay (bT (aa (pv 1) (aa ah aj))))))) ?_;obtain⟨k,hk⟩:∃ k,l24[(m % 24).toNat]? = some k:=by
   have h1:(m % 24).toNat<l24.length:=by
    show _<24;omega
   exact⟨_,C' h1⟩
  have hat:atI (Str.ofString "GGGGGsssssssssddrrDR..32").cps.toList (m % 24)=some k.cp:=by
   have e0:m % 24=(((m % 24).toNat:Nat):Int):=by omega
   rw[e0,ajF];exact vN (by rw[Zi',hk];rfl)
  refine⟨_,rfl,_,_,rfl,rfl,(by decide:(0:Int)<24),.inr (.inr ⟨_,_,_,rfl,rfl,(by lk),hat,?_⟩)⟩;rw[<-aii k];tm_up;refine aJ (fun h=>?_) (fun h=>?_)
  ·have h4:k.kh=true:=by rw[<-ML];exact h
   tm_up;refine⟨(by show 2<=sizeLine;decide),fun p hp=>?_⟩;exact q p (k,m / 24 % 100) ⟨fun _=>by show 0<=m / 24 % 100/\m / 24 % 100<100;omega,fun z=>by rw[h4]at z;cases z⟩ hp
  ·have h4:k.kh=false:=by
    rw[<-ML];exact O'.mpr h
   tm_up;refine⟨(by show 2<=sizeLine;decide),fun p hp=>?_⟩;exact q p (k,0) ⟨(fun z=>by rw[h4]at z;cases z),fun _=>rfl⟩ hp
def Kl (K:Frag):Sp:=fun vs H Q _=>∃(a:Addr)(ns:List Int)(k m:Nat),vs=[.ref a,.int (k:Int),.int (m:Int)]/\aR K H a (ns.map V.int)/\ns.length<=63/\m<=60 /\
 ∀(l:Addr)(ms:List Int)(H':Hp),ax H H'->H' l=some (.lst (ms.map V.int))->ms.length<=60->(∀ x∈ms,0<=x)->Q (.ref l) H'
theorem Km (T:Txt K w mg t):bV P w K mg base iw (0+2) t.fA t.rm ["_law_script","_law_at","_law_many"] (Kl K):=by
 have a9:=qb (P:=P) (base:=base) T;have oI:=uI (P:=P) (base:=base) T;refine T.j8.ok iI (fun vs H Q E h=>?_) (fun cdv A outer s H vs Q E hr h=>?_)
 ·obtain⟨_,_,_,_,rfl,_⟩:=h;rfl
 ·obtain⟨a,ns,k,m,rfl,hS,hl,hm,q⟩:=h;refine aT (af (aH (i:=3) iI.nd rfl (Or.inr rfl) (aC a9 (hr.mono (by decide)) rfl T.a7 T.aV.kp T.a8 .nil aO (aa (pv 0) (aa (pv 1) aj)))) (af (aM (ar qS (pv 3) (aF Yg ah ah) (av _)) (ai (ay (mW (cn:=["_law_k"]) rfl (bS.of rfl) (g9 rfl T.j9 (aa (pv 2) aj)) (fun _=>(aG (i:=0) AX rfl (Or.inl rfl))) (fun _=>iC) (fun _=>(aC oI (hr.mono (by decide)) rfl T.uD T.jC.kp T.oA .nil aO (aa (aF (aX.or (aD.or a5)) (pv 4) (aF (uc.or ud) ah (aC a9 (hr.mono (by decide)) rfl T.a7 T.aV.kp T.a8 .nil aO (aa (pv 1) (aa (aF (aX.or (aD.or a5)) (aF (aX.or (aD.or a5)) (pv 2) ah) (pv 0)) aj))))) (aa (pv 0) aj))))))) az) (af (aH (i:=4) iI.nd rfl (Or.inl rfl) (aF iB (pv 3) (aF Yg ah ah))) (af (aH (i:=5) iI.nd rfl (Or.inl rfl) (cm aj)) (af (Dk PassesOwn.never (ba (PW.pt (bz (ar HH (pv 4) ah (av _)) (bH (ar qS (aU (aY.or aZ) rfl T.dQ dF (aa (pv 5) aj)) ah (av _)))))) (af (bQ (e8 Zh' Zg' Zf' bf (pv 5) (aa (aF bF (pv 4) ah) aj))) (ai (aH (i:=4) iI.nd rfl (Or.inl rfl) (aF fH (pv 4) ah))))) (ai (ay (pv 5)))))))) ?_;refine⟨_,rfl,_,rfl,a,ns,k,rfl,hS,hl,?_⟩;refine⟨_,rfl,_,_,rfl,rfl,⟨by decide,by decide,by decide⟩,_,_,rfl,rfl,_,rfl,?_⟩;refine aJ (fun _=>?_) (fun _=>?_)
  ·refine⟨_,rfl,(m:Int),rfl,(by omega),(by omega),fun D b hD=>?_⟩;refine Ds (lo:=0) (n:=((m:Int)).toNat) (fun i ys σ H'=>∃(v:Option V)(ms:List Int),σ=[v,some (.ref a),some (.int (k:Int)),some (.int (m:Int)),some (.int (cP ns k)),none,none]/\H'=upd H D (.lst ys)/\ys=ms.map V.int/\ms.length=i/\∀ x∈ms,0<=x) ⟨none,[],rfl,rfl,rfl,rfl,fun _ h=>nomatch h⟩ ?_ ?_
   ·rintro i ys σ H' hi ⟨v,ms,rfl,rfl,rfl,hlen,hpos⟩ N hN;refine fb ?_;refine⟨_,rfl,_,rfl,_,rfl,.inl ⟨_,_,rfl,rfl,_,rfl,.inl ⟨_,_,rfl,rfl,a,ns,k+1+i,?_,vR hS hD,hl,.inl ⟨_,_,rfl,rfl,.inl ⟨by decide,by decide⟩,?_⟩⟩⟩⟩
    ·show [V.ref a,V.int ((k:Int)+1+(0+(i:Int)))]=[V.ref a,V.int ((k+1+i:Nat):Int)];have e:(k:Int)+1+(0+(i:Int))=((k+1+i:Nat):Int):=by omega
     rw[e]
    ·refine .inl ⟨_,_,rfl,rfl,_,rfl,_,_,rfl,fun r h0 h1=>⟨ag,?_,?_⟩⟩
     ·rw[K'];exact aQ (by omega)
     ·refine hN _ _ _ ⟨some _,ms++[r],rfl,iy,by simp,by simp[hlen],fun x hx=>?_⟩;rcases Zq'.mp hx with z|z
      ·exact hpos x z
      ·have:x=r:=by simpa using z
       omega
   ·rintro ys σ H' ⟨v,ms,rfl,rfl,rfl,hlen,hpos⟩;exact q D ms _ (ax.upd hD) ag (by omega) hpos
  ·refine⟨_,rfl,_,_,rfl,rfl,⟨by decide,by decide,by decide⟩,_,_,rfl,rfl,(by decide),fun l hl0=>?_⟩;refine⟨fun mm σ H'=>∃(left:Int)(ms:List Int),σ=[some (.ref a),some (.int (k:Int)),some (.int (m:Int)),some (.int (cP ns k)),some (.int left),some (.ref l)]/\H'=upd H l (.lst (ms.map V.int))/\mm=60-ms.length/\ms.length<=60/\∀ x∈ms,0<=x,
    ⟨60,_,[],rfl,rfl,rfl,X' _,fun _ h=>nomatch h⟩,?_⟩
   rintro mm σ H' ⟨left,ms,rfl,rfl,rfl,hlen,hpos⟩;refine dS (decide (0<left)&&decide ((ms.length:Int)<60)) ?_ ?_
   ·refine⟨_,rfl,_,_,rfl,rfl,_,rfl,?_⟩;refine aJ (fun h=>?_) (fun h=>?_)
    ·refine⟨_,rfl,.inl ⟨l,_,rfl,.inl (aR.of ag),_,_,rfl,rfl,_,rfl,?_⟩⟩;rw[K'];exact⟨by rw[h,Bool.true_and],rfl⟩
    ·exact⟨by rw[O'.mpr h];rfl,rfl⟩
   refine aJ (fun h60=>?_) (fun _=>?_)
   ·have apC:ms.length<60:=by
     have:=J' (Bool.and_eq_true_iff.mp h60).2;omega
    refine⟨fun σ' H'=>∃ m',m'<60-ms.length/\∃(left:Int)(ms:List Int),σ'=[some (.ref a),some (.int (k:Int)),some (.int (m:Int)),some (.int (cP ns k)),some (.int left),some (.ref l)]/\H'=upd H l (.lst (ms.map V.int))/\m'=60-ms.length/\ms.length<=60/\∀ x∈ms,0<=x,fun _ _ h=>h,?_⟩;refine⟨_,rfl,.inl ⟨rfl,_,aR.of ag⟩,_,rfl,_,_,rfl,rfl,(by decide:(0:Int)<2400),l,_,_,rfl,rfl,ag,(by rw[K'];exact aQ (by omega)),_,rfl,_,_,rfl,rfl,⟨by decide,by decide⟩,60-(ms.length+1),by omega,_,ms++[left % 2400],rfl,?_,by simp,by simp;omega,fun x hx=>?_⟩
    ·rw[iy,map_append];rfl
    ·rcases Zq'.mp hx with z|z
     ·exact hpos x z
     ·have:x=left % 2400:=by simpa using z
      omega
   ·exact⟨_,rfl,q l ms _ (ax.upd hl0) ag (by omega) hpos⟩
def WD (K:Frag):Sp:=fun vs H Q _=>∃(a:Addr)(ns:List Int)(k m:Nat),vs=[.ref a,.int (k:Int),.int (m:Int)]/\aR K H a (ns.map V.int)/\ns.length<=63/\m<=60 /\
 ∀(l:Addr)(xs:List V)(ss:List Sg)(H':Hp),ax H H'->H l=none->H' l=some (.lst xs)->VQ H' xs ss->(∀ s∈ss,aby s)->ss.length<=60->Q (.ref l) H'
theorem WE (T:Txt K w mg t):bV P w K mg base iw (0+3) t.lO t.DY ["_law_script","_law_at","_law_many"] (WD K):=by
 have MM:=Kk (P:=P) (base:=base) T;have MN:=Km (P:=P) (base:=base) T;refine T.rL.ok V9 (fun vs H Q E h=>?_) (fun cdv A outer s H vs Q E hr h=>?_)
 ·obtain⟨_,_,_,_,rfl,_⟩:=h;rfl
 ·obtain⟨a,ns,k,m,rfl,hS,hl,hm,q⟩:=h;refine aT (ai (ay (mW (cn:=["_law_number"]) rfl (bS.of rfl) (bR (aC MN (hr.mono (by decide)) rfl T.JU T.j8.kp T.rK .nil aO (aa (pv 0) (aa (pv 1) (aa (pv 2) aj))))) (fun _=>(aG (i:=0) JK rfl (Or.inl rfl))) (fun _=>iC) (fun _=>(aC MM (hr.mono (by decide)) rfl T.JT T.j7.kp T.rJ .nil aO (aa (pv 0) aj)))))) ?_;refine⟨_,rfl,_,rfl,_,rfl,a,ns,k,m,rfl,hS,hl,hm,fun l ms H1 s1 hl1 hlen hpos=>⟨l,rfl,⟨_,aR.of hl1⟩,fun D b hD=>?_⟩⟩;refine dG (K:=K) (xs:=ms.map V.int) (fun i ys σ H'=>∃(v:Option V)(ss:List Sg),σ=[v,some (.ref a),some (.int (k:Int)),some (.int (m:Int))]/\ax H1 H'/\H' D=some (.lst ys)/\VQ H' ys ss/\ss.length=i/\i<=ms.length/\∀ s∈ss,aby s)
   ⟨none,[],rfl,ax.upd hD,ag,.nil,rfl,X' _,fun _ h=>nomatch h⟩ ?_ ?_ ?_
  ·rintro i ys σ H' ⟨v,ss,rfl,s2,_⟩;exact s2.seq (aR.of hl1)
  ·rintro i ys x σ H' hx ⟨v,ss,rfl,s2,hDl,hsg,hsl,hi,hg⟩ N hN;have hil:i<ms.length:=by
    have:=(B'.mp hx).1;rw[K']at this;exact this
   obtain⟨z,hz,rfl⟩:=Y3 hx;refine fb ?_;refine⟨_,rfl,z,rfl,fun p s gs hp=>⟨ax.upd hp _ _ hDl,?_,?_⟩⟩
   ·rw[bO hsg,hsl];exact aQ (by omega)
   ·have hD4:=ax.upd (o:=.tup [.str s.1.str,.int s.2]) hp _ _ hDl;refine hN _ _ _ ⟨_,ss++[s],rfl,bC (s2.trans (ax.upd hp)) hD,ag,j0 (agq hD4 (hsg.same (ax.upd hp))) (aeM hD4 ⟨p,rfl,ag⟩),by simp[hsl],hil,fun y hy=>?_⟩;rcases Zq'.mp hy with z|z
    ·exact hg y z
    ·have:y=s:=by simpa using z
     rw[this];exact gs
  ·rintro ys σ H' ⟨v,ss,rfl,s2,hDl,hsg,hsl,hi,hg⟩;refine q D ys ss H' (s1.trans s2) (s1.free hD) hDl hsg hg ?_;rw[hsl,K'];omega
theorem abz {c:q0}{u:Nb}{n:Int}{z:Str}{w:Option (Int×Int)}{ss:List Sg}(hs:∀ k∈SU w,∃ s∈ss,s.1=k)(h:AR u n (cI c z (Wu w) ss)=true):caB u n (lmL c z w)=true:=by
 refine all_eq_true.mpr fun m hm=>?_;obtain⟨k,hk,e⟩:=List.mem_filterMap.mp hm;obtain⟨s,hs,rfl⟩:=hs k hk;unfold qM at e;cases e1:costOf c s.1 with
 |none=>rw[e1]at e;cases e
 |some x =>
  cases e2:stQ z s.1 (Wu w) with
  |none=>rw[e1,e2]at e;cases e
  |some y =>
   rw[e1,e2]at e;cases e;exact all_eq_true.mp h (s,x,y) (List.mem_filterMap.mpr ⟨s,hs,by unfold Ow;rw[e1,e2]⟩)
theorem adV:∀ k∈SU none,∃ s∈tU,s.1=k:=by decide
theorem adW {q:Int×Int}(h:-1<=q.1):∀ k∈SU (some q),∃ s∈gP q.1,s.1=k:=by
 intro k hk;unfold SU at hk;dsimp only at hk;unfold gP;split at hk
 ·rw[S' (by omega)];simp at hk;rcases hk with rfl|rfl <;> simp
 ·rw[M' (by omega)];simp at hk;rcases hk with rfl|rfl|rfl|rfl <;> simp
theorem agV {c:q0}{b:Int}{o:Option Int}{qs:List (Int×Int)}{ts:List Nb}(hb:bgS b=Iz b)(hq:∀ q∈qs,-1<=q.1)(h:V4 c b o qs ts=true):NX c b o qs ts=true:=by
 unfold V4 at h;simp only [Bool.and_eq_true,decide_eq_true_iff]at h;obtain⟨h1,h2,h3,h4,h5,h6⟩:=h;unfold NX;simp only [Bool.and_eq_true,decide_eq_true_iff];refine⟨h2,h1,by rw[<-hb];exact h3,all_eq_true.mpr fun k hk=>all_eq_true.mpr fun p hp=>?_⟩;have hk:k<ts.length:=mem_range.mp hk;have ek:ts.getD k []=ts[k]:=by rw[T',C' hk];rfl
 have hp4:=all_eq_true.mp (all_eq_true.mp h4 _ (List.getElem_mem hk)) p (by rw[<-ek];exact hp);unfold X3;rw[Bool.and_eq_true];refine⟨by rw[ek];exact abz adV hp4,?_⟩;split
 ·rename_i hkq
  have h5:=all_eq_true.mp (all_eq_true.mp h5 k (mem_range.mpr hkq)) p hp;have eq:qs.getD k (0,0)=qs[k]:=by rw[T',C' hkq];rfl
  rw[eq]at h5 ⊢;exact abz (adW (hq _ (List.getElem_mem hkq))) h5
 ·have:k=qs.length:=by omega
  subst this;cases e:m6 p.1 with
  |false=>rfl
  |true =>
   have hm:p.2∈j3 (ts.getD qs.length []):=mem_map.mpr ⟨p,List.mem_filter.mpr ⟨hp,e⟩,rfl⟩;cases o with
   |none =>
    have h6:(j3 (ts.getD qs.length [])).isEmpty=true:=h6;rw[List.isEmpty_iff.mp h6]at hm;cases hm
   |some m =>
    have h6:((j3 (ts.getD qs.length [])).all fun n=>decide (m<=n))=true:=h6;have:=J' (all_eq_true.mp h6 _ hm);show(!(true&&decide (p.2<m)))=true;rw[Zb' (by omega)];rfl
theorem afm {c:q0}{u:Nb}{n:Int}{z:Str}{w:Option (Int×Int)}{ss:List Sg}(hs:∀ s∈ss,s.1∈SU w)(h:caB u n (lmL c z w)=true):AR u n (cI c z (Wu w) ss)=true:=by
 refine all_eq_true.mpr fun m hm=>?_;obtain⟨s,hs',e⟩:=List.mem_filterMap.mp hm;unfold Ow at e;cases e1:costOf c s.1 with
 |none=>rw[e1]at e;cases e
 |some x =>
  cases e2:stQ z s.1 (Wu w) with
  |none=>rw[e1,e2]at e;cases e
  |some y =>
   rw[e1,e2]at e;cases e;exact all_eq_true.mp h (y,x) (List.mem_filterMap.mpr ⟨s.1,hs s hs',by unfold qM;rw[e1,e2]⟩)
theorem adX:∀ s∈tU,s.1∈SU none:=by decide
theorem adY {q:Int×Int}(h:-1<=q.1):∀ s∈gP q.1,s.1∈SU (some q):=by
 intro s hs;unfold gP at hs;unfold SU;dsimp only;split at hs
 ·rw[S' (by omega)];simp at hs;rcases hs with rfl|rfl <;> simp
 ·rw[M' (by omega)];simp at hs;rcases hs with rfl|rfl|rfl|rfl <;> simp
theorem agW {c:q0}{b:Int}{o:Option Int}{qs:List (Int×Int)}{ts:List Nb}(hb:bgS b=Iz b)(hq:∀ q∈qs,-1<=q.1)(h:NX c b o qs ts=true):V4 c b o qs ts=true:=by
 unfold NX at h;simp only [Bool.and_eq_true,decide_eq_true_iff]at h;obtain⟨h2,h1,h3,h4⟩:=h;have row:∀ k,k<ts.length->∀ p∈ts.getD k [],X3 c o qs ts k p=true:=fun k hk p hp=>all_eq_true.mp (all_eq_true.mp h4 k (mem_range.mpr hk)) p hp;unfold V4;simp only [Bool.and_eq_true,decide_eq_true_iff];refine⟨h1,h2,by rw[hb];exact h3,all_eq_true.mpr fun t ht=>all_eq_true.mpr fun p hp=>?_,all_eq_true.mpr fun i hi=>all_eq_true.mpr fun p hp=>?_,?_⟩
 ·obtain⟨k,hk,rfl⟩:=List.mem_iff_getElem.mp ht;have ek:ts.getD k []=ts[k]:=by rw[T',C' hk];rfl
  have:=row k hk p (by rw[ek];exact hp);unfold X3 at this;rw[Bool.and_eq_true,ek]at this;exact afm adX this.1
 ·have hi:=mem_range.mp hi;have:=row i (by omega) p hp;unfold X3 at this;rw[Bool.and_eq_true,S' hi]at this;have eq:qs.getD i (0,0)=qs[i]:=by rw[T',C' hi];rfl
  rw[eq]at this ⊢;exact afm (adY (hq _ (List.getElem_mem hi))) this.2
 ·have last:∀ p∈ts.getD qs.length [],m6 p.1=true->boB o p.2=false:=fun p hp he=>by
   have:=row qs.length (by omega) p hp;unfold X3 at this;rw[Bool.and_eq_true,M' (Nat.lt_irrefl _)]at this;have:=this.2;rw[he,Bool.true_and]at this
   simpa using this
  cases o with
  |none =>
   show(j3 (ts.getD qs.length [])).isEmpty=true;rw[List.isEmpty_iff];unfold j3;rw[List.map_eq_nil_iff,List.filter_eq_nil_iff];intro p hp he;exact j' (last p hp he) (by show ¬ true=false;decide)
  |some m =>
   show((j3 (ts.getD qs.length [])).all fun n=>decide (m<=n))=true;refine all_eq_true.mpr fun n hn=>?_;obtain⟨p,hp,rfl⟩:=mem_map.mp hn;obtain⟨hp,he⟩:=List.mem_filter.mp hp;have:=last p hp he;have:decide (p.2<m)=false:=this;have:=of_decide_eq_false this;exact W' (by omega)
theorem ajG {c:q0}{b:Int}{o:Option Int}{qs:List (Int×Int)}{ts:List Nb}(hb:bgS b=Iz b)(hq:∀ q∈qs,-1<=q.1):V4 c b o qs ts=NX c b o qs ts:=by
 cases e:NX c b o qs ts with
 |true=>exact agW hb hq e
 |false =>
  rw[O']at e ⊢;exact fun h=>e (agV hb hq h)
theorem agX {K:Frag}{H:Hp}{a b:Addr}{xs ys:List V}{qs:List (Int×Int)}(ha:aR K H a xs)(hb:aR K H b ys)(h1:uf H xs qs)(h2:uf H ys qs):YC K H 60 (.ref a) (.ref b) :=
 .lst (n:=59) ha hb (by rw[bO h1,bO h2]) fun i x y hx hy=>by
  obtain⟨q,hq,p,rfl,hp⟩:=dq h1 hx;obtain⟨q',hq',p',rfl,hp'⟩:=dq h2 hy;rw[hq]at hq';cases hq';refine .tup (n:=58) (dz.of hp) (dz.of hp') rfl fun j u v hu hv=>?_;rw[hu]at hv;cases hv
  match j,hu with
  |0,hu=>obtain rfl:=Zc' hu;exact .flat rfl
  |1,hu=>obtain rfl:=Zc' hu;exact .flat rfl
  |j+2,hu=>exact j' hu (by simp)
theorem ajH {K:Frag}{H:Hp}{a b:Addr}{xs ys:List V}{t:Nb}{n:Nat}(ha:aR K H a xs)(hb:aR K H b ys)(h1:Paired (nR H) xs t)(h2:Paired (nR H) ys t):YC K H (n+2) (.ref a) (.ref b) :=
 .lst (n:=n+1) ha hb (by rw[bO h1,bO h2]) fun i x y hx hy=>by
  obtain⟨q,hq,p,rfl,hp⟩:=dq h1 hx;obtain⟨q',hq',p',rfl,hp'⟩:=dq h2 hy;rw[hq]at hq';cases hq';refine .tup (n:=n) (dz.of hp) (dz.of hp') rfl fun j u v hu hv=>?_;rw[hu]at hv;cases hv
  match j,hu with
  |0,hu=>obtain rfl:=Zc' hu;exact .flat rfl
  |1,hu=>obtain rfl:=Zc' hu;exact .flat rfl
  |j+2,hu=>exact j' hu (by simp)
theorem ajI {K:Frag}{H:Hp}{a b:Addr}{xs ys:List V}{ts:List Nb}(ha:aR K H a xs)(hb:aR K H b ys)(h1:Paired (FH H) xs ts)(h2:Paired (FH H) ys ts):YC K H 60 (.ref a) (.ref b) :=
 .lst (n:=59) ha hb (by rw[bO h1,bO h2]) fun i x y hx hy=>by
  obtain⟨q,hq,p,zs,rfl,hp,hc⟩:=dq h1 hx;obtain⟨q',hq',p',qP,rfl,hp',hc'⟩:=dq h2 hy;rw[hq]at hq';cases hq';exact ajH (n:=57) (aR.of hp) (aR.of hp') hc hc'
set_option maxHeartbeats 8000000 in
theorem agY (T:Txt K w mg t):bV P w K mg base iw (0+8) t.DZ t.aa6 ["_law_script"] (DI K):=by
 have WG:=SQ (P:=P) (base:=base) T;have Te:=Mp (P:=P) (base:=base) T;have Tf:=Mt (P:=P) (base:=base) T;have Tg:=Mw (P:=P) (base:=base) T;have GF:=El (P:=P) (base:=base) T;have Th:=MG (P:=P) (base:=base) T;have Vc:=abu (P:=P) (base:=base) T;have a9:=qb (P:=P) (base:=base) T;have oI:=uI (P:=P) (base:=base) T;have Ew:=Bo (P:=P) (base:=base) T;have WH:=Tc (P:=P) (base:=base) T;have abA:=WE (P:=P) (base:=base) T;have Eu:=Iy (P:=P) (base:=base) T;have l9:=rM (P:=P) (base:=base) T;refine T.U6.ok eR (fun vs H Q E h=>?_) (fun cdv A outer s H vs Q E hr h=>?_)
 ·obtain⟨a,ns,rfl,_⟩:=h;rfl
 ·obtain⟨a,ns,rfl,hS,hl,q⟩:=h;refine aT (af (aH (i:=1) eR.nd rfl (Or.inl rfl) (aF bF (aC a9 (hr.mono (by decide)) rfl T.a7 T.aV.kp T.a8 .nil aO (aa (pv 0) (aa ah aj))) ah)) (af (aH (i:=2) eR.nd rfl (Or.inl rfl) (aC WG (hr.mono (by decide)) rfl T.SF T.om.kp T.yT .nil aO (aa (aC a9 (hr.mono (by decide)) rfl T.a7 T.aV.kp T.a8 .nil aO (aa (pv 0) (aa ah aj))) aj))) (af (aH (i:=3) eR.nd rfl (Or.inl rfl) (aC Te (hr.mono (by decide)) rfl T.Mf T.lP.kp T.uy .nil aO (aa (aC oI (hr.mono (by decide)) rfl T.uD T.jC.kp T.oA .nil aO (aa (aC a9 (hr.mono (by decide)) rfl T.a7 T.aV.kp T.a8 .nil aO (aa (pv 0) (aa ah aj))) (aa ah aj))) aj))) (af (aH (i:=4) eR.nd rfl (Or.inl rfl) (aK aE (cm (aa ah (aa ah aj))) (b8 (kW.or eN) rfl T.y4 yB (aa (bj (aI.or (aB (au hr))) (aF bF (aF fH (aC a9 (hr.mono (by decide)) rfl T.a7 T.aV.kp T.a8 .nil aO (aa (pv 0) (aa ah aj))) ah) ah) ah (av _)) aj)) (fun _ _=>rfl))) (af (aH (i:=5) eR.nd rfl (Or.inl rfl) (aC Tf (hr.mono (by decide)) rfl T.Mg T.lQ.kp T.uz .nil aO (aa (vM (C2.or (IU.or Jd)) (aC abA (hr.mono (by decide)) rfl T.Wg T.rL.kp T.D9 .nil aO (aa (pv 0) (aa ah (aa (aF bF (aC a9 (hr.mono (by decide)) rfl T.a7 T.aV.kp T.a8 .nil aO (aa (pv 0) (aa ah aj))) (aF (aX.or (aD.or a5)) (pv 4) ah)) aj)))) C0 (C1 (pv 4))) (aa (pv 2) aj)))) (af (aH (i:=6) eR.nd rfl (Or.inl rfl) (aC Tg (hr.mono (by decide)) rfl T.Mh T.lR.kp T.uA .nil aO (aa (pv 5) (aa (pv 2) aj)))) (af (gu (aM (ar (aI.or (aB (au hr))) (aF bF (aF fH (aC a9 (hr.mono (by decide)) rfl T.a7 T.aV.kp T.a8 .nil aO (aa (pv 0) (aa ah aj))) ah) ah) ah (av _)) (ai (aH (i:=6) eR.nd rfl (Or.inl rfl) (aC Ew (hr.mono (by decide)) rfl T.A2 T.fG.kp T.l6 .nil aO (aa (pv 0) (aa ah (aa (aF bF (aC a9 (hr.mono (by decide)) rfl T.a7 T.aV.kp T.a8 .nil aO (aa (pv 0) (aa ah aj))) ah) aj)))))) az)) (af (aH (i:=7) eR.nd rfl (Or.inl rfl) (aC GF (hr.mono (by decide)) rfl T.D3 T.gJ.kp T.nv .nil aO (aa (pv 6) (aa (pv 3) (aa (pv 2) aj))))) (af (gu (aM (ar (aI.or (aB (au hr))) (aF bF (aF fH (aC a9 (hr.mono (by decide)) rfl T.a7 T.aV.kp T.a8 .nil aO (aa (pv 0) (aa ah aj))) ah) ah) ah (av _)) (ai (L1 (i:=7) eR.nd rfl rfl (cn:=["_law_k"]) rfl (jZ.of rfl) (g9 rfl T.j9 (aa (aF (aX.or (aD.or a5)) (aU (aY.or aZ) rfl T.dQ dF (aa (pv 6) aj)) ah) aj)) (fun _=>(aG (i:=0) Wa rfl (Or.inr rfl))) (fun _=>iC) (fun _=>(mW (cn:=["_law_state"]) rfl (bS.of rfl) (bR (vK l9 (hr.mono (by decide)) rfl T.rB T.gY.kp T.lT .nil aO)) (fun _=>(aG (i:=0) Wb rfl (Or.inl rfl))) (fun _=>iC) (fun _=>(bT (aa (pv 0) (aa (Az qR (pv 1)) aj)))))))) az)) (af (jm (i:=8) eR.nd rfl rfl (cn:=["_law_state","_law_number"]) rfl (bS.of rfl) (bR (aK aE (pv 7) (Az qR ah) (fun _ _=>rfl))) (fun _=>(dC rfl (aN (aG (i:=0) Io rfl (Or.inl rfl)) (aN (aG (i:=1) Io rfl (Or.inl rfl)) cK)))) (fun _=>(Yz (bZ (aC Eu (hr.mono (by decide)) rfl T.Iq T.oB.kp T.wB .nil aO (aa (pv 0) aj))))) (fun _=>(pv 1))) (af (aH (i:=9) eR.nd rfl (Or.inl rfl) bL) (af (gu (aM (ba (PW.pt (bz (ar (af3 (au hr)) (pv 8) (cm aj) (av _)) (bH (ar (jY.or (e9 (au hr))) (aF bF (aC a9 (hr.mono (by decide)) rfl T.a7 T.aV.kp T.a8 .nil aO (aa (pv 0) (aa ah aj))) ah) ah (av _)))))) (ai (aH (i:=9) eR.nd rfl (Or.inl rfl) (aF (aX.or (aD.or a5)) (aU VE rfl T.JX Je (aa (pv 8) aj)) (aK aE (cm (aa ah (aa ah (aa (Az qR ah) (aa ah (aa ah (aa (Az qR ah) aj))))))) (aF bF (aC a9 (hr.mono (by decide)) rfl T.a7 T.aV.kp T.a8 .nil aO (aa (pv 0) (aa ah aj))) ah) (fun _ _=>rfl))))) (ai (aM (ar (aI.or (aB (au hr))) (aF bF (aC a9 (hr.mono (by decide)) rfl T.a7 T.aV.kp T.a8 .nil aO (aa (pv 0) (aa ah aj))) ah) ah (av _)) (ai (aH (i:=9) eR.nd rfl (Or.inl rfl) (aF bF (aF fH (aC a9 (hr.mono (by decide)) rfl T.a7 T.aV.kp T.a8 .nil aO (aa (pv 0) (aa ah aj))) ah) ah))) az)))) (af (aH (i:=7) eR.nd rfl (Or.inl rfl) (aC Th (hr.mono (by decide)) rfl T.Mi T.lU.kp T.uB .nil aO (aa (pv 7) (aa (pv 1) (aa (aC a9 (hr.mono (by decide)) rfl T.a7 T.aV.kp T.a8 .nil aO (aa (pv 0) (aa ah aj))) (aa (aC a9 (hr.mono (by decide)) rfl T.a7 T.aV.kp T.a8 .nil aO (aa (pv 0) (aa ah aj))) aj)))))) (af (jm (i:=10) eR.nd rfl rfl (cn:=["_law_row"]) rfl (bS.of rfl) (bR (pv 7)) (fun _=>(aG (i:=0) Wc rfl (Or.inl rfl))) (fun _=>iC) (fun _=>(b8 kN rfl T.ni mX (aa (pv 0) aj)))) (af (aH (i:=11) eR.nd rfl (Or.inl rfl) (b8 kN rfl T.ni mX (aa (pv 6) aj))) (af (aH (i:=12) eR.nd rfl (Or.inl rfl) (aC Vc (hr.mono (by decide)) rfl T.Ml T.pY.kp T.JS .nil aO (aa (pv 11) (aa (pv 3) (aa (pv 9) (aa (pv 10) (aa (pv 2) aj))))))) (af (aM (ba (PW.pt (iz (ar (jY.or (e9 (au hr))) (pv 10) (pv 7) (av _)) (iz (ar (jY.or (e9 (au hr))) (pv 11) (pv 6) (av _)) (eY (ke (bZ (aU YE rfl T.Gi FQ (aa (pv 12) (aa (acC (v:=.ty "bool") rfl T.adC acR rfl) aj)))))))))) (ai (ay jd)) az) (af (aM (ba (PW.pt (bz (ar (aI.or (aB (au hr))) (pv 2) ah (av _)) (bH (ar (jY.or (e9 (au hr))) (aC Vc (hr.mono (by decide)) rfl T.Ml T.pY.kp (LH:=[.int 3]) T.D8 (.cons ⟨_,rfl⟩ (.nil)) aO (aa (pv 11) (aa (pv 3) (aa (pv 9) (aa (pv 10) aj))))) (pv 12) (av _)))))) (ai (ay jd)) az) (ai (ay (bj (aI.or (aB (au hr))) (pv 12) (aC WH (hr.mono (by decide)) rfl T.SN T.oC.kp T.y3 .nil aO (aa (pv 6) (aa (pv 3) (aa (pv 9) (aa (pv 7) (aa (pv 2) aj)))))) (av _)))))))))))))))))))))) ?_;tm_up;refine⟨a,ns,0,rfl,hS,hl,?_⟩;tm_up;refine⟨a,ns,2,rfl,hS,hl,?_⟩;tm_up;refine fun b hb=>?_;have hM:Ms b:=hb;tm_up;refine⟨a,ns,3,rfl,hS,hl,?_⟩;tm_up;refine⟨_,3,rfl,fun m0 _ _=>?_⟩;refine⟨m0,rfl,fun c z H1 s1 n1 hz1=>?_⟩;have hS1:=s1.seq hS;refine jf ?_;refine bY fun N hN=>?_
  suffices hN':∀(sz:Nat)(H':Hp),(sz=6\/sz=60)->ax H1 H'->N [some (.ref a),some (.int (cP ns 0 % 9)),some (.int b),some (.ref z),some (.int (sz:Int)),none,none,none,none,none,none,none,none] H' by
   tm_up;refine⟨by show 2<=sizeLine;decide,fun L hL=>?_⟩;have sL:=ax.upd (o:=.lst [V.int 6,V.int 60]) hL;tm_up;refine⟨a,ns,2,rfl,sL.seq hS1,hl,?_⟩;tm_up;refine .inl (.inr ⟨_,rfl,?_⟩);generalize decide (V.int (cP ns 2 / 5 % 8)=V.int 1)=db;cases db with
   |false=>exact Ia (aR.of ag) (n:=0) rfl rfl (hN' 6 _ (.inl rfl) sL)
   |true=>exact Ia (aR.of ag) (n:=1) rfl rfl (hN' 60 _ (.inr rfl) sL)
  intro sz H2 hsz s2;refine hN _ _ ?_;clear hN N;have hS2:=s2.seq hS1;have hz2:=s2 _ _ hz1;refine bY fun N hN=>?_;tm_up;refine⟨a,ns,4,rfl,hS2,hl,?_⟩;tm_up;refine⟨by omega,?_⟩;obtain⟨m1,hm1,hm2⟩:∃ m:Nat,cP ns 4 % ((sz:Int)+1)=(m:Int)/\m<=60:=⟨(cP ns 4 % ((sz:Int)+1)).toNat,by have:=Int.emod_nonneg (cP ns 4) (show((sz:Int)+1)≠0 by omega);omega,by have:=Int.emod_lt_of_pos (cP ns 4) (show 0<((sz:Int)+1) by omega);omega⟩;rw[hm1];refine⟨a,ns,8,m1,rfl,hS2,hl,hm2,fun l0 xs0 ss0 H3 s3 n3 h3 g3 gt3 sl3=>?_⟩;tm_up;refine .inl ⟨l0,xs0,rfl,aR.of h3,fun c1 hc1=>?_⟩;rw[aeP];have s4:=ax.upd (o:=.lst (xs0.take sz)) hc1;have k4:=ag (H:=H3) (a:=c1) (o:=.lst (xs0.take sz));generalize upd H3 c1 (.lst (xs0.take sz))=H4 at s4 k4;tm_up;refine⟨c1,b,_,ss0.take sz,rfl,hM,k4,UU sz (g3.same s4),by rw[Zn'];omega,fun l2 Gq Gr H5 s5 _ h5 g5 le5 ajJ ajK=>?_⟩;have S5:=(s3.trans s4).trans s5;have gt5:∀ s∈Gr,s.1.kh=true->0<=s.2/\s.2<100:=fun s hs=>(gt3 s (List.mem_of_mem_take (ajJ s hs))).1;have sl5:Gr.length<=60:=by rw[Zn']at le5;omega
  refine hN _ _ ?_;clear hN N;have hS5:=S5.seq hS2;have hz5:=S5 _ _ hz2;clear hS hS1 hS2 hz2 s1 s2 hz1 n1 hm1 gt3 g3 h3 n3 k4 ajJ le5 ajK hc1 s3 s4 s5 S5;refine bY fun N hN=>?_;tm_up;refine⟨l2,b,Gq,Gr,rfl,hM,h5,we.of g5,by omega,fun f ys H6 s6 n6 h6 p6=>?_⟩;refine hN _ _ ?_;clear hN N;have hS6:=s6.seq hS5;have hz6:=s6 _ _ hz5;refine⟨fun σ H'=>∃(f:Addr)(ys:List V)(qs:List (Int×Int)),σ=[some (.ref a),some (.int (cP ns 0 % 9)),some (.int b),some (.ref z),some (.int (sz:Int)),some (.ref l2),some (.ref f),none,none,none,none,none,none]/\ax H6 H'/\H' f=some (.lst ys)/\uf H' ys qs/\Wsh qs/\adh qs/\qs.length<=60,?_,?_⟩
  ·tm_up;refine⟨a,ns,0,rfl,hS6,hl,?_⟩;tm_up;refine aJ (fun _=>?_) (fun _=>?_)
   ·tm_up;refine⟨a,ns,4,rfl,hS6,hl,?_⟩;tm_up;obtain⟨m2,hm3,hm4⟩:∃ m:Nat,cP ns 4 % 6=(m:Int)/\m<=60:=⟨(cP ns 4 % 6).toNat,by omega,by omega⟩;rw[hm3];refine⟨a,ns,8,m2,rfl,hS6,hl,hm4,fun f' ys' qs' H7 s7 n7 h7 p7 w7 wt7 ql7=>?_⟩;exact⟨f',ys',qs',rfl,s7,h7,p7,w7,wt7,by omega⟩
   ·exact⟨f,ys,_,rfl,ax.refl _,h6,p6,V3 (adg hM _),OA gt5,Zk' (yI _ _) sl5⟩
  rintro σ H7 ⟨f,ys,qs,rfl,s7,h7,p7,hW,hWT,ql⟩;have hS7:=s7.seq hS6;have hz7:=s7 _ _ hz6;clear hS5 hz5 hS6 hz6 s6 s7 h6 p6 n6 h5 g5 gt5 sl5;have yl:ys.length=qs.length:=bO p7;refine jf ?_;refine bY fun N hN=>?_;tm_up;refine⟨f,z,b,c,ys,qs,rfl,h7,p7,hW,by omega,hz7,fun l xs ts H8 s8 n8 h8 p8 tl8 rn8=>?_⟩;refine hN _ _ ?_;clear hN N;have hS8:=s8.seq hS7;have hz8:=s8 _ _ hz7;refine⟨fun σ H'=>∃(l:Addr)(xs:List V)(ts:List Nb),σ=[some (.ref a),some (.int (cP ns 0 % 9)),some (.int b),some (.ref z),some (.int (sz:Int)),some (.ref l2),some (.ref f),some (.ref l),none,none,none,none,none]/\ax H7 H'/\H' l=some (.lst xs)/\Paired (FH H') xs ts/\ts.length=qs.length+1/\∀ t∈ts,Wv t,?_,?_⟩
  ·tm_up;refine⟨a,ns,0,rfl,hS8,hl,?_⟩;tm_up;refine aJ (fun _=>?_) (fun _=>⟨l,xs,ts,rfl,s8,h8,bh (fun _ _ ⟨l,xs,e,_,h1,h2⟩=>⟨l,xs,e,h1,h2⟩) p8,tl8,rn8⟩);tm_up;refine .inl ⟨f,_,rfl,.inl (aR.of (s8 _ _ h7)),?_⟩;tm_up;refine⟨by omega,by omega,fun D bk hD=>?_⟩;refine Ds (lo:=0) (n:=((ys.length:Int)+1).toNat) (fun i zs σ H'=>∃(v:Option V)(ts:List Nb),σ=[v,some (.ref a),some (.int (cP ns 0 % 9)),some (.int b),some (.ref z),some (.int (sz:Int)),some (.ref l2),some (.ref f),some (.ref l),none,none,none,none,none]/\ax H8 H'/\H' D=some (.lst zs)/\Paired (Ih D H') zs ts/\ts.length=i/\∀ t∈ts,Wv t) ⟨none,[],rfl,ax.upd hD,ag,.nil,rfl,(fun _ h=>(nomatch h))⟩ ?_ ?_
   ·rintro i zs σ H9 hi ⟨v,ts9,rfl,s9,h9,p9,tl9,rn9⟩ N hN;tm_up;refine⟨rfl,fun L X2 Iv nL hL=>?_⟩;have h10:=Iv _ _ h9;have p10:=bh (fun _ _ q=>Ih.kn Iv.kn q) p9;refine⟨L,rfl,⟨_,aR.of hL⟩,fun D2 bk2 hD2=>?_⟩;have nDD:D2≠D:=fun e=>by rw[e,h10]at hD2;cases hD2
    refine dG (K:=K) (xs:=ST.map V.str) (fun j ws σ H'=>∃(v:Option V)(t:Nb),σ=[v,some (.int (0+(i:Int))),some (.ref a),some (.int (cP ns 0 % 9)),some (.int b),some (.ref z),some (.int (sz:Int)),some (.ref l2),some (.ref f),some (.ref l),none,none,none,none,none]/\ax X2 H'/\H' D2=some (.lst ws)/\Paired (nR H') ws t/\t.length=j/\∀ p∈t,p.1∈ST) ⟨none,[],rfl,ax.upd hD2,ag,.nil,rfl,(fun _ h=>(nomatch h))⟩ ?_ ?_ ?_
    ·rintro j ws σ H' ⟨v,t,rfl,s,_⟩;exact aR.of (s _ _ hL)
    ·rintro j ws x σ H11 hx ⟨v,t11,rfl,vG,h11,p11,agZ,ag0⟩ N2 hN2;obtain⟨zz,hzz,rfl⟩:∃ zz∈ST,x=V.str zz:=by
      rw[Zi']at hx;obtain⟨p,h1,h2⟩:=Option.map_eq_some_iff.mp hx;exact⟨p,V' h1,h2.symm⟩
     have j28:j<28:=by
      have:=(B'.mp hx).1;rw[K']at this;exact U' this (by lk)
     tm_up;refine⟨by show 2<=sizeLine;decide,fun tp htp=>?_⟩;have sT:=ax.upd (o:=.tup [.str zz,.int (-(0+(i:Int)))]) htp;have hT:=ag (H:=H11) (a:=tp) (o:=.tup [.str zz,.int (-(0+(i:Int)))]);refine⟨sT _ _ h11,aQ (by rw[bO p11];omega),hN2 _ _ _ ⟨_,t11++[(zz,-(0+(i:Int)))],rfl,bC (vG.trans sT) hD2,ag,bh (fun _ _ q=>nR.write (sT _ _ h11) q) (j0 (bh (fun _ _ q=>nR.kn sT.kn q) p11) ⟨tp,rfl,hT⟩),by rw[Zj',agZ];rfl,fun p hp=>?_⟩⟩;rcases Zq'.mp hp with h|h
     ·exact ag0 p h
     ·rw[Zo'.mp h];exact hzz
    ·rintro ws σ H11 ⟨v,t11,rfl,vG,h11,p11,agZ,ag0⟩;have ajM:=vG _ _ h10;refine⟨ajM,aQ (by rw[bO p9,tl9];omega),hN _ _ _ ⟨_,ts9++[t11],rfl,bC (s9.trans (Iv.trans vG)) hD,ag,bh (fun _ _ q=>Ih.write ajM q) (j0 (bh (fun _ _ q=>Ih.kn vG.kn q) p10) ⟨D2,ws,rfl,nDD,h11,p11⟩),by rw[Zj',tl9];rfl,fun t ht=>?_⟩⟩;rcases Zq'.mp ht with h|h
     ·exact rn9 t h
     ·rw[Zo'.mp h];exact⟨by rw[agZ,K'];decide +kernel,ag0⟩
   ·rintro zs σ H9 ⟨v,ts9,rfl,s9,h9,p9,tl9,rn9⟩;exact⟨D,zs,ts9,rfl,s8.trans s9,h9,bh (fun _ _ ⟨l,xs,e,_,h1,h2⟩=>⟨l,xs,e,h1,h2⟩) p9,by omega,rn9⟩
  rintro σ H9 ⟨l,xs,ts,rfl,s9,h9,p9,tl9,rn9⟩;clear s8 h8 p8 tl8 rn8 n8 hS8 hz8;have hS9:=s9.seq hS7;have hz9:=s9 _ _ hz7;have h79:=s9 _ _ h7;have p79:=fc s9 p7;clear h7 p7 hS7 hz7 s9;have xl:xs.length=ts.length:=bO p9;refine jf ?_;refine bY fun N hN=>?_;obtain⟨y0,hy0⟩:∃ y0,xs[qs.length]? = some y0:=⟨xs[qs.length]'(by omega),C' _⟩;obtain⟨t0,ht0,r0,zs0,rfl,hr0,hc0⟩:=dq p9 hy0;have rn0:=rn9 t0 (V' ht0)
  suffices hN':∀(D:Addr)(ms:List Int)(H':Hp),ax H9 H'->H' D=some (.lst (ms.map V.int))->ms.length<=28->N [some (.ref a),some (.int (cP ns 0 % 9)),some (.int b),some (.ref z),some (.int (sz:Int)),some (.ref l2),some (.ref f),some (.ref l),some (.ref D),none,none,none,none] H' by
   tm_up;refine .inl ⟨l,xs,-1,.ref r0,rfl,rfl,aR.of h9,Vb hy0 (by omega),?_⟩;refine⟨r0,rfl,⟨_,aR.of hr0⟩,fun D bk hD=>?_⟩;refine dG (K:=K) (xs:=zs0) (fun j ws σ H'=>∃(v1 v2:Option V)(ms:List Int),σ=[v1,v2,some (.ref a),some (.int (cP ns 0 % 9)),some (.int b),some (.ref z),some (.int (sz:Int)),some (.ref l2),some (.ref f),some (.ref l),none,none,none,none,none]/\ax H9 H'/\H' D=some (.lst ws)/\ws=ms.map V.int/\ms.length<=j) ⟨none,none,[],rfl,ax.upd hD,ag,rfl,A' _⟩ ?_ ?_ ?_
   ·rintro j ws σ H' ⟨v1,v2,ms,rfl,s,_⟩;exact aR.of (s _ _ hr0)
   ·rintro j ws x σ X2 hx ⟨v1,v2,ms,rfl,Iv,h10,rfl,ml⟩ N2 hN2;obtain⟨⟨sx,nx⟩,hq,tp,rfl,htp⟩:=dq hc0 hx;have hsx:=rn0.2 _ (V' hq);have j28:j<28:=U' (B'.mp hq).1 rn0.1;refine⟨tp,_,rfl,dz.of (Iv _ _ htp),rfl,_,_,rfl,_,_,rfl,rfl,?_⟩;tm_up;refine⟨hsx,_,rfl,aJ (fun _=>?_) (fun _=>?_)⟩
    ·refine⟨_,rfl,h10,aQ (by rw[K'];omega),hN2 _ _ _ ⟨_,_,ms++[nx],rfl,bC Iv hD,ag,by rw[map_append];rfl,by rw[Zj'];show ms.length+1<=j+1;omega⟩⟩
    ·exact hN2 _ _ _ ⟨_,_,ms,rfl,Iv,h10,rfl,by omega⟩
   ·rintro ws σ X2 ⟨v1,v2,ms,rfl,Iv,h10,rfl,ml⟩;exact hN' D ms X2 Iv h10 (Zk' ml (by rw[bO hc0];exact rn0.1))
  intro D ms X2 Iv h10 ml;refine hN _ _ ?_;clear hN N;have WI:=Iv.seq hS9;have ajN:=Iv _ _ hz9;have h7A:=Iv _ _ h79;have p7A:=fc Iv p79;have h9A:=Iv _ _ h9;have p9A:=bh (fun _ _ q=>FH.same Iv q) p9;clear Iv hS9 hz9 h79 p79 h9 p9 hr0 hc0;tm_up;refine⟨fun σ H'=>∃ o:Option Int,σ=[some (.ref a),some (.int (cP ns 0 % 9)),some (.int b),some (.ref z),some (.int (sz:Int)),some (.ref l2),some (.ref f),some (.ref l),some (.ref D),some (eV o),none,none,none]/\ax X2 H',?_,?_⟩
  ·refine⟨fun x H'=>(x=true->ms≠[]/\cP ns 1 % 7≠6)/\ax X2 H',?_,?_⟩
   ·tm_up;refine⟨big (by show 0<=1000;omega),fun e0 he0=>?_⟩;have vG:=ax.upd (o:=.lst []) he0;refine⟨D,e0,_,rfl,rfl,aR.of (vG _ _ h10),aR.of ag,?_⟩;refine⟨_,rfl,aJ (fun h=>?_) (fun _=>⟨fun z=>(nomatch z),vG⟩)⟩;tm_up;refine⟨a,ns,1,rfl,vG.seq WI,hl,?_⟩;tm_up;rw[intD];refine⟨fun z=>⟨fun e=>?_,fun e=>?_⟩,vG⟩
    ·rw[e]at h;cases h
    ·rw[W' e]at z;cases z
   rintro x H11 ⟨hx,vG⟩;refine aJ (fun h=>?_) (fun h=>?_)
   ·obtain⟨m1,m2⟩:=hx h;tm_up;refine Ei ⟨rfl,D,ms,rfl,aR.of (vG _ _ h10),m1,fun mn _ _=>?_⟩;tm_up;refine⟨by show 6<=sizeLine;decide,fun L hL=>?_⟩;have s12:=ax.upd (o:=.lst [V.int 0,V.int 0,V.int (-1),V.int 1,V.int 0,V.int (-7)]) hL;tm_up;refine⟨a,ns,1,rfl,(vG.trans s12).seq WI,hl,?_⟩;tm_up;obtain⟨e,he⟩:∃ e:Int,[V.int 0,V.int 0,V.int (-1),V.int 1,V.int 0,V.int (-7)][(cP ns 1 % 7).toNat]? = some (V.int e):=by
     have:(cP ns 1 % 7).toNat=0\/(cP ns 1 % 7).toNat=1\/(cP ns 1 % 7).toNat=2\/(cP ns 1 % 7).toNat=3\/(cP ns 1 % 7).toNat=4\/(cP ns 1 % 7).toNat=5:=by omega
     rcases this with h|h|h|h|h|h <;> rw[h] <;> exact⟨_,rfl⟩
    refine Ia (aR.of ag) (n:=(cP ns 1 % 7).toNat) (by omega) he ?_;tm_up;exact⟨some (mn+e),rfl,vG.trans s12⟩
   ·tm_up;refine⟨a,ns,1,rfl,vG.seq WI,hl,?_⟩;tm_up;refine aJ (fun _=>?_) (fun _=>⟨none,rfl,vG⟩);tm_up;refine⟨a,ns,1,rfl,vG.seq WI,hl,?_⟩;tm_up;exact⟨some _,rfl,vG⟩
  rintro σ H11 ⟨o,rfl,vG⟩;have adZ:=vG.seq WI;have ajO:=vG _ _ ajN;have h7B:=vG _ _ h7A;have p7B:=fc vG p7A;have h9B:=vG _ _ h9A;have p9B:=bh (fun _ _ q=>FH.same vG q) p9A;clear vG WI ajN h7A p7A h9A p9A h10;refine jf ?_;refine bY fun N hN=>?_;tm_up;refine⟨a,ns,5,rfl,adZ,hl,?_⟩;tm_up;refine⟨a,ns,6,rfl,adZ,hl,?_⟩;tm_up;refine⟨l,_,_,_,xs,ts,28,rfl,h9B,p9B,by omega,by decide,fun t ht=>(rn9 t ht).1,fun l3 xs3 Ti H12 s12 n12 h12 p12 apI amY=>?_⟩;refine hN _ _ ?_;clear hN N;have ajP:=s12.seq adZ;have ajQ:=s12 _ _ ajO;have h7C:=s12 _ _ h7B;have p7C:=fc s12 p7B;clear s12 adZ ajO h7B p7B h9B p9B;have xl3:xs3.length=Ti.length:=bO p12;refine bY fun N hN=>?_
  suffices hN':∀(D2:Addr)(ws:List V)(H':Hp),ax H12 H'->H' D2=some (.lst ws)->Paired (FH H') ws Ti->N [some (.ref a),some (.int (cP ns 0 % 9)),some (.int b),some (.ref z),some (.int (sz:Int)),some (.ref l2),some (.ref f),some (.ref l3),some (.ref D),some (eV o),some (.ref D2),none,none] H' by
   refine⟨_,rfl,l3,rfl,⟨_,aR.of h12⟩,fun D2 bk hD2=>?_⟩;refine dG (K:=K) (xs:=xs3) (fun j ws σ H'=>∃(v:Option V),σ=[v,some (.ref a),some (.int (cP ns 0 % 9)),some (.int b),some (.ref z),some (.int (sz:Int)),some (.ref l2),some (.ref f),some (.ref l3),some (.ref D),some (eV o),none,none,none]/\ax H12 H'/\H' D2=some (.lst ws)/\Paired (Ih D2 H') ws (Ti.take j)/\j<=Ti.length) ⟨none,rfl,ax.upd hD2,ag,.nil,X' _⟩ ?_ ?_ ?_
   ·rintro j ws σ H' ⟨v,rfl,s,_⟩;exact aR.of (s _ _ h12)
   ·rintro j ws x σ H13 hx ⟨v,rfl,WJ,h13,p13,jl⟩ N2 hN2;obtain⟨t0,ht,r0,zs,rfl,hr0,hc0⟩:=dq p12 hx;have jl2:j<Ti.length:=(B'.mp ht).1;tm_up;refine Ei ⟨r0,zs,rfl,.inl (aR.of (WJ _ _ hr0)),fun r hr=>?_⟩;have WK:=ax.upd (o:=.lst zs) hr;have h14:=ag (H:=H13) (a:=r) (o:=.lst zs);generalize upd H13 r (.lst zs)=H14 at WK h14;have ajR:=WK _ _ h13;have nrD:r≠D2:=fun e=>by rw[e,h13]at hr;cases hr
    refine⟨ajR,aQ (by rw[bO p13,Zn'];omega),hN2 _ _ _ ⟨_,rfl,bC (WJ.trans WK) hD2,ag,?_,jl2⟩⟩;rw[take_succ,ht];exact bh (fun _ _ q=>Ih.write ajR q) (j0 (bh (fun _ _ q=>Ih.kn WK.kn q) p13) ⟨r,zs,rfl,nrD,h14,bh (fun _ _ q=>nR.kn (WJ.trans WK).kn q) hc0⟩)
   ·rintro ws σ H13 ⟨v,rfl,WJ,h13,p13,jl⟩;rw[xl3,take_length]at p13;exact hN' D2 ws H13 WJ h13 (bh (fun _ _ ⟨l,xs,e,_,h1,h2⟩=>⟨l,xs,e,h1,h2⟩) p13)
  intro D2 ws H13 WJ h13 p13;refine hN _ _ ?_;clear hN N;have amZ:=WJ.seq ajP;have ag2:=WJ _ _ ajQ;have h7D:=WJ _ _ h7C;have p7D:=fc WJ p7C;have ajS:=WJ _ _ h12;have ajT:=bh (fun _ _ q=>FH.same WJ q) p12;clear WJ ajP ajQ h7C p7C h12 p12;refine bY fun N hN=>?_;tm_up;refine Ei ⟨f,ys,rfl,.inl (aR.of h7D),fun le hle=>?_⟩;have WK:=ax.upd (o:=.lst ys) hle;have h14:=ag (H:=H13) (a:=le) (o:=.lst ys);refine hN _ _ ?_;clear hN N;generalize upd H13 le (.lst ys)=H14 at WK h14;have hd:V4 c b o qs Ti=NX c b o qs Ti:=ajG (by unfold bgS Iz;rcases hb with rfl|rfl <;> decide) (fun q hq=>by have:=hWT q hq;omega);have tls:∀ t∈Ti,t.length<=900:=fun t ht=>by have:=amY t ht;omega
  refine bY fun N hN=>?_;tm_up;refine⟨le,z,D2,b,c,o,ys,ws,qs,Ti,rfl,h14,fc WK p7D,hW,by omega,WK _ _ ag2,WK _ _ h13,bh (fun _ _ q=>FH.same WK q) p13,by omega,tls,fun H15 s15=>?_⟩;refine hN _ _ ?_;clear hN N;have S15:=WK.trans s15;have ajU:=S15 _ _ ag2;have h7E:=S15 _ _ h7D;have p7E:=fc S15 p7D;have ajV:=S15 _ _ ajS;have ajW:=bh (fun _ _ q=>FH.same S15 q) ajT;have ajX:=S15 _ _ h13;have ajY:=bh (fun _ _ q=>FH.same S15 q) p13;have ajZ:=s15 _ _ h14;clear WK s15 S15 ag2 h7D p7D ajS ajT h13 p13 h14 amZ;refine dS false ?_ (dA ?_)
  ·tm_up;refine⟨ajI (aR.of ajX) (aR.of ajV) ajY ajW,?_⟩;refine⟨_,rfl,dA ?_⟩;tm_up;refine⟨agX (aR.of ajZ) (aR.of h7E) p7E p7E,?_⟩;refine⟨_,rfl,dA ?_⟩;tm_up;exact⟨_,_,_,_,rfl,vJ.bl _,rfl,_,rfl,rfl,rfl⟩
  refine jf ?_;refine⟨fun x H'=>x=false/\ax H15 H',?_,?_⟩
  ·tm_up;refine aJ (fun h=>?_) (fun _=>⟨rfl,ax.refl _⟩);have hb3:b=3:=by
    have:=J' h
    injection this
   subst hb3;tm_up;refine⟨le,z,D2,3,c,o,ys,ws,qs,Ti,rfl,ajZ,p7E,hW,by omega,ajU,ajX,ajY,by omega,tls,fun H16 s16=>?_⟩;tm_up;rw[show(!decide (V.bl (V4 c 3 o qs Ti)=V.bl (V4 c 3 o qs Ti)))=false from by rw[W' rfl];rfl];exact⟨rfl,s16⟩
  rintro _ H16 ⟨rfl,s16⟩;refine dA ?_;tm_up;refine⟨f,z,l3,b,c,o,ys,xs3,qs,Ti,rfl,s16 _ _ h7E,fc s16 p7E,hW,by omega,s16 _ _ ajU,s16 _ _ ajV,bh (fun _ _ q=>FH.same s16 q) ajW,by omega,tls,fun H17 s17=>?_⟩;tm_up;rw[hd,show decide (V.bl (NX c b o qs Ti)=V.bl (NX c b o qs Ti))=true from W' rfl];exact q _
theorem abB {us:List Value}(h:us.length=0):us=[]:=match us,h with|[],_=>rfl
theorem afo {us:List Value}(h:us.length=1):∃ a0,us=[a0]:=match us,h with|[a0],_=>⟨a0,rfl⟩
theorem oJ {p:List Value->Prop}(h:∀ a0,p [a0])(us:List Value)(e:us.length=1):p us:=by obtain⟨_,rfl⟩:=afo e;exact h _
theorem aj0 {us:List Value}(h:(us++[]).length=1):∃ a0,us=[a0]:=afo (by rw[append_nil]at h;exact h)
theorem aj1 {us:List Value}(h:us.length=2):∃ a0 a1,us=[a0,a1]:=match us,h with|[a0,a1],_=>⟨a0,a1,rfl⟩
theorem oK {p:List Value->Prop}(h:∀ a0 a1,p [a0,a1])(us:List Value)(e:us.length=2):p us:=by obtain⟨_,_,rfl⟩:=aj1 e;exact h _ _
theorem aj2 {us:List Value}(h:us.length=3):∃ a0 a1 a2,us=[a0,a1,a2]:=match us,h with|[a0,a1,a2],_=>⟨a0,a1,a2,rfl⟩
theorem kc {p:List Value->Prop}(h:∀ a0 a1 a2,p [a0,a1,a2])(us:List Value)(e:us.length=3):p us:=by obtain⟨_,_,_,rfl⟩:=aj2 e;exact h _ _ _
theorem afp {us:List Value}(h:us.length=4):∃ a0 a1 a2 a3,us=[a0,a1,a2,a3]:=match us,h with|[a0,a1,a2,a3],_=>⟨a0,a1,a2,a3,rfl⟩
theorem Vd {p:List Value->Prop}(h:∀ a0 a1 a2 a3,p [a0,a1,a2,a3])(us:List Value)(e:us.length=4):p us:=by obtain⟨_,_,_,_,rfl⟩:=afp e;exact h _ _ _ _
theorem afq {us:List Value}(h:us.length=5):∃ a0 a1 a2 a3 a4,us=[a0,a1,a2,a3,a4]:=match us,h with|[a0,a1,a2,a3,a4],_=>⟨a0,a1,a2,a3,a4,rfl⟩
theorem aj3 {p:List Value->Prop}(h:∀ a0 a1 a2 a3 a4,p [a0,a1,a2,a3,a4])(us:List Value)(e:us.length=5):p us:=by obtain⟨_,_,_,_,_,rfl⟩:=afq e;exact h _ _ _ _ _
theorem aj4 {us:List Value}(h:(us++[]).length=5):∃ a0 a1 a2 a3 a4,us=[a0,a1,a2,a3,a4]:=afq (by rw[append_nil]at h;exact h)
set_option maxHeartbeats 0 in
theorem all_mk {l:OpenLaw}{w:World}{K:Frag}{h:Heap}{mg:Str->Option Value}{fa jv gQ lC jw pI lD gR gS lE dW fk jx gT du gU gW lF lG uv cQ lH dv iJ dX pL jy bu b5 dZ c7 fo d8 c8 uw pO c9 d9 bN cR bx dc pQ wq fq jz de gX fu lN jA fz fA lO DZ dw cS cT cq ef bK cU cV c5 cg oM oN oO oP oQ oR oS oT oU oV c6 rR rS rT rV cW cM cN cO ei dO dP:Addr}(X:K.In h)(G:h.Ns mainGlobals mg)(hfa:mg "law"=some (.ref fa)){Tj Tn MO MP WL WM To Tp abC abD WN WO MQ MR MS MT WQ WR GG GH Ko Kp Tq Tr MU MV Ex Ey MW MX MY MZ WS WT WU WV ad1 ad2 zg zh WW WX Ez EA Bp GI GJ abE abF Ts Tt oW oX uJ uK GK GL Bq Br Kq Kr GN GO Bs Bt ad3 ad4 abG abH Bu Bv GP GQ rW rX zi zj oY oZ Bw Bx abI abJ WY Ks Kt Tu Tv By Bz M0 M3 Ku Kv WZ W0 Tw Tx Kw Kx Ky Kz W2 W3 ag4 ag5 EB zk zo wJ GR wK zp zq wL wM wN wO wQ wR wU wV wW wX BA BB BC BD zr uL uM uN GU BE BF:Option Addr}{Tz M4 W4 TB abK W5 M5 M6 W6 GV KA TC M7 EC M8 M9 W7 W8 ad5 zt W9 ED BG GW abL TF o3 uO GX BH KC GY BI ad6 abM BJ GZ rY zu o4 BK abN Xa KG TJ BL Na KH Xb TK KJ KL Xc ag6 EF zv zw wY G0 wZ zx zy w4 w5 w6 xa xb xc xf xg xh xi BM BN BO BP zA uP uQ uR G5 BQ BR:Array (Option Value)}{TL TM TN TQ EG TR Nc Nd Nf Ng AH Nh Xd Xe Xf Xg IA Xh TU TV TX TY EH TZ abO abP abQ abR Ni abS Xi Xj Xk Xl IB Xm Nj Nk Nl Nm AI Nn Np Nq Nr Nt AJ Nu Xn Xo Xp Xq IC Xr G6 G7 G8 G9 tV Hc KN KO KQ KR xj KS T1 T2 T3 T4 EI T5 Nv Nw Nx Ny AK Nz EJ EK EL EM rZ EN NA NB NC ND AL NF NG NH NI NJ AM NK Xs Xu Xv Xw ID Xx Xy Xz XA XB IE XC ad7 ad8 ad9 aea Ve aeb zB zC zD zE o5 zF XD XE XF XG IF XH EO ER ES ET sd EU BS He Hf Hg Hh tW Hi abT abU abV abW NL abX T6 T7 T8 T9 EV Ua o6 o7 o8 o9 ir pb uS uT uU uV mh uW Hj Hk Hl Hm tX Hn BU BV BW BX qG BY KU KW KY KZ xk K0 Ho Hq Hr Hs tY Ht BZ B2 B3 B4 qH B5 aec aed aee aef Vf aeg abY abZ ab0 ab1 NM ab2 B6 B7 B8 B9 qI Ca Hu Hv Hw Hy tZ Hz sf si sj sq kd sr zG zH zI zJ pd zK pe pf ph pj iu pk Cb Cc Cd Ce qJ Cf ab3 ab4 ab5 ab6 NN ab7 XI K1 K2 K3 K4 xn K5 Ub Uc Ud Ue EW Ug Cg Ci Cj Ck qK Cm NO NP NQ NR AN NS K6 K7 K8 K9 xo La XJ XM XN XO IG XQ Uh Ui Uj Uk EX Ul Lb Lc Ld Le xp Lf Lg Lh Li Lj xq Lk XR XT XU XW IH XX ag7 ag8 ag9 aha ab8 ahb:Value}{eK oj EY EZ E1 zL zM zN zO zP xr xt xu xw HA HB ng xy xA xB gL eW cZ wt zQ zR zS zT zU zV zW zX zY zZ Cn Co Cp Cq Cr Cs xC xD xE xF xG xH xI xJ xK xM xN xO xP xQ xR xS xT xU xV xW xX xY xZ x3 x4 x5 x6 x8 x9 ya Ct Cu Cv Cw Cy Cz CA CB CC CD CF CG uX uY uZ u0 u3 u4 CH CI CJ CK:Tok}{CL XY HC CM CN z6 Ll z7 CO CP HD CQ yc yd ye yf yg yh yi yj yk ym HE CS CT CU CV CW yn yo yp Lm E2 E3:Nat}(z8:nsIn K mainGlobals "_law_begin"=some (some (.ref jv)))(z9:K.lookup jv=some ⟨TL,Tj,.func (fnOf "_law_begin" "_law_begin" (ao kX) (ak kX) (ae kX) .none TM TN TQ Tn EG TR),Tz⟩)(Aa:codeIn K EG "_law_begin"=true)(Ab:keepIn K (.ref jv)=true)(u5:nsIn K mainGlobals "_law_prices"=some (some (.ref gQ)))(u6:K.lookup gQ=some ⟨Nc,MO,.func (fnOf "_law_prices" "_law_prices" (ao jn) (ak jn) (ae jn) .none Nd Nf Ng MP AH Nh),M4⟩)(u7:codeIn K AH "_law_prices"=true)(u9:keepIn K (.ref gQ)=true)(E4:nsIn K mainGlobals "_law_base"=some (some (.ref lC)))(E5:K.lookup lC=some ⟨Xd,WL,.func (fnOf "_law_base" "_law_base" (ao nU) (ak nU) (ae nU) .none Xe Xf Xg WM IA Xh),W4⟩)(E6:codeIn K IA "_law_base"=true)(E7:keepIn K (.ref lC)=true)(Ac:nsIn K mainGlobals "_law_three"=some (some (.ref jw)))(Ad:K.lookup jw=some ⟨TU,To,.func (fnOf "_law_three" "_law_three" (ao kY) (ak kY) (ae kY) .none TV TX TY Tp EH TZ),TB⟩)(Ae:codeIn K EH "_law_three"=true)(Af:keepIn K (.ref jw)=true)(Ln:nsIn K mainGlobals "_law_run"=some (some (.ref pI)))(Lo:K.lookup pI=some ⟨abO,abC,.func (fnOf "_law_run" "_law_run" (ao tE) (ak tE) (ae tE) .none abP abQ abR abD Ni abS),abK⟩)(Lp:codeIn K Ni "_law_run"=true)(Lq:keepIn K (.ref pI)=true)(E8:nsIn K mainGlobals "_law_read"=some (some (.ref lD)))(E9:K.lookup lD=some ⟨Xi,WN,.func (fnOf "_law_read" "_law_read" (ao nV) (ak nV) (ae nV) .none Xj Xk Xl WO IB Xm),W5⟩)(Fb:codeIn K IB "_law_read"=true)(Fc:keepIn K (.ref lD)=true)(vc:nsIn K mainGlobals "_law_firmed"=some (some (.ref gR)))(vd:K.lookup gR=some ⟨Nj,MQ,.func (fnOf "_law_firmed" "_law_firmed" (ao jo) (ak jo) (ae jo) .none Nk Nl Nm MR AI Nn),M5⟩)(ve:codeIn K AI "_law_firmed"=true)(vf:keepIn K (.ref gR)=true)(vg:nsIn K mainGlobals "_law_wishes"=some (some (.ref gS)))(vh:K.lookup gS=some ⟨Np,MS,.func (fnOf "_law_wishes" "_law_wishes" (ao jq) (ak jq) (ae jq) .none Nq Nr Nt MT AJ Nu),M6⟩)(vi:codeIn K AJ "_law_wishes"=true)(vj:keepIn K (.ref gS)=true)(Fd:nsIn K mainGlobals "_law_shut"=some (some (.ref lE)))(Fe:K.lookup lE=some ⟨Xn,WQ,.func (fnOf "_law_shut" "_law_shut" (ao nW) (ak nW) (ae nW) .none Xo Xp Xq WR IC Xr),W6⟩)(Ff:codeIn K IC "_law_shut"=true)(Fg:keepIn K (.ref lE)=true)(qc:nsIn K mainGlobals "_law_step_two"=some (some (.ref dW)))(qd:K.lookup dW=some ⟨G6,GG,.func (fnOf "_law_step_two" "_law_step_two" (ao fI) (ak fI) (ae fI) .none G7 G8 G9 GH tV Hc),GV⟩)(qe:codeIn K tV "_law_step_two"=true)(qf:keepIn K (.ref dW)=true)(su:nsIn K mainGlobals "_law_step_by"=some (some (.ref fk)))(sv:K.lookup fk=some ⟨KN,Ko,.func (fnOf "_law_step_by" "_law_step_by" (ao hU) (ak hU) (ae hU) .none KO KQ KR Kp xj KS),KA⟩)(sy:codeIn K xj "_law_step_by"=true)(sA:keepIn K (.ref fk)=true)(Ag:nsIn K mainGlobals "_law_moves"=some (some (.ref jx)))(Ah:K.lookup jx=some ⟨T1,Tq,.func (fnOf "_law_moves" "_law_moves" (ao kZ) (ak kZ) (ae kZ) .none T2 T3 T4 Tr EI T5),TC⟩)(Ai:codeIn K EI "_law_moves"=true)(Aj:keepIn K (.ref jx)=true)(vk:nsIn K mainGlobals "_law_spread"=some (some (.ref gT)))(vm:K.lookup gT=some ⟨Nv,MU,.func (fnOf "_law_spread" "_law_spread" (ao jr) (ak jr) (ae jr) .none Nw Nx Ny MV AK Nz),M7⟩)(vn:codeIn K AK "_law_spread"=true)(vo:keepIn K (.ref gT)=true)(nA:nsIn K mainGlobals "_law_own_paper"=some (some (.ref du)))(nB:K.lookup du=some ⟨EJ,Ex,.func (fnOf "_law_own_paper" "_law_own_paper" (ao eO) (ak eO) (ae eO) .none EK EL EM Ey rZ EN),EC⟩)(nC:codeIn K rZ "_law_own_paper"=true)(nE:keepIn K (.ref du)=true)(vp:nsIn K mainGlobals "_law_states"=some (some (.ref gU)))(vq:K.lookup gU=some ⟨NA,MW,.func (fnOf "_law_states" "_law_states" (ao js) (ak js) (ae js) .none NB NC ND MX AL NF),M8⟩)(vt:codeIn K AL "_law_states"=true)(vw:keepIn K (.ref gU)=true)(vy:nsIn K mainGlobals "_law_spoilt"=some (some (.ref gW)))(vz:K.lookup gW=some ⟨NG,MY,.func (fnOf "_law_spoilt" "_law_spoilt" (ao dr) (ak dr) (ae dr) .none NH NI NJ MZ AM NK),M9⟩)(vA:codeIn K AM "_law_spoilt"=true)(vB:keepIn K (.ref gW)=true)(Fh:nsIn K mainGlobals "states"=some (some (.ref lF)))(Fi:K.lookup lF=some ⟨Xs,WS,.func (fnOf "states" "states" (ao nX) (ak nX) (ae nX) .none Xu Xv Xw WT ID Xx),W7⟩)(Fj:codeIn K ID "states"=true)(Fl:keepIn K (.ref lF)=true)(Fm:nsIn K mainGlobals "closes"=some (some (.ref lG)))(Fn:K.lookup lG=some ⟨Xy,WU,.func (fnOf "closes" "closes" (ao nY) (ak nY) (ae nY) .none Xz XA XB WV IE XC),W8⟩)(Fo:codeIn K IE "closes"=true)(Fp:keepIn K (.ref lG)=true)(Um:nsIn K mainGlobals "ends"=some (some (.ref uv)))(Uo:K.lookup uv=some ⟨ad7,ad1,.func (fnOf "ends" "ends" (ao yK) (ak yK) (ae yK) .none ad8 ad9 aea ad2 Ve aeb),ad5⟩)(Up:codeIn K Ve "ends"=true)(Uq:keepIn K (.ref uv)=true)(kr:nsIn K mainGlobals "reaches_bound"=some (some (.ref cQ)))(ky:K.lookup cQ=some ⟨zB,zg,.func (fnOf "reaches_bound" "reaches_bound" (ao dg) (ak dg) (ae dg) .none zC zD zE zh o5 zF),zt⟩)(kz:codeIn K o5 "reaches_bound"=true)(kA:keepIn K (.ref cQ)=true)(Fq:nsIn K mainGlobals "bounds"=some (some (.ref lH)))(Fs:K.lookup lH=some ⟨XD,WW,.func (fnOf "bounds" "bounds" (ao nZ) (ak nZ) (ae nZ) .none XE XF XG WX IF XH),W9⟩)(Ft:codeIn K IF "bounds"=true)(Fu:keepIn K (.ref lH)=true)(nF:nsIn K mainGlobals "begin_state"=some (some (.ref dv)))(nG:K.lookup dv=some ⟨EO,Ez,.func (fnOf "begin_state" "begin_state" (ao eP) (ak eP) (ae eP) (.ref iJ) ER ES ET EA sd EU),ED⟩)(nH:codeIn K sd "begin_state"=true)(nI:keepIn K (.ref dv)=true)(iR:K.lookup iJ=some ⟨BS,Bp,.seq #[.int 3 eK] CL,BG⟩)(qg:nsIn K mainGlobals "sign_price"=some (some (.ref dX)))(qh:K.lookup dX=some ⟨He,GI,.func (fnOf "sign_price" "sign_price" (ao fJ) (ak fJ) (ae fJ) .none Hf Hg Hh GJ tW Hi),GW⟩)(qi:codeIn K tW "sign_price"=true)(qj:keepIn K (.ref dX)=true)(Lr:nsIn K mainGlobals "small"=some (some (.ref pL)))(Ls:K.lookup pL=some ⟨abT,abE,.func (fnOf "small" "small" (ao tG) (ak tG) (ae tG) .none abU abV abW abF NL abX),abL⟩)(Lu:codeIn K NL "small"=true)(wH:keepIn K (.ref pL)=true)(Ak:nsIn K mainGlobals "parting"=some (some (.ref jy)))(Al:K.lookup jy=some ⟨T6,Ts,.func (fnOf "parting" "parting" (ao la) (ak la) (ae la) .none T7 T8 T9 Tt EV Ua),TF⟩)(Am:codeIn K EV "parting"=true)(An:keepIn K (.ref jy)=true)(eA:nsIn K mainGlobals "closes_by_right_note"=some (some (.ref bu)))(eB:K.lookup bu=some ⟨o6,oW,.func (fnOf "closes_by_right_note" "closes_by_right_note" (ao bI) (ak bI) (ae bI) .none o7 o8 o9 oX ir pb),o3⟩)(eC:codeIn K ir "closes_by_right_note"=true)(eD:keepIn K (.ref bu)=true)(iS:nsIn K mainGlobals "closes_by_great"=some (some (.ref b5)))(iT:K.lookup b5=some ⟨uS,uJ,.func (fnOf "closes_by_great" "closes_by_great" (ao cL) (ak cL) (ae cL) .none uT uU uV uK mh uW),uO⟩)(iU:codeIn K mh "closes_by_great"=true)(iV:keepIn K (.ref b5)=true)(qk:nsIn K mainGlobals "great_step"=some (some (.ref dZ)))(qm:K.lookup dZ=some ⟨Hj,GK,.func (fnOf "great_step" "great_step" (ao fK) (ak fK) (ae fK) .none Hk Hl Hm GL tX Hn),GX⟩)(qo:codeIn K tX "great_step"=true)(qp:keepIn K (.ref dZ)=true)(mi:nsIn K mainGlobals "twofold_step"=some (some (.ref c7)))(mj:K.lookup c7=some ⟨BU,Bq,.func (fnOf "twofold_step" "twofold_step" (ao dH) (ak dH) (ae dH) .none BV BW BX Br qG BY),BH⟩)(mq:codeIn K qG "twofold_step"=true)(mr:keepIn K (.ref c7)=true)(sC:nsIn K mainGlobals "told_last"=some (some (.ref fo)))(sD:K.lookup fo=some ⟨KU,Kq,.func (fnOf "told_last" "told_last" (ao hV) (ak hV) (ae hV) .none KW KY KZ Kr xk K0),KC⟩)(sE:codeIn K xk "told_last"=true)(sG:keepIn K (.ref fo)=true)(qr:nsIn K mainGlobals "small_step"=some (some (.ref d8)))(qt:K.lookup d8=some ⟨Ho,GN,.func (fnOf "small_step" "small_step" (ao fL) (ak fL) (ae fL) .none Hq Hr Hs GO tY Ht),GY⟩)(qu:codeIn K tY "small_step"=true)(qv:keepIn K (.ref d8)=true)(mw:nsIn K mainGlobals "parting_step"=some (some (.ref c8)))(mx:K.lookup c8=some ⟨BZ,Bs,.func (fnOf "parting_step" "parting_step" (ao dJ) (ak dJ) (ae dJ) .none B2 B3 B4 Bt qH B5),BI⟩)(my:codeIn K qH "parting_step"=true)(mz:keepIn K (.ref c8)=true)(Ur:nsIn K mainGlobals "step"=some (some (.ref uw)))(Us:K.lookup uw=some ⟨aec,ad3,.func (fnOf "step" "step" (ao yL) (ak yL) (ae yL) .none aed aee aef ad4 Vf aeg),ad6⟩)(Ut:codeIn K Vf "step"=true)(Uu:keepIn K (.ref uw)=true)(Lv:nsIn K mainGlobals "moves"=some (some (.ref pO)))(Lw:K.lookup pO=some ⟨abY,abG,.func (fnOf "moves" "moves" (ao tH) (ak tH) (ae tH) .none abZ ab0 ab1 abH NM ab2),abM⟩)(Lx:codeIn K NM "moves"=true)(Ly:keepIn K (.ref pO)=true)(mB:nsIn K mainGlobals "wished_signs"=some (some (.ref c9)))(mC:K.lookup c9=some ⟨B6,Bu,.func (fnOf "wished_signs" "wished_signs" (ao dM) (ak dM) (ae dM) .none B7 B8 B9 Bv qI Ca),BJ⟩)(mD:codeIn K qI "wished_signs"=true)(mE:keepIn K (.ref c9)=true)(qw:nsIn K mainGlobals "wish_moves"=some (some (.ref d9)))(qx:K.lookup d9=some ⟨Hu,GP,.func (fnOf "wish_moves" "wish_moves" (ao fM) (ak fM) (ae fM) .none Hv Hw Hy GQ tZ Hz),GZ⟩)(qy:codeIn K tZ "wish_moves"=true)(qz:keepIn K (.ref d9)=true)(gx:nsIn K mainGlobals "bounds_wish_moves"=some (some (.ref bN)))(gy:K.lookup bN=some ⟨sf,rW,.func (fnOf "bounds_wish_moves" "bounds_wish_moves" (ao b9) (ak b9) (ae b9) .none si sj sq rX kd sr),rY⟩)(gz:codeIn K kd "bounds_wish_moves"=true)(gA:keepIn K (.ref bN)=true)(kB:nsIn K mainGlobals "parting_moves"=some (some (.ref cR)))(kC:K.lookup cR=some ⟨zG,zi,.func (fnOf "parting_moves" "parting_moves" (ao dh) (ak dh) (ae dh) .none zH zI zJ zj pd zK),zu⟩)(kD:codeIn K pd "parting_moves"=true)(kE:keepIn K (.ref cR)=true)(eE:nsIn K mainGlobals "bounds_parting_moves"=some (some (.ref bx)))(eF:K.lookup bx=some ⟨pe,oY,.func (fnOf "bounds_parting_moves" "bounds_parting_moves" (ao bJ) (ak bJ) (ae bJ) .none pf ph pj oZ iu pk),o4⟩)(eG:codeIn K iu "bounds_parting_moves"=true)(eI:keepIn K (.ref bx)=true)(mF:nsIn K mainGlobals "names_states"=some (some (.ref dc)))(mG:K.lookup dc=some ⟨Cb,Bw,.func (fnOf "names_states" "names_states" (ao dN) (ak dN) (ae dN) .none Cc Cd Ce Bx qJ Cf),BK⟩)(mH:codeIn K qJ "names_states"=true)(mI:keepIn K (.ref dc)=true)(Lz:nsIn K mainGlobals "holds"=some (some (.ref pQ)))(LA:K.lookup pQ=some ⟨ab3,abI,.func (fnOf "holds" "holds" (ao tI) (ak tI) (ae tI) (.ref wq) ab4 ab5 ab6 abJ NN ab7),abN⟩)(LB:codeIn K NN "holds"=true)(LC:keepIn K (.ref pQ)=true)(yq:K.lookup wq=some ⟨XI,WY,.seq #[.int 3 oj] XY,Xa⟩)(sH:nsIn K mainGlobals "_law_cell_at"=some (some (.ref fq)))(sI:K.lookup fq=some ⟨K1,Ks,.func (fnOf "_law_cell_at" "_law_cell_at" (ao hX) (ak hX) (ae hX) .none K2 K3 K4 Kt xn K5),KG⟩)(sJ:codeIn K xn "_law_cell_at"=true)(sM:keepIn K (.ref fq)=true)(Ao:nsIn K mainGlobals "_law_mixed"=some (some (.ref jz)))(Ap:K.lookup jz=some ⟨Ub,Tu,.func (fnOf "_law_mixed" "_law_mixed" (ao lg) (ak lg) (ae lg) .none Uc Ud Ue Tv EW Ug),TJ⟩)(Aq:codeIn K EW "_law_mixed"=true)(Ar:keepIn K (.ref jz)=true)(mJ:nsIn K mainGlobals "_law_any_wishes"=some (some (.ref de)))(mK:K.lookup de=some ⟨Cg,By,.func (fnOf "_law_any_wishes" "_law_any_wishes" (ao bP) (ak bP) (ae bP) .none Ci Cj Ck Bz qK Cm),BL⟩)(mL:codeIn K qK "_law_any_wishes"=true)(mM:keepIn K (.ref de)=true)(vC:nsIn K mainGlobals "_law_tables"=some (some (.ref gX)))(vD:K.lookup gX=some ⟨NO,M0,.func (fnOf "_law_tables" "_law_tables" (ao jt) (ak jt) (ae jt) .none NP NQ NR M3 AN NS),Na⟩)(vE:codeIn K AN "_law_tables"=true)(vF:keepIn K (.ref gX)=true)(sN:nsIn K mainGlobals "_law_carried"=some (some (.ref fu)))(sO:K.lookup fu=some ⟨K6,Ku,.func (fnOf "_law_carried" "_law_carried" (ao hZ) (ak hZ) (ae hZ) .none K7 K8 K9 Kv xo La),KH⟩)(sP:codeIn K xo "_law_carried"=true)(sQ:keepIn K (.ref fu)=true)(Fv:nsIn K mainGlobals "_law_ends"=some (some (.ref lN)))(Fw:K.lookup lN=some ⟨XJ,WZ,.func (fnOf "_law_ends" "_law_ends" (ao oa) (ak oa) (ae oa) .none XM XN XO W0 IG XQ),Xb⟩)(Fx:codeIn K IG "_law_ends"=true)(Fy:keepIn K (.ref lN)=true)(As:nsIn K mainGlobals "_law_holds"=some (some (.ref jA)))(Au:K.lookup jA=some ⟨Uh,Tw,.func (fnOf "_law_holds" "_law_holds" (ao lh) (ak lh) (ae lh) .none Ui Uj Uk Tx EX Ul),TK⟩)(Av:codeIn K EX "_law_holds"=true)(Aw:keepIn K (.ref jA)=true)(sR:nsIn K mainGlobals "_law_sign_by"=some (some (.ref fz)))(sS:K.lookup fz=some ⟨Lb,Kw,.func (fnOf "_law_sign_by" "_law_sign_by" (ao ic) (ak ic) (ae ic) .none Lc Ld Le Kx xp Lf),KJ⟩)(sU:codeIn K xp "_law_sign_by"=true)(sV:keepIn K (.ref fz)=true)(sW:nsIn K mainGlobals "_law_numbers"=some (some (.ref fA)))(sX:K.lookup fA=some ⟨Lg,Ky,.func (fnOf "_law_numbers" "_law_numbers" (ao ie) (ak ie) (ae ie) .none Lh Li Lj Kz xq Lk),KL⟩)(sY:codeIn K xq "_law_numbers"=true)(sZ:keepIn K (.ref fA)=true)(Fz:nsIn K mainGlobals "_law_line"=some (some (.ref lO)))(FA:K.lookup lO=some ⟨XR,W2,.func (fnOf "_law_line" "_law_line" (ao oe) (ak oe) (ae oe) .none XT XU XW W3 IH XX),Xc⟩)(FC:codeIn K IH "_law_line"=true)(FD:keepIn K (.ref lO)=true)(Vg:nsIn K mainGlobals "law"=some (some (.ref DZ)))(ab9:K.lookup DZ=some ⟨ag7,ag4,.func (fnOf "law" "law" (ao Ik) (ak Ik) (ae Ik) .none ag8 ag9 aha ag5 ab8 ahb),ag6⟩)(aca:codeIn K ab8 "law"=true)(acb:keepIn K (.ref DZ)=true)(acd:nsIn K mainGlobals "all"=some none)(Uv:nsIn K mainGlobals "bool"=some none)(Uw:nsIn K mainGlobals "dict"=some none)(tf:nsIn K mainGlobals "enumerate"=some none)(ace:nsIn K mainGlobals "int"=some none)(qA:nsIn K mainGlobals "isinstance"=some none)(acf:nsIn K mainGlobals "len"=some none)(Ux:nsIn K mainGlobals "list"=some none)(acg:nsIn K mainGlobals "max"=some none)(ach:nsIn K mainGlobals "min"=some none)(LD:nsIn K mainGlobals "range"=some none)(aci:nsIn K mainGlobals "set"=some none)(FE:nsIn K mainGlobals "sorted"=some none)(acj:nsIn K mainGlobals "str"=some none)(LG:nsIn K mainGlobals "tuple"=some none)(ack:nsIn K mainGlobals "zip"=some none)(mN:nsIn K mainGlobals "SMALL_KINDS"=some (some (.ref dw)))(mO:K.lookup dw=some ⟨.type "tuple",EB,.seq #[.str (Str.ofString "s") EY,.str (Str.ofString "d") EZ,.str (Str.ofString "r") E1] HC,EF⟩)(jF:nsIn K mainGlobals "PARTING_KINDS"=some (some (.ref cS)))(jG:K.lookup cS=some ⟨.type "tuple",zk,.seq #[.str (Str.ofString ".") zL,.str (Str.ofString "3") zM,.str (Str.ofString "2") zN] CM,zv⟩)(jH:nsIn K mainGlobals "MEASURE_KINDS"=some (some (.ref cT)))(jI:K.lookup cT=some ⟨.type "tuple",zo,.seq #[.str (Str.ofString "3") zO,.str (Str.ofString "2") zP] CN,zw⟩)(iW:nsIn K mainGlobals "SOUNDING_KINDS"=some (some (.ref cq)))(iX:K.lookup cq=some ⟨.type "tuple",wJ,.seq #[.str (Str.ofString "G") xr,.str (Str.ofString "D") xt,.str (Str.ofString "s") xu,.str (Str.ofString "d") xw] z6,wY⟩)(nJ:nsIn K mainGlobals "DARK_KINDS"=some (some (.ref ef)))(nK:K.lookup ef=some ⟨.type "tuple",GR,.seq #[.str (Str.ofString "D") HA,.str (Str.ofString "d") HB] Ll,G0⟩)(qB:nsIn K mainGlobals "REST_TONE"=some (some (.int (-1) ng)))(iY:nsIn K mainGlobals "TWOFOLD_STATES"=some (some (.ref bK)))(iZ:K.lookup bK=some ⟨.type "tuple",wK,.seq #[.str (Str.ofString "2-") xy,.str (Str.ofString "2g") xA,.str (Str.ofString "2G") xB] z7,wZ⟩)(jJ:nsIn K mainGlobals "TWOFOLD_BEGIN"=some (some (.str (Str.ofString "2-") gL)))(gZ:nsIn K mainGlobals "THREEFOLD_BEGIN"=some (some (.str (Str.ofString "3n0-") eW)))(dR:nsIn K mainGlobals "SHORTENED_FROM_AHEAD"=some (some (.str (Str.ofString "3t0-") cZ)))(Ax:nsIn K mainGlobals "NO_RUN"=some (some (.str (Str.ofString "0-") wt)))(jK:nsIn K mainGlobals "RUNS_GOING_ON"=some (some (.ref cU)))(jL:K.lookup cU=some ⟨.type "tuple",zp,.seq #[.str (Str.ofString "0s") zQ,.str (Str.ofString "0o") zR,.str (Str.ofString "1s") zS,.str (Str.ofString "1o") zT,.str (Str.ofString "2s") zU,.str (Str.ofString "2S") zV,.str (Str.ofString "2o") zW] CO,zx⟩)(jM:nsIn K mainGlobals "LEFTS_OF_RUNS"=some (some (.ref cV)))(jN:K.lookup cV=some ⟨.type "tuple",zq,.seq #[.str (Str.ofString "n") zX,.str (Str.ofString "w") zY,.str (Str.ofString "h") zZ] CP,zy⟩)(mP:nsIn K mainGlobals "NEXT_COUNTS"=some (some (.ref c5)))(mQ:K.lookup c5=some ⟨.type "dict",none,.dict #[⟨PyData.keyHash w.params (Str.ofString "0"),.str (Str.ofString "0") Cq,.str (Str.ofString "1") Cn⟩,⟨PyData.keyHash w.params (Str.ofString "1"),.str (Str.ofString "1") Cr,.str (Str.ofString "2") Co⟩,⟨PyData.keyHash w.params (Str.ofString "2"),.str (Str.ofString "2") Cs,.str (Str.ofString "0") Cp⟩] HD,#[]⟩)(mR:(c5==sysModules)=false)(jO:nsIn K mainGlobals "TWOFOLD_STEPS"=some (some (.ref cg)))(jP:K.lookup cg=some ⟨.type "dict",none,.dict #[⟨Hd.th w.params (Str.ofString "s") 1,.ref oM,.str (Str.ofString "2-") xC⟩,⟨Hd.th w.params (Str.ofString "d") 1,.ref oN,.str (Str.ofString "2-") xD⟩,⟨Hd.th w.params (Str.ofString "r") 1,.ref oO,.str (Str.ofString "2-") xE⟩,⟨Hd.th w.params (Str.ofString "D") 2,.ref oP,.str (Str.ofString "2-") xF⟩,⟨Hd.th w.params (Str.ofString "R") 2,.ref oQ,.str (Str.ofString "2-") xG⟩,⟨Hd.th w.params (Str.ofString "G") 2,.ref oR,.str (Str.ofString "2g") xH⟩,⟨Hd.th w.params (Str.ofString "G") 3,.ref oS,.str (Str.ofString "2G") xI⟩,⟨Hd.th w.params (Str.ofString ".") 0,.ref oT,.str (Str.ofString "2-") xJ⟩,⟨Hd.th w.params (Str.ofString "2") 0,.ref oU,.str (Str.ofString "2-") xK⟩,⟨Hd.th w.params (Str.ofString "3") 0,.ref oV,.str (Str.ofString "3n0-") xM⟩] CQ,#[]⟩)(i0:K.lookup oM=some ⟨.type "tuple",wL,.seq #[.str (Str.ofString "s") xN,.int 1 xO] yc,w4⟩)(i3:K.lookup oN=some ⟨.type "tuple",wM,.seq #[.str (Str.ofString "d") xP,.int 1 xQ] yd,w5⟩)(i4:K.lookup oO=some ⟨.type "tuple",wN,.seq #[.str (Str.ofString "r") xR,.int 1 xS] ye,w6⟩)(i5:K.lookup oP=some ⟨.type "tuple",wO,.seq #[.str (Str.ofString "D") xT,.int 2 xU] yf,xa⟩)(i6:K.lookup oQ=some ⟨.type "tuple",wQ,.seq #[.str (Str.ofString "R") xV,.int 2 xW] yg,xb⟩)(i7:K.lookup oR=some ⟨.type "tuple",wR,.seq #[.str (Str.ofString "G") xX,.int 2 xY] yh,xc⟩)(i8:K.lookup oS=some ⟨.type "tuple",wU,.seq #[.str (Str.ofString "G") xZ,.int 3 x3] yi,xf⟩)(i9:K.lookup oT=some ⟨.type "tuple",wV,.seq #[.str (Str.ofString ".") x4,.int 0 x5] yj,xg⟩)(ja:K.lookup oU=some ⟨.type "tuple",wW,.seq #[.str (Str.ofString "2") x6,.int 0 x8] yk,xh⟩)(jb:K.lookup oV=some ⟨.type "tuple",wX,.seq #[.str (Str.ofString "3") x9,.int 0 ya] ym,xi⟩)(jQ:(cg==sysModules)=false)(mS:nsIn K mainGlobals "GREAT_STEPS"=some (some (.ref c6)))(mT:K.lookup c6=some ⟨.type "dict",none,.dict #[⟨Hd.th w.params (Str.ofString "G") 3,.ref rR,.str (Str.ofString "3w0-") Ct⟩,⟨Hd.th w.params (Str.ofString "G") 2,.ref rS,.str (Str.ofString "3h0-") Cu⟩,⟨Hd.th w.params (Str.ofString "D") 2,.ref rT,.str (Str.ofString "3n0-") Cv⟩,⟨Hd.th w.params (Str.ofString "R") 3,.ref rV,.str (Str.ofString "3n0-") Cw⟩] HE,#[]⟩)(kF:K.lookup rR=some ⟨.type "tuple",BA,.seq #[.str (Str.ofString "G") Cy,.int 3 Cz] CS,BM⟩)(kG:K.lookup rS=some ⟨.type "tuple",BB,.seq #[.str (Str.ofString "G") CA,.int 2 CB] CT,BN⟩)(kH:K.lookup rT=some ⟨.type "tuple",BC,.seq #[.str (Str.ofString "D") CC,.int 2 CD] CU,BO⟩)(kI:K.lookup rV=some ⟨.type "tuple",BD,.seq #[.str (Str.ofString "R") CF,.int 3 CG] CV,BP⟩)(mU:(c6==sysModules)=false)(jR:nsIn K mainGlobals "PARTING_SIGNS"=some (some (.ref cW)))(jS:K.lookup cW=some ⟨.type "tuple",zr,.seq #[.ref cM,.ref cN,.ref cO] CW,zA⟩)(g0:K.lookup cM=some ⟨.type "tuple",uL,.seq #[.str (Str.ofString ".") uX,.int 0 uY] yn,uP⟩)(g7:K.lookup cN=some ⟨.type "tuple",uM,.seq #[.str (Str.ofString "3") uZ,.int 0 u0] yo,uQ⟩)(g8:K.lookup cO=some ⟨.type "tuple",uN,.seq #[.str (Str.ofString "2") u3,.int 0 u4] yp,uR⟩)(nM:nsIn K mainGlobals "REST_SIGNS"=some (some (.ref ei)))(nN:K.lookup ei=some ⟨.type "tuple",GU,.seq #[.ref dO,.ref dP] Lm,G5⟩)(kJ:K.lookup dO=some ⟨.type "tuple",BE,.seq #[.str (Str.ofString "R") CH,.int 0 CI] E2,BQ⟩)(kK:K.lookup dP=some ⟨.type "tuple",BF,.seq #[.str (Str.ofString "r") CJ,.int 0 CK] E3,BR⟩) :
  ∃ fd:FuncData,(∀(s:Shared)(v:Value),BindsTo s fd ⟨[v],[]⟩ [("_law_script",v)])/\∀ base:Heap,K.In base->base.Ns mainGlobals mg->bV l.prog w K mg base iw 8 fa fd ["_law_script"] (DI K):=by
 have e:=hfa.symm.trans (mg_of X G Vg);cases e;have om:=aW (st:=kX) z9 Aa Ab;have yT:=om.binds (ps:=["_law_cell"]) fun _ _ _ _ _ _=>oJ fun _=>rfl;have lP:=aW (st:=jn) u6 u7 u9;have uy:=lP.binds (ps:=["_law_cell"]) fun _ _ _ _ _ _=>oJ fun _=>rfl;have rp:=aW (st:=nU) E5 E6 E7;have D0:=rp.binds (ps:=["_law_line_here","_law_begin_here"]) fun _ _ _ _ _ _=>oK fun _ _=>rfl;have oq:=aW (st:=kY) Ad Ae Af;have yU:=oq.binds (ps:=["_law_line_here","_law_begin_here"]) fun _ _ _ _ _ _=>oK fun _ _=>rfl;have wu:=aW (st:=tE) Lo Lp Lq;have JO:=wu.binds (ps:=["_law_line_here","_law_told","_law_low","_law_high"]) fun _ _ _ _ _ _=>Vd fun _ _ _ _=>rfl;have ot:=aW (st:=nV) E9 Fb Fc;have wx:=ot.binds (ps:=["_law_line_here","_law_begin_here"]) fun _ _ _ _ _ _=>oK fun _ _=>rfl;have lQ:=aW (st:=jo) vd ve vf;have uz:=lQ.binds (ps:=["_law_line_here","_law_begin_here"]) fun _ _ _ _ _ _=>oK fun _ _=>rfl;have lR:=aW (st:=jq) vh vi vj;have uA:=lR.binds (ps:=["_law_line_here","_law_begin_here"]) fun _ _ _ _ _ _=>oK fun _ _=>rfl;have rq:=aW (st:=nW) Fe Ff Fg;have D1:=rq.binds (ps:=["_law_state","_law_kind","_law_worth"]) fun _ _ _ _ _ _=>kc fun _ _ _=>rfl;have iL:=aW (st:=fI) qd qe qf;have pR:=iL.binds (ps:=["_law_state","_law_kind","_law_worth"]) fun _ _ _ _ _ _=>kc fun _ _ _=>rfl;have j5:=aW (st:=hU) sv sy sA;have rA:=j5.binds (ps:=["_law_state","_law_kind","_law_worth"]) fun _ _ _ _ _ _=>kc fun _ _ _=>rfl;have ip:=aW (st:=kZ) Ah Ai Aj;have lq:=ip.binds (ps:=["_law_state","_law_wish","_law_prices_here"]) fun _ _ _ _ _ _=>kc fun _ _ _=>rfl;have jB:=aW (st:=jr) vm vn vo;have pT:=jB.binds (ps:=["_law_table","_law_prices_here"]) fun _ _ _ _ _ _=>oK fun _ _=>rfl;have gJ:=aW (st:=eO) nB nC nE;have nv:=gJ.binds (ps:=["_law_wishes_here","_law_prices_here","_law_begin_here"]) fun _ _ _ _ _ _=>kc fun _ _ _=>rfl;have gY:=aW (st:=js) vq vt vw;have lT:=gY.binds (ps:=[]) fun _ _ _ _ _ _ us hl=>by obtain rfl:=abB hl;rfl
 have lU:=aW (st:=dr) vz vA vB;have uB:=lU.binds (ps:=["_law_paper","_law_way","_law_at","_law_number"]) fun _ _ _ _ _ _=>Vd fun _ _ _ _=>rfl;have rC:=aW (st:=nX) Fi Fj Fl;have D4:=rC.binds (ps:=[]) fun _ _ _ _ _ _ us hl=>by obtain rfl:=abB hl;rfl
 have lV:=aW (st:=nY) Fn Fo Fp;have rD:=lV.binds (ps:=["state"]) fun _ _ _ _ _ _=>oJ fun _=>rfl;have D5:=aW (st:=yK) Uo Up Uq;have SI:=D5.binds (ps:=["state"]) fun _ _ _ _ _ _=>oJ fun _=>rfl;have eL:=aW (st:=dg) ky kz kA;have ko:=eL.binds (ps:=["numbers","bound"]) fun _ _ _ _ _ _=>oK fun _ _=>rfl;have lW:=aW (st:=nZ) Fs Ft Fu;have rE:=lW.binds (ps:=["numbers","state","most"]) fun _ _ _ _ _ _=>kc fun _ _ _=>rfl;have eQ:=UN (st:=eP) nG nH nI;have ny:Binds K _ ["begin"] []:=eQ.binds (ds:=[]) iR rfl fun _ _ _ _ _ _ us hl=>by obtain⟨_,rfl⟩:=aj0 hl;exact⟨_,rfl,rfl⟩
 have rF:Binds K _ ["begin"] [.int 3 eK]:=eQ.binds iR rfl fun _ _ _ _ _ _ us hl=>by have hl:us.length=0:=(by simpa using hl);obtain rfl:=abB hl;exact⟨_,rfl,rfl⟩
 have iM:=aW (st:=fJ) qh qi qj;have pU:=iM.binds (ps:=["sign","prices"]) fun _ _ _ _ _ _=>oK fun _ _=>rfl;have wz:=aW (st:=tG) Ls Lu wH;have JQ:=wz.binds (ps:=["sign"]) fun _ _ _ _ _ _=>oJ fun _=>rfl;have ou:=aW (st:=la) Al Am An;have yY:=ou.binds (ps:=["sign"]) fun _ _ _ _ _ _=>oJ fun _=>rfl;have b6:=aW (st:=bI) eB eC eD;have ej:=b6.binds (ps:=["state"]) fun _ _ _ _ _ _=>oJ fun _=>rfl;have dn:=aW (st:=cL) iT iU iV;have iN:=dn.binds (ps:=["state"]) fun _ _ _ _ _ _=>oJ fun _=>rfl;have iO:=aW (st:=fK) qm qo qp;have pV:=iO.binds (ps:=["state","kind","worth"]) fun _ _ _ _ _ _=>kc fun _ _ _=>rfl;have fB:=aW (st:=dH) mj mq mr;have lX:=fB.binds (ps:=["state","kind","worth"]) fun _ _ _ _ _ _=>kc fun _ _ _=>rfl;have j6:=aW (st:=hV) sD sE sG;have rG:=j6.binds (ps:=["kind","count","worth"]) fun _ _ _ _ _ _=>kc fun _ _ _=>rfl;have iP:=aW (st:=fL) qt qu qv;have pW:=iP.binds (ps:=["state","kind","worth"]) fun _ _ _ _ _ _=>kc fun _ _ _=>rfl;have fD:=aW (st:=dJ) mx my mz;have lY:=fD.binds (ps:=["state","kind","worth"]) fun _ _ _ _ _ _=>kc fun _ _ _=>rfl;have D7:=aW (st:=yL) Us Ut Uu;have SK:=D7.binds (ps:=["state","sign","worth"]) fun _ _ _ _ _ _=>kc fun _ _ _=>rfl;have tL:=aW (st:=tH) Lw Lx Ly;have Dg:=tL.binds (ps:=["state","signs","worth","prices"]) fun _ _ _ _ _ _=>Vd fun _ _ _ _=>rfl;have fE:=aW (st:=dM) mC mD mE;have lZ:=fE.binds (ps:=["tone"]) fun _ _ _ _ _ _=>oJ fun _=>rfl;have iQ:=aW (st:=fM) qx qy qz;have pX:=iQ.binds (ps:=["state","wish","prices"]) fun _ _ _ _ _ _=>kc fun _ _ _=>rfl;have cX:=aW (st:=b9) gy gz gA;have gw:=cX.binds (ps:=["numbers","following","wish","prices"]) fun _ _ _ _ _ _=>Vd fun _ _ _ _=>rfl;have eM:=aW (st:=dh) kC kD kE;have kq:=eM.binds (ps:=["state","prices"]) fun _ _ _ _ _ _=>oK fun _ _=>rfl;have b7:=aW (st:=bJ) eF eG eI;have eo:=b7.binds (ps:=["numbers","prices"]) fun _ _ _ _ _ _=>oK fun _ _=>rfl;have fF:=aW (st:=dN) mG mH mI;have l5:=fF.binds (ps:=["pairs","known"]) fun _ _ _ _ _ _=>oK fun _ _=>rfl;have pY:=UN (st:=tI) LA LB LC;have JS:Binds K _ ["wishes","prices","bound","paper","begin"] []:=pY.binds (ds:=[]) yq rfl fun _ _ _ _ _ _ us hl=>by obtain⟨_,_,_,_,_,rfl⟩:=aj4 hl;exact⟨_,rfl,rfl⟩
 have D8:Binds K _ ["wishes","prices","bound","paper","begin"] [.int 3 oj]:=pY.binds yq rfl fun _ _ _ _ _ _ us hl=>by have hl:us.length=4:=(by simpa using hl);obtain⟨_,_,_,_,rfl⟩:=afp hl;exact⟨_,rfl,rfl⟩
 have aV:=aW (st:=hX) sI sJ sM;have a8:=aV.binds (ps:=["_law_script","_law_k"]) fun _ _ _ _ _ _=>oK fun _ _=>rfl;have jC:=aW (st:=lg) Ap Aq Ar;have oA:=jC.binds (ps:=["_law_seed","_law_k"]) fun _ _ _ _ _ _=>oK fun _ _=>rfl;have fG:=aW (st:=bP) mK mL mM;have l6:=fG.binds (ps:=["_law_script","_law_at","_law_many"]) fun _ _ _ _ _ _=>kc fun _ _ _=>rfl;have l8:=aW (st:=jt) vD vE vF;have uE:=l8.binds (ps:=["_law_paper"]) fun _ _ _ _ _ _=>oJ fun _=>rfl;have iq:=aW (st:=hZ) sO sP sQ;have nh:=iq.binds (ps:=["_law_number","_law_moves_here","_law_table"]) fun _ _ _ _ _ _=>kc fun _ _ _=>rfl;have oB:=aW (st:=oa) Fw Fx Fy;have wB:=oB.binds (ps:=["_law_state"]) fun _ _ _ _ _ _=>oJ fun _=>rfl;have oC:=aW (st:=lh) Au Av Aw;have y3:=oC.binds (ps:=["_law_wishes_here","_law_prices_here","_law_bound","_law_paper","_law_begin_here"]) fun _ _ _ _ _ _=>aj3 fun _ _ _ _ _=>rfl;have j7:=aW (st:=ic) sS sU sV;have rJ:=j7.binds (ps:=["_law_number"]) fun _ _ _ _ _ _=>oJ fun _=>rfl;have j8:=aW (st:=ie) sX sY sZ;have rK:=j8.binds (ps:=["_law_script","_law_at","_law_many"]) fun _ _ _ _ _ _=>kc fun _ _ _=>rfl;have rL:=aW (st:=oe) FA FC FD;have D9:=rL.binds (ps:=["_law_script","_law_at","_law_many"]) fun _ _ _ _ _ _=>kc fun _ _ _=>rfl;have U6:=aW (st:=Ik) ab9 aca acb;have ae9:=U6.binds (ps:=["_law_script"]) fun _ _ _ _ _ _=>oJ fun _=>rfl;have T:Txt K w mg ⟨_,_,_,_,_,_,_,_,_,_,_,_,_,_,_,_,_,_,_,_,_,_,_,_,_,_,_,_,_,_,_,_,_,_,_,_,_,_,_,_,_,_,_,_,_,eK,_,_,_,_,_,_,_,_,_,_,_,_,_,_,_,_,_,_,_,_,_,_,_,_,_,_,_,_,_,_,_,_,_,_,_,_,_,_,_,oj,_,_,_,_,_,_,_,_,_,_,_,_,_,_,_,_,_,_,_,_,_,_,dw,cS,cT,cq,ef,ng,bK,gL,eW,cZ,wt,cU,cV,c5,cg,c6,cW,cM,cN,cO,ei,dO,dP⟩:=⟨om,yT,mg_of X G z8,lP,uy,mg_of X G u5,rp,D0,mg_of X G E4,oq,yU,mg_of X G Ac,wu,JO,mg_of X G Ln,ot,wx,mg_of X G E8,lQ,uz,mg_of X G vc,lR,uA,mg_of X G vg,rq,D1,mg_of X G Fd,iL,pR,mg_of X G qc,j5,rA,mg_of X G su,ip,lq,mg_of X G Ag,jB,pT,mg_of X G vk,gJ,nv,mg_of X G nA,gY,lT,mg_of X G vp,lU,uB,mg_of X G vy,rC,D4,mg_of X G Fh,lV,rD,mg_of X G Fm,D5,SI,mg_of X G Um,eL,ko,mg_of X G kr,lW,rE,mg_of X G Fq,eQ,rF,ny,mg_of X G nF,iM,pU,mg_of X G qg,wz,JQ,mg_of X G Lr,ou,yY,mg_of X G Ak,b6,ej,mg_of X G eA,dn,iN,mg_of X G iS,iO,pV,mg_of X G qk,fB,lX,mg_of X G mi,j6,rG,mg_of X G sC,iP,pW,mg_of X G qr,fD,lY,mg_of X G mw,D7,SK,mg_of X G Ur,tL,Dg,mg_of X G Lv,fE,lZ,mg_of X G mB,iQ,pX,mg_of X G qw,cX,gw,mg_of X G gx,eM,kq,mg_of X G kB,b7,eo,mg_of X G eE,fF,l5,mg_of X G mF,pY,D8,JS,mg_of X G Lz,aV,a8,mg_of X G sH,jC,oA,mg_of X G Ao,fG,l6,mg_of X G mJ,l8,uE,mg_of X G vC,iq,nh,mg_of X G sN,oB,wB,mg_of X G Fv,oC,y3,mg_of X G As,j7,rJ,mg_of X G sR,j8,rK,mg_of X G sW,rL,D9,mg_of X G Fz,U6,ae9,mg_of X G Vg,mg_none_of X G acd,mg_none_of X G Uv,mg_none_of X G Uw,mg_none_of X G tf,mg_none_of X G ace,mg_none_of X G qA,mg_none_of X G acf,mg_none_of X G Ux,mg_none_of X G acg,mg_none_of X G ach,mg_none_of X G LD,mg_none_of X G aci,mg_none_of X G FE,mg_none_of X G acj,mg_none_of X G LG,mg_none_of X G ack,mg_of X G mN,(fun H=>.inr ⟨_,_,_,mO,rfl,rfl,(by show 3<=sizeLine;decide),(.cons ⟨_,rfl⟩ (.cons ⟨_,rfl⟩ (.cons ⟨_,rfl⟩ .nil)))⟩),mg_of X G jF,(fun H=>.inr ⟨_,_,_,jG,rfl,rfl,(by show 3<=sizeLine;decide),(.cons ⟨_,rfl⟩ (.cons ⟨_,rfl⟩ (.cons ⟨_,rfl⟩ .nil)))⟩),mg_of X G jH,(fun H=>.inr ⟨_,_,_,jI,rfl,rfl,(by show 2<=sizeLine;decide),(.cons ⟨_,rfl⟩ (.cons ⟨_,rfl⟩ .nil))⟩),mg_of X G iW,(fun H=>.inr ⟨_,_,_,iX,rfl,rfl,(by show 4<=sizeLine;decide),(.cons ⟨_,rfl⟩ (.cons ⟨_,rfl⟩ (.cons ⟨_,rfl⟩ (.cons ⟨_,rfl⟩ .nil))))⟩),mg_of X G nJ,(fun H=>.inr ⟨_,_,_,nK,rfl,rfl,(by show 2<=sizeLine;decide),(.cons ⟨_,rfl⟩ (.cons ⟨_,rfl⟩ .nil))⟩),mg_of X G qB,mg_of X G iY,(fun H=>.inr ⟨_,_,_,iZ,rfl,rfl,(by show 3<=sizeLine;decide),(.cons ⟨_,rfl⟩ (.cons ⟨_,rfl⟩ (.cons ⟨_,rfl⟩ .nil)))⟩),mg_of X G jJ,mg_of X G gZ,mg_of X G dR,mg_of X G Ax,mg_of X G jK,(fun H=>.inr ⟨_,_,_,jL,rfl,rfl,(by show 7<=sizeLine;decide),(.cons ⟨_,rfl⟩ (.cons ⟨_,rfl⟩ (.cons ⟨_,rfl⟩ (.cons ⟨_,rfl⟩ (.cons ⟨_,rfl⟩ (.cons ⟨_,rfl⟩ (.cons ⟨_,rfl⟩ .nil)))))))⟩),mg_of X G jM,(fun H=>.inr ⟨_,_,_,jN,rfl,rfl,(by show 3<=sizeLine;decide),(.cons ⟨_,rfl⟩ (.cons ⟨_,rfl⟩ (.cons ⟨_,rfl⟩ .nil)))⟩),mg_of X G mP,⟨mR,_,_,mQ,(.cons ⟨_,rfl⟩ (.cons ⟨_,rfl⟩ (.cons ⟨_,rfl⟩ .nil))),by lk⟩,mg_of X G jO,⟨jQ,_,_,jP,(.cons i0 ⟨_,rfl⟩ (.cons i3 ⟨_,rfl⟩ (.cons i4 ⟨_,rfl⟩ (.cons i5 ⟨_,rfl⟩ (.cons i6 ⟨_,rfl⟩ (.cons i7 ⟨_,rfl⟩ (.cons i8 ⟨_,rfl⟩ (.cons i9 ⟨_,rfl⟩ (.cons ja ⟨_,rfl⟩ (.cons jb ⟨_,rfl⟩ .nil)))))))))),by lk⟩,mg_of X G mS,⟨mU,_,_,mT,(.cons kF ⟨_,rfl⟩ (.cons kG ⟨_,rfl⟩ (.cons kH ⟨_,rfl⟩ (.cons kI ⟨_,rfl⟩ .nil)))),by lk⟩,mg_of X G jR,(fun H=>.inr ⟨_,_,_,jS,rfl,rfl,(by show 3<=sizeLine;decide),(.cons rfl (.cons rfl (.cons rfl .nil)))⟩),(fun H=>.inr ⟨_,_,_,g0,rfl,rfl,(by show 2<=sizeLine;decide),(.cons ⟨_,rfl⟩ (.cons ⟨_,rfl⟩ .nil))⟩),(fun H=>.inr ⟨_,_,_,g7,rfl,rfl,(by show 2<=sizeLine;decide),(.cons ⟨_,rfl⟩ (.cons ⟨_,rfl⟩ .nil))⟩),(fun H=>.inr ⟨_,_,_,g8,rfl,rfl,(by show 2<=sizeLine;decide),(.cons ⟨_,rfl⟩ (.cons ⟨_,rfl⟩ .nil))⟩),mg_of X G nM,(fun H=>.inr ⟨_,_,_,nN,rfl,rfl,(by show 2<=sizeLine;decide),(.cons rfl (.cons rfl .nil))⟩),(fun H=>.inr ⟨_,_,_,kJ,rfl,rfl,(by show 2<=sizeLine;decide),(.cons ⟨_,rfl⟩ (.cons ⟨_,rfl⟩ .nil))⟩),(fun H=>.inr ⟨_,_,_,kK,rfl,rfl,(by show 2<=sizeLine;decide),(.cons ⟨_,rfl⟩ (.cons ⟨_,rfl⟩ .nil))⟩)⟩;exact⟨_,fun s v=>.of_eq rfl,fun base _ _=>agY T⟩
theorem walk {l:OpenLaw}{q:Program}{loose:List Str}{XP:(Str->Option Value)->Heap->Prop}{YP:World->Heap->Prop}{d:DefRec}{K:Params->Frag}(hn:l.most=some 63)(hdf:d.params.defaults=[])
  (hY:∀(w:World)(h:Heap),YP w h->(K w.params).In h)
  (F:∀(w:World)(mg:Str->Option Value)(fa:Addr)(h:Heap),(K w.params).In h->h.Ns mainGlobals mg->mg d.name=some (.ref fa) ->
   ∃ fd:FuncData,(∀(s:Shared)(u:Value),BindsTo s fd ⟨[u],[]⟩ [("_law_script",u)])/\∀ base:Heap,(K w.params).In base->base.Ns mainGlobals mg->bV l.prog w (K w.params) mg base iw 8 fa fd ["_law_script"] (DI (K w.params))) :
  WalkO q loose XP YP l.row.toRowW d [] (fun f vs=>PySem.call f vs) :=
 L2.acP (n:=63) (k:=8) (x:="_law_script") (CX:=fun _=>iw) (sp:=fun w=>DI (K w.params)) hn (by decide) hdf ⟨rfl,by decide,by decide⟩ hY F (fun _ H a ns hl hO hS=>VU hl hO hS) fun _ _ _ _ _ z=>z
end lz
open PySem PySem.W PyProof.Rows
set_option maxRecDepth 100000 in
set_option maxHeartbeats 0 in
theorem PySem.Challenge.cw_noteworth_k29_papers_judged_holds : PySem.Challenge.rw_noteworth_k29_papers_judged.Holds := by
 w_on;o_law
 refine holds_open (q:=Hd.view) (loose:=Hd.loose) (Xt:=fun s=>xlAt Hd.view [] s&&recOk _ s) (XP:=XL Hd.view []) (Yf:=Hd.hook.obs) (Ya:=Hd.hook.val) (YP:=Hd.hook.says) (N:=Hd.fuel) ?hl Hd.hook.of Hd.hook.keeps (fun s e=>xl_of s (Bool.and_eq_true_iff.mp e).1) XL.keeps (by rfl) (by rfl) (by rfl) (fun s e=>recFacts_of (Bool.and_eq_true_iff.mp e).2) (by rfl) (by assumption) (by lk) ⟨rfl,rfl,rfl,rfl,rfl,by lk⟩ ?hw ?hc
 case hl=>exact LeftO.of_pieces (boot_open (by kernel_rfl) (by decide) (fun _=>by kernel_rfl)) (fun w=>by kernel_rfl) Hd.r1 (by decide) (fun w=>by kernel_rfl)
 case hw=>w_witness2
 refine lz.walk (l:=PySem.Challenge.rw_noteworth_k29_papers_judged) rfl rfl (fun w h Y=>PySem.W.kIn_of Y) ?F
 case F =>
  intro w mg fa h KX G hmg
  k_fill
  refine' lz.all_mk KX G hmg ?z8 ?z9 ?Aa ?Ab ?u5 ?u6 ?u7 ?u9 ?E4 ?E5 ?E6 ?E7 ?Ac ?Ad ?Ae ?Af ?Ln ?Lo ?Lp ?Lq ?E8 ?E9 ?Fb ?Fc ?vc ?vd ?ve ?vf ?vg ?vh ?vi ?vj ?Fd ?Fe ?Ff ?Fg ?qc ?qd ?qe ?qf ?su ?sv ?sy ?sA ?Ag ?Ah ?Ai ?Aj ?vk ?vm ?vn ?vo ?nA ?nB ?nC ?nE ?vp ?vq ?vt ?vw ?vy ?vz ?vA ?vB ?Fh ?Fi ?Fj ?Fl ?Fm ?Fn ?Fo ?Fp ?Um ?Uo ?Up ?Uq ?kr ?ky ?kz ?kA ?Fq ?Fs ?Ft ?Fu ?nF ?nG ?nH ?nI ?iR ?qg ?qh ?qi ?qj ?Lr ?Ls ?Lu ?wH ?Ak ?Al ?Am ?An ?eA ?eB ?eC ?eD ?iS ?iT ?iU ?iV ?qk ?qm ?qo ?qp ?mi ?mj ?mq ?mr ?sC ?sD ?sE ?sG ?qr ?qt ?qu ?qv ?mw ?mx ?my ?mz ?Ur ?Us ?Ut ?Uu ?Lv ?Lw ?Lx ?Ly ?mB ?mC ?mD ?mE ?qw ?qx ?qy ?qz ?gx ?gy ?gz ?gA ?kB ?kC ?kD ?kE ?eE ?eF ?eG ?eI ?mF ?mG ?mH ?mI ?Lz ?LA ?LB ?LC ?yq ?sH ?sI ?sJ ?sM ?Ao ?Ap ?Aq ?Ar ?mJ ?mK ?mL ?mM ?vC ?vD ?vE ?vF ?sN ?sO ?sP ?sQ ?Fv ?Fw ?Fx ?Fy ?As ?Au ?Av ?Aw ?sR ?sS ?sU ?sV ?sW ?sX ?sY ?sZ ?Fz ?FA ?FC ?FD ?Vg ?ab9 ?aca ?acb ?acd ?Uv ?Uw ?tf ?ace ?qA ?acf ?Ux ?acg ?ach ?LD ?aci ?FE ?acj ?LG ?ack ?mN ?mO ?jF ?jG ?jH ?jI ?iW ?iX ?nJ ?nK ?qB ?iY ?iZ ?jJ ?gZ ?dR ?Ax ?jK ?jL ?jM ?jN ?mP ?mQ ?mR ?jO ?jP ?i0 ?i3 ?i4 ?i5 ?i6 ?i7 ?i8 ?i9 ?ja ?jb ?jQ ?mS ?mT ?kF ?kG ?kH ?kI ?mU ?jR ?jS ?g0 ?g7 ?g8 ?nM ?nN ?kJ ?kK
  (case z8|z9|Aa|Ab|u5|u6|u7|u9|E4|E5|E6|E7|Ac|Ad|Ae|Af|Ln|Lo|Lp|Lq|E8|E9|Fb|Fc|vc|vd|ve|vf|vg|vh|vi|vj|Fd|Fe|Ff|Fg|qc|qd|qe|qf|su|sv|sy|sA|Ag|Ah|Ai|Aj|vk|vm|vn|vo|nA|nB|nC|nE|vp|vq|vt|vw|vy|vz|vA|vB|Fh|Fi|Fj|Fl|Fm|Fn|Fo|Fp|Um|Uo|Up|Uq|kr|ky|kz|kA|Fq|Fs|Ft|Fu|nF|nG|nH|nI|iR|qg|qh|qi|qj|Lr|Ls|Lu|wH|Ak|Al|Am|An|eA|eB|eC|eD|iS|iT|iU|iV|qk|qm|qo|qp|mi|mj|mq|mr|sC|sD|sE|sG|qr|qt|qu|qv|mw|mx|my|mz|Ur|Us|Ut|Uu|Lv|Lw|Lx|Ly|mB|mC|mD|mE|qw|qx|qy|qz|gx|gy|gz|gA|kB|kC|kD|kE|eE|eF|eG|eI|mF|mG|mH|mI|Lz|LA|LB|LC|yq|sH|sI|sJ|sM|Ao|Ap|Aq|Ar|mJ|mK|mL|mM|vC|vD|vE|vF|sN|sO|sP|sQ|Fv|Fw|Fx|Fy|As|Au|Av|Aw|sR|sS|sU|sV|sW|sX|sY|sZ|Fz|FA|FC|FD|Vg|ab9|aca|acb|acd|Uv|Uw|tf|ace|qA|acf|Ux|acg|ach|LD|aci|FE|acj|LG|ack|mN|mO|jF|jG|jH|jI|iW|iX|nJ|nK|qB|iY|iZ|jJ|gZ|dR|Ax|jK|jL|jM|jN|mP|mQ=>k_is)
  (case mR=>rfl)
  (case jO|jP|i0|i3|i4|i5|i6|i7|i8|i9|ja|jb=>k_is)
  (case jQ=>rfl)
  (case mS|mT|kF|kG|kH|kI=>k_is)
  (case mU=>rfl)
  (case jR|jS|g0|g7|g8|nM|nN|kJ|kK=>k_is)
